/- The document's in, all, names and least. -/
import Derived.Test.YteaencgbgfnokaaDoorM3
import Derived.Test.YteaencgbgfnokaaDoorM42
set_option linter.unusedVariables false
set_option linter.unusedSimpArgs false
namespace Go.Proofs.YteaencgbgfnokaaDoor
open Go.ChangeShapes Go.WideShapes Go.ChangeAt Go.RowKit

theorem SReads.cells {w W : World} {sa : Option Addr} {n sc k : Nat} {S : SetB} {p : ByteArray × Lb} (h : SReads w (.slice sa n sc) S) (hp : S[k]? = some p) (hW : Below w.heap.size w W) :
    ∃ sb so nt da dc oa ol oc, sa = some ⟨sb, so, none⟩ ∧ sb < W.heap.size ∧ W.cell? ⟨sb, so + k * 4, none⟩ = some (.string p.1) ∧ W.cell? ⟨sb, so + k * 4 + 1, none⟩ = some (.string nt) ∧ W.cell? ⟨sb, so + k * 4 + 2, none⟩ = some (.slice da p.2.length dc) ∧ W.cell? ⟨sb, so + k * 4 + 3, none⟩ = some (.slice oa ol oc) ∧ Reads W (.slice da p.2.length dc) p.2 := by
  obtain ⟨sb, so, rfl, hsl, hat⟩ := h.at hp
  obtain ⟨nt, dv, oa, ol, oc, c0, c1, c2, c3, hdr⟩ := hat.below hW hsl
  obtain ⟨da, dc, hdv, _⟩ := hdr.form
  subst hdv
  exact ⟨sb, so, nt, da, dc, oa, ol, oc, rfl, Nat.lt_of_lt_of_le hsl hW.size, c0, c1, c2, c3, hdr⟩
theorem less_iffO (x y : ByteArray) : Op.bytesLess x.toList y.toList = decide (bsOf x < bsOf y) := by
  rw [Go.Proofs.bytesLess_eq, ByteArray.toList_eq, ByteArray.toList_eq]
  rfl
theorem box_named {wr : World} {a b c d : Value} {t : TypeId} : ∀ W, Below (wr.alloc (.cells #[a, b, c, d] t)).heap.size (wr.alloc (.cells #[a, b, c, d] t)) W → W.cell? ⟨wr.heap.size, 0, none⟩ = some a ∧ W.cell? ⟨wr.heap.size, 1, none⟩ = some b ∧ W.cell? ⟨wr.heap.size, 2, none⟩ = some c ∧ W.cell? ⟨wr.heap.size, 3, none⟩ = some d := by
  intro W hb
  have hl : wr.heap.size < (wr.alloc (.cells #[a, b, c, d] t)).heap.size := by simp
  have key : ∀ j, W.cell? ⟨wr.heap.size, j, none⟩ = (wr.alloc (.cells #[a, b, c, d] t)).cell? ⟨wr.heap.size, j, none⟩ := fun j => hb.cell (p := ⟨wr.heap.size, j, none⟩) hl
  refine ⟨?_, ?_, ?_, ?_⟩ <;> (rw [key, World.cell?_alloc_at _ _ _ _ rfl]; rfl)

theorem rin_any (ls : Lb) (v : Value) (x : ByteArray) (w : World) (hr : Reads w v ls) :
    Calls Tryd.prog 20 #[v, .string x] w fun e w' => e = .returned (.bool (inB ls x)) ∧ Below w.heap.size w w' := by
  have P := Lib.hid (rplace_any ls v x w hr)
  have hx : inB ls x = decide (0 ≤ Lib.idxOfS ls x) := rfl
  rw [hx]
  obtain ⟨k, hk⟩ : ∃ k, k = Lib.idxOfS ls x := ⟨_, rfl⟩
  rw [← hk] at P ⊢
  clear hr hx hk
  go_enter Tryd.func20, Tryd.ntmps20
  go_wp2_with fail
  refine P.out.mono ?_
  rintro e w2 ⟨rfl, hb⟩
  have HB := Lib.hid hb
  clear hb P
  go_wp2_with fail
  go_ret
  exact ⟨by simp, HB.out⟩

set_option maxHeartbeats 1000000 in
theorem rall_any (ls ins : Lb) (v iv : Value) (w : World) (hr : Reads w v ls) (hi : Reads w iv ins) (hl : ls.length ≤ 1000000) :
    Calls Tryd.prog 41 #[v, iv] w fun e w' => e = .returned (.bool (ls.all fun d => inB ins d)) ∧ Below w.heap.size w w' := by
  obtain ⟨va, vc, rfl, _⟩ := hr.form
  obtain ⟨n, hn⟩ : ∃ n, n = ls.length := ⟨_, rfl⟩
  rw [← hn] at hr hl ⊢
  have HN := Lib.hid hn
  have HR := Lib.hid hr
  have HI := Lib.hid hi
  have HP := Lib.hid (fun (x : ByteArray) (W : World) (h : Below w.heap.size w W) => rplace_any ins iv x W (hi.below h))
  clear hn hr hi
  go_enter Tryd.func41, Tryd.ntmps41
  go_wp2_with fail
  go_loopw [5] (fun jv wr => ∃ j : Nat, jv = .int .i64 (j : Nat) ∧ j ≤ n ∧ Hid ((ls.take j).all (fun d => inB ins d) = true) ∧ Hid (Below w.heap.size w wr)) (fun jv _ => n - (intOf jv).toNat)
  case atStart => exact ⟨0, rfl, Nat.zero_le _, Lib.hid (by simp), Lib.hid (Below.refl _ _)⟩
  case round =>
    obtain ⟨j, rfl, hj, HA, HB⟩ := hrel
    by_cases hlt : j < n
    · obtain ⟨x, hx⟩ : ∃ x, ls[j]? = some x := ⟨ls[j]'(by rw [← HN.out]; exact hlt), by simp⟩
      obtain ⟨vb, vo, rfl, hql, hc⟩ := (HR.out.below HB.out).at hx
      have cx := hc.2 j x hx
      clear hql
      have HP1 := HP.out x wr HB.out
      obtain ⟨k, hk⟩ : ∃ k, k = Lib.idxOfS ins x := ⟨_, rfl⟩
      rw [← hk] at HP1
      have HP2 := Lib.hid HP1
      have HM : Hid ((ls.take (j + 1)).all (fun d => inB ins d) = decide (0 ≤ k)) := Lib.hid (by
        rw [List.take_add_one, hx, List.all_append, HA.out, hk]
        simp [inB])
      have HF : Hid (¬ 0 ≤ k → (ls.all fun d => inB ins d) = false) := Lib.hid (fun h => by
        rw [List.all_eq_false]
        refine ⟨x, List.mem_of_getElem? hx, ?_⟩
        rw [inB, decide_eq_true_iff, ← hk]
        exact h)
      clear hc HP1 hk hx
      go_wp2_with fail
      refine HP2.out.mono ?_
      rintro e w2 ⟨rfl, hb⟩
      have HB2 := Lib.hid (HB.out.trans (hb.mono HB.out.size))
      clear hb HP2
      by_cases h0 : 0 ≤ k
      · have hk0 : ¬ k < 0 := by omega
        have HM2 : Hid ((ls.take (j + 1)).all (fun d => inB ins d) = true) := Lib.hid (by rw [HM.out]; exact decide_eq_true h0)
        go_wp2_with fail
        exact ⟨⟨j + 1, by go_num, by omega, HM2, HB2⟩, by simp [intOf]; omega⟩
      · have hk0 : k < 0 := by omega
        have HM2 := Lib.hid (HF.out (by omega))
        go_wp2_with fail
        go_ret
        exact ⟨by rw [HM2.out] <;> rfl, HB2.out⟩
    · have hnj : n = j := by omega
      have HM2 : Hid ((ls.all fun d => inB ins d) = true) := Lib.hid (by
        have h := HA.out
        rw [List.take_of_length_le (by rw [← HN.out]; omega)] at h
        exact h)
      subst hnj
      go_wp2_with fail
      go_ret
      exact ⟨by rw [HM2.out] <;> rfl, HB.out⟩

theorem nm_take {S : SetB} {k : Nat} {p : ByteArray × Lb} (h : S[k]? = some p) : nmL (S.take (k + 1)) = nmL (S.take k) ++ [p.1] := by
  unfold nmL
  rw [List.take_add_one, h, List.map_append]
  rfl
theorem infoSo : (Tryd.prog.info? 9).map (fun i => (i.zero, i.size, i.bytes)) = some (some (.string ByteArray.empty), 1, 16) := by kernel_rfl
theorem oneStr {x : ByteArray} : ∀ u ∈ [Value.string x], u.oneCell' = true := by
  intro u hu; obtain rfl := List.mem_singleton.1 hu; rfl
set_option maxHeartbeats 1000000 in
theorem rnames_any (S : SetB) (v : Value) (w : World) (hS : SReads w v S) (hn9 : S.length ≤ 1000000) :
    Calls Tryd.prog 19 #[v] w fun e w' => ∃ ov, e = .returned ov ∧ Row 1 w.heap.size w' ov S.length ((nmL S).map .string) ∧ Below w.heap.size w w' := by
  obtain ⟨sa, sc, rfl, _⟩ := hS.form
  obtain ⟨n, hn⟩ : ∃ n, n = S.length := ⟨_, rfl⟩
  rw [← hn] at hS hn9 ⊢
  have HN := Lib.hid hn
  have HS := Lib.hid hS
  clear hn hS
  go_enter Tryd.func19, Tryd.ntmps19
  go_wp2_with fail
  go_loopw [3, 4] (fun ov jv wr => ∃ j : Nat, jv = .int .i64 (j : Nat) ∧ j ≤ n ∧ Hid (Row 1 w.heap.size wr ov j ((nmL (S.take j)).map .string)) ∧ Hid (Below w.heap.size w wr)) (fun _ jv _ => n - (intOf jv).toNat)
  case atStart => exact ⟨0, rfl, Nat.zero_le _, Lib.hid (Row.nil _ _ _), Lib.hid (Below.refl _ _)⟩
  case round =>
    obtain ⟨j, rfl, hj, HO, HB⟩ := hrel
    obtain ⟨oa, oc, rfl⟩ := HO.out.form
    by_cases hlt : j < n
    · obtain ⟨p, hp⟩ : ∃ p, S[j]? = some p := ⟨S[j]'(by rw [← HN.out]; exact hlt), by simp⟩
      have HT := Lib.hid (nm_take hp)
      obtain ⟨sb, so, nt, da, dc, oa', ol, oc', rfl, hsl, c0, _, _, _, _⟩ := HS.out.cells hp HB.out
      obtain ⟨x, hx⟩ : ∃ x, x = p.1 := ⟨_, rfl⟩
      rw [← hx] at c0 HT
      have hsrc : Src Tryd.prog 1 23 (.slice (some ⟨wr.heap.size, 0, none⟩) 1 1) 1 [.string x] (wr.alloc (.cells #[.string x] 9)) := src_new Tryd.underlying23 [.string x] 1 9 1 rfl oneStr
      have HSRC := Lib.hid hsrc
      have HRA := Lib.hid (HO.out.alloc (.cells #[.string x] 9))
      have hszw : w.heap.size ≤ (wr.alloc (.cells #[.string x] 9)).heap.size := by have := HB.out.size; simp; omega
      have HBA := Lib.hid (HB.out.alloc HB.out.size (.cells #[.string x] 9))
      have HOWN := Lib.hid (fun b hb => (HO.out.lt b hb).1)
      clear hsrc hx hp
      go_wp2_with (at_builtin; refine wpList_append_row rfl (.tmp 11) (.tmp 17) 23 23 rfl 1 9 (.string ByteArray.empty) 16 Tryd.underlying23 infoSo rfl w.heap.size (.slice oa j oc) j ((nmL (S.take j)).map .string) (by simp [Act.eval]) HRA.out (.slice (some ⟨wr.heap.size, 0, none⟩) 1 1) (by simp [Act.eval]) 1 [.string x] HSRC.out hszw (by omega) (by decide) ?_; intro v6 w6 hr6 ho6 hw6; obtain ⟨a6, c6, hv6⟩ := hr6.form; subst hv6; have HR6 := Lib.hid hr6; have HO6 := Lib.hid ho6; clear hr6 ho6 hw6)
      exact ⟨⟨j + 1, by go_num, by omega, Lib.hid (by rw [HT.out, List.map_append]; exact HR6.out), Lib.hid (HBA.out.trans (HO6.out.below (B := w.heap.size) HOWN.out hszw))⟩, by simp [intOf]; omega⟩
    · have hnj : n = j := by omega
      have HO2 : Hid (Row 1 w.heap.size wr (.slice oa j oc) j ((nmL S).map .string)) := Lib.hid (by
        have h := HO.out
        rw [List.take_of_length_le (by rw [← HN.out]; omega)] at h
        exact h)
      subst hnj
      clear HO
      go_wp2_with fail
      go_ret
      exact ⟨_, rfl, HO2.out, HB.out⟩

set_option maxHeartbeats 2000000 in
set_option maxRecDepth 100000 in
theorem rleast_any (S : SetB) (told : Lb) (v tv : Value) (w : World) (hS : SReads w v S) (ht : Reads w tv told) (hn9 : S.length ≤ 1000000) (hD : ∀ p ∈ S, p.2.length ≤ 1000000) :
    Calls Tryd.prog 21 #[v, tv] w fun e w' => ∃ s ok, e = .returned (.tuple #[.string s, .bool ok]) ∧ LeastQ S told s ok ∧ Below w.heap.size w w' := by
  obtain ⟨sa, sc, rfl, _⟩ := hS.form
  obtain ⟨n, hn⟩ : ∃ n, n = S.length := ⟨_, rfl⟩
  rw [← hn] at hS hn9 ⊢
  have HN := Lib.hid hn
  have HS := Lib.hid hS
  have HD := Lib.hid hD
  have HIN := Lib.hid (fun (x : ByteArray) (W : World) (h : Below w.heap.size w W) => rin_any told tv x W (ht.below h))
  have HALL := Lib.hid (fun (ls : Lb) (lv : Value) (W : World) (h : Below w.heap.size w W) (hr : Reads W lv ls) (hl : ls.length ≤ 1000000) => rall_any ls told lv tv W hr (ht.below h) hl)
  clear hn hS ht hD
  go_enter Tryd.func21, Tryd.ntmps21
  go_wp2_with fail
  go_loopw [6, 7, 8] (fun bv fv jv wr => ∃ (j : Nat) (b : ByteArray) (f : Bool), bv = .string b ∧ fv = .bool f ∧ jv = .int .i64 (j : Nat) ∧ j ≤ n ∧ Hid (LeastQ (S.take j) told b f) ∧ Hid (Below w.heap.size w wr)) (fun _ _ jv _ => n - (intOf jv).toNat)
  case atStart => exact ⟨0, ByteArray.empty, false, rfl, rfl, rfl, Nat.zero_le _, Lib.hid (leastq_begin told S), Lib.hid (Below.refl _ _)⟩
  case round =>
    obtain ⟨j, b, f, rfl, rfl, rfl, hj, HL, HB⟩ := hrel
    by_cases hlt : j < n
    · obtain ⟨p, hp⟩ : ∃ p, S[j]? = some p := ⟨S[j]'(by rw [← HN.out]; exact hlt), by simp⟩
      have HTK := Lib.hid (fun h1 h2 => leastq_take HL.out hp h1 h2)
      have HSK := Lib.hid (fun h1 => leastq_skip HL.out hp h1)
      have hdl : p.2.length ≤ 1000000 := HD.out p (List.mem_of_getElem? hp)
      obtain ⟨sb, so, nt, da, dc, oa, ol, oc, rfl, hsl, c0, c1, c2, c3, hdr⟩ := HS.out.cells hp HB.out
      obtain ⟨x, ds⟩ := p
      simp only at c0 c1 c2 c3 hdr hdl
      obtain ⟨dl, hdl2⟩ : ∃ dl, dl = ds.length := ⟨_, rfl⟩
      rw [← hdl2] at c2 hdr hdl
      obtain ⟨z, hz⟩ : ∃ z, z = wr.heap.size := ⟨_, rfl⟩
      obtain ⟨wz, hwz⟩ : ∃ wz, wz = wr.alloc (.cells #[.string x, .string nt, .slice da dl dc, .slice oa ol oc] 44) := ⟨_, rfl⟩
      have hbz : Below wr.heap.size wr wz := by rw [hwz]; exact (Below.refl _ _).alloc (Nat.le_refl _) _
      have HZ : Hid (∀ W, Below wz.heap.size wz W → W.cell? ⟨z, 0, none⟩ = some (.string x) ∧ W.cell? ⟨z, 1, none⟩ = some (.string nt) ∧ W.cell? ⟨z, 2, none⟩ = some (.slice da dl dc) ∧ W.cell? ⟨z, 3, none⟩ = some (.slice oa ol oc)) := Lib.hid (by rw [hz, hwz]; exact box_named)
      have HBZ := Lib.hid (HB.out.trans (hbz.mono HB.out.size))
      have HDR := Lib.hid (fun W (hb : Below wz.heap.size wz W) => (hdr.below hbz).below hb)
      have HI1 := Lib.hid (HIN.out x wz HBZ.out)
      have HWZ := Lib.hid hwz
      have HDL := Lib.hid hdl2
      obtain ⟨z0, z1, z2, z3⟩ := HZ.out wz (Below.refl _ _)
      clear hp hdr hdl2 hbz
      go_wp2_with fail
      rw [← hz, ← HWZ.out]
      clear hz
      refine HI1.out.mono ?_
      rintro e w3 ⟨rfl, hb3⟩
      have HB3 := Lib.hid (HBZ.out.trans (hb3.mono HBZ.out.size))
      have HZ3 := Lib.hid hb3
      obtain ⟨y0, y1, y2, y3⟩ := HZ.out w3 hb3
      have HA1 := Lib.hid (HALL.out ds (.slice da dl dc) w3 HB3.out (HDR.out w3 hb3) (by have := HDL.out; omega))
      clear hb3 HI1 z0 z1 z2 z3
      by_cases hxt : x ∈ told
      · have HC : Hid (canP told (x, ds) = false) := Lib.hid (by simp [canP, inB_true hxt])
        have HL2 := Lib.hid (HSK.out (.inl HC.out))
        rw [inB_true hxt]
        clear hxt
        go_wp2_with fail
        exact ⟨⟨j + 1, b, f, rfl, rfl, by go_num, by omega, HL2, HB3⟩, by simp [intOf]; omega⟩
      · have HC : Hid (canP told (x, ds) = ds.all fun d => inB told d) := Lib.hid (by simp [canP, inB_false hxt])
        rw [inB_false hxt]
        clear hxt
        go_wp2_with fail
        refine HA1.out.mono ?_
        rintro e w4 ⟨rfl, hb4⟩
        have HB4 := Lib.hid (HB3.out.trans (hb4.mono HB3.out.size))
        obtain ⟨u0, u1, u2, u3⟩ := HZ.out w4 (HZ3.out.trans (hb4.mono HZ3.out.size))
        obtain ⟨a, ha⟩ : ∃ a, a = ds.all fun d => inB told d := ⟨_, rfl⟩
        rw [← ha] at HC ⊢
        clear ha hb4 HA1 y0 y1 y2 y3
        cases a
        · have HL2 := Lib.hid (HSK.out (.inl HC.out))
          go_wp2_with fail
          exact ⟨⟨j + 1, b, f, rfl, rfl, by go_num, by omega, HL2, HB4⟩, by simp [intOf]; omega⟩
        · cases f
          · have HL2 := Lib.hid (HTK.out HC.out (.inl rfl))
            go_wp2_with fail
            exact ⟨⟨j + 1, x, true, rfl, rfl, by go_num, by omega, HL2, HB4⟩, by simp [intOf]; omega⟩
          · have hlb : Op.bytesLess x.toList b.toList = decide (bsOf x < bsOf b) := less_iffO x b
            by_cases hlt2 : bsOf x < bsOf b
            · have HL2 := Lib.hid (HTK.out HC.out (.inr hlt2))
              rw [decide_eq_true hlt2] at hlb
              clear hlt2
              go_wp2_with fail
              exact ⟨⟨j + 1, x, true, rfl, rfl, by go_num, by omega, HL2, HB4⟩, by simp [intOf]; omega⟩
            · have HL2 := Lib.hid (HSK.out (.inr ⟨rfl, hlt2⟩))
              rw [decide_eq_false hlt2] at hlb
              clear hlt2
              go_wp2_with fail
              exact ⟨⟨j + 1, b, true, rfl, rfl, by go_num, by omega, HL2, HB4⟩, by simp [intOf]; omega⟩
    · have hnj : n = j := by omega
      have HL2 : Hid (LeastQ S told b f) := Lib.hid (by
        have h := HL.out
        rw [List.take_of_length_le (by rw [← HN.out]; omega)] at h
        exact h)
      subst hnj
      clear HL
      go_wp2_with fail
      go_ret2
      exact ⟨b, f, rfl, HL2.out, HB.out⟩
end Go.Proofs.YteaencgbgfnokaaDoor
