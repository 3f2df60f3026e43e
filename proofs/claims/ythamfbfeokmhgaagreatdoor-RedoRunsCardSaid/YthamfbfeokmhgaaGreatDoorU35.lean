/- put: pages' bytes into the sectors that a closure tells, and a flush. -/
import Derived.Deep.RegionLaw
import Derived.Test.YthamfbfeokmhgaaGreatDoorU32
import Derived.Test.YthamfbfeokmhgaaGreatDoorU34
set_option linter.unusedVariables false
set_option linter.unusedSimpArgs false
namespace Go.Proofs.YthamfbfeokmhgaaGreatDoor
open Go.ChangeShapes Go.WideShapes Go.ChangeAt Go.RowKit

theorem DPost.refl {Z : Nat → Prop} {w : World} {p : Nat} {D : Dk} (h : DX Z w p D) : DPost Z w p D w := ⟨Z, h, Off.refl _ _, fun i hi => .inl hi⟩
theorem DPost.below {Z : Nat → Prop} {w w1 w2 : World} {p : Nat} {D : Dk} (h : DPost Z w p D w1) (hb : Below w1.heap.size w1 w2) : DPost Z w p D w2 := by
  obtain ⟨Z', h1, h2, h3⟩ := h
  exact ⟨Z', h1.below hb, h2.trans (Off.of_below hb), h3⟩
theorem DPost.step {Z Z1 : Nat → Prop} {w w1 w2 : World} {p : Nat} {E : Dk} (h2 : Off Z w w1) (h3 : ∀ i, Z1 i → Z i ∨ w.heap.size ≤ i) (k : DPost Z1 w1 p E w2) : DPost Z w p E w2 := by
  obtain ⟨Z2, k1, k2, k3⟩ := k
  refine ⟨Z2, k1, ⟨k2.os.trans h2.os, k2.tape.trans h2.tape, k2.output.trans h2.output, Nat.le_trans h2.size k2.size, fun i hi hz => ?_⟩, fun i hi => ?_⟩
  · refine (k2.block i (Nat.lt_of_lt_of_le hi h2.size) fun e => ?_).trans (h2.block i hi hz)
    rcases h3 i e with e | e
    · exact hz e
    · omega
  · rcases k3 i hi with e | e
    · exact h3 i e
    · exact .inr (Nat.le_trans h2.size e)
theorem DPost.off {Z : Nat → Prop} {w w1 : World} {p : Nat} {D : Dk} (h : DPost Z w p D w1) : Off Z w w1 := by
  obtain ⟨Z', h1, h2, h3⟩ := h
  exact h2
theorem DPost.size {Z : Nat → Prop} {w w1 : World} {p : Nat} {D : Dk} (h : DPost Z w p D w1) : w.heap.size ≤ w1.heap.size := h.off.size
theorem DPost.ok {Z : Nat → Prop} {w w1 : World} {p : Nat} {D : Dk} (h : DPost Z w p D w1) : D.Ok := by
  obtain ⟨Z', h1, h2, h3⟩ := h
  exact h1.ok
theorem DPost.has {Z : Nat → Prop} {w w1 : World} {p : Nat} {D : Dk} (h : DPost Z w p D w1) : ∃ Z', DX Z' w1 p D ∧ Off Z w w1 ∧ (∀ i, Z' i → Z i ∨ w.heap.size ≤ i) ∧ ∀ i, i < w.heap.size → ¬ Z i → ¬ Z' i := by
  obtain ⟨Z', h1, h2, h3⟩ := h
  exact ⟨Z', h1, h2, h3, fun i hi hz e => (h3 i e).elim hz (fun h => by omega)⟩
theorem write_pend (D : Dk) (i : Int) (s : ByteArray) : (writeD D i s).1.pend.length ≤ D.pend.length + 1 := by
  rw [writeD]
  split
  · exact Nat.le_add_right _ _
  · split
    · exact Nat.le_add_right _ _
    · split
      · exact Nat.le_add_right _ _
      · simp
theorem dwrite_any {Z : Nat → Prop} {w wr : World} {p : Nat} {D : Dk} (h : DPost Z w p D wr) (i : Int) (s : ByteArray) (hl : D.pend.length ≤ 1000000) (hs : s.size ≤ 140737488355328) : Calls Tryz.prog 54 #[.pointer (some ⟨p, 0, none⟩), .int .i64 i, .string s] wr fun e w' => e = .returned (errS (writeD D i s).2) ∧ DPost Z w p (writeD D i s).1 w' := by
  obtain ⟨Z1, h1, h2, h3⟩ := h
  exact (swrite_any i s wr h1 hl hs).mono fun e w' ⟨a, b⟩ => ⟨a, DPost.step h2 h3 b⟩
theorem dflush_any {Z : Nat → Prop} {w wr : World} {p : Nat} {D : Dk} (h : DPost Z w p D wr) (hl : D.pend.length ≤ 1000000) : Calls Tryz.prog 55 #[.pointer (some ⟨p, 0, none⟩)] wr fun e w' => e = .returned (errS (flushD D).2) ∧ DPost Z w p (flushD D).1 w' := by
  obtain ⟨Z1, h1, h2, h3⟩ := h
  exact (sflush_any wr h1 hl).mono fun e w' ⟨a, b⟩ => ⟨a, DPost.step h2 h3 b⟩
theorem errS_ne {k : Int} (h : ¬ k = 0) : errS k = .iface 55 (.int .i64 k) := by rw [errS, if_neg h]

set_option maxHeartbeats 2000000 in
set_option maxRecDepth 100000 in
theorem putA_any {Z : Nat → Prop} {q p : Nat} {D : Dk} (v : Value) (l : RawP) (b : Pnd) (f : Nat → Nat) (w : World) (hq : RQ w q p) (hqz : ¬ Z q) (h : DX Z w p D) (hl : PgR w v l) (hlz : l ≠ [] → PgZ Z v) (hl9 : l.length ≤ 1000000) (hp : D.pend.length + l.length ≤ 1000000) (hs : ∀ x ∈ l, x.2.size ≤ 512)
    (hbl : b.length = l.length) (hb : ∀ j x, l[j]? = some x → b[j]? = some (f j, x.2))
    (C : ∀ W, Off Z w W → ∀ j : Nat, j < l.length → Calls Tryz.prog 30 #[.int .i64 (j : Int)] W fun e w' => e = .returned (.int .i64 (f j : Int)) ∧ w' = W) :
    Calls Tryz.prog 29 #[.pointer (some ⟨q, 0, none⟩), v, .func (.func 30) #[] #[]] w fun e w' => e = .returned (errS (putD D b).2) ∧ DPost Z w p (putD D b).1 w' := by
  obtain ⟨a, c, rfl⟩ := hl.form
  obtain ⟨m, hm⟩ : ∃ m, m = l.length := ⟨_, rfl⟩
  rw [← hm] at hl hlz hl9 hp hbl C ⊢
  have HM := Lib.hid hm
  have HL := Lib.hid hl
  have HLZ := Lib.hid hlz
  have HS := Lib.hid hs
  have HB := Lib.hid hb
  have HBL := Lib.hid hbl
  have HC := Lib.hid C
  have HQ := Lib.hid hq
  have HQZ := Lib.hid hqz
  have HP0 := Lib.hid (DPost.refl h)
  clear hl hm hlz hs hb hbl C hq hqz h
  go_enter Tryz.func29, Tryz.ntmps29
  go_wp2_with fail
  go_loopw [12] (fun jv wr => ∃ (j : Nat) (E : Dk), jv = .int .i64 (j : Nat) ∧ j ≤ m ∧ Hid (DPost Z w p E wr) ∧ Hid (putD D b = putD E (b.drop j)) ∧ Hid (E.pend.length ≤ D.pend.length + j)) (fun jv _ => m - (intOf jv).toNat)
  case atStart => exact ⟨0, D, rfl, Nat.zero_le _, HP0, Lib.hid (by simp), Lib.hid (by omega)⟩
  case round =>
    obtain ⟨j, E, rfl, hjm, HD, HE, HN⟩ := hrel
    have cq := (HQ.out.off HD.out.off HQZ.out).2
    by_cases hlt : j < m
    · obtain ⟨x, hx⟩ : ∃ x, l[j]? = some x := ⟨l[j]'(by rw [← HM.out]; exact hlt), by simp⟩
      have hne : l ≠ [] := by rintro rfl; simp at hx
      obtain ⟨bb, o, rfl, hbl, hmc, hcm, d0, d1⟩ := (HL.out.off HD.out.off (HLZ.out hne)).at hx
      unfold maxLen at hcm
      have hs := HS.out x (List.mem_of_getElem? hx)
      have hbj := HB.out j x hx
      obtain ⟨i, s⟩ := x
      simp only at d0 d1 hs hbj
      have hjI : (j : Int) < (m : Int) := by omega
      obtain ⟨z, hz⟩ : ∃ z, z = wr.heap.size := ⟨_, rfl⟩
      obtain ⟨wz, hwz⟩ : ∃ wz, wz = wr.alloc (.cells #[.int .i64 i, .string s] 49) := ⟨_, rfl⟩
      have hbz : Below wr.heap.size wr wz := by rw [hwz]; exact (Below.refl _ _).alloc (Nat.le_refl _) _
      have z1 : wz.cell? ⟨z, 1, none⟩ = some (.string s) := by rw [hwz, hz, World.cell?_alloc_at _ _ _ _ rfl]; rfl
      have HDZ := Lib.hid (HD.out.below hbz)
      have cz := (HQ.out.off HDZ.out.off HQZ.out).2
      have HCJ := Lib.hid (fun (W : World) (hW : Below wz.heap.size wz W) => HC.out W (HDZ.out.off.trans (Off.of_below hW)) j hlt)
      have hpn : E.pend.length ≤ 1000000 := by have := HN.out; omega
      have HWR := Lib.hid (fun (W : World) (hW : Below wz.heap.size wz W) => dwrite_any (HDZ.out.below hW) (f j : Int) s hpn (by omega))
      have HWZ := Lib.hid hwz
      have HZ := Lib.hid hz
      have hdr : b.drop j = (f j, s) :: b.drop (j + 1) := by
        have hjb : j < b.length := by rw [HBL.out]; exact hlt
        rw [List.drop_eq_getElem_cons hjb]
        rw [List.getElem?_eq_getElem hjb] at hbj
        injection hbj with hbj
        rw [hbj]
      have hput : putD D b = if (writeD E (f j : Int) s).2 = 0 then putD (writeD E (f j : Int) s).1 (b.drop (j + 1)) else writeD E (f j : Int) s := by
        rw [HE.out, hdr]; rfl
      have HPD := Lib.hid hput
      have HPN := Lib.hid (write_pend E (f j : Int) s)
      obtain ⟨E2, hE2⟩ : ∃ E2, E2 = writeD E (f j : Int) s := ⟨_, rfl⟩
      rw [← hE2] at HPD HPN
      obtain ⟨F, k⟩ := E2
      simp only [← hE2] at HWR
      simp only at HPD HPN
      clear hx hbj hdr hput hbz hwz hbl hE2 hz hne
      by_cases hk : k = 0
      · subst hk
        rw [if_pos rfl] at HPD
        simp only [errS_zero] at HWR
        go_wp2_with fail
        rw [← HZ.out, ← HWZ.out]
        go_region_law (first
          | (go_simp; refine (HCJ.out _ (by (repeat refine Below.drew ?_); exact Below.refl _ _)).mono ?_; rintro e w5 ⟨rfl, rfl⟩)
          | (go_simp; refine (HWR.out _ (by (repeat refine Below.drew ?_); exact Below.refl _ _)).mono ?_; rintro e w6 ⟨rfl, hd6⟩; have HD6 := Lib.hid hd6; clear hd6))
        all_goals
          go_wp2_with fail
          exact ⟨⟨j + 1, F, by go_num, by omega, HD6, HPD, Lib.hid (by have := HN.out; have := HPN.out; omega)⟩, by simp [intOf]; omega⟩
      · rw [if_neg hk] at HPD
        simp only [errS_ne hk] at HWR
        have HK := Lib.hid (errS_ne hk)
        clear hk
        go_wp2_with fail
        rw [← HZ.out, ← HWZ.out]
        go_region_law (first
          | (go_simp; refine (HCJ.out _ (by (repeat refine Below.drew ?_); exact Below.refl _ _)).mono ?_; rintro e w5 ⟨rfl, rfl⟩)
          | (go_simp; refine (HWR.out _ (by (repeat refine Below.drew ?_); exact Below.refl _ _)).mono ?_; rintro e w6 ⟨rfl, hd6⟩; have HD6 := Lib.hid hd6; clear hd6))
        all_goals
          go_wp2_with fail
          go_ret
          rw [HPD.out]
          exact ⟨by rw [HK.out]; simp, HD6.out⟩
    · have hjj : m = j := by omega
      have hfin : putD D b = flushD E := by
        rw [HE.out, List.drop_of_length_le (by rw [HBL.out]; omega)]; rfl
      have HF := Lib.hid hfin
      have hpn : E.pend.length ≤ 1000000 := by have := HN.out; omega
      have HFL := Lib.hid (dflush_any HD.out hpn)
      have hltI : ¬ (j : Int) < (m : Int) := by omega
      clear hfin hlt hjj
      go_wp2_with fail
      refine HFL.out.mono ?_
      rintro e w6 ⟨rfl, hd6⟩
      have HD6 := Lib.hid hd6
      clear hd6
      go_wp2_with fail
      go_ret
      rw [HF.out]
      exact ⟨by simp, HD6.out⟩

set_option maxHeartbeats 2000000 in
set_option maxRecDepth 100000 in
theorem putS_any {Z : Nat → Prop} {q p k0 : Nat} {D : Dk} (v : Value) (l : RawP) (b : Pnd) (f : Nat → Nat) (w : World) (hq : RQ w q p) (hqz : ¬ Z q) (h : DX Z w p D) (hl : PgR w v l) (hlz : l ≠ [] → PgZ Z v) (hl9 : l.length ≤ 1000000) (hp : D.pend.length + l.length ≤ 1000000) (hs : ∀ x ∈ l, x.2.size ≤ 512)
    (hbl : b.length = l.length) (hb : ∀ j x, l[j]? = some x → b[j]? = some (f j, x.2))
    (C : ∀ W, Off Z w W → ∀ j : Nat, j < l.length → Calls Tryz.prog 40 #[.int .i64 (j : Int), .pointer (some ⟨k0, 0, none⟩)] W fun e w' => e = .returned (.int .i64 (f j : Int)) ∧ w' = W) :
    Calls Tryz.prog 29 #[.pointer (some ⟨q, 0, none⟩), v, .func (.func 40) #[] #[.pointer (some ⟨k0, 0, none⟩)]] w fun e w' => e = .returned (errS (putD D b).2) ∧ DPost Z w p (putD D b).1 w' := by
  obtain ⟨a, c, rfl⟩ := hl.form
  obtain ⟨m, hm⟩ : ∃ m, m = l.length := ⟨_, rfl⟩
  rw [← hm] at hl hlz hl9 hp hbl C ⊢
  have HM := Lib.hid hm
  have HL := Lib.hid hl
  have HLZ := Lib.hid hlz
  have HS := Lib.hid hs
  have HB := Lib.hid hb
  have HBL := Lib.hid hbl
  have HC := Lib.hid C
  have HQ := Lib.hid hq
  have HQZ := Lib.hid hqz
  have HP0 := Lib.hid (DPost.refl h)
  clear hl hm hlz hs hb hbl C hq hqz h
  go_enter Tryz.func29, Tryz.ntmps29
  go_wp2_with fail
  go_loopw [12] (fun jv wr => ∃ (j : Nat) (E : Dk), jv = .int .i64 (j : Nat) ∧ j ≤ m ∧ Hid (DPost Z w p E wr) ∧ Hid (putD D b = putD E (b.drop j)) ∧ Hid (E.pend.length ≤ D.pend.length + j)) (fun jv _ => m - (intOf jv).toNat)
  case atStart => exact ⟨0, D, rfl, Nat.zero_le _, HP0, Lib.hid (by simp), Lib.hid (by omega)⟩
  case round =>
    obtain ⟨j, E, rfl, hjm, HD, HE, HN⟩ := hrel
    have cq := (HQ.out.off HD.out.off HQZ.out).2
    by_cases hlt : j < m
    · obtain ⟨x, hx⟩ : ∃ x, l[j]? = some x := ⟨l[j]'(by rw [← HM.out]; exact hlt), by simp⟩
      have hne : l ≠ [] := by rintro rfl; simp at hx
      obtain ⟨bb, o, rfl, hbl, hmc, hcm, d0, d1⟩ := (HL.out.off HD.out.off (HLZ.out hne)).at hx
      unfold maxLen at hcm
      have hs := HS.out x (List.mem_of_getElem? hx)
      have hbj := HB.out j x hx
      obtain ⟨i, s⟩ := x
      simp only at d0 d1 hs hbj
      have hjI : (j : Int) < (m : Int) := by omega
      obtain ⟨z, hz⟩ : ∃ z, z = wr.heap.size := ⟨_, rfl⟩
      obtain ⟨wz, hwz⟩ : ∃ wz, wz = wr.alloc (.cells #[.int .i64 i, .string s] 49) := ⟨_, rfl⟩
      have hbz : Below wr.heap.size wr wz := by rw [hwz]; exact (Below.refl _ _).alloc (Nat.le_refl _) _
      have z1 : wz.cell? ⟨z, 1, none⟩ = some (.string s) := by rw [hwz, hz, World.cell?_alloc_at _ _ _ _ rfl]; rfl
      have HDZ := Lib.hid (HD.out.below hbz)
      have cz := (HQ.out.off HDZ.out.off HQZ.out).2
      have HCJ := Lib.hid (fun (W : World) (hW : Below wz.heap.size wz W) => HC.out W (HDZ.out.off.trans (Off.of_below hW)) j hlt)
      have hpn : E.pend.length ≤ 1000000 := by have := HN.out; omega
      have HWR := Lib.hid (fun (W : World) (hW : Below wz.heap.size wz W) => dwrite_any (HDZ.out.below hW) (f j : Int) s hpn (by omega))
      have HWZ := Lib.hid hwz
      have HZ := Lib.hid hz
      have hdr : b.drop j = (f j, s) :: b.drop (j + 1) := by
        have hjb : j < b.length := by rw [HBL.out]; exact hlt
        rw [List.drop_eq_getElem_cons hjb]
        rw [List.getElem?_eq_getElem hjb] at hbj
        injection hbj with hbj
        rw [hbj]
      have hput : putD D b = if (writeD E (f j : Int) s).2 = 0 then putD (writeD E (f j : Int) s).1 (b.drop (j + 1)) else writeD E (f j : Int) s := by
        rw [HE.out, hdr]; rfl
      have HPD := Lib.hid hput
      have HPN := Lib.hid (write_pend E (f j : Int) s)
      obtain ⟨E2, hE2⟩ : ∃ E2, E2 = writeD E (f j : Int) s := ⟨_, rfl⟩
      rw [← hE2] at HPD HPN
      obtain ⟨F, k⟩ := E2
      simp only [← hE2] at HWR
      simp only at HPD HPN
      clear hx hbj hdr hput hbz hwz hbl hE2 hz hne
      by_cases hk : k = 0
      · subst hk
        rw [if_pos rfl] at HPD
        simp only [errS_zero] at HWR
        go_wp2_with fail
        rw [← HZ.out, ← HWZ.out]
        go_region_law (first
          | (go_simp; refine (HCJ.out _ (by (repeat refine Below.drew ?_); exact Below.refl _ _)).mono ?_; rintro e w5 ⟨rfl, rfl⟩)
          | (go_simp; refine (HWR.out _ (by (repeat refine Below.drew ?_); exact Below.refl _ _)).mono ?_; rintro e w6 ⟨rfl, hd6⟩; have HD6 := Lib.hid hd6; clear hd6))
        all_goals
          go_wp2_with fail
          exact ⟨⟨j + 1, F, by go_num, by omega, HD6, HPD, Lib.hid (by have := HN.out; have := HPN.out; omega)⟩, by simp [intOf]; omega⟩
      · rw [if_neg hk] at HPD
        simp only [errS_ne hk] at HWR
        have HK := Lib.hid (errS_ne hk)
        clear hk
        go_wp2_with fail
        rw [← HZ.out, ← HWZ.out]
        go_region_law (first
          | (go_simp; refine (HCJ.out _ (by (repeat refine Below.drew ?_); exact Below.refl _ _)).mono ?_; rintro e w5 ⟨rfl, rfl⟩)
          | (go_simp; refine (HWR.out _ (by (repeat refine Below.drew ?_); exact Below.refl _ _)).mono ?_; rintro e w6 ⟨rfl, hd6⟩; have HD6 := Lib.hid hd6; clear hd6))
        all_goals
          go_wp2_with fail
          go_ret
          rw [HPD.out]
          exact ⟨by rw [HK.out]; simp, HD6.out⟩
    · have hjj : m = j := by omega
      have hfin : putD D b = flushD E := by
        rw [HE.out, List.drop_of_length_le (by rw [HBL.out]; omega)]; rfl
      have HF := Lib.hid hfin
      have hpn : E.pend.length ≤ 1000000 := by have := HN.out; omega
      have HFL := Lib.hid (dflush_any HD.out hpn)
      have hltI : ¬ (j : Int) < (m : Int) := by omega
      clear hfin hlt hjj
      go_wp2_with fail
      refine HFL.out.mono ?_
      rintro e w6 ⟨rfl, hd6⟩
      have HD6 := Lib.hid hd6
      clear hd6
      go_wp2_with fail
      go_ret
      rw [HF.out]
      exact ⟨by simp, HD6.out⟩
end Go.Proofs.YthamfbfeokmhgaaGreatDoor
