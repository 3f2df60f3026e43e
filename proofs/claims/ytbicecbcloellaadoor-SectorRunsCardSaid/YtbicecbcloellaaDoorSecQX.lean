/- The document's disk: Write. -/
import Derived.Test.YtbicecbcloellaaDoorSecQW
set_option linter.unusedVariables false
set_option linter.unusedSimpArgs false
namespace Go.Proofs.YtbicecbcloellaaDoor
open Go.ChangeShapes Go.WideShapes Go.ChangeAt Go.RowKit Go.WideMaps Go.Maps

theorem infoRW : (Tryd.prog.info? 68).map (fun i => (i.zero, i.size, i.bytes)) = some (some (.agg #[.int .i64 0, .string ByteArray.empty]), 2, 24) := by kernel_rfl
theorem below_drew {w w' : World} (h : Below w.drew.heap.size w.drew w') : Below w.heap.size w w' := ⟨h.os, h.tape, h.output, h.size, h.block⟩
set_option maxHeartbeats 4000000 in
set_option maxRecDepth 100000 in
theorem rwrite_any {Z : Nat → Prop} {q k : Nat} {D : Dk} (i : Int) (s : ByteArray) (w : World) (h : RX Z w q k D) (hok : D.Ok) (hl : D.pend.length ≤ 1000000) : Calls Tryd.prog 15 #[.pointer (some ⟨q, 0, none⟩), .int .i64 i, .string s] w fun e w' => e = .returned (.int .i64 (writeD D i s).2) ∧ RPost Z w q k (writeD D i s).1 w' := by
  obtain ⟨mb, v, h⟩ := h
  have c0 := h.c0
  have c2 := h.c2
  by_cases ho : D.off = true
  · have e : writeD D i s = (D, 20) := by unfold writeD; rw [if_pos ho]
    rw [e]
    rw [ho] at c2
    have H := Lib.hid (show RPost Z w q k D w from ⟨Z, ⟨mb, v, h⟩, Off.refl _ _, fun i hi => .inl hi⟩)
    clear h ho e hok
    go_enter Tryd.func15, Tryd.ntmps15
    go_wp2_with fail
    go_ret
    exact ⟨rfl, H.out⟩
  have hof : D.off = false := by simpa using ho
  rw [hof] at c2
  obtain ⟨n, hn⟩ : ∃ n, n = D.sure.length := ⟨_, rfl⟩
  rw [← hn] at c0
  by_cases hi : i < 0 ∨ (n : Int) ≤ i ∨ 512 < s.size
  · have e : writeD D i s = (D, 1) := by unfold writeD; rw [if_neg ho, if_pos (by rw [← hn]; exact hi)]
    rw [e]
    have H := Lib.hid (show RPost Z w q k D w from ⟨Z, ⟨mb, v, h⟩, Off.refl _ _, fun i hi => .inl hi⟩)
    clear h ho e hok hn hof
    by_cases h0 : i < 0
    · go_enter Tryd.func15, Tryd.ntmps15
      go_wp2_with fail
      go_ret
      exact ⟨rfl, H.out⟩
    · by_cases h1 : (n : Int) ≤ i
      · have h1d : decide ((n : Int) ≤ i) = true := decide_eq_true h1
        clear hi
        go_enter Tryd.func15, Tryd.ntmps15
        go_wp2_with fail
        go_ret
        exact ⟨rfl, H.out⟩
      · have h1d : decide ((n : Int) ≤ i) = false := decide_eq_false h1
        have h2d : decide ((512 : Int) < (s.size : Int)) = true := decide_eq_true (by omega)
        clear hi
        go_enter Tryd.func15, Tryd.ntmps15
        go_wp2_with fail
        go_ret
        exact ⟨rfl, H.out⟩
  have h0 : ¬ i < 0 := by omega
  have h1 : ¬ (n : Int) ≤ i := by omega
  have h1d : decide ((n : Int) ≤ i) = false := decide_eq_false h1
  have h2d : decide ((512 : Int) < (s.size : Int)) = false := decide_eq_false (by omega)
  have ST := Lib.hid (rstep_any w h hok.f1 hok.f2)
  by_cases hf : D.fuel = 0
  · have e : writeD D i s = ({ D with off := true }, 20) := by unfold writeD; rw [if_neg ho, if_neg (by rw [← hn]; exact hi), if_pos hf]
    rw [e]
    have hs : stepF D.fuel = D.fuel := by unfold stepF; rw [if_neg (by omega)]
    rw [if_pos hf, decide_eq_true hf, hs, Bool.not_true] at ST
    clear h ho e hof hi hok hf hs hn
    go_enter Tryd.func15, Tryd.ntmps15
    go_wp2_with fail
    refine ST.out.mono ?_
    rintro e w3 ⟨rfl, hd, ho⟩
    have H := Lib.hid (show RPost Z w q k { D with off := true } w3 from ⟨Z, ⟨mb, v, hd⟩, ho, fun i hi => .inl hi⟩)
    clear hd ho
    go_wp2_with fail
    go_ret
    exact ⟨rfl, H.out⟩
  obtain ⟨t, rfl⟩ : ∃ t : Nat, i = (t : Int) := ⟨i.toNat, by omega⟩
  have e : writeD D (t : Int) s = ({ D with fuel := stepF D.fuel, pend := D.pend ++ [(t, s)] }, 0) := by unfold writeD; rw [if_neg ho, if_neg (by rw [← hn]; exact hi), if_neg hf, Int.toNat_natCast]
  rw [e]
  rw [if_neg hf, decide_eq_false hf, Bool.not_false] at ST
  have HF := Lib.hid (fun W => rfull_any s W (by omega))
  clear h ho e hof hi hok hf hn
  go_enter Tryd.func15, Tryd.ntmps15
  go_wp2_with fail
  refine ST.out.mono ?_
  rintro e w3 ⟨rfl, hd, ho⟩
  obtain ⟨m, hm⟩ : ∃ m, m = D.pend.length := ⟨_, rfl⟩
  rw [← hm] at hl
  obtain ⟨va, vc, hv⟩ := hd.rp.form
  rw [← hm] at hv
  subst hv
  have HD := Lib.hid hd
  have HO := Lib.hid ho
  have c4 := hd.c4
  obtain ⟨fs, hfs⟩ : ∃ fs, fs = fullB s := ⟨_, rfl⟩
  rw [← hfs] at HF
  have HFS := Lib.hid hfs
  have hql : q < w3.heap.size := hd.zlt q hd.zq
  have HM := Lib.hid hm
  have HN4 : Hid (∀ w4 : World, Below w3.drew.heap.size w3.drew w4 → (w4.cell? ⟨q, 4, none⟩ = some (.slice va m vc) ∧ q < w4.heap.size) ∧ RS Z w4 q mb D.sure.length k (.slice va m vc) D.sure D.pend (stepF D.fuel) D.off) := Lib.hid (fun w4 hb => by
    have h := HD.out.below (below_drew hb)
    exact ⟨⟨h.c4, h.zlt q h.zq⟩, h⟩)
  have HRA : Hid (∀ w4 : World, Below w3.drew.heap.size w3.drew w4 → Row 2 0 (w4.alloc (.cells #[.int .i64 (t : Int), .string fs] 68)) (.slice va m vc) m (pv (fQ D.pend))) := Lib.hid (fun w4 hb => by
    have h := ((HN4.out w4 hb).2.rp).alloc (.cells #[.int .i64 (t : Int), .string fs] 68)
    rw [← HM.out] at h
    exact h)
  have HSRC : Hid (∀ w4 : World, Src Tryd.prog 2 44 (.slice (some ⟨w4.heap.size, 0, none⟩) 1 1) 1 [.int .i64 (t : Int), .string fs] (w4.alloc (.cells #[.int .i64 (t : Int), .string fs] 68))) := Lib.hid (fun w4 => src_new (k := 2) Tryd.underlying44 [.int .i64 (t : Int), .string fs] 1 68 1 rfl oneQ)
  have HAF : Hid (∀ (w4 w6 : World) (v6 : Value), Below w3.drew.heap.size w3.drew w4 → Row 2 0 w6 v6 (m + 1) (pv (fQ D.pend) ++ [.int .i64 (t : Int), .string fs]) → Off (fun i => (Value.slice va m vc).ownBlock = some i) (w4.alloc (.cells #[.int .i64 (t : Int), .string fs] 68)) w6 → (v6.ownBlock = (Value.slice va m vc).ownBlock ∨ v6.ownBlock = some (w4.alloc (.cells #[.int .i64 (t : Int), .string fs] 68)).heap.size) →
      w6.cell? ⟨q, 4, none⟩ = some (.slice va m vc) ∧ w6.frozen? ⟨q, 4, none⟩ = false ∧ RPost Z w q k { D with fuel := stepF D.fuel, pend := D.pend ++ [(t, s)] } (w6.setCell ⟨q, 4, none⟩ v6)) := Lib.hid (fun w4 w6 v6 hb hr6 ho6 hw6 => by
    have hal : Below w4.heap.size w4 (w4.alloc (.cells #[.int .i64 (t : Int), .string fs] 68)) := (Below.refl _ _).alloc (Nat.le_refl _) _
    have h4 := (HN4.out w4 hb).2
    have h5 := h4.below hal
    have hr7 : Row 2 0 w6 v6 (D.pend ++ [(t, s)]).length (pv (fQ (D.pend ++ [(t, s)]))) := by
      rw [fQ_app, pv_app, List.length_append, List.length_singleton, ← HM.out]
      rw [HFS.out] at hr6
      exact hr6
    obtain ⟨hd7, ho7⟩ := h5.push ho6 hr7 (hw6.imp id fun h => ⟨_, h, Nat.le_refl _⟩)
    have hq5 := h5.zlt q h5.zq
    have hnq : ¬ (Value.slice va m vc).ownBlock = some q := fun e => (h5.pw q e).1 rfl
    have ho37 : Off Z w3 (w6.setCell ⟨q, 4, none⟩ v6) := (Off.of_below (below_drew hb)).trans ((Off.of_below hal).trans ho7)
    refine ⟨(ho6.cell (p := ⟨q, 4, none⟩) hq5 hnq).trans h5.c4, (ho6.frozen (p := ⟨q, 4, none⟩) hq5 hnq).trans (h5.fz 4 (by omega)), _, ⟨mb, v6, hd7⟩, HO.out.trans ho37, fun i hi => ?_⟩
    rcases hi with hi | hi
    · exact .inl hi
    · rcases hw6 with e | e
      · exact .inl (h5.zv i (e ▸ hi))
      · rw [e] at hi
        injection hi with hi
        have := HO.out.size
        have := hb.size
        have : w3.drew.heap.size = w3.heap.size := rfl
        simp at hi
        exact .inr (by omega))
  have hm2 : m + 1 ≤ 1099511627776 := by omega
  have HZ0 : Hid (∀ w4 : World, 0 ≤ w4.heap.size) := Lib.hid (fun _ => Nat.zero_le _)
  clear hd ho hfs hm
  go_wp2_with fail
  go_region_law (first
    | (refine step_append_row rfl (.tmp 36) (.tmp 41) 44 44 rfl 2 68 (.agg #[.int .i64 0, .string ByteArray.empty]) 24 Tryd.underlying44 infoRW rfl 0 (.slice va m vc) m (pv (fQ D.pend)) (by simp [Act.eval]) (HRA.out w4 HB4.out) (.slice (some ⟨w4.heap.size, 0, none⟩) 1 1) (by simp [Act.eval]) 1 [.int .i64 (t : Int), .string fs] (HSRC.out w4) (HZ0.out _) hm2 (by decide) ?_; intro v6 w6 hr6 ho6 hw6; obtain ⟨k1, k2, k3⟩ := HAF.out w4 w6 v6 HB4.out hr6 ho6 hw6; have HK3 := Lib.hid k3; obtain ⟨a6, c6, hv6⟩ := hr6.form; subst hv6; clear hr6 ho6 hw6 k3)
    | (go_simp; with_reducible refine (HF.out _).mono ?_; rintro e w4 ⟨rfl, hb4⟩; have HB4 : Hid (Below w3.drew.heap.size w3.drew w4) := Lib.hid hb4; have c44 := (HN4.out w4 HB4.out).1.1; have q44 := (HN4.out w4 HB4.out).1.2; clear hb4))
  all_goals
    go_wp2_with fail
    go_ret
    exact ⟨rfl, HK3.out⟩
end Go.Proofs.YtbicecbcloellaaDoor
