/- Groups: alone. Groups: numbers that were joined (mathematics). Groups: head, join. -/
import Derived.Test.YtfpepoebammeoaaGreatU0
import Derived.Test.YtfpepoebammeoaaGreatU9
set_option linter.unusedVariables false
set_option linter.unusedSimpArgs false
namespace Go.Proofs.YtfpepoebammeoaaGreat
open Go.ChangeShapes Go.WideShapes Go.ChangeAt Go.RowKit

def aloK (j x : Nat) : Nat := if x < j then x else 0
theorem aloK_step {j m : Nat} (h : j < m) : (bkv (aloK j) m).set j (.int .i64 (j : Int)) = bkv (aloK (j + 1)) m := by
  rw [bkv_set _ h]
  refine bkv_congr fun v _ => ?_
  unfold upd aloK
  by_cases e : v = j
  · subst e; simp
  · simp only [if_neg e]
    by_cases hv : v < j
    · rw [if_pos hv, if_pos (by omega)]
    · rw [if_neg hv, if_neg (by omega)]
theorem aloK_all (m : Nat) : bkv (aloK m) m = bkv id m := bkv_congr fun v hv => by simp [aloK, hv]
set_option maxHeartbeats 1000000 in
set_option maxRecDepth 100000 in
theorem alone_any (m : Nat) (w : World) (hm : m ≤ 1000000) :
    Calls Tryz.prog 65 #[.int .i64 (m : Int)] w fun e w' => ∃ pb, e = .returned (.slice (some ⟨pb, 0, none⟩) m m) ∧ Row 1 w.heap.size w' (.slice (some ⟨pb, 0, none⟩) m m) m (bkv id m) ∧ Below w.heap.size w w' := by
  have mk1 := run_make_row' (P := Tryz.prog) 88 3 (.int .i64 0) 8 Tryz.underlying88 infoIk rfl .i64 .i64 m (by omega) (by omega)
  have hr0 : Row 1 w.heap.size (w.alloc (.cells (madeCells #[.int .i64 0] m) 3)) (.slice (some ⟨w.heap.size, 0, none⟩) m m) m (bkv (aloK 0) m) := by
    have : bkv (aloK 0) m = iv (List.replicate m 0) := by
      rw [bkv_congr (g := fun _ => 0) (fun v _ => by simp [aloK]), ← bkv_zero]
    rw [this]
    exact made_intk hm (Nat.le_refl _) _
  have HR0 := Lib.hid hr0
  have HB0 := Lib.hid ((Below.refl w.heap.size w).alloc (Nat.le_refl _) (.cells (madeCells #[.int .i64 0] m) 3))
  clear hr0
  go_enter Tryz.func65, Tryz.ntmps65
  go_wp2_with fail
  clear mk1
  go_loopw [9] (fun jv wr => ∃ j : Nat, jv = .int .i64 (j : Nat) ∧ j ≤ m ∧ Hid (Row 1 w.heap.size wr (.slice (some ⟨w.heap.size, 0, none⟩) m m) m (bkv (aloK j) m)) ∧ Hid (Below w.heap.size w wr)) (fun jv _ => m - (intOf jv).toNat)
  case atStart => exact ⟨0, rfl, Nat.zero_le _, HR0, HB0⟩
  case round =>
    obtain ⟨j, rfl, hj, HO, HB⟩ := hrel
    by_cases hlj : j < m
    · obtain ⟨cp, fp, _⟩ := HO.out.cellF (bkv_at (aloK j) hlj)
      have hp := HO.out.put (j := j) (by rw [bkv_len]; exact hlj) (.int .i64 (j : Int))
      rw [aloK_step hlj] at hp
      have HP := Lib.hid hp
      have HB9 := Lib.hid (HB.out.setCell (p := ⟨w.heap.size, j, none⟩) (Nat.le_refl _) (.int .i64 (j : Int)))
      clear hp
      go_wp2_with fail
      exact ⟨⟨j + 1, by go_num, by omega, HP, HB9⟩, by simp [intOf]; omega⟩
    · have hje : m = j := by omega
      subst hje
      go_wp2_with fail
      go_ret
      refine ⟨_, rfl, ?_, HB.out⟩
      have h := HO.out
      rw [aloK_all] at h
      exact h
end Go.Proofs.YtfpepoebammeoaaGreat
set_option linter.unusedVariables false
set_option linter.unusedSimpArgs false
namespace Go.Proofs.YtfpepoebammeoaaGreat

structure UF (m : Nat) (g r d : Nat → Nat) : Prop where
  lt : ∀ i, i < m → g i < m
  rlt : ∀ i, i < m → r i < m
  same : ∀ i, i < m → r (g i) = r i
  top : ∀ i, i < m → g (r i) = r i
  idem : ∀ i, i < m → r (r i) = r i
  stop : ∀ i, i < m → g i = i → r i = i
  down : ∀ i, i < m → g i ≠ i → d (g i) < d i
theorem UF.alone (m : Nat) : UF m id id (fun _ => 0) := ⟨fun i h => h, fun i h => h, fun i h => rfl, fun i h => rfl, fun i h => rfl, fun i h _ => rfl, fun i h hn => absurd rfl hn⟩
section
variable {m : Nat} {g r d : Nat → Nat}
theorem UF.halve (h : UF m g r d) {x : Nat} (hx : x < m) (hn : g x ≠ x) : UF m (upd g x (g (g x))) r d ∧ d (g (g x)) < d x ∧ g (g x) < m ∧ r (g (g x)) = r x := by
  have h1 := h.lt x hx
  have h2 := h.down x hx hn
  have h3 : d (g (g x)) ≤ d (g x) := by
    by_cases e : g (g x) = g x
    · rw [e]; exact Nat.le_refl _
    · exact Nat.le_of_lt (h.down _ h1 e)
  have h4 : r (g (g x)) = r x := (h.same _ h1).trans (h.same x hx)
  have hne : g (g x) ≠ x := fun e => by rw [e] at h3; omega
  refine ⟨⟨fun i hi => ?_, h.rlt, fun i hi => ?_, fun i hi => ?_, h.idem, fun i hi hg => ?_, fun i hi hg => ?_⟩, by omega, h.lt _ h1, h4⟩
  · unfold upd
    split
    · exact h.lt _ h1
    · exact h.lt i hi
  · unfold upd
    split
    · rename_i e; rw [e]; exact h4
    · exact h.same i hi
  · unfold upd
    split
    · rename_i e
      have := h.top i hi
      rw [e] at this
      exact absurd this hn
    · exact h.top i hi
  · unfold upd at hg
    split at hg
    · rename_i e; rw [e] at hg; exact absurd hg hne
    · exact h.stop i hi hg
  · unfold upd at hg ⊢
    split
    · rename_i e; rw [e]; omega
    · rename_i e
      rw [if_neg e] at hg
      exact h.down i hi hg
def rJ (r : Nat → Nat) (a b : Nat) (i : Nat) : Nat := if r i = r a then r b else r i
def dJ (r d : Nat → Nat) (a b : Nat) (i : Nat) : Nat := if r i = r a then d i + d (r b) + 1 else d i
theorem UF.join (h : UF m g r d) {a b : Nat} (ha : a < m) (hb : b < m) : ∃ d', UF m (upd g (r a) (r b)) (rJ r a b) d' := by
  by_cases e : r a = r b
  · have e1 : upd g (r a) (r b) = g := by
      funext i
      unfold upd
      split
      · rename_i hi; rw [hi, ← e]; exact (h.top a ha).symm
      · rfl
    have e2 : rJ r a b = r := by
      funext i
      unfold rJ
      split
      · rename_i hi; rw [hi, e]
      · rfl
    rw [e1, e2]
    exact ⟨d, h⟩
  · have hra := h.idem a ha
    have hrb := h.idem b hb
    refine ⟨dJ r d a b, ⟨fun i hi => ?_, fun i hi => ?_, fun i hi => ?_, fun i hi => ?_, fun i hi => ?_, fun i hi hg => ?_, fun i hi hg => ?_⟩⟩
    · unfold upd
      split
      · exact h.rlt b hb
      · exact h.lt i hi
    · unfold rJ
      split
      · exact h.rlt b hb
      · exact h.rlt i hi
    · unfold upd
      split
      · rename_i e1
        rw [e1]
        unfold rJ
        rw [hra, hrb, if_pos rfl, if_neg (fun x => e x.symm)]
      · unfold rJ
        rw [h.same i hi]
    · unfold rJ
      split
      · unfold upd
        rw [if_neg (fun x => e x.symm)]
        exact h.top b hb
      · rename_i e1
        unfold upd
        rw [if_neg e1]
        exact h.top i hi
    · unfold rJ
      by_cases e1 : r i = r a
      · simp only [if_pos e1, hrb]
        rw [if_neg (fun x => e x.symm)]
      · simp only [if_neg e1, h.idem i hi]
    · unfold upd at hg
      split at hg
      · rename_i e1
        exfalso
        rw [e1] at hg
        exact e hg.symm
      · have e2 := h.stop i hi hg
        rename_i e1
        unfold rJ
        rw [e2, if_neg e1]
    · unfold upd at hg ⊢
      split
      · rename_i e1
        rw [e1]
        unfold dJ
        rw [hra, hrb, if_pos rfl, if_neg (fun x => e x.symm)]
        omega
      · rename_i e1
        rw [if_neg e1] at hg
        have := h.down i hi hg
        unfold dJ
        rw [h.same i hi]
        split <;> omega
theorem UF.head (h : UF m g r d) {x a : Nat} (hx : x < m) (he : g x = x) (hr : r x = r a) : x = r a := by rw [← hr]; exact (h.stop x hx he).symm
end
end Go.Proofs.YtfpepoebammeoaaGreat
set_option linter.unusedVariables false
set_option linter.unusedSimpArgs false
namespace Go.Proofs.YtfpepoebammeoaaGreat
open Go.ChangeShapes Go.WideShapes Go.ChangeAt Go.RowKit

section
variable {m B pb : Nat} {g r d : Nat → Nat}
set_option maxHeartbeats 4000000 in
set_option maxRecDepth 100000 in
theorem head_any (x : Nat) (w : World) (hU : UF m g r d) (hx : x < m) (hm : m ≤ 1000000) (hR : Row 1 B w (.slice (some ⟨pb, 0, none⟩) m m) m (bkv g m)) :
    Calls Tryz.prog 68 #[.slice (some ⟨pb, 0, none⟩) m m, .int .i64 (x : Int)] w fun e w' => ∃ g', e = .returned (.int .i64 (r x : Int)) ∧ UF m g' r d ∧ Row 1 B w' (.slice (some ⟨pb, 0, none⟩) m m) m (bkv g' m) ∧ Off (fun i => i = pb) w w' := by
  have HU := Lib.hid hU
  have HR := Lib.hid hR
  have HX := Lib.hid hx
  clear hU hR hx
  go_enter Tryz.func68, Tryz.ntmps68
  go_wp2_with fail
  go_loopw [1] (fun yv wr => ∃ (y : Nat) (g' : Nat → Nat), yv = .int .i64 (y : Nat) ∧ y < m ∧ Hid (UF m g' r d) ∧ Hid (r y = r x) ∧ Hid (Row 1 B wr (.slice (some ⟨pb, 0, none⟩) m m) m (bkv g' m)) ∧ Hid (Off (fun i => i = pb) w wr)) (fun yv _ => d (intOf yv).toNat)
  case atStart => exact ⟨x, g, rfl, HX.out, HU, Lib.hid rfl, HR, Lib.hid (Off.refl _ _)⟩
  case round =>
    obtain ⟨y, g', rfl, hy, HU', HY, HR', HO⟩ := hrel
    obtain ⟨cy, fy, _⟩ := HR'.out.cellF (bkv_at g' hy)
    have hz := HU'.out.lt y hy
    obtain ⟨z, hze⟩ : ∃ z, z = g' y := ⟨_, rfl⟩
    rw [← hze] at cy hz
    by_cases hyz : z = y
    · have HF : Hid (y = r x) := Lib.hid (HU'.out.head hy (by rw [← hze]; exact hyz) HY.out)
      subst hyz
      clear hze
      go_wp2_with fail
      go_ret
      refine ⟨g', ?_, HU'.out, HR'.out, HO.out⟩
      rw [← HF.out]
      rfl
    · have hyI : ¬ (z : Int) = (y : Int) := by omega
      obtain ⟨cz, fz, _⟩ := HR'.out.cellF (bkv_at g' hz)
      obtain ⟨h1, h2, h3, h4⟩ := HU'.out.halve hy (by rw [← hze]; exact hyz)
      rw [← hze] at h1 h2 h3 h4
      obtain ⟨u, hu⟩ : ∃ u, u = g' z := ⟨_, rfl⟩
      rw [← hu] at cz h1 h2 h3 h4
      have hp := HR'.out.put (j := y) (by rw [bkv_len]; exact hy) (.int .i64 (u : Int))
      rw [bkv_set _ hy] at hp
      have HO9 : Hid (Off (fun i => i = pb) w (wr.setCell ⟨pb, y, none⟩ (.int .i64 (u : Int)))) := Lib.hid (HO.out.setCell (p := ⟨pb, y, none⟩) (.inr rfl) _)
      have HU9 := Lib.hid h1
      have HD := Lib.hid h2
      have HY9 : Hid (r u = r x) := Lib.hid (h4.trans HY.out)
      have HP := Lib.hid hp
      have cu := World.cell?_setCell_same wr ⟨pb, y, none⟩ (.int .i64 (u : Int)) (by rw [cy])
      clear h1 h2 h4 hp hze hu hyz
      go_wp2_with fail
      exact ⟨⟨u, _, by go_num, h3, HU9, HY9, HP, HO9⟩, by have := HD.out; simpa [intOf] using this⟩
set_option maxHeartbeats 4000000 in
set_option maxRecDepth 100000 in
theorem join_any (a b : Nat) (w : World) (hU : UF m g r d) (ha : a < m) (hb : b < m) (hm : m ≤ 1000000) (hR : Row 1 B w (.slice (some ⟨pb, 0, none⟩) m m) m (bkv g m)) :
    Calls Tryz.prog 67 #[.slice (some ⟨pb, 0, none⟩) m m, .int .i64 (a : Int), .int .i64 (b : Int)] w fun e w' => ∃ g' d', e = .returned (.tuple #[]) ∧ UF m g' (rJ r a b) d' ∧ Row 1 B w' (.slice (some ⟨pb, 0, none⟩) m m) m (bkv g' m) ∧ Off (fun i => i = pb) w w' := by
  have HA := Lib.hid (head_any a w hU ha hm hR)
  have HBH := Lib.hid (fun g' d' (W : World) (hU' : UF m g' r d') (hR' : Row 1 B W (.slice (some ⟨pb, 0, none⟩) m m) m (bkv g' m)) => head_any b W hU' hb hm hR')
  have HI := Lib.hid (And.intro ha hb)
  clear hU hR ha hb
  go_enter Tryz.func67, Tryz.ntmps67
  go_wp2_with fail
  refine HA.out.mono ?_
  rintro e w2 ⟨g2, rfl, hU2, hR2, ho2⟩
  have H2 := Lib.hid (HBH.out g2 d w2 hU2 hR2)
  have HO2 := Lib.hid ho2
  clear hU2 hR2 ho2
  go_wp2_with fail
  refine H2.out.mono ?_
  rintro e w3 ⟨g3, rfl, hU3, hR3, ho3⟩
  have hra := hU3.rlt a HI.out.1
  obtain ⟨d', hU9⟩ := hU3.join HI.out.1 HI.out.2
  obtain ⟨ra, hra9⟩ : ∃ ra, ra = r a := ⟨_, rfl⟩
  obtain ⟨rb, hrb9⟩ : ∃ rb, rb = r b := ⟨_, rfl⟩
  rw [← hra9] at hra
  rw [← hra9, ← hrb9] at hU9 ⊢
  obtain ⟨cz, fz, _⟩ := hR3.cellF (bkv_at g3 hra)
  have hp := hR3.put (j := ra) (by rw [bkv_len]; exact hra) (.int .i64 (rb : Int))
  rw [bkv_set _ hra] at hp
  have HP := Lib.hid hp
  have HU9 := Lib.hid hU9
  have HO9 := Lib.hid ((HO2.out.trans ho3).setCell (p := ⟨pb, ra, none⟩) (.inr rfl) (.int .i64 (rb : Int)))
  clear hp hU9 hU3 hR3 ho3 hra9 hrb9
  go_wp2_with fail
  go_end0
  exact ⟨_, d', rfl, HU9.out, HP.out, HO9.out⟩
end
end Go.Proofs.YtfpepoebammeoaaGreat
