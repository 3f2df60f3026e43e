/- The contracts of container/heap's Push and Pop over ready. -/
import Derived.Test.YtfpepoebammeoaaGreatU13
set_option linter.unusedVariables false
namespace Go.Proofs.YtfpepoebammeoaaGreat
open Go.ChangeShapes Go.WideShapes Go.ChangeAt Go.RowKit

def PushP (p B : Nat) (v : Value) (a : List Int) (x : Int) (w : World) (e : Ending) (w' : World) : Prop :=
  e = .returned (.tuple #[]) ∧ ∃ v' a', Hp p B w' v' a' ∧ Heap a' a'.length ∧ a'.length = a.length + 1 ∧ (∀ y, a'.count y = a.count y + if x = y then 1 else 0) ∧ Off (fun i => i = p ∨ v.ownBlock = some i) w w' ∧ (v'.ownBlock = v.ownBlock ∨ ∃ k, v'.ownBlock = some k ∧ w.heap.size ≤ k)
def PopP (p B : Nat) (v : Value) (a : List Int) (w : World) (e : Ending) (w' : World) : Prop :=
  e = .returned (.iface 3 (.int .i64 (a.getD 0 0))) ∧ ∃ v' a', Hp p B w' v' a' ∧ Heap a' a'.length ∧ a'.length + 1 = a.length ∧ (∀ y, a'.count y + (if a.getD 0 0 = y then 1 else 0) = a.count y) ∧ Off (fun i => i = p ∨ v.ownBlock = some i) w w' ∧ v'.ownBlock = v.ownBlock

set_option maxHeartbeats 400000 in
set_option maxRecDepth 100000 in
theorem hpush_any (a : List Int) (p B : Nat) (x : Int) (v : Value) (w : World) (h : Hp p B w v a) (hh : Heap a a.length) (hB : B ≤ w.heap.size) (hl : a.length < 1000000000) :
    Calls Tryz.prog 77 #[hpI p, .iface 3 (.int .i64 x)] w (PushP p B v a x w) := by
  obtain ⟨ad, c, rfl⟩ := h.row.form
  obtain ⟨n, hn⟩ : ∃ n, n = a.length := ⟨_, rfl⟩
  have hrow := h.row
  have hcell := h.cell
  rw [← hn] at hrow hcell hl ⊢
  have HB := Lib.hid (push_begin (x := x) hh)
  have HN := Lib.hid hn
  have mp := methPush ⟨p, 0, none⟩ w
  have RC := Lib.hid (rpush_any a p B n c ad x w (by omega) hcell h.fro hrow h.lt hB)
  have HLT := Lib.hid h.lt
  have hcell1 := Lib.hid hcell
  have hpl := h.box
  have hfz := Lib.hid h.fro
  have hnz : Hid (¬ (Value.slice ad n c).ownBlock = some p) := Lib.hid fun e => by have := (hrow.lt p e).1; have := h.lt; omega
  clear h hh hrow hcell hn
  go_enter Tryz.func77, Tryz.ntmps77
  go_wp2_with fail
  refine RC.out.mono ?_
  rintro e w' ⟨rfl, v', w1, d, rfl, hr1, ho1, hw1⟩
  obtain ⟨a1, c1, rfl⟩ := hr1.form
  have k1 : w1.cell? ⟨p, 0, none⟩ = some (.slice ad n c) := (ho1.cell (p := ⟨p, 0, none⟩) hpl hnz.out).trans hcell1.out
  have k2 : w1.frozen? ⟨p, 0, none⟩ = false := (ho1.frozen (p := ⟨p, 0, none⟩) hpl hnz.out).trans hfz.out
  have hp2 : Hp p B ((w1.setCell ⟨p, 0, none⟩ (.slice a1 (n + 1) c1)).drewN d) (.slice a1 (n + 1) c1) (a ++ [x]) := by
    refine (Hp.store k1 k2 HLT.out ?_).drewN
    rw [List.length_append, ← HN.out]
    have : iv (a ++ [x]) = iv a ++ [.int .i64 x] := by simp [iv]
    rw [this]
    exact hr1
  have ho2 : Off (fun i => i = p ∨ (Value.slice ad n c).ownBlock = some i) w ((w1.setCell ⟨p, 0, none⟩ (.slice a1 (n + 1) c1)).drewN d) := ((ho1.mono fun i hi => .inr hi).setCell (p := ⟨p, 0, none⟩) (.inr (.inl rfl)) _).drewN
  obtain ⟨wx, hwx⟩ : ∃ wx, wx = (w1.setCell ⟨p, 0, none⟩ (.slice a1 (n + 1) c1)).drewN d := ⟨_, rfl⟩
  rw [← hwx] at hp2 ho2 ⊢
  have ml := methLen hp2.cell
  have LE := Lib.hid (len_any a1 (n + 1) c1 wx)
  have hle : (a ++ [x]).length = n + 1 := by rw [List.length_append, List.length_singleton, ← HN.out]
  have UP := up_any (a ++ [x]) p B n wx _ hp2 (by rw [hle, HN.out]; exact HB.out) (by rw [hle]; omega) (by rw [hle]; omega)
  rw [hle] at UP
  clear hle
  have HUP := Lib.hid UP
  have HO2 := Lib.hid ho2
  have HW1 := Lib.hid hw1
  clear hr1 ho1 hw1 k1 k2 hp2 ho2 hwx UP
  go_wp2_with fail
  refine LE.out.mono ?_
  rintro e w3 ⟨rfl, rfl⟩
  go_wp2_with fail
  refine HUP.out.mono ?_
  rintro e w4 ⟨rfl, a', hp4, hh4, hl4, hc4, ho4⟩
  go_wp2_with fail
  go_end0
  refine ⟨rfl, _, a', hp4, hh4, by rw [hl4, ← HN.out], fun y => ?_, ?_, HW1.out⟩
  · rw [hc4, List.count_append, List.count_singleton]
    by_cases e : x = y <;> simp [e]
  · refine HO2.out.trans' ho4 (fun i hi hi2 => .inr ?_)
    rcases HW1.out with h | ⟨k, h, hk⟩
    · rw [← h]; exact hi2
    · rw [h] at hi2; injection hi2 with hi2; omega

set_option maxHeartbeats 400000 in
set_option maxRecDepth 100000 in
theorem hpop_any (a : List Int) (p B : Nat) (v : Value) (w : World) (h : Hp p B w v a) (hh : Heap a a.length) (h0 : 0 < a.length) (hl : a.length ≤ 1000000000) :
    Calls Tryz.prog 75 #[hpI p] w (PopP p B v a w) := by
  obtain ⟨b, c, rfl, hB, hbl, hnc, hcm, hcell⟩ := h.at h0
  obtain ⟨m, hm⟩ : ∃ m, a.length = m + 1 := ⟨a.length - 1, by omega⟩
  rw [hm] at h hh h0 hl hnc hcell ⊢
  have ml := methLen h.cell
  have LE := Lib.hid (len_any (some ⟨b, 0, none⟩) (m + 1) c w)
  have mS := methSwap h.cell
  have hp' := h
  rw [← hm] at hp'
  have hsw := hp'.swap (i := 0) (j := m) (by omega) (by omega)
  rw [swapL_len, hm] at hsw
  have SW : Calls Tryz.prog 140 #[.slice (some ⟨b, 0, none⟩) (m + 1) c, .int .i64 0, .int .i64 (m : Nat)] w fun e w' => e = .returned (.tuple #[]) ∧ Hp p B w' (.slice (some ⟨b, 0, none⟩) (m + 1) c) (swapL a 0 m) ∧ Off (fun i => i = b) w w' := by
    refine (swap_any a b (m + 1) c 0 m w hm.symm hnc hcm (by omega) (by omega) (hcell 0 (by omega)).1 (hcell m (by omega)).1 (hcell 0 (by omega)).2 (hcell m (by omega)).2).mono ?_
    rintro e w' ⟨rfl, q, rfl⟩
    exact ⟨rfl, hsw.1.drewN, hsw.2.drewN⟩
  have HSW := Lib.hid SW
  have HBG := Lib.hid (pop_begin (a := a) (n := m) (by omega) hh)
  have HLA := Lib.hid (pop_last (a := a) (n := m) (by omega))
  have HM := Lib.hid hm
  have HLS := Lib.hid ((swapL_len a 0 m).trans hm)
  have HCS := Lib.hid (fun x => swapL_count (a := a) (i := 0) (j := m) (by omega) (by omega) x)
  clear hp' hsw SW hcell h hh hm
  go_enter Tryz.func75, Tryz.ntmps75
  go_wp2_with fail
  refine LE.out.mono ?_
  rintro e w1 ⟨rfl, rfl⟩
  go_wp2_with fail
  refine HSW.out.mono ?_
  rintro e w2 ⟨rfl, hp2, ho2⟩
  have DW := Lib.hid (down_any (swapL a 0 m) p B b (m + 1) c m 0 w2 hp2 HBG.out HLS.out (by omega) (by omega) hnc hcm hl)
  have HO2 := Lib.hid ho2
  clear hp2 ho2
  go_wp2_with fail
  refine DW.out.mono ?_
  rintro e w3 ⟨bl, a3, rfl, hp3, hh3, hl3, hc3, hk3, ho3⟩
  have mp := methPop ⟨p, 0, none⟩ w3
  have hlast : a3.getD m 0 = a.getD 0 0 := (hk3 m (Nat.le_refl _)).trans HLA.out
  obtain ⟨he, hcc⟩ := pop_end hl3 hh3 (fun x => (hc3 x).trans (HCS.out x)) hlast
  have RP := rpop_any a3 p b m c w3 hnc hcm hp3.cell hp3.fro (hp3.cells hl3 m (by omega)).1
  rw [hlast] at RP
  have hp4 : ∀ d, Hp p B ((w3.setCell ⟨p, 0, none⟩ (.slice (some ⟨b, 0, none⟩) m c)).drewN d) (.slice (some ⟨b, 0, none⟩) m c) (a3.take m) := fun d => by
    refine (Hp.store hp3.cell hp3.fro hp3.lt ?_).drewN
    rw [List.length_take, hl3, Nat.min_eq_left (by omega), ← iv_take]
    have := hp3.row
    rw [hl3] at this
    exact this.front (by omega)
  have ho4 : ∀ d, Off (fun i => i = p ∨ (Value.slice (some ⟨b, 0, none⟩) (m + 1) c).ownBlock = some i) w1 ((w3.setCell ⟨p, 0, none⟩ (.slice (some ⟨b, 0, none⟩) m c)).drewN d) := fun d =>
    ((((HO2.out.trans ho3).mono fun i hi => .inr (by rw [hi]; rfl))).setCell (p := ⟨p, 0, none⟩) (.inr (.inl rfl)) _).drewN
  have HRP := Lib.hid RP
  have HP4 := Lib.hid hp4
  have HO4 := Lib.hid ho4
  have HE := Lib.hid he
  have HCC := Lib.hid hcc
  have HL3 := Lib.hid hl3
  clear RP hp4 ho4 he hcc hp3 hh3 hc3 hk3 ho3 hlast hl3
  go_wp2_with fail
  refine HRP.out.mono ?_
  rintro e w5 ⟨rfl, d, rfl⟩
  go_wp2_with fail
  go_ret
  exact ⟨rfl, _, _, HP4.out d, HE.out, by rw [List.length_take, HL3.out]; have := HM.out; omega, HCC.out, HO4.out d, rfl⟩
end Go.Proofs.YtfpepoebammeoaaGreat
