/- The contract of the program's Write. -/
import Derived.Test.YtapplhoglmihbaaDoorWForm
import Derived.Test.YtapplhoglmihbaaDoorRdText
set_option linter.unusedVariables false
namespace Go.Proofs.YtapplhoglmihbaaDoor
open Go.ChangeShapes Go.WideShapes Go.ChangeAt Go.RowKit

/-- string(b). -/
theorem row_string {B n : Nat} {P : Program} {w : World} {v : Value} {l : List UInt8} (h : Row 1 B w v n (bcs l)) (src dst e : TypeId) (hs : P.underlying src = some (.slice e)) (he : P.underlying e = some (.int .u8)) (hd : P.underlying dst = some .string) :
    (convert src dst v).run P w = .ok (.string (tx l)) w := by
  obtain ⟨h0, ⟨rfl, rfl⟩ | ⟨b, cap, rfl, h2, h3, h4, h5, h6, h7⟩⟩ := h
  · have : l = [] := by
      have := h0
      rw [bcs_len] at this
      exact List.length_eq_zero_iff.1 (by omega)
    subst this
    rw [run_convert_bytes_string w src dst e none 0 0 hs he hd]
    rfl
  · have hn : n = l.length := by rw [bcs_len] at h0; omega
    subst hn
    refine run_convert_bytes_back w src dst e ⟨b, 0, none⟩ cap l hs he hd (fun j hj => ?_)
    have e2 : (⟨b, 0, none⟩ : Addr).add j = ⟨b, j, none⟩ := by unfold Addr.add; split <;> simp_all
    rw [e2]
    refine h7 j _ ?_
    rw [bcs, List.getElem?_map, List.getElem?_eq_getElem hj]
    rfl

abbrev errW (k : Int) : Value := .iface 56 (.int .i64 k)

/-- What sound leaves: a bool, and all memory as it was. -/
def SoundP (P : Bool → Prop) (w : World) (e : Ending) (w' : World) : Prop := ∃ r : Bool, e = .returned (.bool r) ∧ P r ∧ Below w.heap.size w w'

/-- What Write leaves. -/
def WriteP (T : Tm) (P : Bool → Prop) (w : World) (e : Ending) (w' : World) : Prop :=
  Below w.heap.size w w' ∧ ((CanW 0 [] T ∧ e = .returned (.tuple #[.string (tx T.bytes), .nilIface])) ∨ (¬ CanW 0 [] T ∧ ∃ r : Bool, P r ∧ e = .returned (.tuple #[.string ⟨#[]⟩, errW (if r then 2 else 1)])))

set_option maxHeartbeats 2000000 in
set_option maxRecDepth 100000 in
theorem write_any (l : Bool) (t : ByteArray) (ys : List Tm) (Z : Nat → Prop) (P : Bool → Prop) (w : World) (a : Option Addr) (c : Nat) (hsl : SlL Z w (.slice a ys.length c) ys) (hts : t.size ≤ 140737488355328) (hz : ∀ i, Z i → i < w.heap.size) (htab : HasTab w)
    (hsound : ¬ CanW 0 [] (.mk l t ys) → ∀ wz, Below w.heap.size w wz → Calls Tryd.prog 25 #[fv l t (.slice a ys.length c)] wz (SoundP P wz)) :
    Calls Tryd.prog 10 #[fv l t (.slice a ys.length c)] w (WriteP (.mk l t ys) P w) := by
  obtain ⟨n, hn⟩ : ∃ n, n = ys.length := ⟨_, rfl⟩
  have hlt := htab.lt
  have hc : Calls Tryd.prog 24 #[.pointer (some ⟨w.heap.size + 1, 0, none⟩), fv l t (.slice a n c), .int .i64 0] ((w.alloc (.cells #[.bool l, .string t, .slice a n c] 24)).alloc (.cells #[.slice none 0 0] 54)) (FormP (.mk l t ys) (w.heap.size + 1) (.slice none 0 0) [] 0 ((w.alloc (.cells #[.bool l, .string t, .slice a n c] 24)).alloc (.cells #[.slice none 0 0] 54))) := by
    have hb : ∀ o1 o2, Below w.heap.size w ((w.alloc o1).alloc o2) := fun o1 o2 => ((Below.refl _ _).alloc (Nat.le_refl _) _).alloc (by simp) _
    rw [hn]
    refine wform_any _ l t ys rfl Z _ a c (w.heap.size + 1) (.slice none 0 0) [] 0 (hsl.keep (hb _ _)) hts (fun i hi => by have := hz i hi; omega) ⟨Row.nil _ _ _, ?_, ?_, by simp⟩ (htab.below (hb _ _)) (by omega) (by omega)
    · exact (World.cell?_alloc_at _ _ _ _ (by simp)).trans rfl
    · exact World.frozen?_alloc_at _ _ _ _ (by simp)
  rw [← hn] at hsound ⊢
  have HC := Lib.hid hc
  have HS := Lib.hid hsound
  clear hc hsound hsl htab hn hz
  go_enter Tryd.func10, Tryd.ntmps10
  go_wp2_with fail
  refine HC.out.mono ?_
  rintro e w1 ⟨r, v', out', rfl, hw, ho, hy, hn⟩
  have hoff : Off (· = w.heap.size + 1) ((w.alloc (.cells #[.bool l, .string t, .slice a n c] 24)).alloc (.cells #[.slice none 0 0] 54)) w1 := ho.off.mono fun i h => by
    rcases h with h | h
    · exact h
    · cases h
  have hlt2 : w.heap.size < ((w.alloc (.cells #[.bool l, .string t, .slice a n c] 24)).alloc (.cells #[.slice none 0 0] 54)).heap.size := by simp; omega
  have hbx : ((w.alloc (.cells #[.bool l, .string t, .slice a n c] 24)).alloc (.cells #[.slice none 0 0] 54)).heap[w.heap.size]? = (w.alloc (.cells #[.bool l, .string t, .slice a n c] 24)).heap[w.heap.size]? := Below.heap_alloc _ _ _ (by simp)
  have hcell : ∀ j, w1.cell? ⟨w.heap.size, j, none⟩ = #[.bool l, .string t, .slice a n c][j]? := fun j => (hoff.cell (p := ⟨w.heap.size, j, none⟩) hlt2 (by show ¬ w.heap.size = _; omega)).trans ((World.cell?_of_block (a := ⟨w.heap.size, j, none⟩) hbx).trans (World.cell?_alloc_at _ _ _ _ rfl))
  have k1 : w1.cell? ⟨w.heap.size, 0, none⟩ = some (.bool l) := hcell 0
  have k2 : w1.cell? ⟨w.heap.size, 1, none⟩ = some (.string t) := hcell 1
  have k3 : w1.cell? ⟨w.heap.size, 2, none⟩ = some (.slice a n c) := hcell 2
  have hb : Below w.heap.size w w1 := (((Below.refl _ _).alloc (Nat.le_refl _) _).alloc (by simp) _).trans (hoff.below (fun i hi => by omega) (by simp; omega))
  have hst := row_string hw.row 52 9 5 Tryd.underlying52 Tryd.underlying5 Tryd.underlying9
  have k4 := hw.cell
  have HB := Lib.hid hb
  have HY := Lib.hid hy
  have HN := Lib.hid hn
  clear hw ho hoff hlt2 hbx hcell hb hy hn
  cases r with
  | true =>
    obtain ⟨h1, h2⟩ := HY.out rfl
    have hw2 : out' = (Tm.mk l t ys).bytes := by rw [h2]; rfl
    rw [hw2] at hst
    obtain ⟨X, hX⟩ : ∃ X, X = (Tm.mk l t ys).bytes := ⟨_, rfl⟩
    rw [← hX] at hst
    have HX := Lib.hid hX
    have H1 := Lib.hid h1
    clear h1 h2 hw2 hX HY HN
    go_wp2_with fail
    go_ret2
    exact ⟨HB.out, .inl ⟨H1.out, by rw [← HX.out]; rfl⟩⟩
  | false =>
    have hno := HN.out rfl
    have HNO := Lib.hid hno
    clear hno HY HN hst k4
    go_wp2_with fail
    refine (HS.out HNO.out _ HB.out).mono ?_
    rintro e w2 ⟨q, rfl, hq, hb2⟩
    have HQ := Lib.hid hq
    have HB2 := Lib.hid (HB.out.trans (hb2.mono HB.out.size))
    clear hq hb2
    cases q with
    | true =>
      go_wp2_with fail
      go_ret2
      exact ⟨HB2.out, .inr ⟨HNO.out, true, HQ.out, rfl⟩⟩
    | false =>
      go_wp2_with fail
      go_ret2
      exact ⟨HB2.out, .inr ⟨HNO.out, false, HQ.out, rfl⟩⟩
end Go.Proofs.YtapplhoglmihbaaDoor
