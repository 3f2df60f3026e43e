/- What strconv.Atoi leaves, of any text: a number, or an error that is not nil. -/
import Derived.Test.YtapplhoglmihbaaDoorNumMath
import Derived.Test.YtapplhoglmihbaaDoorWText
set_option linter.unusedVariables false
namespace Go.Proofs.YtapplhoglmihbaaDoor
open Go.ChangeShapes Go.WideShapes Go.ChangeAt Go.RowKit
open Go.Lib (decDigits itoa)

theorem var_below {P : Program} {name : String} {g : Nat} (hg : P.globalNamed name = some g) {w w' : World} {vs : Array Value} (h : w.var? P name = some vs) (hb : Below w.heap.size w w') : w'.var? P name = some vs := by
  have hlt : g < w.heap.size := by
    unfold World.var? at h
    rw [hg] at h
    simp only [Option.bind_some] at h
    rcases Nat.lt_or_ge g w.heap.size with h' | h'
    · exact h'
    · rw [Array.getElem?_eq_none h'] at h; simp at h
  unfold World.var? at *
  rw [hg] at h ⊢
  simp only [Option.bind_some] at h ⊢
  rw [hb.block g hlt]
  exact h

/-- The library's two errors are some error. -/
structure HasSents (w : World) : Prop where
  bad : ∃ tp p, w.var? Tryd.prog "strconv.ErrSyntax" = some #[.iface tp p]
  range : ∃ tp p, w.var? Tryd.prog "strconv.ErrRange" = some #[.iface tp p]
theorem Tryd.synG : Tryd.prog.globalNamed "strconv.ErrSyntax" = some 1 := by kernel_rfl
theorem Tryd.ranG : Tryd.prog.globalNamed "strconv.ErrRange" = some 2 := by kernel_rfl
theorem HasSents.below {w w' : World} (h : HasSents w) (hb : Below w.heap.size w w') : HasSents w' := by
  obtain ⟨⟨t1, p1, h1⟩, t2, p2, h2⟩ := h
  exact ⟨⟨t1, p1, var_below Tryd.synG h1 hb⟩, t2, p2, var_below Tryd.ranG h2 hb⟩

/-- How Atoi ends. -/
def AtoiP (s : ByteArray) (w : World) (e : Ending) (w' : World) : Prop :=
  Below w.heap.size w w' ∧ ((∃ v, Lib.atoiAll s.data.toList = .ok v ∧ e = .returned (.tuple #[.int .i64 v, .nilIface])) ∨
    ((∀ v, Lib.atoiAll s.data.toList ≠ .ok v) ∧ ∃ k p, e = .returned (.tuple #[.int .i64 k, .iface 114 p])))

theorem atoi_any (s : ByteArray) (w : World) (hs : s.size ≤ 140737488355328) (hv : HasSents w) : Calls Tryd.prog 35 #[.string s] w (AtoiP s w) := by
  obtain ⟨⟨t1, p1, h1⟩, t2, p2, h2⟩ := hv
  cases hA : Lib.atoiAll s.data.toList
  case ok v =>
    refine (Tryd.strconv_Atoi_ok s (by omega) v hA w).mono fun e w' ⟨he, hw⟩ => ⟨?_, .inl ⟨v, hA, he⟩⟩
    rcases hw with rfl | ⟨t, rfl⟩
    · exact Below.refl _ _
    · exact Lib.bytesWorld_below _ _ _
  case range =>
    exact (Tryd.strconv_Atoi_range_var s (by omega) hA t2 p2 w h2).mono fun e w' ⟨N, he, _, _, hb⟩ => ⟨hb, .inr ⟨(fun v h => by rw [hA] at h; cases h), _, _, he⟩⟩
  · exact (Any.strconv_Atoi_syntax_var Tryd.laysC172 s (by omega) hA t1 p1 w h1).mono fun e w' ⟨N, he, _, _, hb⟩ => ⟨hb, .inr ⟨(fun v h => by rw [hA] at h; cases h), _, _, he⟩⟩

theorem not_num {s : ByteArray} (h : ∀ v, Lib.atoiAll s.data.toList ≠ .ok v) (lo hi n : Int) : ¬ isNum s lo hi n := fun g => by
  refine h n ?_
  have := atoi_itoa n g.1 g.2.1
  rw [g.2.2.1]
  exact this
end Go.Proofs.YtapplhoglmihbaaDoor
