/- Of package sector: New. -/
import Derived.Test.YtbicecbcloellaaSecR
import Derived.Deep.OwnRows
set_option linter.unusedVariables false
set_option linter.unusedSimpArgs false
namespace Go.Proofs.Ytbicecbcloellaa
open Go.ChangeShapes Go.WideShapes Go.ChangeAt Go.RowKit

theorem infoStr : (Try.prog.info? 9).map (fun i => (i.zero, i.size, i.bytes)) = some (some (.string ByteArray.empty), 1, 16) := by kernel_rfl
abbrev mkS (n : Nat) : Obj := .cells (madeCells #[.string ByteArray.empty] n) 9
abbrev boxD (n bs bh : Nat) : Obj := .cells #[.slice (some ⟨bs, 0, none⟩) n n, .slice (some ⟨bh, 0, none⟩) n n, .slice none 0 0, .int .i64 (-1), .bool false] 46
theorem made_str {w : World} {n : Nat} (hn : n ≤ 1000000) : Row 1 0 (w.alloc (mkS n)) (.slice (some ⟨w.heap.size, 0, none⟩) n n) n (sv (List.replicate n ByteArray.empty)) :=
  row_new (Nat.zero_le _) (by simp) (Nat.le_refl _) (by unfold maxLen; omega) (by simp [size_madeCells]) (.inl rfl) (fun j u hu => by
    have hj : j < n := by have := (List.getElem?_eq_some_iff.1 hu).1; simpa using this
    rw [sv, List.map_replicate, List.getElem?_replicate, if_pos hj] at hu
    cases hu
    simp [madeCells, hj, Nat.mod_one])
theorem new_dx {w : World} {n bs bh : Nat} (h1 : 1 ≤ n) (h2 : n ≤ 4096) (hb : (bs = w.heap.size ∧ bh = w.heap.size + 1) ∨ (bs = w.heap.size + 1 ∧ bh = w.heap.size)) :
    DX (fun i => w.heap.size ≤ i ∧ i < w.heap.size + 3) (((w.alloc (mkS n)).alloc (mkS n)).alloc (boxD n bs bh)) (w.heap.size + 2) (newD n) := by
  have s1 : (w.alloc (mkS n)).heap.size = w.heap.size + 1 := by simp
  have s2 : ((w.alloc (mkS n)).alloc (mkS n)).heap.size = w.heap.size + 2 := by simp
  have s3 : (((w.alloc (mkS n)).alloc (mkS n)).alloc (boxD n bs bh)).heap.size = w.heap.size + 3 := by simp
  have hl : (newD n).sure.length = n := by show (List.replicate _ _).length = n; simp
  have rA : Row 1 0 (((w.alloc (mkS n)).alloc (mkS n)).alloc (boxD n bs bh)) (.slice (some ⟨w.heap.size, 0, none⟩) n n) n (sv (List.replicate n ByteArray.empty)) := ((made_str (by omega)).alloc _).alloc _
  have rB : Row 1 0 (((w.alloc (mkS n)).alloc (mkS n)).alloc (boxD n bs bh)) (.slice (some ⟨w.heap.size + 1, 0, none⟩) n n) n (sv (List.replicate n ByteArray.empty)) := by
    have := (made_str (w := w.alloc (mkS n)) (n := n) (by omega)).alloc (boxD n bs bh)
    rw [s1] at this
    exact this
  have hc : ∀ j u, (#[Value.slice (some ⟨bs, 0, none⟩) n n, .slice (some ⟨bh, 0, none⟩) n n, .slice none 0 0, .int .i64 (-1), .bool false] : Array Value)[j]? = some u → (((w.alloc (mkS n)).alloc (mkS n)).alloc (boxD n bs bh)).cell? ⟨w.heap.size + 2, j, none⟩ = some u := fun j u h => by
    rw [show (⟨w.heap.size + 2, j, none⟩ : Addr) = ⟨((w.alloc (mkS n)).alloc (mkS n)).heap.size, j, none⟩ by rw [s2], World.cell?_alloc_at _ _ _ _ rfl]
    exact h
  refine ⟨bs, bh, .slice none 0 0, new_ok h1 h2, fun i hi => by rw [s3]; exact hi.2, ⟨by omega, by omega⟩, by omega, by omega, fun b hb => (by cases hb), by omega, by omega, by omega, fun b hb => (by cases hb), by rw [hl]; exact hc 0 _ rfl, by rw [hl]; exact hc 1 _ rfl, hc 2 _ rfl, hc 3 _ rfl, hc 4 _ rfl,
    fun j hj => ?_, ?_, ?_, Row.nil _ _ _⟩
  · rw [show (⟨w.heap.size + 2, j, none⟩ : Addr) = ⟨((w.alloc (mkS n)).alloc (mkS n)).heap.size, j, none⟩ by rw [s2]]
    exact World.frozen?_alloc_at _ _ _ _ rfl
  · rw [hl]
    rcases hb with ⟨rfl, _⟩ | ⟨rfl, _⟩
    · exact rA
    · exact rB
  · rw [hl]
    show Row 1 0 _ _ n (sv (List.replicate n ByteArray.empty))
    rcases hb with ⟨_, rfl⟩ | ⟨_, rfl⟩
    · exact rB
    · exact rA
/-- What New leaves where it makes a disk. -/
def NewP (n : Nat) (w : World) (e : Ending) (w' : World) : Prop := ∃ p, e = .returned (.tuple #[.pointer (some ⟨p, 0, none⟩), .nilIface]) ∧ (∃ Z, DX Z w' p (newD n) ∧ ∀ i, Z i → w.heap.size ≤ i) ∧ Below w.heap.size w w'
set_option maxRecDepth 100000 in
theorem snew_ok (n : Nat) (w : World) (h1 : 1 ≤ n) (h2 : n ≤ 4096) : Calls Try.prog 5 #[.int .i64 (n : Int)] w fun e w' => NewP n w e w' := by
  have mk1 := run_make_row' (P := Try.prog) 43 9 (.string ByteArray.empty) 16 Try.underlying43 infoStr rfl .i64 .i64 n (by omega) (by omega)
  have hb1 : decide ((n : Int) < 1) = false := decide_eq_false (by omega)
  have hb2 : decide ((4096 : Int) < (n : Int)) = false := decide_eq_false (by omega)
  have HA := Lib.hid (fun (a b : Nat) (h : (a = w.heap.size ∧ b = w.heap.size + 1) ∨ (a = w.heap.size + 1 ∧ b = w.heap.size)) => (show NewP n w (.returned (.tuple #[.pointer (some ⟨w.heap.size + 2, 0, none⟩), .nilIface])) (((w.alloc (mkS n)).alloc (mkS n)).alloc (boxD n a b)).drew from ⟨_, rfl, ⟨_, (new_dx h1 h2 h).below (Below.refl _ _).drew, fun i hi => hi.1⟩, ((((Below.refl _ _).alloc (Nat.le_refl _) _).alloc (by simp) _).alloc (by simp; omega) _).drew⟩))
  go_enter Try.func5, Try.ntmps5
  go_wp2_with fail
  go_region
  all_goals
    go_wp2_with fail
    go_ret2
    first | exact HA.out _ _ (.inl ⟨rfl, rfl⟩) | exact HA.out _ _ (.inr ⟨rfl, rfl⟩)
theorem snew_bad (n : Int) (w : World) (h : n < 1 ∨ 4096 < n) : Calls Try.prog 5 #[.int .i64 n] w fun e w' => e = .returned (.tuple #[.pointer none, errS 1]) ∧ w' = w := by
  by_cases h1 : n < 1
  · go_enter Try.func5, Try.ntmps5
    go_wp2_with fail
    go_ret2
    exact ⟨rfl, rfl⟩
  · have hb2 : decide ((4096 : Int) < n) = true := decide_eq_true (by omega)
    have hb1 : decide (n < 1) = false := decide_eq_false (by omega)
    go_enter Try.func5, Try.ntmps5
    go_wp2_with fail
    go_ret2
    exact ⟨rfl, rfl⟩
end Go.Proofs.Ytbicecbcloellaa
