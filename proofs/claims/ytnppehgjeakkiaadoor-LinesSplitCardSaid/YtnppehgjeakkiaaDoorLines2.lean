/- The contracts of Join, Marker and of their reference; awake. -/
import Derived.Test.YtnppehgjeakkiaaDoorLines
set_option linter.unusedVariables false
namespace Go.Proofs.YtnppehgjeakkiaaDoor
open Go.ChangeShapes Go.WideShapes Go.ChangeAt Go.RowKit

def bjoin (xs : List ByteArray) : ByteArray := mkB (Lib.join (xs.map (·.data.toList)) [10])
theorem bjoin_bsp (s : ByteArray) : bjoin (bsp s) = s := by unfold bjoin; rw [data_bsp, join_spl, mkB_data]
theorem bjoin_nil : bjoin [] = ⟨#[]⟩ := rfl
theorem bsp_bjoin (xs : List ByteArray) (h : xs ≠ []) (hp : ∀ x ∈ xs, 10 ∉ x.data.toList) : bsp (bjoin xs) = xs := by
  unfold bsp bjoin
  rw [data_mkB, spl_join _ (by simpa using h) (by simpa using hp), List.map_map]
  have e : (mkB ∘ fun x : ByteArray => x.data.toList) = id := by funext x; exact mkB_data x
  rw [e, List.map_id]

/-- How long the whole is. -/
def jlen (xs : List ByteArray) : Nat := (xs.map ByteArray.size).sum + xs.length
theorem lens_map (xs : List ByteArray) : Lib.lens (xs.map (·.data.toList)) = (xs.map ByteArray.size).sum := by
  unfold Lib.lens
  rw [List.map_map]
  congr 1
theorem join_le (xs : List ByteArray) : (Lib.join (xs.map (·.data.toList)) [10]).length ≤ jlen xs := by
  cases xs with
  | nil => simp [Lib.join_nil, jlen]
  | cons x r =>
    rw [List.map_cons, Lib.join_length, ← List.map_cons (f := fun x : ByteArray => x.data.toList), lens_map]
    simp only [jlen, List.map_cons, List.sum_cons, List.length_cons, List.length_map, List.length_nil]
    omega

/-- lines.Join. -/
theorem ljoin_any (xs : List ByteArray) (v : Value) (w : World) (hx : Reads w v xs) (hl : (Lib.join (xs.map (·.data.toList)) [10]).length ≤ 140737488355328) (hn : xs.length ≤ 140737488355328) :
    Calls Tryd.prog 11 #[v] w fun e w' => e = .returned (.string (bjoin xs)) ∧ Below w.heap.size w w' := by
  rcases hx with ⟨rfl, a, c, rfl⟩ | ⟨hne, b, o, c, rfl, hc, hm, hb, hx⟩
  · go_enter Tryd.func11, Tryd.ntmps11
    go_wp2_with fail
    refine (Tryd.strings_Join_none a c ⟨#[10]⟩ _).mono ?_
    rintro e w' ⟨rfl, rfl⟩
    go_wp2
    go_ret
    exact ⟨rfl, Below.refl _ _⟩
  · have hj := Tryd.strings_Join b o c xs ⟨#[10]⟩ w hx hb hn hc hl
    have HJ := Lib.hid hj
    clear hj
    go_enter Tryd.func11, Tryd.ntmps11
    go_wp2_with fail
    refine HJ.out.mono ?_
    rintro e w' ⟨rfl, hb'⟩
    go_wp2
    go_ret
    exact ⟨rfl, hb'⟩

def mk (l : List UInt8) : Bool := decide (7 ≤ l.length) && (l.take 7 == [62, 62, 62, 62, 62, 62, 62] || l.take 7 == [61, 61, 61, 61, 61, 61, 61] || l.take 7 == [60, 60, 60, 60, 60, 60, 60])

theorem ext7 (s : ByteArray) : (s.extract 0 7).toList = s.data.toList.take 7 := by
  rw [ByteArray.toList_eq, Lib.extract_data]; simp

theorem mk_short (l : List UInt8) (h : l.length < 7) : mk l = false := by
  have : ¬ 7 ≤ l.length := by omega
  simp [mk, this]
theorem mk_yes (l : List UInt8) (h : 7 ≤ l.length) (e : (l.take 7 == [62, 62, 62, 62, 62, 62, 62]) = true ∨ (l.take 7 == [61, 61, 61, 61, 61, 61, 61]) = true ∨ (l.take 7 == [60, 60, 60, 60, 60, 60, 60]) = true) : mk l = true := by
  unfold mk
  rcases e with e | e | e <;> simp only [e, h, decide_true, Bool.or_true, Bool.true_or, Bool.true_and]
theorem mk_no (l : List UInt8) (e1 : (l.take 7 == [62, 62, 62, 62, 62, 62, 62]) = false) (e2 : (l.take 7 == [61, 61, 61, 61, 61, 61, 61]) = false) (e3 : (l.take 7 == [60, 60, 60, 60, 60, 60, 60]) = false) : mk l = false := by
  unfold mk
  simp only [e1, e2, e3, Bool.or_false, Bool.and_false]

set_option maxHeartbeats 400000 in
theorem marker_any (s : ByteArray) (w : World) (hs : s.size ≤ 9223372036854775807) :
    Calls Tryd.prog 16 #[.string s] w fun e w' => e = .returned (.bool (mk s.data.toList)) ∧ w' = w := by
  have hl : s.data.toList.length = s.size := Array.length_toList
  have HL := Lib.hid hl
  clear hl
  go_enter Tryd.func16, Tryd.ntmps16
  go_wp2
  all_goals go_ret
  all_goals refine ⟨ret_bool ?_, rfl⟩
  · exact (mk_short _ (by have := HL.out; omega)).symm
  · exact (mk_yes _ (by have := HL.out; omega) (.inl (by rw [← ext7]; assumption))).symm
  · exact (mk_yes _ (by have := HL.out; omega) (.inr (.inl (by rw [← ext7]; assumption)))).symm
  · exact (mk_yes _ (by have := HL.out; omega) (.inr (.inr (by rw [← ext7]; assumption)))).symm
  · exact (mk_no _ (by rw [← ext7]; assumption) (by rw [← ext7]; assumption) (by rw [← ext7]; assumption)).symm
end Go.Proofs.YtnppehgjeakkiaaDoor
