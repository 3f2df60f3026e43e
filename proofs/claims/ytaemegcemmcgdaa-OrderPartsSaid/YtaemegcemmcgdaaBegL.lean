/- What OrderBegins calls, put together: parts that are told; a list's beginning; the rest without a head. -/
import Derived.Test.YtaemegcemmcgdaaBegM
import Derived.Test.YtaemegcemmcgdaaSmallL
import Derived.Test.YtaemegcemmcgdaaAwakeO
set_option linter.unusedVariables false
namespace Go.Proofs.Ytaemegcemmcgdaa
open Go.ChangeShapes Go.WideShapes Go.ChangeAt Go.RowKit

theorem neHeld (k : Int) (w : World) : (binOp .neq 27 (.iface 57 (.int .i64 k)) .nilIface).run Try.prog w = .ok (.bool true) w := by kernel_rfl
theorem Reads.front {w : World} {a : Option Addr} {n c m : Nat} {xs : Lb} (h : Reads w (.slice a n c) xs) (hm : m ≤ n) : Reads w (.slice a m c) (xs.take m) := by
  by_cases h0 : xs.take m = []
  · rw [h0]
    have : m = 0 ∨ xs = [] := List.take_eq_nil_iff.1 h0 |>.symm.imp id id |>.symm |> fun h => by rcases h with h | h; exact .inl h; exact .inr h
    rcases this with rfl | rfl
    · exact .inl ⟨rfl, a, c, rfl⟩
    · rcases h with ⟨_, a', c', e⟩ | ⟨hn, _⟩
      · simp only [Value.slice.injEq] at e
        obtain ⟨rfl, rfl, rfl⟩ := e
        obtain rfl : m = 0 := by omega
        exact .inl ⟨rfl, a, c, rfl⟩
      · exact absurd rfl hn
  · rcases h with ⟨rfl, _⟩ | ⟨hn, b, o, c', e, hc, hmx, hl, hx⟩
    · simp at h0
    · simp only [Value.slice.injEq] at e
      obtain ⟨rfl, rfl, rfl⟩ := e
      have hl2 : (xs.take m).length = m := by rw [List.length_take]; omega
      refine .inr ⟨h0, b, o, c, by rw [hl2], by rw [hl2]; omega, hmx, hl, fun j x hj => ?_⟩
      rw [List.getElem?_take] at hj
      split at hj
      · exact hx j x hj
      · cases hj
/-- The rest without one name. -/
def restL (ls : Lb) (h : ByteArray) (i : Nat) : Lb := (ls.take i).filter fun s => decide (bsOf s ≠ bsOf h)
theorem restL_step {ls : Lb} {h s : ByteArray} {i : Nat} (hs : ls[i]? = some s) : restL ls h (i + 1) = restL ls h i ++ if bsOf s ≠ bsOf h then [s] else [] := by
  unfold restL
  rw [List.take_add_one, hs, List.filter_append]
  congr 1
  by_cases e : bsOf s ≠ bsOf h <;> simp [e]
theorem restL_len (ls : Lb) (h : ByteArray) (i : Nat) : (restL ls h i).length ≤ i := Nat.le_trans (List.length_filter_le _ _) (by rw [List.length_take]; omega)
theorem restL_bs (ls : Lb) (h : ByteArray) : (restL ls h ls.length).map bsOf = (ls.map bsOf).filter fun b => decide (b ≠ bsOf h) := by
  unfold restL
  rw [List.take_length, List.filter_map]
  rfl
theorem lin_err {S : SetB} {out : Lb} {k : Int} (h : LinR S out k) (hk : k ≠ 0) : out = [] := by
  rcases h with ⟨_, h, _⟩ | ⟨_, _, _, _, ⟨_, h, _⟩ | ⟨_, _, h⟩⟩
  · exact h
  · exact h
  · exact absurd h hk
/-- A part's making, by names. -/
def PartQ (S : SetB) (ls : Lb) (w : World) (e : Ending) (w' : World) : Prop := ∃ a c, e = .returned (.slice a (partS S (fun b => b ∈ ls.map bsOf)).length c) ∧ SReads w' (.slice a (partS S (fun b => b ∈ ls.map bsOf)).length c) (partS S (fun b => b ∈ ls.map bsOf)) ∧ Below w.heap.size w w'
theorem part_q (S : SetB) (ls : Lb) (v lv : Value) (q : Nat) (w : World) (hS : SReads w v S) (hl : Reads w lv ls) (hq : w.cell? ⟨q, 0, none⟩ = some v) (hn : S.length ≤ 60) :
    Calls Try.prog 12 #[lv, .pointer (some ⟨q, 0, none⟩)] w (PartQ S ls w) := by
  refine (part_any S ls v lv q w hS hl hq hn).mono ?_
  rintro e w' ⟨ov, rfl, hr, hb⟩
  rw [listed_part] at hr
  obtain ⟨a, c, rfl, _⟩ := hr.form
  exact ⟨a, c, rfl, hr, hb⟩
theorem check_ok {S : SetB} {lb : List Bs} {Q : Bs → Prop} (h : LinOk S lb) (hs : SmallS S) (hQ : ∀ p ∈ S, Q (bsOf p.1) → ∀ d ∈ p.2, Q (bsOf d)) (v : Value) (w : World) (hr : SReads w v (partS S Q)) :
    Calls Try.prog 16 #[v] w fun e w' => e = .returned .nilIface ∧ Below w.heap.size w w' := by
  refine (check_any _ v w hr (small_part hs)).mono ?_
  rintro e w' ⟨out, k, rfl, hlin, hb⟩
  obtain rfl := part_lin h hQ hlin
  exact ⟨rfl, hb⟩
end Go.Proofs.Ytaemegcemmcgdaa
