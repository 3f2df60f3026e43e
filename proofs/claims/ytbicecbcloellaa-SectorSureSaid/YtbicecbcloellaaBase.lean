/-
  Words of our own over memory that reads as lists of strings. No function of the program is named here.
-/
import Derived.Test.YtbicecbcloellaaRows
import Derived.WalkKit
import Derived.ProofKit
import Derived.OpenShut
import Derived.WalkSpells
import Derived.Outline
import Derived.BigQuiet
import Derived.Deep.QuietTactic
import Derived.Below
import Derived.Lib.Hide
import Derived.Laws.OwnMore
import Derived.OwnWalk
set_option linter.unusedVariables false
namespace Go.Proofs.Ytbicecbcloellaa
open Go.ChangeShapes Go.WideShapes Go.ChangeAt Go.RowKit

/-- From block b, offset o on the world w has the strings xs. -/
def Cells (w : World) (b o : Nat) (xs : List ByteArray) : Prop :=
  b < w.heap.size ∧ ∀ j x, xs[j]? = some x → w.cell? ⟨b, o + j, none⟩ = some (.string x)

/-- The slice value v reads, in the world w, as the strings xs. -/
def Reads (w : World) (v : Value) (xs : List ByteArray) : Prop :=
  (xs = [] ∧ ∃ a c, v = .slice a 0 c) ∨ (xs ≠ [] ∧ ∃ b o c, v = .slice (some ⟨b, o, none⟩) xs.length c ∧ xs.length ≤ c ∧ c ≤ 9223372036854775807 ∧ Cells w b o xs)

theorem Cells.below {w w' : World} {b o : Nat} {xs : List ByteArray} (h : Cells w b o xs) (hb : Below w.heap.size w w') : Cells w' b o xs :=
  ⟨Nat.lt_of_lt_of_le h.1 hb.size, fun j x hx => (hb.cell (p := ⟨b, o + j, none⟩) h.1).trans (h.2 j x hx)⟩

theorem Reads.below {w w' : World} {v : Value} {xs : List ByteArray} (h : Reads w v xs) (hb : Below w.heap.size w w') : Reads w' v xs := by
  rcases h with h | ⟨hn, b, o, c, hv, hc, hm, hx⟩
  · exact .inl h
  · exact .inr ⟨hn, b, o, c, hv, hc, hm, hx.below hb⟩

theorem Cells.drew {w : World} {b o : Nat} {xs : List ByteArray} (h : Cells w b o xs) : Cells w.drew b o xs := h
theorem Cells.drewN {w : World} {b o n : Nat} {xs : List ByteArray} (h : Cells w b o xs) : Cells (w.drewN n) b o xs := h
theorem Reads.drewN {w : World} {v : Value} {n : Nat} {xs : List ByteArray} (h : Reads w v xs) : Reads (w.drewN n) v xs := by
  rcases h with h | ⟨hn, b, o, c, hv, hc, hm, hx⟩
  · exact .inl h
  · exact .inr ⟨hn, b, o, c, hv, hc, hm, hx.drewN⟩
theorem Reads.drew {w : World} {v : Value} {xs : List ByteArray} (h : Reads w v xs) : Reads w.drew v xs := h

/-- append of one element (of 'size' cells, 'us') to a slice of the call's own: what the walk meets behind the literal of one element. -/
theorem wpList_push {P : Program} {ops : Array Oper} {rest : List Oper} {o : Oper} {a : Act} {Q : Exit → Act → World → Prop} (hgd : o.guard = none) (s x : Operand) (t : TypeId)
    (ho : o.op = .call { callee := .builtin .append, args := #[s, x], argTypes := #[t, t] })
    (base : Nat) (e : TypeId) (z : Value) (size bytes : Nat) (ht : P.underlying t = some (.slice e)) (hinfo : (P.info? e).map (fun i => (i.zero, i.size, i.bytes)) = some (some z, size, bytes)) (hzs : z.cells.size = size) (hsz : 0 < size)
    (wr : World) (v : Value) (n : Nat) (xs : List Value) (hs : a.eval s = v) (hown : wr.ownsRow base e size v n xs)
    (us : List Value) (c : Nat) (t1 : TypeId) (W : World) (hW : W = wr.alloc (.cells us.toArray t1)) (hx : a.eval x = .slice (some ⟨wr.heap.size, 0, none⟩) 1 c) (hl : us.length = size) (h1 : ∀ u ∈ us, u.oneCell' = true)
    (h63 : n + 1 ≤ 140737488355328) (hbytes : (n + 1) * bytes ≤ 140737488355328) (hbase : base ≤ wr.heap.size)
    (h : ∀ v' w', w'.ownsRow base e size v' (n + 1) (xs ++ us) → (wr.alloc (.cells us.toArray t1)).grownBy w' v.ownBlock → Below base wr w' → wpList P ops Q rest (a.put o.dst v') w') :
    wpList P ops Q (o :: rest) a W := by
  subst hW
  obtain ⟨i, hi, hz, hsize, hby⟩ := info_parts hinfo
  refine wpList_append_own _ hgd s x t ho base e i z size bytes ht hi hz hsize hby hzs hsz v n xs hs (hown.alloc _) ⟨wr.heap.size, 0, none⟩ 1 c us hx (by rw [hl]; omega) ?_ h1 (by unfold maxLen; omega) hbytes (by simp; omega) ?_
  · intro j u hj
    rw [show (⟨wr.heap.size, 0, none⟩ : Addr).add j = ⟨wr.heap.size, j, none⟩ by unfold Addr.add; split <;> simp_all, World.cell?_alloc_at _ _ _ _ rfl]
    simpa using hj
  · intro v' w' h1' h2' _
    refine h v' w' h1' h2' (((Below.refl _ _).alloc hbase _).grown h2' (by simp; omega) (fun k hk => (hown.lt k hk).1))

theorem cell_lt {w : World} {b o : Nat} {v : Value} (h : w.cell? ⟨b, o, none⟩ = some v) : b < w.heap.size := by
  rcases Nat.lt_or_ge b w.heap.size with h' | h'
  · exact h'
  · have e : w.heap[b]? = none := Array.getElem?_eq_none h'
    simp [World.cell?, e] at h

theorem Below.drewN {B n : Nat} {a w : World} (h : Below B a w) : Below B a (w.drewN n) := ⟨h.os, h.tape, h.output, h.size, h.block⟩

theorem take_succ_eq {α : Type} {xs ys : List α} {k : Nat} {x y : α} (h : xs.take k = ys.take k) (hx : xs[k]? = some x) (hy : ys[k]? = some y) (e : x = y) : xs.take (k + 1) = ys.take (k + 1) := by
  rw [List.take_add_one, List.take_add_one, h, hx, hy, e]

theorem ba_ne {x y : ByteArray} (h : (!x.toList == y.toList) = true) : x ≠ y := by
  rintro rfl
  simp at h
theorem ba_eq {x y : ByteArray} (h : (!x.toList == y.toList) = false) : x = y := by
  have h' : x.toList = y.toList := by simpa using h
  have e : x.data.toList = y.data.toList := by rw [← ByteArray.toList_eq x, ← ByteArray.toList_eq y]; exact h'
  cases x; cases y
  simp only [ByteArray.mk.injEq]
  exact Array.toList_inj.1 e

theorem ba_eq' {x y : ByteArray} (h : (x.toList == y.toList) = true) : x = y := by
  refine ba_eq ?_
  rw [h]; rfl
theorem ba_ne' {x y : ByteArray} (h : (x.toList == y.toList) = false) : x ≠ y := by
  refine ba_ne ?_
  rw [h]; rfl

theorem ret_bool {a b : Bool} (h : a = b) : Ending.returned (.bool a) = .returned (.bool b) := by rw [h]
theorem ret_int {k : IntKind} {a b : Int} (h : a = b) : Ending.returned (.int k a) = .returned (.int k b) := by rw [h]
theorem ret_str {a b : ByteArray} (h : a = b) : Ending.returned (.string a) = .returned (.string b) := by rw [h]
end Go.Proofs.Ytbicecbcloellaa
