/- Slices of bools that are read. No function of the program is named here. Small things that several texts lean on. A slice of bools within an argument, opened. -/
import Derived.Deep.Slices
import Derived.Deep.Fields
import Derived.Deep.DeepHandedRow
import Derived.Test.YthamfbfeokmhgaaGreatDoorU1
import Derived.Test.YthamfbfeokmhgaaGreatDoorU2
set_option linter.unusedVariables false
namespace Go.Proofs.YthamfbfeokmhgaaGreatDoor
open Go.ChangeShapes Go.WideShapes Go.ChangeAt Go.RowKit

def RB (w : World) (v : Value) (l : List Bool) : Prop :=
  (l = [] ∧ ∃ a c, v = .slice a 0 c) ∨ (l ≠ [] ∧ ∃ b o c, v = .slice (some ⟨b, o, none⟩) l.length c ∧ l.length ≤ c ∧ c ≤ maxLen ∧ b < w.heap.size ∧ ∀ (j : Nat) x, l[j]? = some x → w.cell? ⟨b, o + j, none⟩ = some (.bool x))
theorem RB.off {Z : Nat → Prop} {w w' : World} {v : Value} {l : List Bool} (h : RB w v l) (ho : Off Z w w') (hv : l ≠ [] → ∀ b o n c, v = .slice (some ⟨b, o, none⟩) n c → ¬ Z b) : RB w' v l := by
  rcases h with h | ⟨hn, b, o, c, h1, h2, h3, h4, h5⟩
  · exact .inl h
  · exact .inr ⟨hn, b, o, c, h1, h2, h3, Nat.lt_of_lt_of_le h4 ho.size, fun j x hx => (ho.cell (p := ⟨b, o + j, none⟩) h4 (hv hn b o _ c h1)).trans (h5 j x hx)⟩
theorem RB.below {w w' : World} {v : Value} {l : List Bool} (h : RB w v l) (hb : Below w.heap.size w w') : RB w' v l := h.off (Z := fun _ => False) (Off.of_below hb) (fun _ _ _ _ _ _ h => h)
theorem RB.form {w : World} {v : Value} {l : List Bool} (h : RB w v l) : ∃ a c, v = .slice a l.length c := by
  rcases h with ⟨rfl, a, c, rfl⟩ | ⟨hn, b, o, c, rfl, _⟩
  · exact ⟨_, _, rfl⟩
  · exact ⟨_, _, rfl⟩
theorem RB.at {w : World} {a : Option Addr} {n c : Nat} {l : List Bool} (h : RB w (.slice a n c) l) {j : Nat} {x : Bool} (hx : l[j]? = some x) : ∃ b o, a = some ⟨b, o, none⟩ ∧ b < w.heap.size ∧ n ≤ c ∧ c ≤ maxLen ∧ w.cell? ⟨b, o + j, none⟩ = some (.bool x) := by
  rcases h with ⟨rfl, a', c', e⟩ | ⟨hn, b, o, c', e, hc, hm, hl, hx'⟩
  · simp at hx
  · simp only [Value.slice.injEq] at e
    obtain ⟨rfl, rfl, rfl⟩ := e
    exact ⟨b, o, rfl, hl, hc, hm, hx' j x hx⟩
theorem RB.nil (w : World) : RB w (.slice none 0 0) [] := .inl ⟨rfl, _, _, rfl⟩
theorem RB.lt {w : World} {v : Value} {l : List Bool} (h : RB w v l) (hl : l ≠ []) : ∀ b o n c, v = .slice (some ⟨b, o, none⟩) n c → b < w.heap.size := by
  rcases h with ⟨rfl, _⟩ | ⟨hn, b, o, c, rfl, _, _, h4, _⟩
  · exact absurd rfl hl
  · intro b' o' n' c' e
    simp only [Value.slice.injEq, Option.some.injEq, Addr.mk.injEq] at e
    omega
end Go.Proofs.YthamfbfeokmhgaaGreatDoor
set_option linter.unusedVariables false
namespace Go.Proofs.YthamfbfeokmhgaaGreatDoor
open Go.ChangeShapes Go.WideShapes Go.ChangeAt Go.RowKit

theorem take_snoc {α : Type} {l : List α} {k : Nat} {x : α} (h : l[k]? = some x) : l.take (k + 1) = l.take k ++ [x] := by rw [List.take_add_one, h]; rfl
theorem Tryz.infoByte : (Tryz.prog.info? 5).map (fun i => (i.zero, i.size, i.bytes)) = some (some (.int .u8 0), 1, 1) := by kernel_rfl
theorem list_of {α : Type} (Q : Nat → α → Prop) : ∀ n, (∀ i, i < n → ∃ p, Q i p) → ∃ ps : List α, ps.length = n ∧ ∀ (i : Nat) p, ps[i]? = some p → Q i p
  | 0, _ => ⟨[], rfl, by simp⟩
  | n + 1, h => by
    obtain ⟨ps, hl, hq⟩ := list_of Q n fun i hi => h i (by omega)
    obtain ⟨p, hp⟩ := h n (by omega)
    refine ⟨ps ++ [p], by simp [hl], fun i q hi => ?_⟩
    rcases Nat.lt_or_ge i n with hn | hn
    · rw [List.getElem?_append_left (by omega)] at hi
      exact hq i q hi
    · have hlt := (List.getElem?_eq_some_iff.1 hi).1
      simp [hl] at hlt
      have e : i = n := by omega
      subst e
      rw [List.getElem?_append_right (by omega), hl, Nat.sub_self] at hi
      have : p = q := by simpa using hi
      subst this
      exact hp
end Go.Proofs.YthamfbfeokmhgaaGreatDoor
set_option linter.unusedVariables false
namespace Go.Proofs.YthamfbfeokmhgaaGreatDoor
open Go.ChangeShapes Go.WideShapes Go.ChangeAt Go.RowKit Go.Deep

theorem mem_weightsAllS {H : Type} {P : Program} {e : TypeId} {d : DataW H} {n : Nat} (hn : n ∈ d.weights P e) : ∀ {l : List (DataW H)}, d ∈ l → n ∈ DataW.weightsAll P e l
  | x :: r, h => by
    simp only [DataW.weightsAll, List.mem_append]
    cases List.mem_cons.1 h with
    | inl h => subst h; exact .inl hn
    | inr h => exact .inr (mem_weightsAllS hn h)
set_option maxRecDepth 100000 in
theorem open_bools {H : Type} {enc : TypeId × Value → H} {W : World} {t : TypeId} {fuel len : Nat} {a0 : Option Addr} {cap : Nat} {x : DataW H × List MemPlace}
    (ht : Tryz.prog.underlying t = some (.slice 4)) (hf : DataW.trod enc Tryz.prog W 0 (fun _ => true) true fuel t [.slice a0 len cap] = some x)
    (hw : ∀ n ∈ x.1.weights Tryz.prog t, n ≤ reachBytes) : ∃ l : List Bool, RB W (.slice a0 len cap) l ∧ l.length ≤ 140737488355328 := by
  have hreach : reachBytes ≤ 140737488355328 := by decide
  have hc1 : Tryz.prog.cellsOf 4 = 1 := by kernel_rfl
  have hby : 0 < Tryz.prog.bytesOf 4 := of_decide_eq_true (by kernel_rfl)
  rcases open_slice ht hf with ⟨hcs, hx⟩ | ⟨a, len', cap', m, n, D, Pl, hcs, _, hl, hm, hmm, hx, hi⟩
  · simp at hcs
    obtain ⟨rfl, rfl, rfl⟩ := hcs
    exact ⟨[], .inl ⟨rfl, _, _, rfl⟩, by simp⟩
  · simp at hcs
    obtain ⟨rfl, rfl, rfl⟩ := hcs
    have hd : x.1 = .slice ((List.range len).map D) ((List.range (m - len)).map fun j => D (len + j)) := by rw [hx]
    rw [hd] at hw
    simp only [if_true] at hmm
    subst hmm
    rw [hc1] at hi
    have hel : ∀ i, i < len → ∃ q : Bool, W.cell? (a.add (i * 1)) = some (.bool q) := by
      intro i hil
      obtain ⟨cs', hc, ht'⟩ := hi i (by omega)
      obtain ⟨q, e0, -⟩ := DataW.trod_bool Tryz.underlying4 ht'
      subst e0
      obtain ⟨_, _, hat⟩ := World.cells?_some hc
      have g0 := hat 0 (by omega)
      rw [show (a.add (i * 1)).add 0 = a.add (i * 1) by rw [Go.Deep.add_add]; rfl] at g0
      exact ⟨q, g0⟩
    obtain ⟨ps, hpl, hps⟩ := list_of _ len hel
    have hlen : len ≤ 140737488355328 := by
      have h1 := hw _ (by simp only [DataW.weights, ht]; exact List.mem_cons_self)
      have h2 : len ≤ ((List.range len).map D).length + ((List.range (m - len)).map fun j => D (len + j)).length := by simp
      have h3 := Nat.le_mul_of_pos_right (((List.range len).map D).length + ((List.range (m - len)).map fun j => D (len + j)).length) hby
      omega
    refine ⟨ps, ?_, by omega⟩
    by_cases e : ps = []
    · left
      subst e
      simp at hpl
      subst hpl
      exact ⟨rfl, _, _, rfl⟩
    · right
      have hpos : 0 < len := by
        rcases Nat.eq_zero_or_pos len with h | h
        · exact absurd (List.length_eq_zero_iff.1 (by omega)) e
        · exact h
      obtain ⟨b, off, spot⟩ := a
      have h00 := hps 0 (ps[0]'(by omega)) (by simp)
      have hspot : spot = none := by simpa [Addr.add] using World.cell?_spot h00
      subst hspot
      have hadd : ∀ (o k : Nat), (⟨b, o, none⟩ : Addr).add k = ⟨b, o + k, none⟩ := fun o k => Addr.add_lit ..
      refine ⟨e, b, off, m, by rw [hpl], by omega, by unfold maxLen at hm ⊢; omega, ?_, fun j q hq => ?_⟩
      · rw [hadd] at h00
        exact cell_lt (o := off + 0 * 1) h00
      · have c0 := hps j q hq
        rw [hadd, Nat.mul_one] at c0
        exact c0
end Go.Proofs.YthamfbfeokmhgaaGreatDoor
