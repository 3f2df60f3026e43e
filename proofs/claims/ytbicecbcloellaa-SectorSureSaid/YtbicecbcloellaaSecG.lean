/- An argument that is a slice of acts, opened. -/
import Derived.Test.YtbicecbcloellaaSecB
import Derived.Test.YtbicecbcloellaaTake
import Derived.Deep.Slices
import Derived.Deep.Fields
import Derived.Deep.DeepHandedRow
set_option linter.unusedVariables false
namespace Go.Proofs.Ytbicecbcloellaa
open Go.ChangeShapes Go.WideShapes Go.ChangeAt Go.RowKit Go.Deep

theorem mem_weightsAllS {H : Type} {P : Program} {e : TypeId} {d : DataW H} {n : Nat} (hn : n ∈ d.weights P e) : ∀ {l : List (DataW H)}, d ∈ l → n ∈ DataW.weightsAll P e l
  | x :: r, h => by
    simp only [DataW.weightsAll, List.mem_append]
    cases List.mem_cons.1 h with
    | inl h => subst h; exact .inl hn
    | inr h => exact .inr (mem_weightsAllS hn h)
structure Ac where
  what : Int
  at_ : Int
  text : ByteArray
  keep : List Bool
def Ac.fine (a : Ac) : Prop := a.at_ ≤ 9223372036854775807 ∧ -9223372036854775808 ≤ a.at_ ∧ a.text.size ≤ 140737488355328 ∧ a.keep.length ≤ 140737488355328
/-- The slice value v reads xs the acts xs. -/
def AReads (w : World) (v : Value) (xs : List Ac) : Prop :=
  (xs = [] ∧ ∃ a c, v = .slice a 0 c) ∨ (xs ≠ [] ∧ ∃ b o c, v = .slice (some ⟨b, o, none⟩) xs.length c ∧ xs.length ≤ c ∧ c ≤ maxLen ∧ b < w.heap.size ∧
    ∀ (j : Nat) x, xs[j]? = some x → ∃ kv, w.cell? ⟨b, o + j * 4, none⟩ = some (.int .i64 x.what) ∧ w.cell? ⟨b, o + j * 4 + 1, none⟩ = some (.int .i64 x.at_) ∧ w.cell? ⟨b, o + j * 4 + 2, none⟩ = some (.string x.text) ∧ w.cell? ⟨b, o + j * 4 + 3, none⟩ = some kv ∧ RB w kv x.keep)
theorem AReads.form {w : World} {v : Value} {xs : List Ac} (h : AReads w v xs) : ∃ a c, v = .slice a xs.length c := by
  rcases h with ⟨rfl, a, c, rfl⟩ | ⟨hn, b, o, c, rfl, _⟩
  · exact ⟨_, _, rfl⟩
  · exact ⟨_, _, rfl⟩
theorem AReads.below {w w' : World} {v : Value} {xs : List Ac} (h : AReads w v xs) (hb : Below w.heap.size w w') : AReads w' v xs := by
  rcases h with h | ⟨hn, b, o, c, h1, h2, h3, h4, h5⟩
  · exact .inl h
  · refine .inr ⟨hn, b, o, c, h1, h2, h3, Nat.lt_of_lt_of_le h4 hb.size, fun j x hx => ?_⟩
    obtain ⟨kv, a0, a1, a2, a3, a4⟩ := h5 j x hx
    exact ⟨kv, (hb.cell (p := ⟨b, _, none⟩) h4).trans a0, (hb.cell (p := ⟨b, _, none⟩) h4).trans a1, (hb.cell (p := ⟨b, _, none⟩) h4).trans a2, (hb.cell (p := ⟨b, _, none⟩) h4).trans a3, a4.below hb⟩
/-- What stands at a place. -/
theorem AReads.at {w : World} {a : Option Addr} {n c : Nat} {xs : List Ac} (h : AReads w (.slice a n c) xs) {j : Nat} {x : Ac} (hx : xs[j]? = some x) : ∃ b o kv, a = some ⟨b, o, none⟩ ∧ b < w.heap.size ∧ n ≤ c ∧ c ≤ maxLen ∧
    w.cell? ⟨b, o + j * 4, none⟩ = some (.int .i64 x.what) ∧ w.cell? ⟨b, o + j * 4 + 1, none⟩ = some (.int .i64 x.at_) ∧ w.cell? ⟨b, o + j * 4 + 2, none⟩ = some (.string x.text) ∧ w.cell? ⟨b, o + j * 4 + 3, none⟩ = some kv ∧ RB w kv x.keep := by
  rcases h with ⟨rfl, a', c', e⟩ | ⟨hn, b, o, c', e, hc, hm, hl, hx'⟩
  · simp at hx
  · simp only [Value.slice.injEq] at e
    obtain ⟨rfl, rfl, rfl⟩ := e
    obtain ⟨kv, r⟩ := hx' j x hx
    exact ⟨b, o, kv, rfl, hl, hc, hm, r⟩
set_option maxRecDepth 100000 in
/-- A slice of bools within an argument. -/
theorem open_bools {H : Type} {enc : TypeId × Value → H} {W : World} {t : TypeId} {fuel len : Nat} {a0 : Option Addr} {cap : Nat} {x : DataW H × List MemPlace}
    (ht : Try.prog.underlying t = some (.slice 4)) (hf : DataW.trod enc Try.prog W 0 (fun _ => true) true fuel t [.slice a0 len cap] = some x)
    (hw : ∀ n ∈ x.1.weights Try.prog t, n ≤ reachBytes) : ∃ l : List Bool, RB W (.slice a0 len cap) l ∧ l.length ≤ 140737488355328 := by
  have hreach : reachBytes ≤ 140737488355328 := by decide
  have hc1 : Try.prog.cellsOf 4 = 1 := by kernel_rfl
  have hby : 0 < Try.prog.bytesOf 4 := of_decide_eq_true (by kernel_rfl)
  rcases open_slice ht hf with ⟨hcs, hx⟩ | ⟨a, len', cap', m, n, D, Pl, hcs, _, hl, hm, hmm, hx, hi⟩
  · simp at hcs
    obtain ⟨rfl, rfl, rfl⟩ := hcs
    exact ⟨[], .inl ⟨rfl, _, _, rfl⟩, by simp⟩
  · simp at hcs
    obtain ⟨rfl, rfl, rfl⟩ := hcs
    have hd : x.1 = .slice ((List.range len).map D) ((List.range (m - len)).map fun j => D (len + j)) := by rw [hx]
    rw [hd] at hw
    simp only [if_true] at hmm
    subst hmm
    rw [hc1] at hi
    have hel : ∀ i, i < len → ∃ q : Bool, W.cell? (a.add (i * 1)) = some (.bool q) := by
      intro i hil
      obtain ⟨cs', hc, ht'⟩ := hi i (by omega)
      obtain ⟨q, e0, -⟩ := DataW.trod_bool Try.underlying4 ht'
      subst e0
      obtain ⟨_, _, hat⟩ := World.cells?_some hc
      have g0 := hat 0 (by omega)
      rw [show (a.add (i * 1)).add 0 = a.add (i * 1) by rw [Go.Deep.add_add]; rfl] at g0
      exact ⟨q, g0⟩
    obtain ⟨ps, hpl, hps⟩ := list_of _ len hel
    have hlen : len ≤ 140737488355328 := by
      have h1 := hw _ (by simp only [DataW.weights, ht]; exact List.mem_cons_self)
      have h2 : len ≤ ((List.range len).map D).length + ((List.range (m - len)).map fun j => D (len + j)).length := by simp
      have h3 := Nat.le_mul_of_pos_right (((List.range len).map D).length + ((List.range (m - len)).map fun j => D (len + j)).length) hby
      omega
    refine ⟨ps, ?_, by omega⟩
    by_cases e : ps = []
    · left
      subst e
      simp at hpl
      subst hpl
      exact ⟨rfl, _, _, rfl⟩
    · right
      have hpos : 0 < len := by
        rcases Nat.eq_zero_or_pos len with h | h
        · exact absurd (List.length_eq_zero_iff.1 (by omega)) e
        · exact h
      obtain ⟨b, off, spot⟩ := a
      have h00 := hps 0 (ps[0]'(by omega)) (by simp)
      have hspot : spot = none := by simpa [Addr.add] using World.cell?_spot h00
      subst hspot
      have hadd : ∀ (o k : Nat), (⟨b, o, none⟩ : Addr).add k = ⟨b, o + k, none⟩ := fun o k => Addr.add_lit ..
      refine ⟨e, b, off, m, by rw [hpl], by omega, by unfold maxLen at hm ⊢; omega, ?_, fun j q hq => ?_⟩
      · rw [hadd] at h00
        exact cell_lt (o := off + 0 * 1) h00
      · have c0 := hps j q hq
        rw [hadd, Nat.mul_one] at c0
        exact c0
set_option maxRecDepth 100000 in
/-- An act's four cells. -/
theorem open_act {H : Type} {enc : TypeId × Value → H} {W : World} {fuel : Nat} {cs : List Value} {x : DataW H × List MemPlace} (h : DataW.trod enc Try.prog W 0 (fun _ => true) true fuel 36 cs = some x) (hw : ∀ n ∈ x.1.weights Try.prog 36, n ≤ reachBytes) :
    ∃ (q : Ac) (kv : Value), cs = [.int .i64 q.what, .int .i64 q.at_, .string q.text, kv] ∧ RB W kv q.keep ∧ q.fine := by
  have hreach : reachBytes ≤ 140737488355328 := by decide
  have hu := Try.underlying36
  have hc4 : Try.prog.cellsOf 36 = 4 := by kernel_rfl
  have cs1 : Try.prog.cellsOf 9 = 1 := by kernel_rfl
  have ci : Try.prog.cellsOf 3 = 1 := by kernel_rfl
  have cb : Try.prog.cellsOf 34 = 1 := by kernel_rfl
  obtain ⟨xs, n, _, hx, hlen, hxl, hf⟩ := DataW.trod_struct hu h
  rw [hc4] at hlen
  obtain ⟨v0, v1, v2, v3, rfl⟩ : ∃ v0 v1 v2 v3, cs = [v0, v1, v2, v3] := by
    match cs, hlen with
    | [v0, v1, v2, v3], _ => exact ⟨v0, v1, v2, v3, rfl⟩
  obtain ⟨y0, y1, y2, y3, rfl⟩ : ∃ y0 y1 y2 y3, xs = [y0, y1, y2, y3] := by
    match xs, hxl with
    | [y0, y1, y2, y3], _ => exact ⟨y0, y1, y2, y3, rfl⟩
  have f0 : DataW.trod enc Try.prog W 0 (fun _ => true) true n 3 (([v0, v1, v2, v3].drop 0).take (Try.prog.cellsOf 3)) = [y0, y1, y2, y3][0]? := hf 0 _ rfl
  have f1 : DataW.trod enc Try.prog W 0 (fun _ => true) true n 3 (([v0, v1, v2, v3].drop 1).take (Try.prog.cellsOf 3)) = [y0, y1, y2, y3][1]? := hf 1 _ rfl
  have f2 : DataW.trod enc Try.prog W 0 (fun _ => true) true n 9 (([v0, v1, v2, v3].drop 2).take (Try.prog.cellsOf 9)) = [y0, y1, y2, y3][2]? := hf 2 _ rfl
  have f3 : DataW.trod enc Try.prog W 0 (fun _ => true) true n 34 (([v0, v1, v2, v3].drop 3).take (Try.prog.cellsOf 34)) = [y0, y1, y2, y3][3]? := hf 3 _ rfl
  rw [ci] at f0 f1
  rw [cs1] at f2
  rw [cb] at f3
  obtain ⟨A, e0, -, -⟩ := DataW.trod_int (k := .i64) (x := y0) Try.underlying3 (by simpa using f0)
  obtain ⟨C, e1, -, hwf⟩ := DataW.trod_int (k := .i64) (x := y1) Try.underlying3 (by simpa using f1)
  obtain ⟨nm, e2, ex2, -⟩ := DataW.trod_string (x := y2) Try.underlying9 (by simpa using f2)
  have f3' : DataW.trod enc Try.prog W 0 (fun _ => true) true n 34 [v3] = some y3 := by simpa using f3
  have hdx : x.1 = .agg [y0.1, y1.1, y2.1, y3.1] := by rw [hx]; rfl
  have hwj : ∀ (j : Nat) (ty : TypeId) (d' : DataW H), [3, 3, 9, 34][j]? = some ty → [y0.1, y1.1, y2.1, y3.1][j]? = some d' → ∀ k ∈ d'.weights Try.prog ty, k ≤ reachBytes := by
    intro j ty d' hj hd k hk
    refine hw k ?_
    rw [hdx]
    simp only [DataW.weights, hu]
    exact DataW.weights_mem_each (j := j) hj hd k hk
  have hts : nm.size ≤ reachBytes := by
    have := hwj 2 _ _ rfl rfl nm.data.toList.length (by rw [ex2]; simp [DataW.weights])
    have h2 : nm.data.toList.length = nm.size := Array.length_toList
    omega
  have ev : ∃ ao l c, v3 = .slice ao l c := by
    rcases open_slice Try.underlying34 f3' with ⟨e, _⟩ | ⟨a, l, c, _, _, _, _, e, _⟩
    · simp at e; exact ⟨_, _, _, e⟩
    · simp at e; exact ⟨_, _, _, e⟩
  obtain ⟨ao, l, c, rfl⟩ := ev
  obtain ⟨ks, hks, hkl⟩ := open_bools Try.underlying34 f3' (hwj 3 _ _ rfl rfl)
  have hwf2 : -9223372036854775808 ≤ C ∧ C ≤ 9223372036854775807 := by
    simp only [Lit.wf, Bool.and_eq_true, decide_eq_true_eq] at hwf
    exact hwf
  refine ⟨⟨A, C, nm, ks⟩, .slice ao l c, ?_, hks, hwf2.2, hwf2.1, by show nm.size ≤ _; omega, hkl⟩
  have a0 : v0 = .int .i64 A := by simpa using e0
  have a1 : v1 = .int .i64 C := by simpa using e1
  have a2 : v2 = .string nm := by simpa using e2
  rw [a0, a1, a2]
set_option maxRecDepth 100000 in
theorem open_acArg {H : Type} {enc : TypeId × Value → H} {W : World} {b0 : Nat} {r : Reach} {t : TypeId} {v : Value} {d : DataW H} {p : List MemPlace}
    (ht : Try.prog.underlying t = some (.slice 36)) (hval : Value.okWide Try.prog W r b0 t v) (h : DataW.Trod enc Try.prog W 0 (fun _ => true) true t v d p)
    (hw : ∀ n ∈ d.weights Try.prog t, n ≤ reachBytes) : ∃ xs : List Ac, AReads W v xs ∧ xs.length ≤ 140737488355328 ∧ ∀ a ∈ xs, a.fine := by
  have hreach : reachBytes ≤ 140737488355328 := by decide
  have hc4 : Try.prog.cellsOf 36 = 4 := by kernel_rfl
  have hby : 0 < Try.prog.bytesOf 36 := of_decide_eq_true (by kernel_rfl)
  obtain ⟨a0, len, cap, rfl⟩ := okWide_slice ht hval
  obtain ⟨fuel, hf⟩ := h
  rcases open_slice ht hf with ⟨hcs, hx⟩ | ⟨a, len', cap', m, n, D, Pl, hcs, _, hl, hm, hmm, hx, hi⟩
  · simp [Value.cells] at hcs
    obtain ⟨rfl, rfl, rfl⟩ := hcs
    exact ⟨[], .inl ⟨rfl, _, _, rfl⟩, by simp, fun p hp => (by cases hp)⟩
  · simp [Value.cells] at hcs
    obtain ⟨rfl, rfl, rfl⟩ := hcs
    have hd : d = .slice ((List.range len).map D) ((List.range (m - len)).map fun j => D (len + j)) := (Prod.mk.inj hx).1
    subst hd
    simp only [if_true] at hmm
    subst hmm
    rw [hc4] at hi
    have hwd : ∀ i, i < len → ∀ k ∈ (D i).weights Try.prog 36, k ≤ reachBytes := by
      intro i hil k hk
      refine hw k ?_
      simp only [DataW.weights, ht, List.mem_cons, List.mem_append]
      exact .inr (.inl (mem_weightsAllS hk (List.mem_map.2 ⟨i, List.mem_range.2 hil, rfl⟩)))
    have hel : ∀ i, i < len → ∃ q : Ac, (∃ kv, W.cell? (a.add (i * 4)) = some (.int .i64 q.what) ∧ W.cell? ((a.add (i * 4)).add 1) = some (.int .i64 q.at_) ∧ W.cell? ((a.add (i * 4)).add 2) = some (.string q.text) ∧ W.cell? ((a.add (i * 4)).add 3) = some kv ∧ RB W kv q.keep) ∧ q.fine := by
      intro i hil
      obtain ⟨cs', hc, ht'⟩ := hi i (by omega)
      obtain ⟨q, kv, rfl, hr, hs⟩ := open_act ht' (hwd i hil)
      obtain ⟨_, _, hat⟩ := World.cells?_some hc
      have h0 := hat 0 (by omega)
      have h1 := hat 1 (by omega)
      have h2 := hat 2 (by omega)
      have h3 := hat 3 (by omega)
      rw [show (a.add (i * 4)).add 0 = a.add (i * 4) by rw [Go.Deep.add_add]; rfl] at h0
      exact ⟨q, ⟨kv, h0, h1, h2, h3, hr⟩, hs⟩
    obtain ⟨ps, hpl, hps⟩ := list_of _ len hel
    have hlen : len ≤ 140737488355328 := by
      have h1 := hw _ (by simp only [DataW.weights, ht]; exact List.mem_cons_self)
      have h2 : len ≤ ((List.range len).map D).length + ((List.range (m - len)).map fun j => D (len + j)).length := by simp
      have h3 := Nat.le_mul_of_pos_right (((List.range len).map D).length + ((List.range (m - len)).map fun j => D (len + j)).length) hby
      omega
    refine ⟨ps, ?_, by omega, fun q hq => ?_⟩
    · by_cases e : ps = []
      · left
        subst e
        simp at hpl
        subst hpl
        exact ⟨rfl, _, _, rfl⟩
      · right
        have hpos : 0 < len := by
          rcases Nat.eq_zero_or_pos len with h | h
          · exact absurd (List.length_eq_zero_iff.1 (by omega)) e
          · exact h
        obtain ⟨b, off, spot⟩ := a
        obtain ⟨_, h00, _⟩ := (hps 0 (ps[0]'(by omega)) (by simp)).1
        have hspot : spot = none := by simpa [Addr.add] using World.cell?_spot h00
        subst hspot
        have hadd : ∀ (o k : Nat), (⟨b, o, none⟩ : Addr).add k = ⟨b, o + k, none⟩ := fun o k => Addr.add_lit ..
        refine ⟨e, b, off, m, by rw [hpl], by omega, by unfold maxLen at hm ⊢; omega, ?_, fun j q hq => ?_⟩
        · rw [hadd] at h00
          exact cell_lt (o := off + 0 * 4) h00
        · obtain ⟨⟨kv, c0, c1, c2, c3, c4⟩, _⟩ := hps j q hq
          rw [hadd] at c0
          rw [hadd, hadd] at c1 c2 c3
          exact ⟨kv, c0, c1, c2, c3, c4⟩
    · obtain ⟨j, hj⟩ := List.getElem?_of_mem hq
      exact (hps j q hj).2
end Go.Proofs.Ytbicecbcloellaa
