/- An argument that is a slice of named patches, opened. -/
import Derived.Deep.Slices
import Derived.Deep.Fields
import Derived.Test.YteaencgbgfnokaaDoorM14
set_option linter.unusedVariables false
namespace Go.Proofs.YteaencgbgfnokaaDoor
open Go.ChangeShapes Go.WideShapes Go.ChangeAt Go.RowKit Go.Deep

theorem mem_weightsAll6 {H : Type} {P : Program} {e : TypeId} {d : DataW H} {n : Nat} (hn : n ∈ d.weights P e) : ∀ {l : List (DataW H)}, d ∈ l → n ∈ DataW.weightsAll P e l
  | x :: r, h => by
    simp only [DataW.weightsAll, List.mem_append]
    cases List.mem_cons.1 h with
    | inl h => subst h; exact .inl hn
    | inr h => exact .inr (mem_weightsAll6 hn h)

theorem open_rd6 {H : Type} {enc : TypeId × Value → H} {P : Program} {W : World} {t e : TypeId} {fuel len : Nat} {a0 : Option Addr} {cap : Nat} {x : DataW H × List MemPlace}
    (ht : P.underlying t = some (.slice e)) (he : P.underlying e = some .string) (hc : P.cellsOf e = 1) (hb : 0 < P.bytesOf e) (hf : DataW.trod enc P W 0 (fun _ => true) true fuel t [.slice a0 len cap] = some x)
    (hw : ∀ n ∈ x.1.weights P t, n ≤ reachBytes) :
    ∃ xs : List ByteArray, Reads W (.slice a0 len cap) xs ∧ xs.length ≤ 140737488355328 ∧ ∀ x ∈ xs, x.size ≤ 140737488355328 := by
  have hreach : reachBytes ≤ 140737488355328 := by decide
  rcases open_strings ht he hc hf with ⟨hcs, hx⟩ | ⟨a, len', cap', ss, hcs, _, hl, hm, hz, hx, hcell, hsz⟩
  · simp at hcs
    obtain ⟨rfl, rfl, rfl⟩ := hcs
    exact ⟨[], .inl ⟨rfl, none, 0, rfl⟩, by simp, by simp⟩
  · simp at hcs
    obtain ⟨rfl, rfl, rfl⟩ := hcs
    have hd : x.1 = .slice (strs (ss.take len)) (strs (ss.drop len)) := by rw [hx]
    rw [hd] at hw
    simp only [if_true] at hz
    have hxl : (ss.take len).length = len := by simp; omega
    have hlen : len ≤ 140737488355328 := by
      have h1 := hw (((strs (H := H) (ss.take len)).length + (strs (H := H) (ss.drop len)).length) * P.bytesOf e) (by simp [DataW.weights, ht])
      have h2 : len ≤ (strs (H := H) (ss.take len)).length + (strs (H := H) (ss.drop len)).length := by simp [strs]; omega
      have h3 := Nat.le_mul_of_pos_right ((strs (H := H) (ss.take len)).length + (strs (H := H) (ss.drop len)).length) hb
      omega
    refine ⟨ss.take len, ?_, by omega, fun x hx => ?_⟩
    · by_cases h0 : len = 0
      · subst h0
        exact .inl ⟨by simp, _, cap, rfl⟩
      · obtain ⟨b, off, spot⟩ := a
        have hspot : spot = none := by simpa [Addr.add] using World.cell?_spot (hcell 0 (by omega))
        subst hspot
        refine .inr ⟨fun e => h0 (by rw [← hxl, e]; rfl), b, off, cap, by rw [hxl], by omega, by unfold maxLen at hm; omega, cell_lt (hcell 0 (by omega)), fun j x hx => ?_⟩
        have hj : j < len := by
          have := (List.getElem?_eq_some_iff.1 hx).1
          omega
        have hX' : ss.getD j ByteArray.empty = x := by
          rw [List.getElem?_take_of_lt hj] at hx
          simp [List.getD, hx]
        have hcj := hcell j (by omega)
        rw [hX'] at hcj
        have ha : (⟨b, off, none⟩ : Addr).add j = ⟨b, off + j, none⟩ := by unfold Addr.add; split <;> simp_all
        rw [← ha]
        exact hcj
    · have hmem : (DataW.lit (H := H) (.string x.data.toList)) ∈ strs (H := H) (ss.take len) := List.mem_map.2 ⟨x, hx, rfl⟩
      have h1 := hw x.data.toList.length (by
        simp only [DataW.weights, ht, List.mem_cons, List.mem_append]
        exact .inr (.inl (mem_weightsAll6 (by simp [DataW.weights]) hmem)))
      have h2 : x.data.toList.length = x.size := Array.length_toList
      omega

set_option maxRecDepth 100000 in
theorem open_patch6 {H : Type} {enc : TypeId × Value → H} {W : World} {fuel : Nat} {cs : List Value} {x : DataW H × List MemPlace} (h : DataW.trod enc Tryd.prog W 0 (fun _ => true) true fuel 42 cs = some x) (hw : ∀ n ∈ x.1.weights Tryd.prog 42, n ≤ reachBytes) :
    ∃ nt dv oa ol oc deps, cs = [.string nt, dv, .slice oa ol oc] ∧ Reads W dv deps ∧ deps.length ≤ 140737488355328 := by
  have hu := Tryd.underlying42
  have hc3 : Tryd.prog.cellsOf 42 = 3 := by kernel_rfl
  have cs1 : Tryd.prog.cellsOf 9 = 1 := by kernel_rfl
  have cl : Tryd.prog.cellsOf 23 = 1 := by kernel_rfl
  have co : Tryd.prog.cellsOf 40 = 1 := by kernel_rfl
  obtain ⟨xs, n, _, hx, hlen, hxl, hf⟩ := DataW.trod_struct hu h
  rw [hc3] at hlen
  obtain ⟨v0, v1, v2, rfl⟩ : ∃ v0 v1 v2, cs = [v0, v1, v2] := by
    match cs, hlen with
    | [v0, v1, v2], _ => exact ⟨v0, v1, v2, rfl⟩
  obtain ⟨y0, y1, y2, rfl⟩ : ∃ y0 y1 y2, xs = [y0, y1, y2] := by
    match xs, hxl with
    | [y0, y1, y2], _ => exact ⟨y0, y1, y2, rfl⟩
  have f0 : DataW.trod enc Tryd.prog W 0 (fun _ => true) true n 9 (([v0, v1, v2].drop 0).take (Tryd.prog.cellsOf 9)) = [y0, y1, y2][0]? := hf 0 _ rfl
  have f1 : DataW.trod enc Tryd.prog W 0 (fun _ => true) true n 23 (([v0, v1, v2].drop 1).take (Tryd.prog.cellsOf 23)) = [y0, y1, y2][1]? := hf 1 _ rfl
  have f2 : DataW.trod enc Tryd.prog W 0 (fun _ => true) true n 40 (([v0, v1, v2].drop 2).take (Tryd.prog.cellsOf 40)) = [y0, y1, y2][2]? := hf 2 _ rfl
  rw [cs1] at f0
  rw [cl] at f1
  rw [co] at f2
  obtain ⟨nt, e0, -, -⟩ := DataW.trod_string (x := y0) Tryd.underlying9 (by simpa using f0)
  have f1' : DataW.trod enc Tryd.prog W 0 (fun _ => true) true n 23 [v1] = some y1 := by simpa using f1
  have f2' : DataW.trod enc Tryd.prog W 0 (fun _ => true) true n 40 [v2] = some y2 := by simpa using f2
  have ev1 : ∃ ao l c, v1 = .slice ao l c := by
    rcases open_slice Tryd.underlying23 f1' with ⟨e, _⟩ | ⟨a, l, c, _, _, _, _, e, _⟩
    · simp at e; exact ⟨_, _, _, e⟩
    · simp at e; exact ⟨_, _, _, e⟩
  have ev2 : ∃ ao l c, v2 = .slice ao l c := by
    rcases open_slice Tryd.underlying40 f2' with ⟨e, _⟩ | ⟨a, l, c, _, _, _, _, e, _⟩
    · simp at e; exact ⟨_, _, _, e⟩
    · simp at e; exact ⟨_, _, _, e⟩
  obtain ⟨ao, l, c, rfl⟩ := ev1
  obtain ⟨oa, ol, oc, rfl⟩ := ev2
  have hw1 : ∀ n ∈ y1.1.weights Tryd.prog 23, n ≤ reachBytes := by
    intro k hk
    refine hw k ?_
    rw [hx]
    simp only [List.map_cons, List.map_nil, DataW.weights, hu]
    exact DataW.weights_mem_each (j := 1) rfl rfl k hk
  obtain ⟨ys, hs, hl, _⟩ := open_rd6 Tryd.underlying23 Tryd.underlying9 (by kernel_rfl) (of_decide_eq_true (by kernel_rfl)) f1' hw1
  refine ⟨nt, _, oa, ol, oc, ys, ?_, hs, hl⟩
  have a0 : v0 = .string nt := by simpa using e0
  rw [a0]
set_option maxRecDepth 100000 in
theorem open_named6 {H : Type} {enc : TypeId × Value → H} {W : World} {fuel : Nat} {cs : List Value} {x : DataW H × List MemPlace} (h : DataW.trod enc Tryd.prog W 0 (fun _ => true) true fuel 44 cs = some x) (hw : ∀ n ∈ x.1.weights Tryd.prog 44, n ≤ reachBytes) :
    ∃ nm nt dv oa ol oc deps, cs = [.string nm, .string nt, dv, .slice oa ol oc] ∧ Reads W dv deps ∧ deps.length ≤ 140737488355328 := by
  have hu := Tryd.underlying44
  have hc4 : Tryd.prog.cellsOf 44 = 4 := by kernel_rfl
  have cs1 : Tryd.prog.cellsOf 9 = 1 := by kernel_rfl
  have cp : Tryd.prog.cellsOf 42 = 3 := by kernel_rfl
  obtain ⟨xs, n, _, hx, hlen, hxl, hf⟩ := DataW.trod_struct hu h
  rw [hc4] at hlen
  obtain ⟨v0, v1, v2, v3, rfl⟩ : ∃ v0 v1 v2 v3, cs = [v0, v1, v2, v3] := by
    match cs, hlen with
    | [v0, v1, v2, v3], _ => exact ⟨v0, v1, v2, v3, rfl⟩
  obtain ⟨y0, y1, rfl⟩ : ∃ y0 y1, xs = [y0, y1] := by
    match xs, hxl with
    | [y0, y1], _ => exact ⟨y0, y1, rfl⟩
  have f0 : DataW.trod enc Tryd.prog W 0 (fun _ => true) true n 9 (([v0, v1, v2, v3].drop 0).take (Tryd.prog.cellsOf 9)) = [y0, y1][0]? := hf 0 _ rfl
  have f1 : DataW.trod enc Tryd.prog W 0 (fun _ => true) true n 42 (([v0, v1, v2, v3].drop 1).take (Tryd.prog.cellsOf 42)) = [y0, y1][1]? := hf 1 _ rfl
  rw [cs1] at f0
  rw [cp] at f1
  obtain ⟨nm, e0, -, -⟩ := DataW.trod_string (x := y0) Tryd.underlying9 (by simpa using f0)
  have f1' : DataW.trod enc Tryd.prog W 0 (fun _ => true) true n 42 [v1, v2, v3] = some y1 := by simpa using f1
  have hw1 : ∀ n ∈ y1.1.weights Tryd.prog 42, n ≤ reachBytes := by
    intro k hk
    refine hw k ?_
    rw [hx]
    simp only [List.map_cons, List.map_nil, DataW.weights, hu]
    exact DataW.weights_mem_each (j := 1) rfl rfl k hk
  obtain ⟨nt, dv, oa, ol, oc, deps, he, hr, hl⟩ := open_patch6 f1' hw1
  have a0 : v0 = .string nm := by simpa using e0
  refine ⟨nm, nt, dv, oa, ol, oc, deps, ?_, hr, hl⟩
  rw [a0, he]
theorem list_of6 {α : Type} (Q : Nat → α → Prop) : ∀ n, (∀ i, i < n → ∃ x, Q i x) → ∃ l : List α, l.length = n ∧ ∀ i x, l[i]? = some x → Q i x
  | 0, _ => ⟨[], rfl, fun i x h => by simp at h⟩
  | n + 1, h => by
    obtain ⟨l, hl, hq⟩ := list_of6 Q n (fun i hi => h i (by omega))
    obtain ⟨y, hy⟩ := h n (by omega)
    refine ⟨l ++ [y], by simp [hl], fun i x hx => ?_⟩
    by_cases hi : i < n
    · rw [List.getElem?_append_left (by omega)] at hx
      exact hq i x hx
    · rw [List.getElem?_append_right (by omega)] at hx
      have hz : i - l.length = 0 := by
        have := (List.getElem?_eq_some_iff.1 hx).1
        simp at this
        omega
      obtain rfl : i = n := by omega
      rw [hz] at hx
      obtain rfl : y = x := by simpa using hx
      exact hy

set_option maxRecDepth 100000 in
theorem open_setArg {H : Type} {enc : TypeId × Value → H} {W : World} {b0 : Nat} {r : Reach} {t : TypeId} {v : Value} {d : DataW H} {p : List MemPlace}
    (ht : Tryd.prog.underlying t = some (.slice 44)) (hval : Value.okWide Tryd.prog W r b0 t v) (h : DataW.Trod enc Tryd.prog W 0 (fun _ => true) true t v d p)
    (hw : ∀ n ∈ d.weights Tryd.prog t, n ≤ reachBytes) : ∃ S : SetB, SReads W v S ∧ S.length ≤ 140737488355328 ∧ ∀ p ∈ S, p.2.length ≤ 140737488355328 := by
  have hreach : reachBytes ≤ 140737488355328 := by decide
  have hc4 : Tryd.prog.cellsOf 44 = 4 := by kernel_rfl
  have hby : 0 < Tryd.prog.bytesOf 44 := of_decide_eq_true (by kernel_rfl)
  obtain ⟨a0, len, cap, rfl⟩ := okWide_slice ht hval
  obtain ⟨fuel, hf⟩ := h
  rcases open_slice ht hf with ⟨hcs, hx⟩ | ⟨a, len', cap', m, n, D, Pl, hcs, _, hl, hm, hmm, hx, hi⟩
  · simp [Value.cells] at hcs
    obtain ⟨rfl, rfl, rfl⟩ := hcs
    exact ⟨[], .inl ⟨rfl, _, _, rfl⟩, by simp, by simp⟩
  · simp [Value.cells] at hcs
    obtain ⟨rfl, rfl, rfl⟩ := hcs
    have hd : d = .slice ((List.range len).map D) ((List.range (m - len)).map fun j => D (len + j)) := (Prod.mk.inj hx).1
    subst hd
    simp only [if_true] at hmm
    subst hmm
    rw [hc4] at hi
    have hwd : ∀ i, i < len → ∀ k ∈ (D i).weights Tryd.prog 44, k ≤ reachBytes := by
      intro i hil k hk
      refine hw k ?_
      simp only [DataW.weights, ht, List.mem_cons, List.mem_append]
      exact .inr (.inl (mem_weightsAll6 hk (List.mem_map.2 ⟨i, List.mem_range.2 hil, rfl⟩)))
    have hel : ∀ i, i < len → ∃ q : ByteArray × Lb, (∃ nt dv oa ol oc, W.cell? (a.add (i * 4)) = some (.string q.1) ∧ W.cell? ((a.add (i * 4)).add 1) = some (.string nt) ∧ W.cell? ((a.add (i * 4)).add 2) = some dv ∧ W.cell? ((a.add (i * 4)).add 3) = some (.slice oa ol oc) ∧ Reads W dv q.2) ∧ q.2.length ≤ 140737488355328 := by
      intro i hil
      obtain ⟨cs', hc, ht'⟩ := hi i (by omega)
      obtain ⟨nm, nt, dv, oa, ol, oc, deps, rfl, hr, hdl⟩ := open_named6 ht' (hwd i hil)
      obtain ⟨_, _, hat⟩ := World.cells?_some hc
      have h0 := hat 0 (by omega)
      have h1 := hat 1 (by omega)
      have h2 := hat 2 (by omega)
      have h3 := hat 3 (by omega)
      rw [show (a.add (i * 4)).add 0 = a.add (i * 4) by rw [Go.Deep.add_add]; rfl] at h0
      exact ⟨(nm, deps), ⟨nt, dv, oa, ol, oc, h0, h1, h2, h3, hr⟩, hdl⟩
    obtain ⟨ps, hpl, hps⟩ := list_of6 _ len hel
    have hlen : len ≤ 140737488355328 := by
      have h1 := hw _ (by simp only [DataW.weights, ht]; exact List.mem_cons_self)
      have h2 : len ≤ ((List.range len).map D).length + ((List.range (m - len)).map fun j => D (len + j)).length := by simp
      have h3 := Nat.le_mul_of_pos_right (((List.range len).map D).length + ((List.range (m - len)).map fun j => D (len + j)).length) hby
      omega
    refine ⟨ps, ?_, by omega, fun q hq => ?_⟩
    · by_cases e : ps = []
      · left
        subst e
        simp at hpl
        subst hpl
        exact ⟨rfl, _, _, rfl⟩
      · right
        have hpos : 0 < len := by
          rcases Nat.eq_zero_or_pos len with h | h
          · exact absurd (List.length_eq_zero_iff.1 (by omega)) e
          · exact h
        obtain ⟨b, off, spot⟩ := a
        obtain ⟨_, _, _, _, _, h00, _⟩ := (hps 0 (ps[0]'(by omega)) (by simp)).1
        have hspot : spot = none := by simpa [Addr.add] using World.cell?_spot h00
        subst hspot
        have hadd : ∀ (o k : Nat), (⟨b, o, none⟩ : Addr).add k = ⟨b, o + k, none⟩ := fun o k => Addr.add_lit ..
        refine ⟨e, b, off, m, by rw [hpl], by omega, by unfold maxLen at hm; omega, ?_, fun j q hq => ?_⟩
        · rw [hadd] at h00
          exact cell_lt (o := off + 0 * 4) h00
        · obtain ⟨⟨nt, dv, oa, ol, oc, c0, c1, c2, c3, hr⟩, _⟩ := hps j q hq
          rw [hadd] at c0
          rw [hadd, hadd] at c1 c2 c3
          exact ⟨nt, dv, oa, ol, oc, c0, c1, c2, c3, hr⟩
    · obtain ⟨j, hj, e⟩ := List.mem_iff_getElem.1 hq
      exact (hps j q (by rw [← e]; simp)).2
end Go.Proofs.YteaencgbgfnokaaDoor
