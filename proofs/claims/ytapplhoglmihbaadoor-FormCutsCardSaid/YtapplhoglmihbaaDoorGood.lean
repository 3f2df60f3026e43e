/- Forms that a call was handed: what a form in an argument is, how it reads, and that its lists' first cells bear no mark. -/
import Derived.Test.YtapplhoglmihbaaDoorLaw
import Derived.Test.YtapplhoglmihbaaDoorForms
import Derived.Deep.Slices
import Derived.Deep.Fields
set_option linter.unusedVariables false
namespace Go.Proofs.YtapplhoglmihbaaDoor
open Go.ChangeShapes Go.WideShapes Go.ChangeAt Go.RowKit Go.Deep

/-- The slice value reads as the forms xs, and no list's first cell bears a mark. -/
inductive SlG (w : World) : Value → List Tm → Prop
  | nil (a : Option Addr) (c : Nat) : c ≤ maxLen → SlG w (.slice a 0 c) []
  | row (b o c : Nat) (xs : List Tm) (S : Nat → Value) : xs ≠ [] → xs.length ≤ c → c ≤ maxLen → w.frozen? ⟨b, o, none⟩ = false →
      (∀ j l t ys, xs[j]? = some (.mk l t ys) → w.cell? ⟨b, o + j * 3, none⟩ = some (.bool l) ∧ w.cell? ⟨b, o + j * 3 + 1, none⟩ = some (.string t) ∧ w.cell? ⟨b, o + j * 3 + 2, none⟩ = some (S j) ∧ t.size ≤ 140737488355328) →
      (∀ j l t ys, xs[j]? = some (.mk l t ys) → SlG w (S j) ys) → SlG w (.slice (some ⟨b, o, none⟩) xs.length c) xs

theorem SlG.sl {w : World} {v : Value} {xs : List Tm} (h : SlG w v xs) : SlL (· < w.heap.size) w v xs := by
  induction h with
  | nil a c hc => exact .nil a c hc
  | row b o c xs S h1 h3 h4 hf h5 h6 ih =>
    have hlt : b < w.heap.size := by
      obtain ⟨⟨l, t, ys⟩, r, rfl⟩ := List.exists_cons_of_ne_nil h1
      exact cell_lt (h5 0 l t ys rfl).1
    exact .row b o c xs S h1 hlt h3 h4 h5 ih

theorem SlG.keep {w w' : World} {v : Value} {xs : List Tm} (h : SlG w v xs) (hb : Below w.heap.size w w') : SlG w' v xs := by
  induction h with
  | nil a c hc => exact .nil a c hc
  | row b o c xs S h1 h3 h4 hf h5 h6 ih =>
    have hlt : b < w.heap.size := by
      obtain ⟨⟨l, t, ys⟩, r, rfl⟩ := List.exists_cons_of_ne_nil h1
      exact cell_lt (h5 0 l t ys rfl).1
    have e := hb.block b hlt
    refine .row b o c xs S h1 h3 h4 ((World.frozen?_of_block (w := w) (a := ⟨b, o, none⟩) e).trans hf) (fun j l t ys hj => ?_) ih
    obtain ⟨a1, a2, a3, a4⟩ := h5 j l t ys hj
    exact ⟨(World.cell?_of_block (w := w) (a := ⟨b, o + j * 3, none⟩) e).trans a1, (World.cell?_of_block (w := w) (a := ⟨b, o + j * 3 + 1, none⟩) e).trans a2, (World.cell?_of_block (w := w) (a := ⟨b, o + j * 3 + 2, none⟩) e).trans a3, a4⟩
theorem SlG.form {w : World} {v : Value} {xs : List Tm} (h : SlG w v xs) : ∃ a c, v = .slice a xs.length c ∧ xs.length ≤ c ∧ c ≤ maxLen := h.sl.form

/-- From block b, offset o on lie the forms xs. -/
def GRow (w : World) (b o : Nat) (xs : List Tm) : Prop :=
  b < w.heap.size ∧ ∀ j l t ys, xs[j]? = some (.mk l t ys) → ∃ a c, w.cell? ⟨b, o + j * 3, none⟩ = some (.bool l) ∧ w.cell? ⟨b, o + j * 3 + 1, none⟩ = some (.string t) ∧ w.cell? ⟨b, o + j * 3 + 2, none⟩ = some (.slice a ys.length c) ∧
    t.size ≤ 140737488355328 ∧ SlG w (.slice a ys.length c) ys

theorem SlG.pos {w : World} {v : Value} {xs : List Tm} (h : SlG w v xs) (hne : xs ≠ []) : ∃ b o c, v = .slice (some ⟨b, o, none⟩) xs.length c ∧ xs.length ≤ c ∧ c ≤ maxLen ∧ w.frozen? ⟨b, o, none⟩ = false ∧ GRow w b o xs := by
  cases h with
  | nil a c => exact absurd rfl hne
  | row b o c xs S h1 h3 h4 hf h5 h6 =>
    refine ⟨b, o, c, rfl, h3, h4, hf, ?_, fun j l t ys hj => ?_⟩
    · obtain ⟨⟨l, t, ys⟩, r, rfl⟩ := List.exists_cons_of_ne_nil h1
      exact cell_lt (h5 0 l t ys rfl).1
    · obtain ⟨c1, c2, c3, c4⟩ := h5 j l t ys hj
      have hs := h6 j l t ys hj
      obtain ⟨a, c', e, _, _⟩ := hs.form
      rw [e] at c3 hs
      exact ⟨a, c', c1, c2, c3, c4, hs⟩
theorem GRow.keep {w w' : World} {b o : Nat} {xs : List Tm} (h : GRow w b o xs) (hb : Below w.heap.size w w') : GRow w' b o xs := by
  obtain ⟨h2, h3⟩ := h
  refine ⟨Nat.lt_of_lt_of_le h2 hb.size, fun j l t ys hj => ?_⟩
  obtain ⟨a, c, a1, a2, a3, a4, a5⟩ := h3 j l t ys hj
  exact ⟨a, c, (hb.cell (p := ⟨b, o + j * 3, none⟩) h2).trans a1, (hb.cell (p := ⟨b, o + j * 3 + 1, none⟩) h2).trans a2, (hb.cell (p := ⟨b, o + j * 3 + 2, none⟩) h2).trans a3, a4, a5.keep hb⟩
theorem GRow.drop {w : World} {b o : Nat} {xs : List Tm} (h : GRow w b o xs) (k : Nat) : GRow w b (o + k * 3) (xs.drop k) := by
  obtain ⟨h2, h3⟩ := h
  refine ⟨h2, fun j l t ys hj => ?_⟩
  rw [List.getElem?_drop] at hj
  have := h3 (k + j) l t ys hj
  rw [show o + (k + j) * 3 = o + k * 3 + j * 3 by omega] at this
  exact this

theorem list_of {α : Type} (Q : Nat → α → Prop) : ∀ n, (∀ i, i < n → ∃ p, Q i p) → ∃ ps : List α, ps.length = n ∧ ∀ (i : Nat) p, ps[i]? = some p → Q i p
  | 0, _ => ⟨[], rfl, by simp⟩
  | n + 1, h => by
    obtain ⟨ps, hl, hq⟩ := list_of Q n fun i hi => h i (by omega)
    obtain ⟨p, hp⟩ := h n (by omega)
    refine ⟨ps ++ [p], by simp [hl], fun i q hi => ?_⟩
    rcases Nat.lt_or_ge i n with hn | hn
    · rw [List.getElem?_append_left (by omega)] at hi
      exact hq i q hi
    · have hlt := (List.getElem?_eq_some_iff.1 hi).1
      simp [hl] at hlt
      have e : i = n := by omega
      subst e
      rw [List.getElem?_append_right (by omega), hl, Nat.sub_self] at hi
      have : p = q := by simpa using hi
      subst this
      exact hp

/-- A list of forms that was handed in. -/
def OpensL {H : Type} (enc : TypeId × Value → H) (W : World) (fuel : Nat) : Prop :=
  ∀ (cs : List Value) (x : DataW H × List MemPlace), DataW.trod enc Tryd.prog W 0 (fun _ => true) true fuel 22 cs = some x → (∀ n ∈ x.1.weights Tryd.prog 22, n ≤ reachBytes) → W.noneFrozen x.2 →
    ∃ v xs, cs = [v] ∧ SlG W v xs

set_option maxRecDepth 100000 in
theorem open_form {H : Type} {enc : TypeId × Value → H} {W : World} {fuel : Nat} (IH : ∀ m, m < fuel → OpensL enc W m) {cs : List Value} {x : DataW H × List MemPlace} (h : DataW.trod enc Tryd.prog W 0 (fun _ => true) true fuel 24 cs = some x)
    (hw : ∀ n ∈ x.1.weights Tryd.prog 24, n ≤ reachBytes) (hfz : W.noneFrozen x.2) :
    ∃ (l : Bool) (t : ByteArray) (v : Value) (ys : List Tm), cs = [.bool l, .string t, v] ∧ t.size ≤ 140737488355328 ∧ SlG W v ys := by
  have hreach : reachBytes ≤ 140737488355328 := by decide
  have hu := Tryd.underlying24
  have hc3 : Tryd.prog.cellsOf 24 = 3 := by kernel_rfl
  have ci : Tryd.prog.cellsOf 4 = 1 := by kernel_rfl
  have cs1 : Tryd.prog.cellsOf 9 = 1 := by kernel_rfl
  have cl : Tryd.prog.cellsOf 22 = 1 := by kernel_rfl
  obtain ⟨xs, n, hfu, hx, hlen, hxl, hf⟩ := DataW.trod_struct hu h
  rw [hc3] at hlen
  obtain ⟨v0, v1, v2, rfl⟩ : ∃ v0 v1 v2, cs = [v0, v1, v2] := by
    match cs, hlen with
    | [v0, v1, v2], _ => exact ⟨v0, v1, v2, rfl⟩
  obtain ⟨y0, y1, y2, rfl⟩ : ∃ y0 y1 y2, xs = [y0, y1, y2] := by
    match xs, hxl with
    | [y0, y1, y2], _ => exact ⟨y0, y1, y2, rfl⟩
  have f0 : DataW.trod enc Tryd.prog W 0 (fun _ => true) true n 4 (([v0, v1, v2].drop 0).take (Tryd.prog.cellsOf 4)) = [y0, y1, y2][0]? := hf 0 _ rfl
  have f1 : DataW.trod enc Tryd.prog W 0 (fun _ => true) true n 9 (([v0, v1, v2].drop 1).take (Tryd.prog.cellsOf 9)) = [y0, y1, y2][1]? := hf 1 _ rfl
  have f2 : DataW.trod enc Tryd.prog W 0 (fun _ => true) true n 22 (([v0, v1, v2].drop 2).take (Tryd.prog.cellsOf 22)) = [y0, y1, y2][2]? := hf 2 _ rfl
  rw [ci] at f0
  rw [cs1] at f1
  rw [cl] at f2
  obtain ⟨l, e0, -⟩ := DataW.trod_bool (x := y0) Tryd.underlying4 (by simpa using f0)
  obtain ⟨t, e1, ex1, -⟩ := DataW.trod_string (x := y1) Tryd.underlying9 (by simpa using f1)
  have f2' : DataW.trod enc Tryd.prog W 0 (fun _ => true) true n 22 [v2] = some y2 := by simpa using f2
  have hwj : ∀ (j : Nat) (ty : TypeId) (d : DataW H), [4, 9, 22][j]? = some ty → [y0.1, y1.1, y2.1][j]? = some d → ∀ k ∈ d.weights Tryd.prog ty, k ≤ reachBytes := by
    intro j ty d hj hd k hk
    refine hw k ?_
    rw [hx]
    simp only [List.map_cons, List.map_nil, DataW.weights, hu]
    exact DataW.weights_mem_each (j := j) hj hd k hk
  obtain ⟨v, ys, ev, hs⟩ := IH n (by omega) _ _ f2' (hwj 2 _ _ rfl rfl) (fun b off hp => hfz b off (by rw [hx]; simp; exact .inr (.inr hp)))
  have hts : t.size ≤ reachBytes := by
    have := hwj 1 _ _ rfl rfl t.data.toList.length (by rw [ex1]; simp [DataW.weights])
    have h2 : t.data.toList.length = t.size := Array.length_toList
    omega
  refine ⟨l, t, v, ys, ?_, by omega, hs⟩
  have a0 : v0 = .bool l := by simpa using e0
  have a1 : v1 = .string t := by simpa using e1
  have a2 : v2 = v := by simpa using ev
  rw [a0, a1, a2]

set_option maxRecDepth 100000 in
theorem opens {H : Type} {enc : TypeId × Value → H} {W : World} (fuel : Nat) : OpensL enc W fuel := by
  induction fuel using Nat.strongRecOn with
  | _ fuel IH =>
  intro cs x h hw hfz
  have hu := Tryd.underlying22
  have hc3 : Tryd.prog.cellsOf 24 = 3 := by kernel_rfl
  rcases DataW.trod_slice hu h with ⟨rfl, rfl⟩ | ⟨a, len, cap, elems, rest, n, hfu, rfl, rfl, -, hl, hm, hlen, hel, -, -⟩
  · exact ⟨_, [], rfl, .nil none 0 (Nat.zero_le _)⟩
  rw [hc3] at hel
  have each : ∀ i, i < len → ∃ q : Tm × Value, ∃ l t ys, q.1 = .mk l t ys ∧ W.cell? (a.add (i * 3)) = some (.bool l) ∧ W.cell? ((a.add (i * 3)).add 1) = some (.string t) ∧ W.cell? ((a.add (i * 3)).add 2) = some q.2 ∧ t.size ≤ 140737488355328 ∧ SlG W q.2 ys := by
    intro i hi
    have he := hel i hi
    rw [List.getElem?_eq_getElem (by omega), Option.bind_eq_some_iff] at he
    obtain ⟨cs', hc, ht'⟩ := he
    have hmem : elems[i]'(by omega) ∈ elems := List.getElem_mem _
    obtain ⟨l, t, v, ys, rfl, hts, hs⟩ := open_form (fun m hm => IH m (by omega)) ht' (fun k hk => hw k (by
      simp only [DataW.weights, hu, List.mem_cons, List.mem_append]
      exact .inr (.inl (mem_weightsAll hk (List.mem_map.2 ⟨_, hmem, rfl⟩))))) (fun b off hp => hfz b off (by
      simp only [List.mem_append, List.flatMap_append, List.mem_flatMap]
      exact .inr (.inl ⟨_, hmem, hp⟩)))
    obtain ⟨_, _, hat⟩ := World.cells?_some hc
    have h0 := hat 0 (by omega)
    have h1 := hat 1 (by omega)
    have h2 := hat 2 (by omega)
    rw [show (a.add (i * 3)).add 0 = a.add (i * 3) by rw [Go.Deep.add_add]; rfl] at h0
    exact ⟨(.mk l t ys, v), l, t, ys, rfl, h0, h1, h2, hts, hs⟩
  obtain ⟨ps, hpl, hps⟩ := list_of _ len each
  rcases Nat.eq_zero_or_pos len with h0 | hpos
  · subst h0
    exact ⟨_, [], rfl, .nil _ cap hm⟩
  obtain ⟨b, off, spot⟩ := a
  obtain ⟨_, _, _, -, h00, -⟩ := hps 0 (ps[0]'(by omega)) (by simp)
  have hspot : spot = none := by simpa [Addr.add] using World.cell?_spot h00
  subst hspot
  have hadd : ∀ (o k : Nat), (⟨b, o, none⟩ : Addr).add k = ⟨b, o + k, none⟩ := fun o k => Addr.add_lit ..
  have hfz0 : W.frozen? ⟨b, off, none⟩ = false := hfz b off (by
    simp only [List.mem_append]
    refine .inl ?_
    rw [hc3]
    exact List.mem_map.2 ⟨0, List.mem_range.2 (by omega), rfl⟩)
  have hlen2 : (ps.map (·.1)).length = len := by rw [List.length_map]; exact hpl
  refine ⟨_, ps.map (·.1), rfl, ?_⟩
  rw [← hlen2]
  refine .row b off cap (ps.map (·.1)) (fun j => (ps.getD j (.mk false ByteArray.empty [], .nilIface)).2) ?_ (by omega) hm hfz0 (fun j l t ys hj => ?_) (fun j l t ys hj => ?_)
  · intro e
    rw [e] at hlen2
    simp at hlen2
    omega
  · rw [List.getElem?_map] at hj
    obtain ⟨q, hq, e⟩ := Option.map_eq_some_iff.1 hj
    obtain ⟨l', t', ys', e', c0, c1, c2, c3, hs⟩ := hps j q hq
    rw [e'] at e
    injection e with e1 e2 e3
    subst e1; subst e2; subst e3
    rw [hadd] at c0
    rw [hadd, hadd] at c1 c2
    have : ps.getD j (.mk false ByteArray.empty [], .nilIface) = q := by simp [List.getD, hq]
    rw [this]
    exact ⟨c0, c1, c2, c3⟩
  · rw [List.getElem?_map] at hj
    obtain ⟨q, hq, e⟩ := Option.map_eq_some_iff.1 hj
    obtain ⟨l', t', ys', e', c0, c1, c2, c3, hs⟩ := hps j q hq
    rw [e'] at e
    injection e with e1 e2 e3
    subst e1; subst e2; subst e3
    have : ps.getD j (.mk false ByteArray.empty [], .nilIface) = q := by simp [List.getD, hq]
    rw [this]
    exact hs

set_option maxRecDepth 100000 in
/-- An argument that is a form. -/
theorem open_formArg {H : Type} {enc : TypeId × Value → H} {W : World} {b0 : Nat} {r : Reach} {v : Value} {d : DataW H} {p : List MemPlace}
    (hval : Value.okWide Tryd.prog W r b0 24 v) (h : DataW.Trod enc Tryd.prog W 0 (fun _ => true) true 24 v d p) (hw : ∀ n ∈ d.weights Tryd.prog 24, n ≤ reachBytes) (hfz : W.noneFrozen p) :
    ∃ (l : Bool) (t : ByteArray) (ys : List Tm) (a : Option Addr) (c : Nat), v = fv l t (.slice a ys.length c) ∧ t.size ≤ 140737488355328 ∧ SlG W (.slice a ys.length c) ys := by
  obtain ⟨cs, rfl, -⟩ := okWide_struct Tryd.underlying24 hval
  obtain ⟨fuel, hf⟩ := h
  obtain ⟨l, t, v, ys, e, hts, hs⟩ := open_form (fun m _ => opens m) hf hw hfz
  obtain ⟨a, c, rfl, -, -⟩ := hs.form
  refine ⟨l, t, ys, a, c, ?_, hts, hs⟩
  have : cs = #[.bool l, .string t, .slice a ys.length c] := by
    apply Array.ext'
    simpa [Value.cells] using e
  rw [this]
end Go.Proofs.YtapplhoglmihbaaDoor
