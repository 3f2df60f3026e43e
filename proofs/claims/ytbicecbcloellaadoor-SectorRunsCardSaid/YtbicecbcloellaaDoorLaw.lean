/- What closes a law's row: the post of a law (it answers true, its arguments read as before) out of 'Below'; a world for the witness. -/
import Derived.Test.YtbicecbcloellaaDoorBase
import Derived.Test.YtbicecbcloellaaDoorCards
import Derived.Test.YtbicecbcloellaaDoorTie
import Derived.Deep.DeepHandedRow
import Derived.Lib.LaidTab
import Derived.Carry
import Derived.LaidHandle
set_option linter.unusedVariables false
namespace Go.Proofs.YtbicecbcloellaaDoor
open Go.ChangeShapes Go.WideShapes Go.ChangeAt Go.RowKit

theorem Tryd.own : ownKnob Tryd.prog.godebug = none := by kernel_rfl
theorem Tryd.laidOut : laidOutB Tryd.prog = true := by kernel_rfl

def numV : DataW Unit → Value | .lit (.int k n) => .int k n | _ => undef
def flat1 : DataW Unit → List Value | .agg l => l.map numV | _ => []
def flat2 : DataW Unit → List Value | .agg l => l.flatMap flat1 | _ => []
def relay (cs : Array Value) : Obj → Obj
  | .cells _ t frozen => .cells cs t frozen
  | o => o

/-- A world for the witness: the settled one, the listed variables as their text lays them. -/
noncomputable def laidWorld (os : Os) : World :=
  let w0 := World.holding Tryd.prog os ⟨#[], #[], []⟩
  let h0 := w0.heap
  let h0 := h0.modify 0 (relay #[.iface 96 (.agg #[.pointer (some ⟨2, 26, none⟩)])])
  { w0 with heap := h0 }

/-- What is read through places below the heap's end reads the same behind a call that turned nothing there. -/
theorem trodAll_below {H : Type} {enc : TypeId × Value → H} {P : Program} (hl : laidOutB P = true) {W W' : World} (hb : Below W.heap.size W W') :
    ∀ (ts : List TypeId) (vs : List Value) (ds : List (DataW H)) (ps : List MemPlace), (∀ t ∈ ts, P.readableRec t = true ∧ t < P.types.size) → (∀ x ∈ ps, x.block < W.heap.size) →
      DataW.TrodAll enc P W 0 (fun _ => true) true ts vs ds ps → DataW.TrodAll enc P W' 0 (fun b => decide (b < W.heap.size)) true ts vs ds ps
  | [], vs, ds, ps, _, _, h => by
    cases vs <;> cases ds <;> exact h
  | t :: ts, vs, ds, ps, ht, hp, h => by
    obtain ⟨v, vs', d, ds', p, q, rfl, rfl, rfl, h0, h1⟩ := trodAll_cons h
    exact trodAll_cons_mk (Below.trod hl (ht t (by simp)).1 (ht t (by simp)).2 h0 hb fun x hx => hp x (by simp [hx])) (trodAll_below hl hb ts vs' ds' q (fun u hu => ht u (by simp [hu])) (fun x hx => hp x (by simp [hx])) h1)

theorem law_post {H : Type} {enc : TypeId × Value → H} {P : Program} {f : Func} {s : ChangeSpec} {W W' : World} {args : Array Value} {ds gs : List (DataW H)} {before : List MemPlace} {tb : TypeId}
    (hl : laidOutB P = true) (hp : f.params.toList.all (fun t => P.readableRec t && decide (t < P.types.size)) = true) (hv : s.vars = []) (hr : f.resultTypes = #[tb]) (htb : P.underlying tb = some .bool)
    (hW : DataW.Whole enc P f.params.toList s.vars false W args.toList ds gs before) (hspec : s.fn H (ds ++ gs) = { results := [.lit (.bool true)], args := ds }) (hb : Below W.heap.size W W') :
    s.post enc P f false true false false W args (.bool true) W' := by
  have hW0 := hW
  have hlt := fun p (hp : p ∈ before) => hW.lt p hp
  obtain ⟨p, q, hA, hV, rfl, _, _⟩ := hW
  rw [hv] at hV
  obtain ⟨rfl, rfl⟩ := trodVars_none hV
  refine ⟨ds, [], p ++ [], [], p, [], hW0, ?_, ?_, ?_, ?_, fun h => by cases h⟩
  · rw [hspec, hr]
    exact trodAll_cons_mk (shut_bool htb _) trodAll_mk0
  · rw [hspec]
    refine trodAll_below hl hb _ _ _ _ (fun t ht => ?_) (fun x hx => hlt x (by simpa using hx)) hA
    have := List.all_eq_true.1 hp t ht
    simpa using this
  · rw [hspec, hv]
    exact rfl
  · exact World.keptBut_mono (fun x hx => ⟨hx, .inr (.inl (by simpa using hx))⟩) (hb.frame (· ∈ p ++ []))

theorem mem_weightsAll {H : Type} {P : Program} {e : TypeId} {d : DataW H} {n : Nat} (hn : n ∈ d.weights P e) : ∀ {l : List (DataW H)}, d ∈ l → n ∈ DataW.weightsAll P e l
  | x :: r, h => by
    simp only [DataW.weightsAll, List.mem_append]
    cases List.mem_cons.1 h with
    | inl h => subst h; exact .inl hn
    | inr h => exact .inr (mem_weightsAll hn h)

theorem weights_reach {H : Type} {P : Program} {ts : List TypeId} {ds : List (DataW H)} (h : (DataW.weightsEach P ts ds).all (· ≤ reachBytes) = true) {j : Nat} {t : TypeId} {d : DataW H} (ht : ts[j]? = some t) (hd : ds[j]? = some d) :
    ∀ n ∈ d.weights P t, n ≤ reachBytes := by
  intro n hn
  have := List.all_eq_true.1 h n (DataW.weights_mem_each ht hd n hn)
  simpa using this

/-- A slice of strings that came in, nil or not. -/
theorem open_reads {H : Type} {enc : TypeId × Value → H} {P : Program} {W : World} {b0 : Nat} {r : Reach} {t e : TypeId} {v : Value} {d : DataW H} {p : List MemPlace}
    (ht : P.underlying t = some (.slice e)) (he : P.underlying e = some .string) (hc : P.cellsOf e = 1) (hb : 0 < P.bytesOf e) (hval : Value.okWide P W r b0 t v) (h : DataW.Trod enc P W 0 (fun _ => true) true t v d p)
    (hw : ∀ n ∈ d.weights P t, n ≤ reachBytes) :
    ∃ xs : List ByteArray, Reads W v xs ∧ xs.length ≤ 140737488355328 ∧ (∀ x ∈ xs, x.size ≤ 140737488355328) ∧ ∃ spare, d = .nil ∧ xs = [] ∨ d = .slice (strs xs) spare := by
  obtain ⟨a0, len, cap, rfl⟩ := okWide_slice ht hval
  obtain ⟨fuel, hf⟩ := h
  have hreach : reachBytes ≤ 140737488355328 := by decide
  rcases open_strings ht he hc hf with ⟨hcs, hx⟩ | ⟨a, len', cap', ss, hcs, _, hl, hm, hz, hx, hcell, hsz⟩
  · simp [Value.cells] at hcs
    obtain ⟨rfl, rfl, rfl⟩ := hcs
    have hd : d = .nil := (Prod.mk.inj hx).1
    exact ⟨[], .inl ⟨rfl, none, 0, rfl⟩, by simp, by simp, [], .inl ⟨hd, rfl⟩⟩
  · simp [Value.cells] at hcs
    obtain ⟨rfl, rfl, rfl⟩ := hcs
    have hd : d = .slice (strs (ss.take len)) (strs (ss.drop len)) := (Prod.mk.inj hx).1
    subst hd
    simp only [if_true] at hz
    have hxl : (ss.take len).length = len := by simp; omega
    have hlen : len ≤ 140737488355328 := by
      have h1 := hw (((strs (H := H) (ss.take len)).length + (strs (H := H) (ss.drop len)).length) * P.bytesOf e) (by simp [DataW.weights, ht])
      have h2 : len ≤ (strs (H := H) (ss.take len)).length + (strs (H := H) (ss.drop len)).length := by simp [strs]; omega
      have h3 := Nat.le_mul_of_pos_right ((strs (H := H) (ss.take len)).length + (strs (H := H) (ss.drop len)).length) hb
      omega
    refine ⟨ss.take len, ?_, by omega, fun x hx => ?_, _, .inr rfl⟩
    · by_cases h0 : len = 0
      · subst h0
        exact .inl ⟨by simp, _, cap, rfl⟩
      · obtain ⟨b, off, spot⟩ := a
        have hspot : spot = none := by simpa [Addr.add] using World.cell?_spot (hcell 0 (by omega))
        subst hspot
        refine .inr ⟨fun e => h0 (by rw [← hxl, e]; rfl), b, off, cap, by rw [hxl], by omega, by unfold maxLen at hm; omega, cell_lt (hcell 0 (by omega)), fun j x hx => ?_⟩
        have hj : j < len := by
          have := (List.getElem?_eq_some_iff.1 hx).1
          omega
        have hX' : ss.getD j ByteArray.empty = x := by
          rw [List.getElem?_take_of_lt hj] at hx
          simp [List.getD, hx]
        have hcj := hcell j (by omega)
        rw [hX'] at hcj
        have ha : (⟨b, off, none⟩ : Addr).add j = ⟨b, off + j, none⟩ := by unfold Addr.add; split <;> simp_all
        rw [← ha]
        exact hcj
    · have hmem : (DataW.lit (H := H) (.string x.data.toList)) ∈ strs (H := H) (ss.take len) := List.mem_map.2 ⟨x, hx, rfl⟩
      have h1 := hw x.data.toList.length (by
        simp only [DataW.weights, ht, List.mem_cons, List.mem_append]
        exact .inr (.inl (mem_weightsAll (by simp [DataW.weights]) hmem)))
      have h2 : x.data.toList.length = x.size := Array.length_toList
      omega

theorem str_reach {l : List UInt8} (h : l.length ≤ reachBytes) : l.length ≤ 140737488355328 := Nat.le_trans h (by decide)
end Go.Proofs.YtbicecbcloellaaDoor
