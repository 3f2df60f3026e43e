/- Words of our own over memory that reads as lists of strings. No function of the program is named here. Maps whose keys are ints: what they hold. What closes a law's row: the post of a law (it answers true, its arguments read as before) out of 'Below'; arguments opened. -/
import Derived.Test.YtfpepoebammeoaaGreatRows
import Derived.WalkKit
import Derived.ProofKit
import Derived.OpenShut
import Derived.WalkSpells
import Derived.Outline
import Derived.BigQuiet
import Derived.Deep.QuietTactic
import Derived.Below
import Derived.Lib.Hide
import Derived.Laws.OwnMore
import Derived.OwnWalk
import Derived.Maps.OwnOps
import Derived.Maps.OwnSet
import Derived.Deep.DeepWitnessRowRef
import Derived.Deep.DeepHandedRow
import Derived.Lib.LaidTab
import Derived.Carry
import Derived.LaidHandle
set_option linter.unusedVariables false
namespace Go.Proofs.YtfpepoebammeoaaGreat
open Go.ChangeShapes Go.WideShapes Go.ChangeAt Go.RowKit

def Cells (w : World) (b o : Nat) (xs : List ByteArray) : Prop :=
  b < w.heap.size ∧ ∀ j x, xs[j]? = some x → w.cell? ⟨b, o + j, none⟩ = some (.string x)

def Reads (w : World) (v : Value) (xs : List ByteArray) : Prop :=
  (xs = [] ∧ ∃ a c, v = .slice a 0 c) ∨ (xs ≠ [] ∧ ∃ b o c, v = .slice (some ⟨b, o, none⟩) xs.length c ∧ xs.length ≤ c ∧ c ≤ 9223372036854775807 ∧ Cells w b o xs)

theorem Cells.below {w w' : World} {b o : Nat} {xs : List ByteArray} (h : Cells w b o xs) (hb : Below w.heap.size w w') : Cells w' b o xs :=
  ⟨Nat.lt_of_lt_of_le h.1 hb.size, fun j x hx => (hb.cell (p := ⟨b, o + j, none⟩) h.1).trans (h.2 j x hx)⟩

theorem Reads.below {w w' : World} {v : Value} {xs : List ByteArray} (h : Reads w v xs) (hb : Below w.heap.size w w') : Reads w' v xs := by
  rcases h with h | ⟨hn, b, o, c, hv, hc, hm, hx⟩
  · exact .inl h
  · exact .inr ⟨hn, b, o, c, hv, hc, hm, hx.below hb⟩

theorem Cells.drew {w : World} {b o : Nat} {xs : List ByteArray} (h : Cells w b o xs) : Cells w.drew b o xs := h
theorem Cells.drewN {w : World} {b o n : Nat} {xs : List ByteArray} (h : Cells w b o xs) : Cells (w.drewN n) b o xs := h
theorem Reads.drewN {w : World} {v : Value} {n : Nat} {xs : List ByteArray} (h : Reads w v xs) : Reads (w.drewN n) v xs := by
  rcases h with h | ⟨hn, b, o, c, hv, hc, hm, hx⟩
  · exact .inl h
  · exact .inr ⟨hn, b, o, c, hv, hc, hm, hx.drewN⟩
theorem Reads.drew {w : World} {v : Value} {xs : List ByteArray} (h : Reads w v xs) : Reads w.drew v xs := h

theorem wpList_push {P : Program} {ops : Array Oper} {rest : List Oper} {o : Oper} {a : Act} {Q : Exit → Act → World → Prop} (hgd : o.guard = none) (s x : Operand) (t : TypeId)
    (ho : o.op = .call { callee := .builtin .append, args := #[s, x], argTypes := #[t, t] })
    (base : Nat) (e : TypeId) (z : Value) (size bytes : Nat) (ht : P.underlying t = some (.slice e)) (hinfo : (P.info? e).map (fun i => (i.zero, i.size, i.bytes)) = some (some z, size, bytes)) (hzs : z.cells.size = size) (hsz : 0 < size)
    (wr : World) (v : Value) (n : Nat) (xs : List Value) (hs : a.eval s = v) (hown : wr.ownsRow base e size v n xs)
    (us : List Value) (c : Nat) (t1 : TypeId) (W : World) (hW : W = wr.alloc (.cells us.toArray t1)) (hx : a.eval x = .slice (some ⟨wr.heap.size, 0, none⟩) 1 c) (hl : us.length = size) (h1 : ∀ u ∈ us, u.oneCell' = true)
    (h63 : n + 1 ≤ 140737488355328) (hbytes : (n + 1) * bytes ≤ 140737488355328) (hbase : base ≤ wr.heap.size)
    (h : ∀ v' w', w'.ownsRow base e size v' (n + 1) (xs ++ us) → (wr.alloc (.cells us.toArray t1)).grownBy w' v.ownBlock → Below base wr w' → wpList P ops Q rest (a.put o.dst v') w') :
    wpList P ops Q (o :: rest) a W := by
  subst hW
  obtain ⟨i, hi, hz, hsize, hby⟩ := info_parts hinfo
  refine wpList_append_own _ hgd s x t ho base e i z size bytes ht hi hz hsize hby hzs hsz v n xs hs (hown.alloc _) ⟨wr.heap.size, 0, none⟩ 1 c us hx (by rw [hl]; omega) ?_ h1 (by unfold maxLen; omega) hbytes (by simp; omega) ?_
  · intro j u hj
    rw [show (⟨wr.heap.size, 0, none⟩ : Addr).add j = ⟨wr.heap.size, j, none⟩ by unfold Addr.add; split <;> simp_all, World.cell?_alloc_at _ _ _ _ rfl]
    simpa using hj
  · intro v' w' h1' h2' _
    refine h v' w' h1' h2' (((Below.refl _ _).alloc hbase _).grown h2' (by simp; omega) (fun k hk => (hown.lt k hk).1))

theorem cell_lt {w : World} {b o : Nat} {v : Value} (h : w.cell? ⟨b, o, none⟩ = some v) : b < w.heap.size := by
  rcases Nat.lt_or_ge b w.heap.size with h' | h'
  · exact h'
  · have e : w.heap[b]? = none := Array.getElem?_eq_none h'
    simp [World.cell?, e] at h

theorem Below.drewN {B n : Nat} {a w : World} (h : Below B a w) : Below B a (w.drewN n) := ⟨h.os, h.tape, h.output, h.size, h.block⟩

theorem take_succ_eq {α : Type} {xs ys : List α} {k : Nat} {x y : α} (h : xs.take k = ys.take k) (hx : xs[k]? = some x) (hy : ys[k]? = some y) (e : x = y) : xs.take (k + 1) = ys.take (k + 1) := by
  rw [List.take_add_one, List.take_add_one, h, hx, hy, e]

theorem ba_ne {x y : ByteArray} (h : (!x.toList == y.toList) = true) : x ≠ y := by
  rintro rfl
  simp at h
theorem ba_eq {x y : ByteArray} (h : (!x.toList == y.toList) = false) : x = y := by
  have h' : x.toList = y.toList := by simpa using h
  have e : x.data.toList = y.data.toList := by rw [← ByteArray.toList_eq x, ← ByteArray.toList_eq y]; exact h'
  cases x; cases y
  simp only [ByteArray.mk.injEq]
  exact Array.toList_inj.1 e

theorem ba_eq' {x y : ByteArray} (h : (x.toList == y.toList) = true) : x = y := by
  refine ba_eq ?_
  rw [h]; rfl
theorem ba_ne' {x y : ByteArray} (h : (x.toList == y.toList) = false) : x ≠ y := by
  refine ba_ne ?_
  rw [h]; rfl

theorem ret_bool {a b : Bool} (h : a = b) : Ending.returned (.bool a) = .returned (.bool b) := by rw [h]
theorem ret_int {k : IntKind} {a b : Int} (h : a = b) : Ending.returned (.int k a) = .returned (.int k b) := by rw [h]
theorem ret_str {a b : ByteArray} (h : a = b) : Ending.returned (.string a) = .returned (.string b) := by rw [h]
end Go.Proofs.YtfpepoebammeoaaGreat
set_option linter.unusedVariables false
namespace Go.Proofs.YtfpepoebammeoaaGreat
open Go.ChangeShapes Go.WideShapes Go.ChangeAt Go.RowKit Go.WideMaps Go.Maps

theorem ilaw : Keyed Tryz.prog 3 := int_keyed Tryz.underlying3
abbrev DU := DataW Unit
abbrev li (x : Int) : Lit := .int .i64 x
theorem li_ne {x y : Int} (h : x ≠ y) : li x ≠ li y := fun e => h (by injection e)
theorem li_wf {x : Int} (h1 : -9223372036854775808 ≤ x) (h2 : x ≤ 9223372036854775807) : (li x).wf = true := by
  show (decide (IntKind.i64.min ≤ x) && decide (x ≤ IntKind.i64.max)) = true
  rw [Bool.and_eq_true, decide_eq_true_iff, decide_eq_true_iff]
  exact ⟨h1, h2⟩
theorem li_key {x : Int} (h1 : -9223372036854775808 ≤ x) (h2 : x ≤ 9223372036854775807) : keyOf Tryz.prog 3 (.int .i64 x) = some (li x) := keyOf_int_mk Tryz.underlying3 (li_wf h1 h2)
theorem has_li {D : DU} (hD : IsMap D) (x y : Int) (d : DU) : has (D.put (li x) d) (li y) = (y == x || has D (li y)) := by
  by_cases e : y = x
  · subst e
    rw [has_put_same hD (by exact trivial)]
    simp
  · rw [has_put_other (li_ne e)]
    have : (y == x) = false := by rw [beq_eq_false_iff_ne]; exact e
    rw [this, Bool.false_or]
theorem at_li {D : DU} (hD : IsMap D) (x y : Int) (d z : DU) : (D.put (li x) d).atKey (li y) z = if y = x then d else D.atKey (li y) z := by
  by_cases e : y = x
  · subst e
    rw [if_pos rfl]
    exact atKey_put_same hD (by exact trivial) d z
  · rw [if_neg e]
    exact atKey_put_other (li_ne e) d z
def MS (W : World) (b : Nat) (ks : List Int) : Prop := ∃ D : DU, W.ownsMap Tryz.prog 3 unitElem b ks.length D ∧ ∀ y, has D (li y) = ks.contains y
theorem MS.lt {W : World} {b : Nat} {ks : List Int} (h : MS W b ks) : b < W.heap.size := by obtain ⟨D, h, _⟩ := h; exact World.ownsMap.lt h
theorem owns_below {W W' : World} {R : Value → Option (DU × List MemPlace)} {b n : Nat} {D : DU} (h : W.ownsMap Tryz.prog 3 R b n D) (hb : Below W.heap.size W W') : W'.ownsMap Tryz.prog 3 R b n D := by
  have hlt := World.ownsMap.lt h
  obtain ⟨es, clock, h0, F, hs, hD⟩ := h
  exact ⟨es, clock, (hb.block b hlt).trans h0, F, hs, hD⟩
theorem MS.below {W W' : World} {b : Nat} {ks : List Int} (h : MS W b ks) (hb : Below W.heap.size W W') : MS W' b ks := by
  obtain ⟨D, h, h2⟩ := h
  exact ⟨D, owns_below h hb, h2⟩
theorem MS.made (W : World) : MS (W.alloc (.map #[] 0)) W.heap.size [] := ⟨.map [], World.ownsMap_made _ _ _ _, fun y => rfl⟩
theorem MS.step {W : World} {b : Nat} {ks : List Int} {D : DU} {x : Int} (hD : IsMap D) (h : ∀ y, has D (li y) = ks.contains y) (h' : W.ownsMap Tryz.prog 3 unitElem b (ks.length + 1) (D.put (li x) (.agg []))) : MS W b (ks ++ [x]) := by
  refine ⟨_, by rw [List.length_append, List.length_singleton]; exact h', fun y => ?_⟩
  rw [has_li hD, h y, Bool.eq_iff_iff]
  simp
  exact Or.comm
end Go.Proofs.YtfpepoebammeoaaGreat
set_option linter.unusedVariables false
namespace Go.Proofs.YtfpepoebammeoaaGreat
open Go.ChangeShapes Go.WideShapes Go.ChangeAt Go.RowKit

theorem Tryz.own : ownKnob Tryz.prog.godebug = none := by kernel_rfl
theorem Tryz.laidOut : laidOutB Tryz.prog = true := by kernel_rfl

theorem trodAll_below {H : Type} {enc : TypeId × Value → H} {P : Program} (hl : laidOutB P = true) {W W' : World} (hb : Below W.heap.size W W') :
    ∀ (ts : List TypeId) (vs : List Value) (ds : List (DataW H)) (ps : List MemPlace), (∀ t ∈ ts, P.readableRec t = true ∧ t < P.types.size) → (∀ x ∈ ps, x.block < W.heap.size) →
      DataW.TrodAll enc P W 0 (fun _ => true) true ts vs ds ps → DataW.TrodAll enc P W' 0 (fun b => decide (b < W.heap.size)) true ts vs ds ps
  | [], vs, ds, ps, _, _, h => by
    cases vs <;> cases ds <;> exact h
  | t :: ts, vs, ds, ps, ht, hp, h => by
    obtain ⟨v, vs', d, ds', p, q, rfl, rfl, rfl, h0, h1⟩ := trodAll_cons h
    exact trodAll_cons_mk (Below.trod hl (ht t (by simp)).1 (ht t (by simp)).2 h0 hb fun x hx => hp x (by simp [hx])) (trodAll_below hl hb ts vs' ds' q (fun u hu => ht u (by simp [hu])) (fun x hx => hp x (by simp [hx])) h1)

theorem law_post {H : Type} {enc : TypeId × Value → H} {P : Program} {f : Func} {s : ChangeSpec} {W W' : World} {args : Array Value} {ds gs : List (DataW H)} {before : List MemPlace} {tb : TypeId}
    (hl : laidOutB P = true) (hp : f.params.toList.all (fun t => P.readableRec t && decide (t < P.types.size)) = true) (hv : s.vars = []) (hr : f.resultTypes = #[tb]) (htb : P.underlying tb = some .bool)
    (hW : DataW.Whole enc P f.params.toList s.vars false W args.toList ds gs before) (hspec : s.fn H (ds ++ gs) = { results := [.lit (.bool true)], args := ds }) (hb : Below W.heap.size W W') :
    s.post enc P f false true false false W args (.bool true) W' := by
  have hW0 := hW
  have hlt := fun p (hp : p ∈ before) => hW.lt p hp
  obtain ⟨p, q, hA, hV, rfl, _, _⟩ := hW
  rw [hv] at hV
  obtain ⟨rfl, rfl⟩ := trodVars_none hV
  refine ⟨ds, [], p ++ [], [], p, [], hW0, ?_, ?_, ?_, ?_, fun h => by cases h⟩
  · rw [hspec, hr]
    exact trodAll_cons_mk (shut_bool htb _) trodAll_mk0
  · rw [hspec]
    refine trodAll_below hl hb _ _ _ _ (fun t ht => ?_) (fun x hx => hlt x (by simpa using hx)) hA
    have := List.all_eq_true.1 hp t ht
    simpa using this
  · rw [hspec, hv]
    exact rfl
  · exact World.keptBut_mono (fun x hx => ⟨hx, .inr (.inl (by simpa using hx))⟩) (hb.frame (· ∈ p ++ []))

theorem mem_weightsAll {H : Type} {P : Program} {e : TypeId} {d : DataW H} {n : Nat} (hn : n ∈ d.weights P e) : ∀ {l : List (DataW H)}, d ∈ l → n ∈ DataW.weightsAll P e l
  | x :: r, h => by
    simp only [DataW.weightsAll, List.mem_append]
    cases List.mem_cons.1 h with
    | inl h => subst h; exact .inl hn
    | inr h => exact .inr (mem_weightsAll hn h)

theorem weights_reach {H : Type} {P : Program} {ts : List TypeId} {ds : List (DataW H)} (h : (DataW.weightsEach P ts ds).all (· ≤ reachBytes) = true) {j : Nat} {t : TypeId} {d : DataW H} (ht : ts[j]? = some t) (hd : ds[j]? = some d) :
    ∀ n ∈ d.weights P t, n ≤ reachBytes := by
  intro n hn
  have := List.all_eq_true.1 h n (DataW.weights_mem_each ht hd n hn)
  simpa using this

noncomputable def laidWorld (os : Os) : World := World.holding Tryz.prog os ⟨#[], #[], []⟩
end Go.Proofs.YtfpepoebammeoaaGreat
