/- Words of our own over memory that reads as9 lists of strings. No function of the program is named here. Maps whose keys are ints: what they hold. What closes a law's row: the post of a law (it answers true, its arguments read as9 before) out of 'Below'; arguments opened. 'Outside of the blocks Z nothing has turned'; slices that a call has made, of elements of any number of cells, and append to them out of whatever source. No function of the program is named here. Maps from ints to ints: what they hold. Maps from ints to bools that are true, and from ints to ints by a function: what they hold. -/
import Derived.Test.YtfpepoebammeoaaGreatRows
import Derived.WalkKit
import Derived.ProofKit
import Derived.OpenShut
import Derived.WalkSpells
import Derived.Outline
import Derived.BigQuiet
import Derived.Deep.QuietTactic
import Derived.Below
import Derived.Lib.Hide
import Derived.Laws.OwnMore
import Derived.OwnWalk
import Derived.Maps.OwnOps
import Derived.Maps.OwnSet
import Derived.Deep.DeepWitnessRowRef
import Derived.Deep.DeepHandedRow
import Derived.Lib.LaidTab
import Derived.Carry
import Derived.LaidHandle
import Derived.Deep.AppendSrc
import Derived.Deep.MidRow
import Derived.Deep.RegionLaw
import Derived.Laws.IdiomStrings
import Derived.Sort.Grow
import Derived.Maps.RangeWalk
set_option linter.unusedVariables false
namespace Go.Proofs.YtfpepoebammeoaaGreat
open Go.ChangeShapes Go.WideShapes Go.ChangeAt Go.RowKit

def Cells (w : World) (b o : Nat) (xs : List ByteArray) : Prop :=
  b < w.heap.size ∧ ∀ j x, xs[j]? = some x → w.cell? ⟨b, o + j, none⟩ = some (.string x)

def Reads (w : World) (v : Value) (xs : List ByteArray) : Prop :=
  (xs = [] ∧ ∃ a c, v = .slice a 0 c) ∨ (xs ≠ [] ∧ ∃ b o c, v = .slice (some ⟨b, o, none⟩) xs.length c ∧ xs.length ≤ c ∧ c ≤ 9223372036854775807 ∧ Cells w b o xs)

theorem Cells.below {w w' : World} {b o : Nat} {xs : List ByteArray} (h : Cells w b o xs) (hb : Below w.heap.size w w') : Cells w' b o xs :=
  ⟨Nat.lt_of_lt_of_le h.1 hb.size, fun j x hx => (hb.cell (p := ⟨b, o + j, none⟩) h.1).trans (h.2 j x hx)⟩

theorem Reads.below {w w' : World} {v : Value} {xs : List ByteArray} (h : Reads w v xs) (hb : Below w.heap.size w w') : Reads w' v xs := by
  rcases h with h | ⟨hn, b, o, c, hv, hc, hm, hx⟩
  · exact .inl h
  · exact .inr ⟨hn, b, o, c, hv, hc, hm, hx.below hb⟩

theorem Cells.drew {w : World} {b o : Nat} {xs : List ByteArray} (h : Cells w b o xs) : Cells w.drew b o xs := h
theorem Cells.drewN {w : World} {b o n : Nat} {xs : List ByteArray} (h : Cells w b o xs) : Cells (w.drewN n) b o xs := h
theorem Reads.drewN {w : World} {v : Value} {n : Nat} {xs : List ByteArray} (h : Reads w v xs) : Reads (w.drewN n) v xs := by
  rcases h with h | ⟨hn, b, o, c, hv, hc, hm, hx⟩
  · exact .inl h
  · exact .inr ⟨hn, b, o, c, hv, hc, hm, hx.drewN⟩
theorem Reads.drew {w : World} {v : Value} {xs : List ByteArray} (h : Reads w v xs) : Reads w.drew v xs := h

theorem cell_lt {w : World} {b o : Nat} {v : Value} (h : w.cell? ⟨b, o, none⟩ = some v) : b < w.heap.size := by
  rcases Nat.lt_or_ge b w.heap.size with h' | h'
  · exact h'
  · have e : w.heap[b]? = none := Array.getElem?_eq_none h'
    simp [World.cell?, e] at h

theorem Below.drewN {B n : Nat} {a w : World} (h : Below B a w) : Below B a (w.drewN n) := ⟨h.os, h.tape, h.output, h.size, h.block⟩

theorem ret_int {k : IntKind} {a b : Int} (h : a = b) : Ending.returned (.int k a) = .returned (.int k b) := by rw [h]
end Go.Proofs.YtfpepoebammeoaaGreat
set_option linter.unusedVariables false
namespace Go.Proofs.YtfpepoebammeoaaGreat
open Go.ChangeShapes Go.WideShapes Go.ChangeAt Go.RowKit Go.WideMaps Go.Maps

theorem ilaw : Keyed Tryz.prog 3 := int_keyed Tryz.underlying3
abbrev DU := DataW Unit
abbrev li (x : Int) : Lit := .int .i64 x
theorem li_ne {x y : Int} (h : x ≠ y) : li x ≠ li y := fun e => h (by injection e)
theorem li_wf {x : Int} (h1 : -9223372036854775808 ≤ x) (h2 : x ≤ 9223372036854775807) : (li x).wf = true := by
  show (decide (IntKind.i64.min ≤ x) && decide (x ≤ IntKind.i64.max)) = true
  rw [Bool.and_eq_true, decide_eq_true_iff, decide_eq_true_iff]
  exact ⟨h1, h2⟩
theorem li_key {x : Int} (h1 : -9223372036854775808 ≤ x) (h2 : x ≤ 9223372036854775807) : keyOf Tryz.prog 3 (.int .i64 x) = some (li x) := keyOf_int_mk Tryz.underlying3 (li_wf h1 h2)
theorem has_li {D : DU} (hD : IsMap D) (x y : Int) (d : DU) : has (D.put (li x) d) (li y) = (y == x || has D (li y)) := by
  by_cases e : y = x
  · subst e
    rw [has_put_same hD (by exact trivial)]
    simp
  · rw [has_put_other (li_ne e)]
    have : (y == x) = false := by rw [beq_eq_false_iff_ne]; exact e
    rw [this, Bool.false_or]
theorem at_li {D : DU} (hD : IsMap D) (x y : Int) (d z : DU) : (D.put (li x) d).atKey (li y) z = if y = x then d else D.atKey (li y) z := by
  by_cases e : y = x
  · subst e
    rw [if_pos rfl]
    exact atKey_put_same hD (by exact trivial) d z
  · rw [if_neg e]
    exact atKey_put_other (li_ne e) d z
def MS (W : World) (b : Nat) (ks : List Int) : Prop := ∃ D : DU, W.ownsMap Tryz.prog 3 unitElem b ks.length D ∧ ∀ y, has D (li y) = ks.contains y
theorem MS.lt {W : World} {b : Nat} {ks : List Int} (h : MS W b ks) : b < W.heap.size := by obtain ⟨D, h, _⟩ := h; exact World.ownsMap.lt h
theorem owns_below {W W' : World} {R : Value → Option (DU × List MemPlace)} {b n : Nat} {D : DU} (h : W.ownsMap Tryz.prog 3 R b n D) (hb : Below W.heap.size W W') : W'.ownsMap Tryz.prog 3 R b n D := by
  have hlt := World.ownsMap.lt h
  obtain ⟨es, clock, h0, F, hs, hD⟩ := h
  exact ⟨es, clock, (hb.block b hlt).trans h0, F, hs, hD⟩
theorem MS.below {W W' : World} {b : Nat} {ks : List Int} (h : MS W b ks) (hb : Below W.heap.size W W') : MS W' b ks := by
  obtain ⟨D, h, h2⟩ := h
  exact ⟨D, owns_below h hb, h2⟩
theorem MS.made (W : World) : MS (W.alloc (.map #[] 0)) W.heap.size [] := ⟨.map [], World.ownsMap_made _ _ _ _, fun y => rfl⟩
theorem MS.step {W : World} {b : Nat} {ks : List Int} {D : DU} {x : Int} (hD : IsMap D) (h : ∀ y, has D (li y) = ks.contains y) (h' : W.ownsMap Tryz.prog 3 unitElem b (ks.length + 1) (D.put (li x) (.agg []))) : MS W b (ks ++ [x]) := by
  refine ⟨_, by rw [List.length_append, List.length_singleton]; exact h', fun y => ?_⟩
  rw [has_li hD, h y, Bool.eq_iff_iff]
  simp
  exact Or.comm
end Go.Proofs.YtfpepoebammeoaaGreat
set_option linter.unusedVariables false
namespace Go.Proofs.YtfpepoebammeoaaGreat
open Go.ChangeShapes Go.WideShapes Go.ChangeAt Go.RowKit

theorem Tryz.own : ownKnob Tryz.prog.godebug = none := by kernel_rfl
theorem Tryz.laidOut : laidOutB Tryz.prog = true := by kernel_rfl

theorem trodAll_below {H : Type} {enc : TypeId × Value → H} {P : Program} (hl : laidOutB P = true) {W W' : World} (hb : Below W.heap.size W W') :
    ∀ (ts : List TypeId) (vs : List Value) (ds : List (DataW H)) (ps : List MemPlace), (∀ t ∈ ts, P.readableRec t = true ∧ t < P.types.size) → (∀ x ∈ ps, x.block < W.heap.size) →
      DataW.TrodAll enc P W 0 (fun _ => true) true ts vs ds ps → DataW.TrodAll enc P W' 0 (fun b => decide (b < W.heap.size)) true ts vs ds ps
  | [], vs, ds, ps, _, _, h => by
    cases vs <;> cases ds <;> exact h
  | t :: ts, vs, ds, ps, ht, hp, h => by
    obtain ⟨v, vs', d, ds', p, q, rfl, rfl, rfl, h0, h1⟩ := trodAll_cons h
    exact trodAll_cons_mk (Below.trod hl (ht t (by simp)).1 (ht t (by simp)).2 h0 hb fun x hx => hp x (by simp [hx])) (trodAll_below hl hb ts vs' ds' q (fun u hu => ht u (by simp [hu])) (fun x hx => hp x (by simp [hx])) h1)

theorem law_post {H : Type} {enc : TypeId × Value → H} {P : Program} {f : Func} {s : ChangeSpec} {W W' : World} {args : Array Value} {ds gs : List (DataW H)} {before : List MemPlace} {tb : TypeId}
    (hl : laidOutB P = true) (hp : f.params.toList.all (fun t => P.readableRec t && decide (t < P.types.size)) = true) (hv : s.vars = []) (hr : f.resultTypes = #[tb]) (htb : P.underlying tb = some .bool)
    (hW : DataW.Whole enc P f.params.toList s.vars false W args.toList ds gs before) (hspec : s.fn H (ds ++ gs) = { results := [.lit (.bool true)], args := ds }) (hb : Below W.heap.size W W') :
    s.post enc P f false true false false W args (.bool true) W' := by
  have hW0 := hW
  have hlt := fun p (hp : p ∈ before) => hW.lt p hp
  obtain ⟨p, q, hA, hV, rfl, _, _⟩ := hW
  rw [hv] at hV
  obtain ⟨rfl, rfl⟩ := trodVars_none hV
  refine ⟨ds, [], p ++ [], [], p, [], hW0, ?_, ?_, ?_, ?_, fun h => by cases h⟩
  · rw [hspec, hr]
    exact trodAll_cons_mk (shut_bool htb _) trodAll_mk0
  · rw [hspec]
    refine trodAll_below hl hb _ _ _ _ (fun t ht => ?_) (fun x hx => hlt x (by simpa using hx)) hA
    have := List.all_eq_true.1 hp t ht
    simpa using this
  · rw [hspec, hv]
    exact rfl
  · exact World.keptBut_mono (fun x hx => ⟨hx, .inr (.inl (by simpa using hx))⟩) (hb.frame (· ∈ p ++ []))

theorem weights_reach {H : Type} {P : Program} {ts : List TypeId} {ds : List (DataW H)} (h : (DataW.weightsEach P ts ds).all (· ≤ reachBytes) = true) {j : Nat} {t : TypeId} {d : DataW H} (ht : ts[j]? = some t) (hd : ds[j]? = some d) :
    ∀ n ∈ d.weights P t, n ≤ reachBytes := by
  intro n hn
  have := List.all_eq_true.1 h n (DataW.weights_mem_each ht hd n hn)
  simpa using this

noncomputable def laidWorld (os : Os) : World := World.holding Tryz.prog os ⟨#[], #[], []⟩
end Go.Proofs.YtfpepoebammeoaaGreat
set_option linter.unusedVariables false
namespace Go.Proofs.YtfpepoebammeoaaGreat
open Go.ChangeShapes Go.WideShapes Go.ChangeAt Go.RowKit

structure Off (Z : Nat → Prop) (w w' : World) : Prop where
  os : w'.os = w.os
  tape : w'.tape = w.tape
  output : w'.output = w.output
  size : w.heap.size ≤ w'.heap.size
  block : ∀ i, i < w.heap.size → ¬ Z i → w'.heap[i]? = w.heap[i]?

theorem Off.refl (Z : Nat → Prop) (w : World) : Off Z w w := ⟨rfl, rfl, rfl, Nat.le_refl _, fun _ _ _ => rfl⟩
theorem Off.trans {Z : Nat → Prop} {a b c : World} (h : Off Z a b) (k : Off Z b c) : Off Z a c :=
  ⟨k.os.trans h.os, k.tape.trans h.tape, k.output.trans h.output, Nat.le_trans h.size k.size, fun i hi hz => (k.block i (Nat.lt_of_lt_of_le hi h.size) hz).trans (h.block i hi hz)⟩
theorem Off.trans' {Z Z' : Nat → Prop} {a b c : World} (h : Off Z a b) (k : Off Z' b c) (hz : ∀ i, i < a.heap.size → Z' i → Z i) : Off Z a c :=
  ⟨k.os.trans h.os, k.tape.trans h.tape, k.output.trans h.output, Nat.le_trans h.size k.size, fun i hi hn => (k.block i (Nat.lt_of_lt_of_le hi h.size) (fun z => hn (hz i hi z))).trans (h.block i hi hn)⟩
theorem Off.drew {Z : Nat → Prop} {a b : World} (h : Off Z a b) : Off Z a b.drew := ⟨h.os, h.tape, h.output, h.size, h.block⟩
theorem Off.drewN {Z : Nat → Prop} {a b : World} {n : Nat} (h : Off Z a b) : Off Z a (b.drewN n) := ⟨h.os, h.tape, h.output, h.size, h.block⟩
theorem Off.alloc {Z : Nat → Prop} {a b : World} (h : Off Z a b) (o : Obj) : Off Z a (b.alloc o) :=
  h.trans ⟨rfl, rfl, rfl, by simp, fun i hi _ => Below.heap_alloc _ _ _ hi⟩
theorem Off.setCell {Z : Nat → Prop} {a b : World} (h : Off Z a b) {p : Addr} (hp : a.heap.size ≤ p.block ∨ Z p.block) (u : Value) : Off Z a (b.setCell p u) :=
  h.trans' (Z' := fun i => i = p.block) ⟨rfl, rfl, rfl, by simp [World.setCell], fun i hi hn => Below.heap_setCell _ _ _ _ hn⟩ (fun i hi e => by
    subst e
    rcases hp with hp | hp
    · omega
    · exact hp)
theorem Off.below {Z : Nat → Prop} {a b : World} {B : Nat} (h : Off Z a b) (hz : ∀ i, Z i → B ≤ i) (hB : B ≤ a.heap.size) : Below B a b :=
  ⟨h.os, h.tape, h.output, h.size, fun i hi => h.block i (by omega) (fun z => by have := hz i z; omega)⟩
theorem Off.mono {Z Z' : Nat → Prop} {a b : World} (h : Off Z a b) (hz : ∀ i, Z i → Z' i) : Off Z' a b := ⟨h.os, h.tape, h.output, h.size, fun i hi hn => h.block i hi (fun z => hn (hz i z))⟩
theorem Off.of_below {Z : Nat → Prop} {a b : World} (h : Below a.heap.size a b) : Off Z a b := ⟨h.os, h.tape, h.output, h.size, fun i hi _ => h.block i hi⟩
theorem Off.cell {Z : Nat → Prop} {w w' : World} (h : Off Z w w') {p : Addr} (hp : p.block < w.heap.size) (hz : ¬ Z p.block) : w'.cell? p = w.cell? p := World.cell?_of_block (w := w) (h.block p.block hp hz)
theorem Off.frozen {Z : Nat → Prop} {w w' : World} (h : Off Z w w') {p : Addr} (hp : p.block < w.heap.size) (hz : ¬ Z p.block) : w'.frozen? p = w.frozen? p := World.frozen?_of_block (w := w) (h.block p.block hp hz)
def Row (k B : Nat) (w : World) (v : Value) (n : Nat) (cs : List Value) : Prop :=
  cs.length = n * k ∧ ((v = .slice none 0 0 ∧ n = 0) ∨ ∃ b cap, v = .slice (some ⟨b, 0, none⟩) n cap ∧ B ≤ b ∧ b < w.heap.size ∧ n ≤ cap ∧ cap ≤ maxLen ∧
    (∀ j, j < cap * k → (w.cell? ⟨b, j, none⟩).isSome = true ∧ w.frozen? ⟨b, j, none⟩ = false) ∧ ∀ j u, cs[j]? = some u → w.cell? ⟨b, j, none⟩ = some u)

theorem Row.nil (k B : Nat) (w : World) : Row k B w (.slice none 0 0) 0 [] := ⟨by simp, .inl ⟨rfl, rfl⟩⟩
theorem Row.carry {k B : Nat} {w w' : World} {v : Value} {n : Nat} {cs : List Value} (h : Row k B w v n cs) (hs : w.heap.size ≤ w'.heap.size) (hb : ∀ b, v.ownBlock = some b → w'.heap[b]? = w.heap[b]?) : Row k B w' v n cs := by
  obtain ⟨h0, h | ⟨b, cap, rfl, h2, h3, h4, h5, h6, h7⟩⟩ := h
  · exact ⟨h0, .inl h⟩
  · have e := hb b rfl
    refine ⟨h0, .inr ⟨b, cap, rfl, h2, by omega, h4, h5, fun j hj => ⟨?_, ?_⟩, fun j u hu => ?_⟩⟩
    · rw [World.cell?_of_block (w := w) (a := ⟨b, j, none⟩) e]; exact (h6 j hj).1
    · rw [World.frozen?_of_block (w := w) (a := ⟨b, j, none⟩) e]; exact (h6 j hj).2
    · rw [World.cell?_of_block (w := w) (a := ⟨b, j, none⟩) e]; exact h7 j u hu
theorem Row.lt {k B : Nat} {w : World} {v : Value} {n : Nat} {cs : List Value} (h : Row k B w v n cs) : ∀ b, v.ownBlock = some b → B ≤ b ∧ b < w.heap.size := by
  intro b hb
  obtain ⟨h0, ⟨rfl, _⟩ | ⟨b', cap, rfl, h2, h3, _⟩⟩ := h
  · simp [Value.ownBlock] at hb
  · have : b' = b := by simpa [Value.ownBlock] using hb
    subst this; exact ⟨h2, h3⟩
theorem Row.below {k B : Nat} {w w' : World} {v : Value} {n : Nat} {cs : List Value} (h : Row k B w v n cs) (hb : Below w.heap.size w w') : Row k B w' v n cs :=
  h.carry hb.size fun b hv => hb.block b (h.lt b hv).2
theorem Row.off {k B : Nat} {Z : Nat → Prop} {w w' : World} {v : Value} {n : Nat} {cs : List Value} (h : Row k B w v n cs) (ho : Off Z w w') (hz : ∀ b, v.ownBlock = some b → ¬ Z b) : Row k B w' v n cs :=
  h.carry ho.size fun b hv => ho.block b (h.lt b hv).2 (hz b hv)
theorem Row.mono {k B B' : Nat} {w : World} {v : Value} {n : Nat} {cs : List Value} (h : Row k B w v n cs) (hb : B' ≤ B) : Row k B' w v n cs := by
  obtain ⟨h0, h | ⟨b, cap, h1, h2, h3⟩⟩ := h
  · exact ⟨h0, .inl h⟩
  · exact ⟨h0, .inr ⟨b, cap, h1, Nat.le_trans hb h2, h3⟩⟩
theorem Row.drewN {k B n d : Nat} {w : World} {v : Value} {cs : List Value} (h : Row k B w v n cs) : Row k B (w.drewN d) v n cs := h
theorem Row.drew {k B n : Nat} {w : World} {v : Value} {cs : List Value} (h : Row k B w v n cs) : Row k B w.drew v n cs := h
theorem Row.alloc {k B n : Nat} {w : World} {v : Value} {cs : List Value} (h : Row k B w v n cs) (o : Obj) : Row k B (w.alloc o) v n cs :=
  h.below ((Below.refl _ _).alloc (Nat.le_refl _) o)
theorem Row.setOther {k B n : Nat} {w : World} {v : Value} {cs : List Value} (h : Row k B w v n cs) {p : Addr} (hp : v.ownBlock ≠ some p.block) (u : Value) : Row k B (w.setCell p u) v n cs :=
  h.carry (by simp [World.setCell]) fun b hb => Below.heap_setCell _ _ _ _ (fun e => hp (by rw [hb, e]))
theorem Row.form {k B n : Nat} {w : World} {v : Value} {cs : List Value} (h : Row k B w v n cs) : ∃ a c, v = .slice a n c := by
  obtain ⟨h0, ⟨rfl, rfl⟩ | ⟨b, cap, h1, _⟩⟩ := h
  · exact ⟨none, 0, rfl⟩
  · exact ⟨_, _, h1⟩
theorem Row.form' {k B n : Nat} {w : World} {v : Value} {cs : List Value} (h : Row k B w v n cs) : ∃ a c, v = .slice a n c ∧ n ≤ c ∧ c ≤ maxLen := by
  obtain ⟨h0, ⟨rfl, rfl⟩ | ⟨b, cap, h1, _, _, h2, h3, _⟩⟩ := h
  · exact ⟨none, 0, rfl, Nat.le_refl _, Nat.zero_le _⟩
  · exact ⟨_, _, h1, h2, h3⟩
theorem Row.pos {k B n : Nat} {w : World} {v : Value} {cs : List Value} (h : Row k B w v n cs) (hp : 0 < n) : ∃ b cap, v = .slice (some ⟨b, 0, none⟩) n cap ∧ B ≤ b ∧ b < w.heap.size ∧ n ≤ cap ∧ cap ≤ maxLen ∧
    (∀ j, j < cap * k → (w.cell? ⟨b, j, none⟩).isSome = true ∧ w.frozen? ⟨b, j, none⟩ = false) ∧ ∀ j u, cs[j]? = some u → w.cell? ⟨b, j, none⟩ = some u := by
  obtain ⟨h0, ⟨rfl, rfl⟩ | h⟩ := h
  · omega
  · exact h

theorem row_new {k B : Nat} {w : World} {e : TypeId} {n : Nat} {cs : List Value} {cap : Nat} {xs : Array Value} {fr : Nat × Nat} (hB : B ≤ w.heap.size) (hl : cs.length = n * k) (hc : n ≤ cap) (hm : cap ≤ maxLen) (hs : cap * k ≤ xs.size) (hf : fr = (0, 0) ∨ cap * k ≤ fr.1) (hx : ∀ (j : Nat) (u : Value), cs[j]? = some u → xs[j]? = some u) :
    Row k B (w.alloc (.cells xs e fr)) (.slice (some ⟨w.heap.size, 0, none⟩) n cap) n cs := by
  have hcell : ∀ j, (w.alloc (.cells xs e fr)).cell? ⟨w.heap.size, j, none⟩ = xs[j]? := fun j => World.cell?_alloc_mark w xs e fr j
  refine ⟨hl, .inr ⟨w.heap.size, cap, rfl, hB, by show _ < (w.heap.push _).size; simp, hc, hm, fun j hj => ⟨?_, ?_⟩, fun j u hu => by rw [hcell]; exact hx j u hu⟩⟩
  · rw [hcell, Array.getElem?_eq_getElem (by omega)]; rfl
  · obtain ⟨lo, hi⟩ := fr
    rw [World.frozen?_alloc_mark]
    rcases hf with h | h
    · simp only [Prod.mk.injEq] at h
      simp [h.2]
    · have : ¬ lo ≤ j := by have : cap * k ≤ lo := h; omega
      simp [this]

theorem heap_setCells (vs : List Value) : ∀ (b o : Nat) (w : World), (w.setCells b o vs).heap.size = w.heap.size ∧ (∀ i, i ≠ b → (w.setCells b o vs).heap[i]? = w.heap[i]?) ∧ (w.setCells b o vs).os = w.os ∧ (w.setCells b o vs).tape = w.tape ∧ (w.setCells b o vs).output = w.output := by
  induction vs with
  | nil => intro b o w; exact ⟨rfl, fun _ _ => rfl, rfl, rfl, rfl⟩
  | cons a r ih =>
    intro b o w
    obtain ⟨h1, h2, h3, h4, h5⟩ := ih b (o + 1) (w.setCell ⟨b, o, none⟩ a)
    rw [World.setCells]
    exact ⟨h1.trans (by simp [World.setCell]), fun i hi => (h2 i hi).trans (Below.heap_setCell _ _ _ _ hi), h3, h4, h5⟩

section
variable {P : Program}

theorem run_append_row {k B : Nat} {w : World} {v : Value} {n : Nat} {cs : List Value} (t tx ty e : TypeId) (z : Value) (bytes : Nat) (ht : P.underlying t = some (.slice e)) (hinfo : (P.info? e).map (fun i => (i.zero, i.size, i.bytes)) = some (some z, k, bytes)) (hzk : z.cells.size = k)
    (h : Row k B w v n cs) (x : Value) (m : Nat) (news : List Value) (hsrc : Src P k tx x m news w) (hB : B ≤ w.heap.size) (hl : n + m ≤ 1099511627776) (hb : bytes ≤ 64) :
    ∃ v' w', (Builtin.append_ #[t, tx] ty #[v, x]).run P w = .ok v' w' ∧ Row k B w' v' (n + m) (cs ++ news) ∧ Off (fun i => v.ownBlock = some i) w w' ∧ (v'.ownBlock = v.ownBlock ∨ v'.ownBlock = some w.heap.size) := by
  obtain ⟨i, hi, hzz⟩ := Option.map_eq_some_iff.1 hinfo
  simp only [Prod.mk.injEq] at hzz
  obtain ⟨hz, hsz, hby⟩ := hzz
  obtain ⟨hlen, h⟩ := h
  have hnl := hsrc.newsLen
  have htot : (cs ++ news).length = (n + m) * k := by rw [List.length_append, hlen, hnl, Nat.add_mul]
  rw [← hsz] at hsrc
  have grow : ∀ (base : Option Addr) (sCap : Nat), (Builtin.firstCells i.size n (.slice base n sCap)).run P w.drew = .ok cs.toArray w.drew → sCap < n + m →
      ∃ v' w', (Builtin.append_ #[t, tx] ty #[.slice base n sCap, x]).run P w = .ok v' w' ∧ Row k B w' v' (n + m) (cs ++ news) ∧ Off (fun i => (Value.slice base n sCap).ownBlock = some i) w w' ∧ (v'.ownBlock = (Value.slice base n sCap).ownBlock ∨ v'.ownBlock = some w.heap.size) := by
    intro base sCap hold hg
    have hfit : Builtin.nextslicecap (n + m) sCap * i.bytes ≤ 281474976710656 := growslice_fits hg (by
      rw [hby]
      have := Nat.mul_le_mul hl hb
      omega)
    have hr := run_append_grow_src (P := P) w t tx ty e i z ht hi hz base n sCap cs hold x m news hsrc hg (by omega) hfit
    have hge := grownCap_ge w (n + m) sCap e
    have hcm : grownCap w (n + m) sCap e ≤ maxLen := grownCap_le_maxLen w _ sCap e (by unfold maxLen; omega)
    refine ⟨_, _, hr, ?_, ?_, .inr rfl⟩
    · refine row_new (w := w.drew) (fr := (0, 0)) hB htot hge hcm ?_ (.inl rfl) (fun j u hu => ?_)
      · rw [Array.size_append, List.size_toArray, htot, size_zeroCells, hzk]
        have := Nat.add_mul (n + m) (grownCap w (n + m) sCap e - (n + m)) k
        rw [Nat.add_sub_cancel' hge] at this
        omega
      · rw [Array.getElem?_append, if_pos (by rw [List.size_toArray]; exact (List.getElem?_eq_some_iff.1 hu).1)]
        simpa using hu
    · exact ((Off.refl _ w).drew).alloc _
  rcases h with ⟨rfl, rfl⟩ | ⟨b, cap, rfl, h2, h3, h4, h5, h6, h7⟩
  · have hcs : cs = [] := List.length_eq_zero_iff.1 (by omega)
    subst hcs
    by_cases hm0 : m = 0
    · subst hm0
      have hnews : news = [] := List.length_eq_zero_iff.1 (by omega)
      subst hnews
      refine ⟨.slice none 0 0, w, ?_, ⟨by simp, .inl ⟨rfl, rfl⟩⟩, Off.refl _ _, .inl rfl⟩
      rcases hsrc.kind with ⟨e', hk⟩ | hk <;> simp [Builtin.append_, run_underlying ht, run_underlying hk, sizeOf, typeInfo, hi, hsrc.len, hsrc.cells]
    · exact grow none 0 (by simpa using run_firstCells_none w.drew i.size 0 0 0) (by omega)
  · by_cases hroom : n + m ≤ cap
    · have hfitk : (n + m) * k ≤ cap * k := Nat.mul_le_mul_right _ hroom
      have hr := run_append_room_src (P := P) w t tx ty e i ht hi b 0 n cap x m news hsrc hroom
        (fun j hj => by rw [hsz, Nat.zero_add]; exact (h6 _ (by rw [hnl] at hj; rw [Nat.add_mul] at hfitk; omega)).1) (fun j hj => by rw [hsz, Nat.zero_add]; exact (h6 _ (by rw [hnl] at hj; rw [Nat.add_mul] at hfitk; omega)).2)
      rw [hsz, Nat.zero_add] at hr
      obtain ⟨g1, g2, g3, g4, g5⟩ := heap_setCells news b (n * k) w
      refine ⟨_, _, hr, ⟨htot, .inr ⟨b, cap, rfl, h2, by rw [g1]; exact h3, hroom, h5, fun j hj => ?_, fun j u hu => ?_⟩⟩, ?_, .inl rfl⟩
      · exact ⟨World.isSome_setCells b news (n * k) w _ (h6 j hj).1, by rw [World.frozen?_setCells]; exact (h6 j hj).2⟩
      · have hjl : j < (cs ++ news).length := (List.getElem?_eq_some_iff.1 hu).1
        rw [htot] at hjl
        by_cases e1 : j < cs.length
        · rw [List.getElem?_append_left e1] at hu
          rw [World.cell?_setCells_out b news (n * k) w ⟨b, j, none⟩ (fun _ _ => .inl (by show j < n * k; omega))]
          exact h7 j u hu
        · rw [List.getElem?_append_right (by omega)] at hu
          have hj2 : j - cs.length < news.length := (List.getElem?_eq_some_iff.1 hu).1
          have hin := World.cell?_setCells_in b news (n * k) w (fun i hi => (h6 _ (by rw [hnl] at hi; rw [Nat.add_mul] at hfitk; omega)).1) (j - cs.length) hj2
          rw [show n * k + (j - cs.length) = j by omega] at hin
          rw [hin, ← hu, List.getElem?_eq_getElem hj2]
      · refine ⟨g3, g4, g5, by rw [g1]; exact Nat.le_refl _, fun i hi hn => g2 i (fun e => hn ?_)⟩
        subst e; rfl
    · refine grow (some ⟨b, 0, none⟩) cap (run_firstCells_some w.drew i.size n ⟨b, 0, none⟩ n cap cs (by rw [hsz]; exact hlen) (fun j u hu => ?_)) (by omega)
      have e2 : (⟨b, 0, none⟩ : Addr).add j = ⟨b, j, none⟩ := by unfold Addr.add; split <;> simp_all
      rw [e2]
      exact h7 j u hu

theorem wp_append_row {w : World} {o : Oper} {a : Act} {K : Act → World → Prop} {Q : Exit → Act → World → Prop} (s x : Operand) (t tx : TypeId)
    (ho : o.op = .call { callee := .builtin .append, args := #[s, x], argTypes := #[t, tx] }) (k : Nat) (e : TypeId) (z : Value) (bytes : Nat) (ht : P.underlying t = some (.slice e)) (hinfo : (P.info? e).map (fun i => (i.zero, i.size, i.bytes)) = some (some z, k, bytes)) (hzk : z.cells.size = k)
    (B : Nat) (v : Value) (n : Nat) (cs : List Value) (hs : a.eval s = v) (h : Row k B w v n cs) (xv : Value) (hx : a.eval x = xv) (m : Nat) (news : List Value) (hsrc : Src P k tx xv m news w)
    (hB : B ≤ w.heap.size) (hl : n + m ≤ 1099511627776) (hb : bytes ≤ 64)
    (hK : ∀ v' w', Row k B w' v' (n + m) (cs ++ news) → Off (fun i => v.ownBlock = some i) w w' → (v'.ownBlock = v.ownBlock ∨ v'.ownBlock = some w.heap.size) → K (a.put o.dst v') w') : o.wp P a w K Q := by
  obtain ⟨v', w', hr, h2, h3, h4⟩ := run_append_row (P := P) t tx o.type e z bytes ht hinfo hzk h xv m news hsrc hB hl hb
  unfold Oper.wp execOp
  simp only [ho, resolve, invoke, builtin, Sem.run_bind, Sem.run_pure, Result.andThen_ok, List.map_toArray, List.map_cons, List.map_nil, hs, hx, hr]
  exact hK v' w' h2 h3 h4

theorem wpList_append_row {w : World} {ops : Array Oper} {rest : List Oper} {o : Oper} {a : Act} {Q : Exit → Act → World → Prop} (hgd : o.guard = none) (s x : Operand) (t tx : TypeId)
    (ho : o.op = .call { callee := .builtin .append, args := #[s, x], argTypes := #[t, tx] }) (k : Nat) (e : TypeId) (z : Value) (bytes : Nat) (ht : P.underlying t = some (.slice e)) (hinfo : (P.info? e).map (fun i => (i.zero, i.size, i.bytes)) = some (some z, k, bytes)) (hzk : z.cells.size = k)
    (B : Nat) (v : Value) (n : Nat) (cs : List Value) (hs : a.eval s = v) (h : Row k B w v n cs) (xv : Value) (hx : a.eval x = xv) (m : Nat) (news : List Value) (hsrc : Src P k tx xv m news w)
    (hB : B ≤ w.heap.size) (hl : n + m ≤ 1099511627776) (hb : bytes ≤ 64)
    (hK : ∀ v' w', Row k B w' v' (n + m) (cs ++ news) → Off (fun i => v.ownBlock = some i) w w' → (v'.ownBlock = v.ownBlock ∨ v'.ownBlock = some w.heap.size) → wpList P ops Q rest (a.put o.dst v') w') : wpList P ops Q (o :: rest) a w :=
  wpList_plain hgd fun _ hk => wp_append_row s x t tx ho k e z bytes ht hinfo hzk B v n cs hs h xv hx m news hsrc hB hl hb fun v' w' h2 h3 h4 => hk _ _ (hK v' w' h2 h3 h4)

end

theorem src_new {P : Program} {w : World} {k : Nat} {t e : TypeId} (ht : P.underlying t = some (.slice e)) (us : List Value) (c : Nat) (t1 : TypeId) (m : Nat) (hl : us.length = m * k) (h1 : ∀ u ∈ us, u.oneCell' = true) :
    Src P k t (.slice (some ⟨w.heap.size, 0, none⟩) m c) m us (w.alloc (.cells us.toArray t1)) :=
  Src.ofSlice _ ht _ m c us hl (fun j u hj => by
    have e2 : (⟨w.heap.size, 0, none⟩ : Addr).add j = ⟨w.heap.size, j, none⟩ := by unfold Addr.add; split <;> simp_all
    rw [e2, World.cell?_alloc_at _ _ _ _ rfl]
    simpa using hj) h1
theorem step_append_row {P : Program} {w : World} {ops : Array Oper} {o : Oper} {a : Act} {K : Act → World → Prop} {Q : Exit → Act → World → Prop} {E : Prop} (hgd : o.guard = none) (s x : Operand) (t tx : TypeId)
    (ho : o.op = .call { callee := .builtin .append, args := #[s, x], argTypes := #[t, tx] }) (k : Nat) (e : TypeId) (z : Value) (bytes : Nat) (ht : P.underlying t = some (.slice e)) (hinfo : (P.info? e).map (fun i => (i.zero, i.size, i.bytes)) = some (some z, k, bytes)) (hzk : z.cells.size = k)
    (B : Nat) (v : Value) (n : Nat) (cs : List Value) (hs : a.eval s = v) (h : Row k B w v n cs) (xv : Value) (hx : a.eval x = xv) (m : Nat) (news : List Value) (hsrc : Src P k tx xv m news w)
    (hB : B ≤ w.heap.size) (hl : n + m ≤ 1099511627776) (hb : bytes ≤ 64)
    (hK : ∀ v' w', Row k B w' v' (n + m) (cs ++ news) → Off (fun i => v.ownBlock = some i) w w' → (v'.ownBlock = v.ownBlock ∨ v'.ownBlock = some w.heap.size) → K (a.put o.dst v') w') :
    if Region.wanted o (yielded ops a.tmps) = true then Oper.wp P o a w K Q else E := by
  have hw : Region.wanted o (yielded ops a.tmps) = true := by simp [Region.wanted, hgd]
  rw [if_pos hw]
  exact wp_append_row s x t tx ho k e z bytes ht hinfo hzk B v n cs hs h xv hx m news hsrc hB hl hb hK
end Go.Proofs.YtfpepoebammeoaaGreat
set_option linter.unusedVariables false
namespace Go.Proofs.YtfpepoebammeoaaGreat
open Go.ChangeShapes Go.WideShapes Go.ChangeAt Go.RowKit Go.WideMaps Go.Maps

def MI (W : World) (b : Nat) (hs : List Int) : Prop := ∃ D : DU, W.ownsMap Tryz.prog 3 (plainElem Tryz.prog 3) b hs.length D ∧ (∀ y, has D (li y) = hs.contains y) ∧ (∀ y ∈ hs, D.atKey (li y) (.lit (.int .i64 0)) = .lit (.int .i64 (hs.idxOf y : Int))) ∧ size D = hs.length
theorem MI.lt {W : World} {b : Nat} {hs : List Int} (h : MI W b hs) : b < W.heap.size := by obtain ⟨D, h, _⟩ := h; exact World.ownsMap.lt h
theorem MI.off {W W' : World} {b : Nat} {hs : List Int} {Z : Nat → Prop} (h : MI W b hs) (ho : Off Z W W') (hb : ¬ Z b) : MI W' b hs := by
  have hlt := h.lt
  obtain ⟨D, ⟨es, clock, h0, F, hs, hD⟩, h2⟩ := h
  exact ⟨D, ⟨es, clock, (ho.block b hlt hb).trans h0, F, hs, hD⟩, h2⟩
theorem MI.below {W W' : World} {b : Nat} {hs : List Int} (h : MI W b hs) (hb : Below W.heap.size W W') : MI W' b hs := h.off (Z := fun _ => False) (Off.of_below hb) (fun h => h)
theorem MI.made (W : World) : MI (W.alloc (.map #[] 0)) W.heap.size [] := ⟨.map [], World.ownsMap_made _ _ _ _, fun y => rfl, fun y h => (by cases h), rfl⟩
theorem MI.step {W W0 : World} {b : Nat} {hs : List Int} {D : DU} {x : Int} (h0 : W0.ownsMap Tryz.prog 3 (plainElem Tryz.prog 3) b hs.length D) (h : ∀ y, has D (li y) = hs.contains y) (h3 : ∀ y ∈ hs, D.atKey (li y) (.lit (.int .i64 0)) = .lit (.int .i64 (hs.idxOf y : Int))) (h4 : size D = hs.length) (hx : x ∉ hs) (h' : W.ownsMap Tryz.prog 3 (plainElem Tryz.prog 3) b (hs.length + 1) (D.put (li x) (.lit (.int .i64 (hs.length : Int))))) : MI W b (hs ++ [x]) := by
  have hD := World.ownsMap.isMap h0
  refine ⟨_, by rw [List.length_append, List.length_singleton]; exact h', fun y => ?_, fun y hy => ?_, ?_⟩
  · rw [has_li hD, h y, Bool.eq_iff_iff]
    simp
    exact Or.comm
  · rw [at_li hD]
    by_cases e : y = x
    · subst e
      rw [if_pos rfl, List.idxOf_append, if_neg hx]
      simp
    · rw [if_neg e]
      rcases List.mem_append.1 hy with hm | hm
      · rw [h3 y hm, List.idxOf_append, if_pos hm]
      · exact absurd (List.mem_singleton.1 hm) e
  · rw [size_put (World.ownsMap.tidy h0 ilaw), h x, h4]
    have : hs.contains x = false := by simpa using hx
    rw [this, List.length_append]
    rfl
theorem lit_i {a b : Int} (h : (DataW.lit (Lit.int .i64 a) : DU) = .lit (.int .i64 b)) : a = b := by
  injection h with h
  injection h
end Go.Proofs.YtfpepoebammeoaaGreat
set_option linter.unusedVariables false
namespace Go.Proofs.YtfpepoebammeoaaGreat
open Go.ChangeShapes Go.WideShapes Go.ChangeAt Go.RowKit Go.WideMaps Go.Maps

theorem owns_tight {W : World} {R : Value → Option (DU × List MemPlace)} {b n : Nat} {D : DU} (h : W.ownsMap Tryz.prog 3 R b n D) : W.ownsMap Tryz.prog 3 R b (size D) D := by
  obtain ⟨es, clock, h0, F, hs, rfl⟩ := h
  refine ⟨es, clock, h0, F, ?_, rfl⟩
  simp [size, length_sorted]
theorem zeroB9 (w : World) : (zeroValue 4).run Tryz.prog w = .ok (.bool false) w := by kernel_rfl
theorem plainElem_bool_inv {P : Program} {e : TypeId} (he : P.underlying e = some .bool) {v : Value} {z : DU × List MemPlace} (h : plainElem P e v = some z) : ∃ c, v = .bool c ∧ z = (.lit (.bool c), []) := by
  unfold plainElem at h
  rw [he] at h
  cases v <;> simp at h
  subst h
  exact ⟨_, rfl, rfl⟩
theorem wpList_lookup_own_bool (w : World) {ops : Array Oper} {rest : List Oper} {o : Oper} {a : Act} {Q : Exit → Act → World → Prop}
    (hg : o.guard = none) (m x : Operand) (t : TypeId) (hop : o.op = Op.lookup t m x false) (ht : Tryz.prog.underlying t = some (.map 3 4)) (b n : Nat) (D : DU)
    (hm : a.eval m = .map (some b)) (hown : w.ownsMap Tryz.prog 3 (plainElem Tryz.prog 4) b n D) (key : Value) (kl : Lit) (hx : a.eval x = key) (hkey : keyOf Tryz.prog 3 key = some kl) (c : Bool)
    (hc : D.atKey kl (.lit (.bool false)) = .lit (.bool c)) (hK : wpList Tryz.prog ops Q rest (a.put o.dst (.bool c)) w) :
    wpList Tryz.prog ops Q (o :: rest) a w := by
  refine wpList_plain hg fun K' hK' => ?_
  obtain ⟨v, ps, hrun, hv⟩ := hown.lookup ilaw ht (zeroB9 w) (plainElem_bool (P := Tryz.prog) Tryz.underlying4 false) hkey
  obtain ⟨c', rfl, e⟩ := plainElem_bool_inv Tryz.underlying4 hv
  injection e with e _
  rw [hc] at e
  injection e with e
  injection e with e
  subst e
  unfold Oper.wp
  simp [execOp, hop, hm, hx, hrun, Result.andThen]
  exact hK' _ _ hK
def MBo (W : World) (b : Nat) (ks : List Int) : Prop := ∃ D : DU, W.ownsMap Tryz.prog 3 (plainElem Tryz.prog 4) b ks.length D ∧ (∀ y, has D (li y) = ks.contains y) ∧ (∀ y, D.atKey (li y) (.lit (.bool false)) = .lit (.bool (ks.contains y))) ∧ size D = ks.length
theorem MBo.lt {W : World} {b : Nat} {ks : List Int} (h : MBo W b ks) : b < W.heap.size := by obtain ⟨D, h, _⟩ := h; exact World.ownsMap.lt h
theorem MBo.off {W W' : World} {b : Nat} {ks : List Int} {Z : Nat → Prop} (h : MBo W b ks) (ho : Off Z W W') (hb : ¬ Z b) : MBo W' b ks := by
  have hlt := h.lt
  obtain ⟨D, ⟨es, clock, h0, F, hs, hD⟩, h2⟩ := h
  exact ⟨D, ⟨es, clock, (ho.block b hlt hb).trans h0, F, hs, hD⟩, h2⟩
theorem MBo.below {W W' : World} {b : Nat} {ks : List Int} (h : MBo W b ks) (hb : Below W.heap.size W W') : MBo W' b ks := h.off (Z := fun _ => False) (Off.of_below hb) (fun h => h)
theorem MBo.made (W : World) : MBo (W.alloc (.map #[] 0)) W.heap.size [] := ⟨.map [], World.ownsMap_made _ _ _ _, fun y => rfl, fun y => rfl, rfl⟩
theorem MBo.step {W W0 : World} {b n : Nat} {ks : List Int} {D : DU} {x : Int} (h0 : W0.ownsMap Tryz.prog 3 (plainElem Tryz.prog 4) b n D) (h : ∀ y, has D (li y) = ks.contains y) (h3 : ∀ y, D.atKey (li y) (.lit (.bool false)) = .lit (.bool (ks.contains y))) (h4 : size D = ks.length) (hx : x ∉ ks) (h' : W.ownsMap Tryz.prog 3 (plainElem Tryz.prog 4) b (n + 1) (D.put (li x) (.lit (.bool true)))) : MBo W b (ks ++ [x]) := by
  have hD := World.ownsMap.isMap h0
  have hcx : ks.contains x = false := by simpa using hx
  have hsz : size (D.put (li x) (.lit (.bool true)) : DU) = (ks ++ [x]).length := by
    rw [size_put (World.ownsMap.tidy h0 ilaw), h x, h4, hcx, List.length_append]
    rfl
  refine ⟨_, by rw [← hsz]; exact owns_tight h', fun y => ?_, fun y => ?_, hsz⟩
  · rw [has_li hD, h y, Bool.eq_iff_iff]
    simp
    exact Or.comm
  · rw [at_li hD]
    by_cases e : y = x
    · subst e
      rw [if_pos rfl]
      simp
    · rw [if_neg e, h3 y]
      have : (ks ++ [x]).contains y = ks.contains y := by
        rw [Bool.eq_iff_iff]
        simp [e]
      rw [this]
def MFn (W : World) (b : Nat) (ks : List Int) (f : Int → Int) : Prop := ∃ D : DU, W.ownsMap Tryz.prog 3 (plainElem Tryz.prog 3) b ks.length D ∧ (∀ y, has D (li y) = ks.contains y) ∧ (∀ y ∈ ks, D.atKey (li y) (.lit (.int .i64 0)) = .lit (.int .i64 (f y))) ∧ size D = ks.length
theorem MFn.lt {W : World} {b : Nat} {ks : List Int} {f : Int → Int} (h : MFn W b ks f) : b < W.heap.size := by obtain ⟨D, h, _⟩ := h; exact World.ownsMap.lt h
theorem MFn.off {W W' : World} {b : Nat} {ks : List Int} {f : Int → Int} {Z : Nat → Prop} (h : MFn W b ks f) (ho : Off Z W W') (hb : ¬ Z b) : MFn W' b ks f := by
  have hlt := h.lt
  obtain ⟨D, ⟨es, clock, h0, F, hs, hD⟩, h2⟩ := h
  exact ⟨D, ⟨es, clock, (ho.block b hlt hb).trans h0, F, hs, hD⟩, h2⟩
theorem MFn.below {W W' : World} {b : Nat} {ks : List Int} {f : Int → Int} (h : MFn W b ks f) (hb : Below W.heap.size W W') : MFn W' b ks f := h.off (Z := fun _ => False) (Off.of_below hb) (fun h => h)
theorem MFn.made (W : World) (f : Int → Int) : MFn (W.alloc (.map #[] 0)) W.heap.size [] f := ⟨.map [], World.ownsMap_made _ _ _ _, fun y => rfl, fun y h => (by cases h), rfl⟩
theorem MFn.congr {W : World} {b : Nat} {ks : List Int} {f g : Int → Int} (h : MFn W b ks f) (e : ∀ y ∈ ks, f y = g y) : MFn W b ks g := by
  obtain ⟨D, h1, h2, h3, h4⟩ := h
  exact ⟨D, h1, h2, fun y hy => by rw [← e y hy]; exact h3 y hy, h4⟩
theorem MFn.put {W W0 : World} {b n : Nat} {ks : List Int} {D : DU} {x c : Int} {f : Int → Int} (h0 : W0.ownsMap Tryz.prog 3 (plainElem Tryz.prog 3) b n D) (h : ∀ y, has D (li y) = ks.contains y) (h3 : ∀ y ∈ ks, D.atKey (li y) (.lit (.int .i64 0)) = .lit (.int .i64 (f y))) (h4 : size D = ks.length) (h' : W.ownsMap Tryz.prog 3 (plainElem Tryz.prog 3) b (n + 1) (D.put (li x) (.lit (.int .i64 c)))) : MFn W b (if x ∈ ks then ks else ks ++ [x]) (fun y => if y = x then c else f y) := by
  have hD := World.ownsMap.isMap h0
  have hsz : size (D.put (li x) (.lit (.int .i64 c)) : DU) = (if x ∈ ks then ks else ks ++ [x]).length := by
    rw [size_put (World.ownsMap.tidy h0 ilaw), h x, h4]
    by_cases hx : x ∈ ks
    · have : ks.contains x = true := by simpa using hx
      rw [this, if_pos hx]; rfl
    · have : ks.contains x = false := by simpa using hx
      rw [this, if_neg hx, List.length_append]; rfl
  refine ⟨_, by rw [← hsz]; exact owns_tight h', fun y => ?_, fun y hy => ?_, hsz⟩
  · rw [has_li hD, h y, Bool.eq_iff_iff]
    by_cases hx : x ∈ ks
    · rw [if_pos hx]
      simp
      intro e; rw [e]; exact hx
    · rw [if_neg hx]
      simp
      exact Or.comm
  · rw [at_li hD]
    show _ = DataW.lit (Lit.int .i64 (if y = x then c else f y))
    by_cases e : y = x
    · rw [if_pos e, if_pos e]
    · rw [if_neg e, if_neg e]
      refine h3 y ?_
      by_cases hx : x ∈ ks
      · rw [if_pos hx] at hy; exact hy
      · rw [if_neg hx] at hy
        rcases List.mem_append.1 hy with hm | hm
        · exact hm
        · exact absurd (List.mem_singleton.1 hm) e
end Go.Proofs.YtfpepoebammeoaaGreat
