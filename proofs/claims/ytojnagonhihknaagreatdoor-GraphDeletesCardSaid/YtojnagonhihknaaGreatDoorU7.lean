/- What closes a law's row: the post of a law (it answers true, its arguments read as9 before) out of 'Below'; a world for the witness. Forms that a call was handed: what a form in an argument is, how it reads, and that its lists' first cells bear no mark. Forms in memory whose lists' first cells bear no mark, in blocks Z; rows of such forms that a call has made. -/
import Derived.Test.YtojnagonhihknaaGreatDoorCards
import Derived.Test.YtojnagonhihknaaGreatDoorTie
import Derived.Deep.DeepHandedRow
import Derived.Lib.LaidTab
import Derived.Carry
import Derived.LaidHandle
import Derived.Deep.Slices
import Derived.Deep.Fields
import Derived.Test.YtojnagonhihknaaGreatDoorU0
import Derived.Test.YtojnagonhihknaaGreatDoorU5
import Derived.Test.YtojnagonhihknaaGreatDoorU6
set_option linter.unusedVariables false
namespace Go.Proofs.YtojnagonhihknaaGreatDoor
open Go.ChangeShapes Go.WideShapes Go.ChangeAt Go.RowKit

theorem Tryz.own : ownKnob Tryz.prog.godebug = none := by kernel_rfl
theorem Tryz.laidOut : laidOutB Tryz.prog = true := by kernel_rfl

def numV : DataW Unit → Value | .lit (.int k n) => .int k n | _ => undef
def flat1 : DataW Unit → List Value | .agg l => l.map numV | _ => []
def relay (cs : Array Value) : Obj → Obj
  | .cells _ t frozen => .cells cs t frozen
  | o => o

noncomputable def laidWorld (os : Os) : World :=
  let w0 := World.holding Tryz.prog os ⟨#[], #[], []⟩
  let h0 := w0.heap
  let h0 := h0.modify 3 (relay (flat1 Rows.laid_math_bits_deBruijn32tab).toArray)
  let h0 := h0.modify 4 (relay (flat1 Rows.laid_math_bits_deBruijn64tab).toArray)
  let h0 := h0.modify 2 (relay (flat1 Rows.laid_internal_strconv_uint64pow10).toArray)
  let h0 := h0.modify 0 (relay #[.iface 170 (.agg #[.pointer (some ⟨5, 32, none⟩)])])
  { w0 with heap := h0 }

theorem trodAll_below {H : Type} {enc : TypeId × Value → H} {P : Program} (hl : laidOutB P = true) {W W' : World} (hb : Below W.heap.size W W') :
    ∀ (ts : List TypeId) (vs : List Value) (ds : List (DataW H)) (ps : List MemPlace), (∀ t ∈ ts, P.readableRec t = true ∧ t < P.types.size) → (∀ x ∈ ps, x.block < W.heap.size) →
      DataW.TrodAll enc P W 0 (fun _ => true) true ts vs ds ps → DataW.TrodAll enc P W' 0 (fun b => decide (b < W.heap.size)) true ts vs ds ps
  | [], vs, ds, ps, _, _, h => by
    cases vs <;> cases ds <;> exact h
  | t :: ts, vs, ds, ps, ht, hp, h => by
    obtain ⟨v, vs', d, ds', p, q, rfl, rfl, rfl, h0, h1⟩ := trodAll_cons h
    exact trodAll_cons_mk (Below.trod hl (ht t (by simp)).1 (ht t (by simp)).2 h0 hb fun x hx => hp x (by simp [hx])) (trodAll_below hl hb ts vs' ds' q (fun u hu => ht u (by simp [hu])) (fun x hx => hp x (by simp [hx])) h1)

theorem law_post {H : Type} {enc : TypeId × Value → H} {P : Program} {f : Func} {s : ChangeSpec} {W W' : World} {args : Array Value} {ds gs : List (DataW H)} {before : List MemPlace} {tb : TypeId}
    (hl : laidOutB P = true) (hp : f.params.toList.all (fun t => P.readableRec t && decide (t < P.types.size)) = true) (hv : s.vars = []) (hr : f.resultTypes = #[tb]) (htb : P.underlying tb = some .bool)
    (hW : DataW.Whole enc P f.params.toList s.vars false W args.toList ds gs before) (hspec : s.fn H (ds ++ gs) = { results := [.lit (.bool true)], args := ds }) (hb : Below W.heap.size W W') :
    s.post enc P f false true false false W args (.bool true) W' := by
  have hW0 := hW
  have hlt := fun p (hp : p ∈ before) => hW.lt p hp
  obtain ⟨p, q, hA, hV, rfl, _, _⟩ := hW
  rw [hv] at hV
  obtain ⟨rfl, rfl⟩ := trodVars_none hV
  refine ⟨ds, [], p ++ [], [], p, [], hW0, ?_, ?_, ?_, ?_, fun h => by cases h⟩
  · rw [hspec, hr]
    exact trodAll_cons_mk (shut_bool htb _) trodAll_mk0
  · rw [hspec]
    refine trodAll_below hl hb _ _ _ _ (fun t ht => ?_) (fun x hx => hlt x (by simpa using hx)) hA
    have := List.all_eq_true.1 hp t ht
    simpa using this
  · rw [hspec, hv]
    exact rfl
  · exact World.keptBut_mono (fun x hx => ⟨hx, .inr (.inl (by simpa using hx))⟩) (hb.frame (· ∈ p ++ []))

theorem mem_weightsAll {H : Type} {P : Program} {e : TypeId} {d : DataW H} {n : Nat} (hn : n ∈ d.weights P e) : ∀ {l : List (DataW H)}, d ∈ l → n ∈ DataW.weightsAll P e l
  | x :: r, h => by
    simp only [DataW.weightsAll, List.mem_append]
    cases List.mem_cons.1 h with
    | inl h => subst h; exact .inl hn
    | inr h => exact .inr (mem_weightsAll hn h)

theorem weights_reach {H : Type} {P : Program} {ts : List TypeId} {ds : List (DataW H)} (h : (DataW.weightsEach P ts ds).all (· ≤ reachBytes) = true) {j : Nat} {t : TypeId} {d : DataW H} (ht : ts[j]? = some t) (hd : ds[j]? = some d) :
    ∀ n ∈ d.weights P t, n ≤ reachBytes := by
  intro n hn
  have := List.all_eq_true.1 h n (DataW.weights_mem_each ht hd n hn)
  simpa using this

end Go.Proofs.YtojnagonhihknaaGreatDoor
set_option linter.unusedVariables false
namespace Go.Proofs.YtojnagonhihknaaGreatDoor
open Go.ChangeShapes Go.WideShapes Go.ChangeAt Go.RowKit Go.Deep

inductive SlG (w : World) : Value → List Tm → Prop
  | nil (a : Option Addr) (c : Nat) : c ≤ maxLen → SlG w (.slice a 0 c) []
  | row (b o c : Nat) (xs : List Tm) (S : Nat → Value) : xs ≠ [] → xs.length ≤ c → c ≤ maxLen → w.frozen? ⟨b, o, none⟩ = false →
      (∀ j l t ys, xs[j]? = some (.mk l t ys) → w.cell? ⟨b, o + j * 3, none⟩ = some (.bool l) ∧ w.cell? ⟨b, o + j * 3 + 1, none⟩ = some (.string t) ∧ w.cell? ⟨b, o + j * 3 + 2, none⟩ = some (S j) ∧ t.size ≤ 140737488355328) →
      (∀ j l t ys, xs[j]? = some (.mk l t ys) → SlG w (S j) ys) → SlG w (.slice (some ⟨b, o, none⟩) xs.length c) xs

theorem SlG.sl {w : World} {v : Value} {xs : List Tm} (h : SlG w v xs) : SlL (· < w.heap.size) w v xs := by
  induction h with
  | nil a c hc => exact .nil a c hc
  | row b o c xs S h1 h3 h4 hf h5 h6 ih =>
    have hlt : b < w.heap.size := by
      obtain ⟨⟨l, t, ys⟩, r, rfl⟩ := List.exists_cons_of_ne_nil h1
      exact cell_lt (h5 0 l t ys rfl).1
    exact .row b o c xs S h1 hlt h3 h4 h5 ih

theorem SlG.keep {w w' : World} {v : Value} {xs : List Tm} (h : SlG w v xs) (hb : Below w.heap.size w w') : SlG w' v xs := by
  induction h with
  | nil a c hc => exact .nil a c hc
  | row b o c xs S h1 h3 h4 hf h5 h6 ih =>
    have hlt : b < w.heap.size := by
      obtain ⟨⟨l, t, ys⟩, r, rfl⟩ := List.exists_cons_of_ne_nil h1
      exact cell_lt (h5 0 l t ys rfl).1
    have e := hb.block b hlt
    refine .row b o c xs S h1 h3 h4 ((World.frozen?_of_block (w := w) (a := ⟨b, o, none⟩) e).trans hf) (fun j l t ys hj => ?_) ih
    obtain ⟨a1, a2, a3, a4⟩ := h5 j l t ys hj
    exact ⟨(World.cell?_of_block (w := w) (a := ⟨b, o + j * 3, none⟩) e).trans a1, (World.cell?_of_block (w := w) (a := ⟨b, o + j * 3 + 1, none⟩) e).trans a2, (World.cell?_of_block (w := w) (a := ⟨b, o + j * 3 + 2, none⟩) e).trans a3, a4⟩
theorem SlG.form {w : World} {v : Value} {xs : List Tm} (h : SlG w v xs) : ∃ a c, v = .slice a xs.length c ∧ xs.length ≤ c ∧ c ≤ maxLen := h.sl.form

def GRow (w : World) (b o : Nat) (xs : List Tm) : Prop :=
  b < w.heap.size ∧ ∀ j l t ys, xs[j]? = some (.mk l t ys) → ∃ a c, w.cell? ⟨b, o + j * 3, none⟩ = some (.bool l) ∧ w.cell? ⟨b, o + j * 3 + 1, none⟩ = some (.string t) ∧ w.cell? ⟨b, o + j * 3 + 2, none⟩ = some (.slice a ys.length c) ∧
    t.size ≤ 140737488355328 ∧ SlG w (.slice a ys.length c) ys

theorem SlG.pos {w : World} {v : Value} {xs : List Tm} (h : SlG w v xs) (hne : xs ≠ []) : ∃ b o c, v = .slice (some ⟨b, o, none⟩) xs.length c ∧ xs.length ≤ c ∧ c ≤ maxLen ∧ w.frozen? ⟨b, o, none⟩ = false ∧ GRow w b o xs := by
  cases h with
  | nil a c => exact absurd rfl hne
  | row b o c xs S h1 h3 h4 hf h5 h6 =>
    refine ⟨b, o, c, rfl, h3, h4, hf, ?_, fun j l t ys hj => ?_⟩
    · obtain ⟨⟨l, t, ys⟩, r, rfl⟩ := List.exists_cons_of_ne_nil h1
      exact cell_lt (h5 0 l t ys rfl).1
    · obtain ⟨c1, c2, c3, c4⟩ := h5 j l t ys hj
      have hs := h6 j l t ys hj
      obtain ⟨a, c', e, _, _⟩ := hs.form
      rw [e] at c3 hs
      exact ⟨a, c', c1, c2, c3, c4, hs⟩
theorem GRow.keep {w w' : World} {b o : Nat} {xs : List Tm} (h : GRow w b o xs) (hb : Below w.heap.size w w') : GRow w' b o xs := by
  obtain ⟨h2, h3⟩ := h
  refine ⟨Nat.lt_of_lt_of_le h2 hb.size, fun j l t ys hj => ?_⟩
  obtain ⟨a, c, a1, a2, a3, a4, a5⟩ := h3 j l t ys hj
  exact ⟨a, c, (hb.cell (p := ⟨b, o + j * 3, none⟩) h2).trans a1, (hb.cell (p := ⟨b, o + j * 3 + 1, none⟩) h2).trans a2, (hb.cell (p := ⟨b, o + j * 3 + 2, none⟩) h2).trans a3, a4, a5.keep hb⟩
theorem GRow.drop {w : World} {b o : Nat} {xs : List Tm} (h : GRow w b o xs) (k : Nat) : GRow w b (o + k * 3) (xs.drop k) := by
  obtain ⟨h2, h3⟩ := h
  refine ⟨h2, fun j l t ys hj => ?_⟩
  rw [List.getElem?_drop] at hj
  have := h3 (k + j) l t ys hj
  rw [show o + (k + j) * 3 = o + k * 3 + j * 3 by omega] at this
  exact this

end Go.Proofs.YtojnagonhihknaaGreatDoor
set_option linter.unusedVariables false
namespace Go.Proofs.YtojnagonhihknaaGreatDoor
open Go.ChangeShapes Go.WideShapes Go.ChangeAt Go.RowKit

inductive SlU (Z : Nat → Prop) (w : World) : Value → List Tm → Prop
  | nil (a : Option Addr) (c : Nat) : c ≤ maxLen → SlU Z w (.slice a 0 c) []
  | row (b o c : Nat) (xs : List Tm) (S : Nat → Value) : xs ≠ [] → Z b → w.frozen? ⟨b, o, none⟩ = false → xs.length ≤ c → c ≤ maxLen →
      (∀ j l t ys, xs[j]? = some (.mk l t ys) → w.cell? ⟨b, o + j * 3, none⟩ = some (.bool l) ∧ w.cell? ⟨b, o + j * 3 + 1, none⟩ = some (.string t) ∧ w.cell? ⟨b, o + j * 3 + 2, none⟩ = some (S j) ∧ t.size ≤ 140737488355328) →
      (∀ j l t ys, xs[j]? = some (.mk l t ys) → SlU Z w (S j) ys) → SlU Z w (.slice (some ⟨b, o, none⟩) xs.length c) xs

theorem SlU.form {Z : Nat → Prop} {w : World} {v : Value} {xs : List Tm} (h : SlU Z w v xs) : ∃ a c, v = .slice a xs.length c ∧ xs.length ≤ c ∧ c ≤ maxLen := by
  cases h with
  | nil a c hc => exact ⟨a, c, rfl, Nat.zero_le _, hc⟩
  | row b o c xs S h1 h2 hf h3 h4 h5 h6 => exact ⟨_, c, rfl, h3, h4⟩

def URow (Z : Nat → Prop) (w : World) (b o : Nat) (xs : List Tm) : Prop :=
  (Z b ∧ w.frozen? ⟨b, o, none⟩ = false) ∧ b < w.heap.size ∧ ∀ j l t ys, xs[j]? = some (.mk l t ys) → ∃ a c, w.cell? ⟨b, o + j * 3, none⟩ = some (.bool l) ∧ w.cell? ⟨b, o + j * 3 + 1, none⟩ = some (.string t) ∧ w.cell? ⟨b, o + j * 3 + 2, none⟩ = some (.slice a ys.length c) ∧
    t.size ≤ 140737488355328 ∧ SlU Z w (.slice a ys.length c) ys

theorem SlU.pos {Z : Nat → Prop} {w : World} {v : Value} {xs : List Tm} (h : SlU Z w v xs) (hne : xs ≠ []) : ∃ b o c, v = .slice (some ⟨b, o, none⟩) xs.length c ∧ xs.length ≤ c ∧ c ≤ maxLen ∧ URow Z w b o xs := by
  cases h with
  | nil a c => exact absurd rfl hne
  | row b o c xs S h1 h2 hf h3 h4 h5 h6 =>
    refine ⟨b, o, c, rfl, h3, h4, ⟨h2, hf⟩, ?_, fun j l t ys hj => ?_⟩
    · obtain ⟨⟨l, t, ys⟩, r, rfl⟩ := List.exists_cons_of_ne_nil h1
      exact cell_lt (h5 0 l t ys rfl).1
    · obtain ⟨c1, c2, c3, c4⟩ := h5 j l t ys hj
      have hs := h6 j l t ys hj
      obtain ⟨a, c', e, _, _⟩ := hs.form
      rw [e] at c3 hs
      exact ⟨a, c', c1, c2, c3, c4, hs⟩

theorem SlU.of_row {Z : Nat → Prop} {w : World} {b o c : Nat} {xs : List Tm} (h : URow Z w b o xs) (hne : xs ≠ []) (hc : xs.length ≤ c) (hm : c ≤ maxLen) : SlU Z w (.slice (some ⟨b, o, none⟩) xs.length c) xs := by
  obtain ⟨h1, h2, h3⟩ := h
  have hS : ∀ j, ∃ v, ∀ l t ys, xs[j]? = some (.mk l t ys) → w.cell? ⟨b, o + j * 3, none⟩ = some (.bool l) ∧ w.cell? ⟨b, o + j * 3 + 1, none⟩ = some (.string t) ∧ w.cell? ⟨b, o + j * 3 + 2, none⟩ = some v ∧ t.size ≤ 140737488355328 ∧ SlU Z w v ys := by
    intro j
    cases e : xs[j]? with
    | none => exact ⟨.nilIface, fun _ _ _ h => by cases h⟩
    | some x =>
      obtain ⟨l, t, ys⟩ := x
      obtain ⟨a, c', k⟩ := h3 j l t ys e
      refine ⟨.slice a ys.length c', fun l' t' ys' h => ?_⟩
      cases h
      exact k
  obtain ⟨S, hS⟩ := Classical.axiomOfChoice hS
  exact .row b o c xs S hne h1.1 h1.2 hc hm (fun j l t ys hj => by obtain ⟨a1, a2, a3, a4, _⟩ := hS j l t ys hj; exact ⟨a1, a2, a3, a4⟩) (fun j l t ys hj => (hS j l t ys hj).2.2.2.2)

theorem SlU.carry {Z Z' : Nat → Prop} {w w' : World} {v : Value} {xs : List Tm} (h : SlU Z w v xs) (hb : ∀ i, i < w.heap.size → Z i → w'.heap[i]? = w.heap[i]? ∧ Z' i) : SlU Z' w' v xs := by
  induction h with
  | nil a c hc => exact .nil a c hc
  | row b o c xs S h1 h2 hf h3 h4 h5 h6 ih =>
    have hlt : b < w.heap.size := by
      obtain ⟨⟨l, t, ys⟩, r, rfl⟩ := List.exists_cons_of_ne_nil h1
      exact cell_lt (h5 0 l t ys rfl).1
    obtain ⟨e, hz⟩ := hb b hlt h2
    refine .row b o c xs S h1 hz ((World.frozen?_of_block (w := w) (a := ⟨b, o, none⟩) e).trans hf) h3 h4 (fun j l t ys hj => ?_) (fun j l t ys hj => ih j l t ys hj)
    obtain ⟨a1, a2, a3, a4⟩ := h5 j l t ys hj
    exact ⟨(World.cell?_of_block (w := w) (a := ⟨b, o + j * 3, none⟩) e).trans a1, (World.cell?_of_block (w := w) (a := ⟨b, o + j * 3 + 1, none⟩) e).trans a2, (World.cell?_of_block (w := w) (a := ⟨b, o + j * 3 + 2, none⟩) e).trans a3, a4⟩

theorem SlU.keep {Z : Nat → Prop} {w w' : World} {v : Value} {xs : List Tm} (h : SlU Z w v xs) (hb : Below w.heap.size w w') : SlU Z w' v xs := h.carry fun i hi hz => ⟨hb.block i hi, hz⟩
theorem SlU.belowB {B : Nat} {w w' : World} {v : Value} {xs : List Tm} (h : SlU (· < B) w v xs) (hb : Below B w w') : SlU (· < B) w' v xs := h.carry fun i hi hz => ⟨hb.block i hz, hz⟩
theorem SlU.off {Z Y : Nat → Prop} {w w' : World} {v : Value} {xs : List Tm} (h : SlU Z w v xs) (ho : Off Y w w') (hz : ∀ i, Z i → ¬ Y i) : SlU Z w' v xs := h.carry fun i hi h => ⟨ho.block i hi (hz i h), h⟩
theorem SlU.mono {Z Z' : Nat → Prop} {w : World} {v : Value} {xs : List Tm} (h : SlU Z w v xs) (hz : ∀ i, i < w.heap.size → Z i → Z' i) : SlU Z' w v xs := h.carry fun i hi h => ⟨rfl, hz i hi h⟩
theorem SlU.drewN {Z : Nat → Prop} {w : World} {v : Value} {xs : List Tm} {n : Nat} (h : SlU Z w v xs) : SlU Z (w.drewN n) v xs := h.carry fun i hi h => ⟨rfl, h⟩
theorem SlU.drew {Z : Nat → Prop} {w : World} {v : Value} {xs : List Tm} (h : SlU Z w v xs) : SlU Z w.drew v xs := h.carry fun i hi h => ⟨rfl, h⟩
theorem SlU.alloc {Z : Nat → Prop} {w : World} {v : Value} {xs : List Tm} (h : SlU Z w v xs) (o : Obj) : SlU Z (w.alloc o) v xs := h.keep ((Below.refl _ _).alloc (Nat.le_refl _) o)
theorem URow.below {Z : Nat → Prop} {w w' : World} {b o : Nat} {xs : List Tm} (h : URow Z w b o xs) (hb : Below w.heap.size w w') : URow Z w' b o xs := by
  obtain ⟨h1, h2, h3⟩ := h
  refine ⟨⟨h1.1, (hb.frozen (p := ⟨b, o, none⟩) h2).trans h1.2⟩, Nat.lt_of_lt_of_le h2 hb.size, fun j l t ys hj => ?_⟩
  obtain ⟨a, c, a1, a2, a3, a4, a5⟩ := h3 j l t ys hj
  exact ⟨a, c, (hb.cell (p := ⟨b, o + j * 3, none⟩) h2).trans a1, (hb.cell (p := ⟨b, o + j * 3 + 1, none⟩) h2).trans a2, (hb.cell (p := ⟨b, o + j * 3 + 2, none⟩) h2).trans a3, a4, a5.keep hb⟩
theorem URow.off {Z Y : Nat → Prop} {w w' : World} {b o : Nat} {xs : List Tm} (h : URow Z w b o xs) (ho : Off Y w w') (hz : ∀ i, Z i → ¬ Y i) : URow Z w' b o xs := by
  obtain ⟨h1, h2, h3⟩ := h
  refine ⟨⟨h1.1, (ho.frozen (p := ⟨b, o, none⟩) h2 (hz b h1.1)).trans h1.2⟩, Nat.lt_of_lt_of_le h2 ho.size, fun j l t ys hj => ?_⟩
  obtain ⟨a, c, a1, a2, a3, a4, a5⟩ := h3 j l t ys hj
  have hn := hz b h1.1
  exact ⟨a, c, (ho.cell (p := ⟨b, o + j * 3, none⟩) h2 hn).trans a1, (ho.cell (p := ⟨b, o + j * 3 + 1, none⟩) h2 hn).trans a2, (ho.cell (p := ⟨b, o + j * 3 + 2, none⟩) h2 hn).trans a3, a4, a5.off ho hz⟩

structure MadeU (B : Nat) (w : World) (v : Value) (es : List FE) : Prop where
  row : Row 3 B w v es.length (fcells es)
  sub : ∀ p ∈ es, p.2.1.size ≤ 140737488355328 ∧ SlU (fun i => B ≤ i ∧ v.ownBlock ≠ some i) w p.2.2.2 p.2.2.1

theorem MadeU.nil (B : Nat) (w : World) : MadeU B w (.slice none 0 0) [] := ⟨Row.nil _ _ _, by simp⟩
theorem MadeU.below {B : Nat} {w w' : World} {v : Value} {es : List FE} (h : MadeU B w v es) (hb : Below w.heap.size w w') : MadeU B w' v es :=
  ⟨h.row.below hb, fun p hp => ⟨(h.sub p hp).1, (h.sub p hp).2.keep hb⟩⟩
theorem MadeU.off {B : Nat} {Z : Nat → Prop} {w w' : World} {v : Value} {es : List FE} (h : MadeU B w v es) (ho : Off Z w w') (hz : ∀ i, Z i → i < B) : MadeU B w' v es :=
  ⟨h.row.off ho fun b hb hzb => by have := hz b hzb; have := (h.row.lt b hb).1; omega,
   fun p hp => ⟨(h.sub p hp).1, (h.sub p hp).2.off ho fun i hi hzi => by have := hz i hzi; have := hi.1; omega⟩⟩
theorem MadeU.sl {B : Nat} {Z : Nat → Prop} {w : World} {v : Value} {es : List FE} (h : MadeU B w v es) (hz : ∀ i, B ≤ i → Z i) : SlU Z w v (es.map FE.tm) := by
  by_cases e : es = []
  · subst e
    obtain ⟨a, c, hv, h1, h2⟩ := h.row.form'
    rw [hv]
    exact .nil a c h2
  · obtain ⟨b, cap, hv, h1, h2, h3, h4, h5, h6⟩ := h.row.pos (List.length_pos_iff.2 e)
    rw [hv]
    have := SlU.of_row (Z := Z) (w := w) (b := b) (o := 0) (c := cap) (xs := es.map FE.tm) ⟨⟨hz b h1, (h5 0 (by have := List.length_pos_iff.2 e; omega)).2⟩, h2, fun j l t ys hj => by
      rw [List.getElem?_map] at hj
      obtain ⟨p, hp, hpe⟩ := Option.map_eq_some_iff.1 hj
      obtain ⟨l', t', ys', s'⟩ := p
      injection hpe with e1 e2 e3
      dsimp only at e1 e2 e3
      subst e1; subst e2; subst e3
      obtain ⟨c1, c2, c3⟩ := fcells_at hp
      obtain ⟨g1, g2⟩ := h.sub _ (List.mem_of_getElem? hp)
      have g3 : SlU Z w s' ys' := g2.mono fun i _ hi => hz i hi.1
      obtain ⟨a', c', es', _, _⟩ := g3.form
      rw [Nat.zero_add]
      refine ⟨a', c', h6 _ _ c1, h6 _ _ c2, ?_, g1, ?_⟩
      · rw [← es']; exact h6 _ _ c3
      · rw [← es']; exact g3⟩ (by simpa using e) (by rw [List.length_map]; exact h3) h4
    rw [List.length_map] at this
    exact this

theorem MadeU.push {B : Nat} {w w' : World} {v v' : Value} {es : List FE} {l : Bool} {t : ByteArray} {ys : List Tm} {s : Value} (h : MadeU B w v es) (hs : SlU (fun i => B ≤ i ∧ v.ownBlock ≠ some i) w s ys) (ht : t.size ≤ 140737488355328)
    (hr : Row 3 B w' v' (es.length + 1) (fcells es ++ [.bool l, .string t, s])) (ho : Off (fun i => v.ownBlock = some i) w w') (hw : v'.ownBlock = v.ownBlock ∨ v'.ownBlock = some w.heap.size) : MadeU B w' v' (es ++ [(l, t, ys, s)]) := by
  have hz : ∀ {x : Value} {zs : List Tm}, SlU (fun i => B ≤ i ∧ v.ownBlock ≠ some i) w x zs → SlU (fun i => B ≤ i ∧ v'.ownBlock ≠ some i) w' x zs := fun hx => hx.carry fun i hi ⟨h1, h2⟩ => ⟨ho.block i hi h2, h1, by
    rcases hw with e | e
    · rw [e]; exact h2
    · rw [e]; intro e2; injection e2 with e2; omega⟩
  refine ⟨?_, fun p hp => ?_⟩
  · rw [List.length_append, fcells_app, fcells_one]; exact hr
  · rcases List.mem_append.1 hp with hp | hp
    · exact ⟨(h.sub p hp).1, hz (h.sub p hp).2⟩
    · rw [List.mem_singleton] at hp
      subst hp
      exact ⟨ht, hz hs⟩

theorem SlU.sl {Z : Nat → Prop} {w : World} {v : Value} {xs : List Tm} (h : SlU Z w v xs) : SlL Z w v xs := by
  induction h with
  | nil a c hc => exact .nil a c hc
  | row b o c xs S h1 h2 hf h3 h4 h5 h6 ih => exact .row b o c xs S h1 h2 h3 h4 h5 ih
theorem SlU.g {Z : Nat → Prop} {w : World} {v : Value} {xs : List Tm} (h : SlU Z w v xs) : SlG w v xs := by
  induction h with
  | nil a c hc => exact .nil a c hc
  | row b o c xs S h1 h2 hf h3 h4 h5 h6 ih => exact .row b o c xs S h1 h3 h4 hf h5 ih
end Go.Proofs.YtojnagonhihknaaGreatDoor
