/- A region that draws its order, by what holds when so many of its operations are through: each operation is run once. GraphDeletes: the set with one patch more, as9 the law makes it: its region draws its order. GraphDeletes: the region that makes the set with one patch more, walked. -/
import Derived.Deep.RegionHeld3
import Derived.Test.YtojnagonhihknaaGreatDoorU47
set_option linter.unusedVariables false
namespace Go.Proofs.YtojnagonhihknaaGreatDoor
open Go

section
variable {P : Program} {ops : Array Oper} {Q : Exit → Act → World → Prop} {md : Region.Mode}

theorem wpAny_inv {J : Array Bool → Act → World → Prop}
    (hs : ∀ (L : Array Bool) (a : Act) (w : World) (i : Nat) (o : Oper), J L a w → L.getD i true = false → ops[i]? = some o → (∀ e ∈ o.after, Region.binds md e = true → L.getD e.on false = true) → ∀ K : Act → World → Prop, (∀ a' w', J (L.setIfInBounds i true) a' w' → K a' w') → if Region.wanted o (yielded ops a.tmps) = true then Oper.wp P o a w K Q else K (a.put o.dst undef) w)
    (he : ∀ (L : Array Bool) (a : Act) (w : World), J L a w → Region.ready md ops L = [] → Q .normal a w) :
    ∀ (f : Nat) (L : Array Bool) (a : Act) (w : World), J L a w → L.toList.count false ≤ f → wpAny P md ops Q f L a w := by
  intro f
  induction f with
  | zero =>
    intro L a w hJ hc
    have hnil : Region.ready md ops L = [] := by
      refine List.eq_nil_iff_forall_not_mem.2 fun j hj => ?_
      have h1 := (mem_ready.1 hj).1
      have h2 : j < L.size := Nat.lt_of_not_le fun h => by simp [Array.getD_eq_getD_getElem?, Array.getElem?_eq_none h] at h1
      have h3 : false ∈ L.toList := by
        have : L[j] = false := by simpa [Array.getD_eq_getD_getElem?, h2] using h1
        rw [← this]
        exact Array.getElem_mem_toList h2
      have := List.count_pos_iff.2 h3
      omega
    exact ⟨hnil, he L a w hJ hnil⟩
  | succ f ih =>
    intro L a w hJ hc
    refine ⟨fun h0 => he L a w hJ h0, fun i hi => ?_⟩
    obtain ⟨h1, o, ho, haf⟩ := mem_ready.1 hi
    refine wpOp_step ho (fun K' hK' => hs L a w i o hJ h1 ho haf K' (fun a' w' hJ' => hK' a' w' (ih _ a' w' hJ' ?_)))
    have h2 : i < L.size := Nat.lt_of_not_le fun h => by simp [Array.getD_eq_getD_getElem?, Array.getElem?_eq_none h] at h1
    have h3 : L[i] = false := by simpa [Array.getD_eq_getD_getElem?, h2] using h1
    have h4 : L.toList[i]'(by simpa using h2) = false := by simpa using h3
    rw [Array.toList_setIfInBounds, List.count_set (by simpa using h2), h4]
    have : 0 < L.toList.count false := List.count_pos_iff.2 (by rw [← h4]; exact List.getElem_mem _)
    rw [if_pos (show (false == false) = true from rfl), if_neg (show ¬ (true == false) = true by decide)]
    omega
theorem wp_region_inv {J : Array Bool → Act → World → Prop} {id : Nat} {a : Act} {w : World} (hm : P.follows .mixedOrders = true) (h0 : J (Array.replicate ops.size false) a w.drew)
    (hs : ∀ (L : Array Bool) (a : Act) (w : World) (i : Nat) (o : Oper), J L a w → L.getD i true = false → ops[i]? = some o → (∀ e ∈ o.after, Region.binds .any e = true → L.getD e.on false = true) → ∀ K : Act → World → Prop, (∀ a' w', J (L.setIfInBounds i true) a' w' → K a' w') → if Region.wanted o (yielded ops a.tmps) = true then Oper.wp P o a w K Q else K (a.put o.dst undef) w)
    (he : ∀ (L : Array Bool) (a : Act) (w : World), J L a w → Region.ready .any ops L = [] → Q .normal a w) : (Code.region id ops true).wp P Q a w :=
  wp_region_any hm (wpAny_inv hs he _ _ _ _ h0 (by simp))
end
end Go.Proofs.YtojnagonhihknaaGreatDoor
set_option linter.unusedVariables false
set_option linter.unusedSimpArgs false
namespace Go.Proofs.YtojnagonhihknaaGreatDoor
open Go.ChangeShapes Go.WideShapes Go.ChangeAt Go.RowKit

abbrev opC (k n : Int) : List Value := [.int .i64 k, .int .i64 0, .int .i64 n, .int .i64 0, .int .i64 0, .slice none 0 0]
def G22 (w0 : World) (X : Nat → Prop) (w : World) (q : Nat) : Prop := w0.heap.size ≤ q ∧ q < w.heap.size ∧ ¬ X q
def P6 (d : ByteArray) (w0 : World) (X : Nat → Prop) (w : World) (v : Value) : Prop := ∃ q, v = .slice (some ⟨q, 0, none⟩) 1 1 ∧ G22 w0 X w q ∧ w.cell? ⟨q, 0, none⟩ = some (.string d)
def P8 (k n : Int) (w0 : World) (X : Nat → Prop) (w : World) (v : Value) : Prop := ∃ q, v = .slice (some ⟨q, 0, none⟩) 1 1 ∧ G22 w0 X w q ∧ ∀ i u, (opC k n)[i]? = some u → w.cell? ⟨q, i, none⟩ = some u
abbrev nmC (v1 v2 : Value) : List Value := [.string ownN, .string ⟨#[]⟩, v1, v2]
def F22 (d : ByteArray) (k n : Int) (sv : Value) (sn : Nat) (cs : List Value) (q10 q13 : Nat) (w0 : World) (X : Nat → Prop) (w : World) (v : Value) : Nat → Prop
  | 0 => ∃ q, v = .slice (some ⟨q, 0, none⟩) 0 0 ∧ X q ∧ w0.heap.size ≤ q ∧ q < w.heap.size
  | 1 => v = sv
  | 2 => Row 4 w0.heap.size w v sn cs ∧ ∀ b, v.ownBlock = some b → X b
  | 3 => v = .pointer (some ⟨q10, 0, none⟩)
  | 4 => v = .pointer (some ⟨q10, 0, none⟩)
  | 5 => v = .string d
  | 6 => P6 d w0 X w v
  | 7 => v = .agg (opC k n).toArray
  | 8 => P8 k n w0 X w v
  | 9 => ∃ v1 v2, P6 d w0 X w v1 ∧ P8 k n w0 X w v2 ∧ v = .agg #[.string ⟨#[]⟩, v1, v2]
  | 10 => ∃ v1 v2, P6 d w0 X w v1 ∧ P8 k n w0 X w v2 ∧ v = .agg (nmC v1 v2).toArray
  | 11 => ∃ q v1 v2, P6 d w0 X w v1 ∧ P8 k n w0 X w v2 ∧ v = .slice (some ⟨q, 0, none⟩) 1 1 ∧ G22 w0 X w q ∧ ∀ i u, (nmC v1 v2)[i]? = some u → w.cell? ⟨q, i, none⟩ = some u
  | _ => ∃ v1 v2, P6 d w0 X w v1 ∧ P8 k n w0 X w v2 ∧ Row 4 w0.heap.size w v (sn + 1) (cs ++ nmC v1 v2) ∧ ∀ b, v.ownBlock = some b → X b
def dst22 (i : Nat) : Nat := if i = 13 then 15 else 86 + i
def pre22 : Nat → List Nat
  | 2 => [0, 1]
  | 4 => [3]
  | 5 => [4]
  | 6 => [5]
  | 8 => [7]
  | 9 => [6, 8]
  | 10 => [9]
  | 11 => [10]
  | 12 => [2, 11]
  | 13 => [12]
  | _ => []
structure J22 (d : ByteArray) (k n : Int) (sv : Value) (sn : Nat) (cs : List Value) (q10 q13 : Nat) (A0 : Act) (w0 : World) (L : Array Bool) (a : Act) (w : World) : Prop where
  sz : L.size = 14
  asz : a.tmps.size = 132
  df : a.defers = A0.defers
  off : ∀ j, (j < 86 ∨ 98 < j) → j ≠ 15 → a.tmps.getD j undef = A0.tmps.getD j undef
  bel : Below w0.heap.size w0 w
  cl : ∀ i, i < 14 → L.getD i false = true → ∀ e ∈ pre22 i, L.getD e false = true
  ex : ∃ X : Nat → Prop, (∀ q, X q → w0.heap.size ≤ q ∧ q < w.heap.size) ∧ ∀ i, i < 14 → L.getD i false = true → (i = 2 → L.getD 12 false = false) → F22 d k n sv sn cs q10 q13 w0 X w (a.tmps.getD (dst22 i) undef) i
structure St22 (X : Nat → Prop) (w : World) (X' : Nat → Prop) (w' : World) : Prop where
  size : w.heap.size ≤ w'.heap.size
  cell : ∀ q i, q < w.heap.size → ¬ X q → w'.cell? ⟨q, i, none⟩ = w.cell? ⟨q, i, none⟩
  sub : ∀ q, X q → X' q
  new : ∀ q, X' q → X q ∨ w.heap.size ≤ q
theorem G22.st {w0 : World} {X X' : Nat → Prop} {w w' : World} {q : Nat} (h : G22 w0 X w q) (s : St22 X w X' w') : G22 w0 X' w' q := ⟨h.1, Nat.lt_of_lt_of_le h.2.1 s.size, fun hx => by
  rcases s.new q hx with h1 | h1
  · exact h.2.2 h1
  · have := h.2.1; omega⟩
theorem P6.st {d : ByteArray} {w0 : World} {X X' : Nat → Prop} {w w' : World} {v : Value} (h : P6 d w0 X w v) (s : St22 X w X' w') : P6 d w0 X' w' v := by
  obtain ⟨q, e, hg, hc⟩ := h
  exact ⟨q, e, hg.st s, (s.cell q 0 hg.2.1 hg.2.2).trans hc⟩
theorem P8.st {k n : Int} {w0 : World} {X X' : Nat → Prop} {w w' : World} {v : Value} (h : P8 k n w0 X w v) (s : St22 X w X' w') : P8 k n w0 X' w' v := by
  obtain ⟨q, e, hg, hc⟩ := h
  exact ⟨q, e, hg.st s, fun i u hu => (s.cell q i hg.2.1 hg.2.2).trans (hc i u hu)⟩
theorem F22.st {d : ByteArray} {k n : Int} {sv : Value} {sn : Nat} {cs : List Value} {q10 q13 : Nat} {w0 : World} {X X' : Nat → Prop} {w w' : World} {v : Value} {i : Nat} (h : F22 d k n sv sn cs q10 q13 w0 X w v i) (s : St22 X w X' w') (hi : i < 12) (h2 : i = 2 → ∀ b, X b → w'.heap[b]? = w.heap[b]?) : F22 d k n sv sn cs q10 q13 w0 X' w' v i := by
  match i, hi, h with
  | 0, _, ⟨q, e, hx, h3, h4⟩ => exact ⟨q, e, s.sub q hx, h3, Nat.lt_of_lt_of_le h4 s.size⟩
  | 1, _, h => exact h
  | 2, _, ⟨h, hx⟩ => exact ⟨h.carry s.size (fun b hb => h2 rfl b (hx b hb)), fun b hb => s.sub b (hx b hb)⟩
  | 3, _, h => exact h
  | 4, _, h => exact h
  | 5, _, h => exact h
  | 6, _, h => exact P6.st h s
  | 7, _, h => exact h
  | 8, _, h => exact P8.st h s
  | 9, _, ⟨v1, v2, a, b, e⟩ => exact ⟨v1, v2, a.st s, b.st s, e⟩
  | 10, _, ⟨v1, v2, a, b, e⟩ => exact ⟨v1, v2, a.st s, b.st s, e⟩
  | 11, _, ⟨q, v1, v2, a, b, e, hg, hc⟩ => exact ⟨q, v1, v2, a.st s, b.st s, e, hg.st s, fun i u hu => (s.cell q i hg.2.1 hg.2.2).trans (hc i u hu)⟩
theorem St22.refl (X : Nat → Prop) (w : World) : St22 X w X w := ⟨Nat.le_refl _, fun _ _ _ _ => rfl, fun _ h => h, fun _ h => .inl h⟩
theorem St22.alloc (X : Nat → Prop) (w : World) (o : Obj) : St22 X w X (w.alloc o) := ⟨by simp, fun q i hq _ => ((Below.refl _ w).alloc (Nat.le_refl _) o).cell (p := ⟨q, i, none⟩) hq, fun _ h => h, fun _ h => .inl h⟩
theorem P12.st {d : ByteArray} {k n : Int} {w0 : World} {X X' : Nat → Prop} {w : World} {v : Value} {sn : Nat} {cs : List Value} (h : ∃ v1 v2, P6 d w0 X w v1 ∧ P8 k n w0 X w v2 ∧ Row 4 w0.heap.size w v (sn + 1) (cs ++ nmC v1 v2) ∧ ∀ b, v.ownBlock = some b → X b) (s : St22 X w X' w) : ∃ v1 v2, P6 d w0 X' w v1 ∧ P8 k n w0 X' w v2 ∧ Row 4 w0.heap.size w v (sn + 1) (cs ++ nmC v1 v2) ∧ ∀ b, v.ownBlock = some b → X' b := by
  obtain ⟨v1, v2, a, b, c, e⟩ := h
  exact ⟨v1, v2, a.st s, b.st s, c, fun q hq => s.sub q (e q hq)⟩
theorem getD_set (L : Array Bool) {i : Nat} (hi : i < L.size) (j : Nat) (b : Bool) : (L.setIfInBounds i true).getD j b = if j = i then true else L.getD j b := by
  rw [Array.getD_eq_getD_getElem?, Array.getD_eq_getD_getElem?, Array.getElem?_setIfInBounds]
  by_cases h : i = j
  · rw [if_pos h, if_pos h.symm, if_pos hi]; rfl
  · rw [if_neg h, if_neg (fun e => h e.symm)]
theorem tmp_put (a : Act) {t : Nat} (ht : t < a.tmps.size) (v : Value) (j : Nat) : (a.put (some t) v).tmps.getD j undef = if j = t then v else a.tmps.getD j undef := by
  show (a.tmps.setIfInBounds t v).getD j undef = _
  rw [Array.getD_eq_getD_getElem?, Array.getD_eq_getD_getElem?, Array.getElem?_setIfInBounds]
  by_cases h : t = j
  · rw [if_pos h, if_pos h.symm, if_pos ht]; rfl
  · rw [if_neg h, if_neg (fun e => h e.symm)]
theorem getD_un {L : Array Bool} {i : Nat} (h : L.getD i true = false) : L.getD i false = false := by
  rw [Array.getD_eq_getD_getElem?] at h ⊢
  cases hx : L[i]? with
  | none => rfl
  | some x => rw [hx] at h; exact h
theorem J22.all {d : ByteArray} {k n : Int} {sv : Value} {sn : Nat} {cs : List Value} {q10 q13 : Nat} {A0 : Act} {w0 : World} {L : Array Bool} {a : Act} {w : World} (h : J22 d k n sv sn cs q10 q13 A0 w0 L a w) (h12 : L.getD 12 false = true) : ∀ j, j < 12 → L.getD j false = true := by
  have c := fun i (hi : i < 14) (hl : L.getD i false = true) e (he : e ∈ pre22 i) => h.cl i hi hl e he
  have l2 := c 12 (by omega) h12 2 (by simp [pre22])
  have l11 := c 12 (by omega) h12 11 (by simp [pre22])
  have l0 := c 2 (by omega) l2 0 (by simp [pre22])
  have l1 := c 2 (by omega) l2 1 (by simp [pre22])
  have l10 := c 11 (by omega) l11 10 (by simp [pre22])
  have l9 := c 10 (by omega) l10 9 (by simp [pre22])
  have l6 := c 9 (by omega) l9 6 (by simp [pre22])
  have l8 := c 9 (by omega) l9 8 (by simp [pre22])
  have l7 := c 8 (by omega) l8 7 (by simp [pre22])
  have l5 := c 6 (by omega) l6 5 (by simp [pre22])
  have l4 := c 5 (by omega) l5 4 (by simp [pre22])
  have l3 := c 4 (by omega) l4 3 (by simp [pre22])
  intro j hj
  match j, hj with
  | 0, _ => exact l0
  | 1, _ => exact l1
  | 2, _ => exact l2
  | 3, _ => exact l3
  | 4, _ => exact l4
  | 5, _ => exact l5
  | 6, _ => exact l6
  | 7, _ => exact l7
  | 8, _ => exact l8
  | 9, _ => exact l9
  | 10, _ => exact l10
  | 11, _ => exact l11
theorem dst22_inj {i j : Nat} (hi : i < 14) (hj : j < 14) (h : dst22 i = dst22 j) : i = j := by
  unfold dst22 at h
  split at h <;> split at h <;> omega
theorem dst22_lt {i : Nat} (hi : i < 14) : dst22 i < 132 ∧ (dst22 i = 15 ∨ (86 ≤ dst22 i ∧ dst22 i ≤ 98)) := by
  unfold dst22
  split <;> omega
theorem J22.step {d : ByteArray} {k n : Int} {sv : Value} {sn : Nat} {cs : List Value} {q10 q13 : Nat} {A0 : Act} {w0 : World} {L : Array Bool} {a : Act} {w : World} (h : J22 d k n sv sn cs q10 q13 A0 w0 L a w) {i : Nat} (hi : i < 14) (hun : L.getD i true = false) (hpre : ∀ e ∈ pre22 i, L.getD e false = true) {X X' : Nat → Prop} {w' : World} {v : Value}
    (hF : ∀ i, i < 14 → L.getD i false = true → (i = 2 → L.getD 12 false = false) → F22 d k n sv sn cs q10 q13 w0 X w (a.tmps.getD (dst22 i) undef) i)
    (hS : St22 X w X' w') (hX' : ∀ q, X' q → w0.heap.size ≤ q ∧ q < w'.heap.size) (hB : Below w0.heap.size w0 w') (hv : F22 d k n sv sn cs q10 q13 w0 X' w' v i) (h2 : i ≠ 12 → L.getD 2 false = true → ∀ b, X b → w'.heap[b]? = w.heap[b]?) (h13 : i = 13 → w' = w) :
    J22 d k n sv sn cs q10 q13 A0 w0 (L.setIfInBounds i true) (a.put (some (dst22 i)) v) w' := by
  have hiL : i < L.size := by rw [h.sz]; exact hi
  have hdl := dst22_lt hi
  have hda : dst22 i < a.tmps.size := by rw [h.asz]; exact hdl.1
  have hunf := getD_un hun
  refine ⟨by rw [Array.size_setIfInBounds]; exact h.sz, by show (a.tmps.setIfInBounds _ _).size = 132; rw [Array.size_setIfInBounds]; exact h.asz, h.df, fun j hj hj2 => ?_, hB, fun j hj hl e he => ?_, X', hX', fun j hj hl hc => ?_⟩
  · rw [tmp_put a hda, if_neg (by omega)]
    exact h.off j hj hj2
  · rw [getD_set L hiL] at hl ⊢
    by_cases e1 : e = i
    · rw [if_pos e1]
    · rw [if_neg e1]
      by_cases e2 : j = i
      · subst e2; exact hpre e he
      · rw [if_neg e2] at hl; exact h.cl j hj hl e he
  · rw [tmp_put a hda]
    by_cases e2 : j = i
    · subst e2
      rw [if_pos rfl]
      exact hv
    · rw [if_neg (fun e => e2 (dst22_inj hj hi e))]
      rw [getD_set L hiL, if_neg e2] at hl
      have hc' : j = 2 → L.getD 12 false = false := fun e => by
        have := hc e
        rw [getD_set L hiL] at this
        split at this
        · cases this
        · exact this
      have hf := hF j hj hl hc'
      by_cases hj12 : j < 12
      · refine F22.st hf hS hj12 (fun e => h2 (fun e12 => ?_) (by rw [← e]; exact hl))
        have := hc e
        rw [getD_set L hiL, if_pos e12.symm] at this
        cases this
      · have h12 : L.getD 12 false = true := by
          by_cases e3 : j = 12
          · rw [← e3]; exact hl
          · have e4 : j = 13 := by omega
            subst e4
            exact h.cl 13 hj hl 12 (by simp [pre22])
        have hall := h.all h12
        have e13 : i = 13 := by
          by_cases e5 : i < 12
          · rw [hall i e5] at hunf; cases hunf
          · by_cases e6 : i = 12
            · rw [e6] at hunf; rw [h12] at hunf; cases hunf
            · omega
        have hw := h13 e13
        subst hw
        have e7 : j = 12 := by omega
        subst e7
        exact P12.st hf hS
theorem J22.take {d : ByteArray} {k n : Int} {sv : Value} {sn : Nat} {cs : List Value} {q10 q13 : Nat} {A0 : Act} {w0 : World} {L : Array Bool} {a : Act} {w : World} (h : J22 d k n sv sn cs q10 q13 A0 w0 L a w) {i : Nat} (hi : i < 14) (hun : L.getD i true = false) (hpre : ∀ e ∈ pre22 i, L.getD e false = true) {X : Nat → Prop} {v : Value}
    (hX : ∀ q, X q → w0.heap.size ≤ q ∧ q < w.heap.size) (hF : ∀ i, i < 14 → L.getD i false = true → (i = 2 → L.getD 12 false = false) → F22 d k n sv sn cs q10 q13 w0 X w (a.tmps.getD (dst22 i) undef) i)
    (hv : F22 d k n sv sn cs q10 q13 w0 X w v i) : J22 d k n sv sn cs q10 q13 A0 w0 (L.setIfInBounds i true) (a.put (some (dst22 i)) v) w :=
  h.step hi hun hpre hF (St22.refl X w) hX h.bel hv (fun _ _ _ _ => rfl) (fun _ => rfl)
theorem heap_alloc {w : World} {o : Obj} {b : Nat} (h : b < w.heap.size) : (w.alloc o).heap[b]? = w.heap[b]? := by
  show (w.heap.push o)[b]? = w.heap[b]?
  rw [Array.getElem?_push, if_neg (by omega)]
theorem J22.allo {d : ByteArray} {k n : Int} {sv : Value} {sn : Nat} {cs : List Value} {q10 q13 : Nat} {A0 : Act} {w0 : World} {L : Array Bool} {a : Act} {w : World} (h : J22 d k n sv sn cs q10 q13 A0 w0 L a w) {i : Nat} (hi : i < 13) (hun : L.getD i true = false) (hpre : ∀ e ∈ pre22 i, L.getD e false = true) {X : Nat → Prop} {v : Value} (o : Obj)
    (hX : ∀ q, X q → w0.heap.size ≤ q ∧ q < w.heap.size) (hF : ∀ i, i < 14 → L.getD i false = true → (i = 2 → L.getD 12 false = false) → F22 d k n sv sn cs q10 q13 w0 X w (a.tmps.getD (dst22 i) undef) i)
    (hv : F22 d k n sv sn cs q10 q13 w0 X (w.alloc o) v i) : J22 d k n sv sn cs q10 q13 A0 w0 (L.setIfInBounds i true) (a.put (some (dst22 i)) v) (w.alloc o) :=
  h.step (by omega) hun hpre hF (St22.alloc X w o) (fun q hq => ⟨(hX q hq).1, by have := (hX q hq).2; simp; omega⟩) (h.bel.alloc h.bel.size o) hv (fun _ _ b hb => heap_alloc (hX b hb).2) (fun e => by omega)
theorem G22.new {w0 w : World} {X : Nat → Prop} (hb : w0.heap.size ≤ w.heap.size) (hX : ∀ q, X q → w0.heap.size ≤ q ∧ q < w.heap.size) (o : Obj) : G22 w0 X (w.alloc o) w.heap.size := ⟨hb, by simp, fun h => by have := (hX _ h).2; omega⟩
theorem new_cells {w : World} {cs : List Value} {t : TypeId} {i : Nat} {u : Value} (hu : cs[i]? = some u) : (w.alloc (.cells cs.toArray t)).cell? ⟨w.heap.size, i, none⟩ = some u := by
  rw [World.cell?_alloc_at _ _ _ _ rfl]
  simpa using hu
theorem P6.one {d : ByteArray} {w0 : World} {X : Nat → Prop} {w : World} {v : Value} (h : P6 d w0 X w v) : v.oneCell' = true := by
  obtain ⟨q, rfl, _⟩ := h
  rfl
theorem P8.one {k n : Int} {w0 : World} {X : Nat → Prop} {w : World} {v : Value} (h : P8 k n w0 X w v) : v.oneCell' = true := by
  obtain ⟨q, rfl, _⟩ := h
  rfl
theorem all_listed {ops : Array Oper} {L : Array Bool} (hb : (ops.toList.zipIdx.all fun x => x.1.after.all fun e => decide (e.on < x.2)) = true) (hs : L.size = ops.size) (hr : Region.ready .any ops L = []) : ∀ j, j < ops.size → L.getD j false = true := by
  intro j
  induction j using Nat.strongRecOn with
  | _ j ih =>
    intro hj
    cases hl : L.getD j false with
    | true => rfl
    | false =>
      exfalso
      have hm : j ∈ Region.ready .any ops L := by
        refine mem_ready.2 ⟨?_, ops[j], Array.getElem?_eq_getElem hj, fun e he _ => ih e.on ?_ ?_⟩
        · rw [Array.getD_eq_getD_getElem?] at hl ⊢
          rw [Array.getElem?_eq_getElem (by omega)] at hl ⊢
          exact hl
        all_goals
          have h1 := List.all_eq_true.1 hb (ops[j], j) (by
            rw [List.mem_zipIdx_iff_getElem?]
            simp [hj])
          have h2 := Array.all_eq_true_iff_forall_mem.1 h1 e he
          have h3 : e.on < j := by simpa using h2
          omega
      rw [hr] at hm
      cases hm
end Go.Proofs.YtojnagonhihknaaGreatDoor
set_option linter.unusedVariables false
set_option linter.unusedSimpArgs false
namespace Go.Proofs.YtojnagonhihknaaGreatDoor
open Go.ChangeShapes Go.WideShapes Go.ChangeAt Go.RowKit

def ops22 : Array Oper := #[⟨some 86, .buildSlice 22 0 #[], 22, "law.go:166", #[], none⟩,
  ⟨some 87, .move (.tmp 0), 22, "law.go:166", #[], none⟩,
  ⟨some 88, .call { callee := Callee.builtin Builtin.append, args := #[.tmp 86, .tmp 87], argTypes := #[22, 22] }, 22, "law.go:166", #[⟨0, .data⟩, ⟨1, .data⟩], none⟩,
  ⟨some 89, .fieldAddr 42 (.tmp 10) 0, 0, "law.go:166", #[], none⟩,
  ⟨some 90, .fieldAddr 24 (.tmp 89) 0, 0, "law.go:166", #[⟨3, .data⟩], none⟩,
  ⟨some 91, .load 9 (.tmp 90), 9, "law.go:166", #[⟨4, .data⟩], none⟩,
  ⟨some 92, .buildSlice 44 1 #[(0, .tmp 91)], 44, "law.go:166", #[⟨5, .data⟩], none⟩,
  ⟨some 93, .load 59 (.tmp 13), 59, "law.go:166", #[], none⟩,
  ⟨some 94, .buildSlice 45 1 #[(0, .tmp 93)], 45, "law.go:166", #[⟨7, .data⟩], none⟩,
  ⟨some 95, .build 47 #[(1, .tmp 92), (2, .tmp 94)], 47, "law.go:166", #[⟨6, .data⟩, ⟨8, .data⟩], none⟩,
  ⟨some 96, .build 49 #[(0, .const (Value.string { data := #[97, 32, 110, 97, 109, 101, 32, 111, 102, 32, 105, 116, 115, 32, 111, 119, 110] })), (1, .tmp 95)], 49, "law.go:166", #[⟨9, .data⟩], none⟩,
  ⟨some 97, .buildSlice 22 1 #[(0, .tmp 96)], 22, "law.go:166", #[⟨10, .data⟩], none⟩,
  ⟨some 98, .call { callee := Callee.builtin Builtin.append, args := #[.tmp 88, .tmp 97], argTypes := #[22, 22] }, 22, "law.go:166", #[⟨2, .data⟩, ⟨11, .data⟩, ⟨2, .chain⟩], none⟩,
  ⟨some 15, .assign (.tmp 98), 22, "law.go:166", #[⟨12, .data⟩, ⟨12, .chain⟩, ⟨0, .phase⟩, ⟨1, .phase⟩, ⟨2, .phase⟩, ⟨3, .phase⟩, ⟨4, .phase⟩, ⟨5, .phase⟩, ⟨6, .phase⟩, ⟨7, .phase⟩, ⟨8, .phase⟩, ⟨9, .phase⟩, ⟨10, .phase⟩, ⟨11, .phase⟩, ⟨12, .phase⟩], none⟩]
theorem tmp_q {a : Act} {j : Nat} {v : Value} (h : a.tmps.getD j undef = v) : a.tmps[j]?.getD undef = v := by rw [← Array.getD_eq_getD_getElem?]; exact h
theorem lit22 {A0 a' : Act} (hz : A0.tmps.size = 132) (hsz : a'.tmps.size = 132) (hdf : a'.defers = A0.defers) (hoff : ∀ j, (j < 86 ∨ 98 < j) → j ≠ 15 → a'.tmps.getD j undef = A0.tmps.getD j undef) :
    a' = ⟨(((((((((((((A0.tmps.setIfInBounds 15 (a'.tmps.getD 15 undef)).setIfInBounds 86 (a'.tmps.getD 86 undef)).setIfInBounds 87 (a'.tmps.getD 87 undef)).setIfInBounds 88 (a'.tmps.getD 88 undef)).setIfInBounds 89 (a'.tmps.getD 89 undef)).setIfInBounds 90 (a'.tmps.getD 90 undef)).setIfInBounds 91 (a'.tmps.getD 91 undef)).setIfInBounds 92 (a'.tmps.getD 92 undef)).setIfInBounds 93 (a'.tmps.getD 93 undef)).setIfInBounds 94 (a'.tmps.getD 94 undef)).setIfInBounds 95 (a'.tmps.getD 95 undef)).setIfInBounds 96 (a'.tmps.getD 96 undef)).setIfInBounds 97 (a'.tmps.getD 97 undef)).setIfInBounds 98 (a'.tmps.getD 98 undef), A0.defers⟩ := by
  have hq : ∀ (T : Array Value) j, j < T.size → T[j]? = some (T.getD j undef) := fun T j hj => by
    rw [Array.getD_eq_getD_getElem?, Array.getElem?_eq_getElem hj]; rfl
  have hg : a'.tmps = (((((((((((((A0.tmps.setIfInBounds 15 (a'.tmps.getD 15 undef)).setIfInBounds 86 (a'.tmps.getD 86 undef)).setIfInBounds 87 (a'.tmps.getD 87 undef)).setIfInBounds 88 (a'.tmps.getD 88 undef)).setIfInBounds 89 (a'.tmps.getD 89 undef)).setIfInBounds 90 (a'.tmps.getD 90 undef)).setIfInBounds 91 (a'.tmps.getD 91 undef)).setIfInBounds 92 (a'.tmps.getD 92 undef)).setIfInBounds 93 (a'.tmps.getD 93 undef)).setIfInBounds 94 (a'.tmps.getD 94 undef)).setIfInBounds 95 (a'.tmps.getD 95 undef)).setIfInBounds 96 (a'.tmps.getD 96 undef)).setIfInBounds 97 (a'.tmps.getD 97 undef)).setIfInBounds 98 (a'.tmps.getD 98 undef) := by
    apply Array.ext_getElem?
    intro j
    have g : ∀ (U : Array Value) (i : Nat) (v : Value), i < U.size → (U.setIfInBounds i v)[j]? = if j = i then some v else U[j]? := fun U i v hi => by
      rw [Array.getElem?_setIfInBounds]
      by_cases h : i = j
      · rw [if_pos h, if_pos h.symm, if_pos hi]
      · rw [if_neg h, if_neg (fun e => h e.symm)]
    rw [g _ 98 _ (by simp [hz])]
    rw [g _ 97 _ (by simp [hz])]
    rw [g _ 96 _ (by simp [hz])]
    rw [g _ 95 _ (by simp [hz])]
    rw [g _ 94 _ (by simp [hz])]
    rw [g _ 93 _ (by simp [hz])]
    rw [g _ 92 _ (by simp [hz])]
    rw [g _ 91 _ (by simp [hz])]
    rw [g _ 90 _ (by simp [hz])]
    rw [g _ 89 _ (by simp [hz])]
    rw [g _ 88 _ (by simp [hz])]
    rw [g _ 87 _ (by simp [hz])]
    rw [g _ 86 _ (by simp [hz])]
    rw [g _ 15 _ (by omega)]
    by_cases h98 : j = 98
    · rw [if_pos h98, h98]; exact hq _ _ (by omega)
    rw [if_neg h98]
    by_cases h97 : j = 97
    · rw [if_pos h97, h97]; exact hq _ _ (by omega)
    rw [if_neg h97]
    by_cases h96 : j = 96
    · rw [if_pos h96, h96]; exact hq _ _ (by omega)
    rw [if_neg h96]
    by_cases h95 : j = 95
    · rw [if_pos h95, h95]; exact hq _ _ (by omega)
    rw [if_neg h95]
    by_cases h94 : j = 94
    · rw [if_pos h94, h94]; exact hq _ _ (by omega)
    rw [if_neg h94]
    by_cases h93 : j = 93
    · rw [if_pos h93, h93]; exact hq _ _ (by omega)
    rw [if_neg h93]
    by_cases h92 : j = 92
    · rw [if_pos h92, h92]; exact hq _ _ (by omega)
    rw [if_neg h92]
    by_cases h91 : j = 91
    · rw [if_pos h91, h91]; exact hq _ _ (by omega)
    rw [if_neg h91]
    by_cases h90 : j = 90
    · rw [if_pos h90, h90]; exact hq _ _ (by omega)
    rw [if_neg h90]
    by_cases h89 : j = 89
    · rw [if_pos h89, h89]; exact hq _ _ (by omega)
    rw [if_neg h89]
    by_cases h88 : j = 88
    · rw [if_pos h88, h88]; exact hq _ _ (by omega)
    rw [if_neg h88]
    by_cases h87 : j = 87
    · rw [if_pos h87, h87]; exact hq _ _ (by omega)
    rw [if_neg h87]
    by_cases h86 : j = 86
    · rw [if_pos h86, h86]; exact hq _ _ (by omega)
    rw [if_neg h86]
    by_cases h15 : j = 15
    · rw [if_pos h15, h15]; exact hq _ _ (by omega)
    rw [if_neg h15]
    by_cases hj : j < 132
    · rw [hq _ j (by omega), hq _ j (by omega), hoff j (by omega) (by omega)]
    · rw [Array.getElem?_eq_none (by omega), Array.getElem?_eq_none (by omega)]
  obtain ⟨T, D⟩ := a'
  simp only at hg hdf ⊢
  rw [← hg, hdf]
theorem ops22_before : (ops22.toList.zipIdx.all fun x => x.1.after.all fun e => decide (e.on < x.2)) = true := by kernel_rfl
set_option maxHeartbeats 4000000 in
set_option maxRecDepth 100000 in
theorem gd22 (d : ByteArray) (k n : Int) (sa : Option Addr) (sn sc : Nat) (cs : List Value) (q10 q13 : Nat) (A0 : Act) (w : World) (Q : Exit → Act → World → Prop) (hz : A0.tmps.size = 132) (h0 : A0.tmps.getD 0 undef = .slice sa sn sc) (h10 : A0.tmps.getD 10 undef = .pointer (some ⟨q10, 0, none⟩)) (h13 : A0.tmps.getD 13 undef = .pointer (some ⟨q13, 0, none⟩))
    (c10 : w.cell? ⟨q10, 0, none⟩ = some (.string d)) (c13 : ∀ i u, (opC k n)[i]? = some u → w.cell? ⟨q13, i, none⟩ = some u)
    (hsrc : ∀ w', (∀ b i, b < w.heap.size → w'.cell? ⟨b, i, none⟩ = w.cell? ⟨b, i, none⟩) → Src Tryz.prog 4 22 (.slice sa sn sc) sn cs w') (hsn : sn ≤ 1000)
    (hQ : ∀ (a' : Act) (w' : World) (q1 q2 : Nat), a'.tmps.size = 132 → a'.defers = A0.defers → (∀ j, (j < 86 ∨ 98 < j) → j ≠ 15 → a'.tmps.getD j undef = A0.tmps.getD j undef) → Below w.heap.size w w' → w'.cell? ⟨q1, 0, none⟩ = some (.string d) → (∀ i u, (opC k n)[i]? = some u → w'.cell? ⟨q2, i, none⟩ = some u) → Row 4 w.heap.size w' (a'.tmps.getD 15 undef) (sn + 1) (cs ++ nmC (.slice (some ⟨q1, 0, none⟩) 1 1) (.slice (some ⟨q2, 0, none⟩) 1 1)) → Q .normal a' w') :
    (Code.region 22 ops22 true).wp Tryz.prog Q A0 w := by
  refine wp_region_inv (J := J22 d k n (.slice sa sn sc) sn cs q10 q13 A0 w.drew) (by kernel_rfl) ?_ ?_ ?_
  · have hl : ∀ j, (Array.replicate ops22.size false).getD j false = false := fun j => by
      rw [Array.getD_eq_getD_getElem?, Array.getElem?_replicate]
      split <;> rfl
    refine ⟨by rfl, hz, rfl, fun _ _ _ => rfl, Below.refl _ _, fun i hi h => (by rw [hl] at h; cases h), fun _ => False, fun _ (h : False) => h.elim, fun i hi h => (by rw [hl] at h; cases h)⟩
  · intro L a wx i o hJ hun ho haf K hK
    obtain ⟨X, hX, hF⟩ := hJ.ex
    have hA0 : a.tmps.getD 0 undef = .slice sa sn sc := (hJ.off 0 (by omega) (by omega)).trans h0
    have hA10 : a.tmps.getD 10 undef = .pointer (some ⟨q10, 0, none⟩) := (hJ.off 10 (by omega) (by omega)).trans h10
    have hA13 : a.tmps.getD 13 undef = .pointer (some ⟨q13, 0, none⟩) := (hJ.off 13 (by omega) (by omega)).trans h13
    have hbw : Below w.heap.size w wx := ((Below.refl w.heap.size w).drew).trans (hJ.bel.mono (Nat.le_refl _))
    have hcx : ∀ b i, b < w.heap.size → wx.cell? ⟨b, i, none⟩ = w.cell? ⟨b, i, none⟩ := fun b i hb => hbw.cell (p := ⟨b, i, none⟩) hb
    have c10x : wx.cell? ⟨q10, 0, none⟩ = some (.string d) := (hcx _ _ (cell_lt c10)).trans c10
    have c13x : ∀ i u, (opC k n)[i]? = some u → wx.cell? ⟨q13, i, none⟩ = some u := fun i u hu => (hcx _ _ (cell_lt (c13 i u hu))).trans (c13 i u hu)
    have hss := hsrc wx hcx
    have g0 := tmp_q hA0
    have g10 := tmp_q hA10
    have g13 := tmp_q hA13
    have hi : i < 14 := (Array.getElem?_eq_some_iff.1 ho).1
    have HBX := hJ.bel
    match i, hi, ho, hun, haf with
    | 0, hi, ho, hun, haf =>
      have ho2 : some ⟨some 86, .buildSlice 22 0 #[], 22, "law.go:166", #[], none⟩ = some o := ho
      obtain rfl := Option.some.inj ho2
      clear ho ho2
      have hpre : ∀ e ∈ pre22 0, L.getD e false = true := fun e he => by simp [pre22] at he
      go_simp
      refine hK _ _ (hJ.step (X' := fun q => X q ∨ q = wx.heap.size) hi hun hpre hF ⟨by simp, fun q i hq _ => ((Below.refl _ wx).alloc (Nat.le_refl _) _).cell (p := ⟨q, i, none⟩) hq, fun _ h => .inl h, fun q h => h.elim .inl (fun e => .inr (by omega))⟩ (fun q hq => ?_) (HBX.alloc HBX.size _) ⟨wx.heap.size, rfl, .inr rfl, HBX.size, by simp⟩ (fun _ _ b hb => heap_alloc (hX b hb).2) (fun e => by omega))
      rcases hq with hq | rfl
      · have := hX q hq; exact ⟨this.1, by simp; omega⟩
      · exact ⟨HBX.size, by simp⟩
    | 1, hi, ho, hun, haf =>
      have ho2 : some ⟨some 87, .move (.tmp 0), 22, "law.go:166", #[], none⟩ = some o := ho
      obtain rfl := Option.some.inj ho2
      clear ho ho2
      have hpre : ∀ e ∈ pre22 1, L.getD e false = true := fun e he => by simp [pre22] at he
      go_simp
      exact hK _ _ (hJ.take hi hun hpre hX hF rfl)
    | 2, hi, ho, hun, haf =>
      have ho2 : some ⟨some 88, .call { callee := Callee.builtin Builtin.append, args := #[.tmp 86, .tmp 87], argTypes := #[22, 22] }, 22, "law.go:166", #[⟨0, .data⟩, ⟨1, .data⟩], none⟩ = some o := ho
      obtain rfl := Option.some.inj ho2
      clear ho ho2
      have p0 : L.getD 0 false = true := haf ⟨0, .data⟩ (by simp) rfl
      have p1 : L.getD 1 false = true := haf ⟨1, .data⟩ (by simp) rfl
      have hpre : ∀ e ∈ pre22 2, L.getD e false = true := fun e he => by simp [pre22] at he; rcases he with rfl | rfl <;> assumption
      obtain ⟨q0, e0, hx0, hq0, hq1⟩ := (hF 0 (by omega) p0 (by omega) : ∃ q, a.tmps.getD 86 undef = .slice (some ⟨q, 0, none⟩) 0 0 ∧ X q ∧ w.drew.heap.size ≤ q ∧ q < wx.heap.size)
      have e1 : a.tmps.getD 87 undef = .slice sa sn sc := hF 1 (by omega) p1 (by omega)
      rw [if_pos (by simp [Region.wanted])]
      refine wp_append_rowW (.tmp 86) (.tmp 87) 22 22 rfl 4 49 (.agg #[.string ByteArray.empty, .string ByteArray.empty, .slice none 0 0, .slice none 0 0]) 80 Tryz.underlying22 infoN7g rfl w.drew.heap.size (.slice (some ⟨q0, 0, none⟩) 0 0) 0 [] e0 (row_none hq0 hq1) (.slice sa sn sc) e1 sn cs hss HBX.size (by omega) (by decide) (fun v' w' hr ho hown => hK _ _ (hJ.step (X' := fun q => X q ∨ v'.ownBlock = some q) hi hun hpre hF ⟨ho.size, fun q i hq hx => ho.cell hq (fun e => hx (by cases e; exact hx0)), fun _ h => .inl h, fun q h => ?_⟩ (fun q hq => ?_) (HBX.trans (ho.below (B := w.drew.heap.size) (fun i hi => by cases hi; exact hq0) HBX.size)) ⟨?_, fun b hb => .inr hb⟩ (fun _ h => by rw [getD_un hun] at h; cases h) (fun e => by omega)))
      · rcases h with h | h
        · exact .inl h
        · rcases hown with h3 | h3
          · rw [h3] at h; cases h; exact .inl hx0
          · rw [h3] at h; cases h; exact .inr (Nat.le_refl _)
      · rcases hq with h | h
        · exact ⟨(hX q h).1, Nat.lt_of_lt_of_le (hX q h).2 ho.size⟩
        · exact hr.lt q h
      · rw [Nat.zero_add] at hr
        exact hr
    | 3, hi, ho, hun, haf =>
      have ho2 : some ⟨some 89, .fieldAddr 42 (.tmp 10) 0, 0, "law.go:166", #[], none⟩ = some o := ho
      obtain rfl := Option.some.inj ho2
      clear ho ho2
      have hpre : ∀ e ∈ pre22 3, L.getD e false = true := fun e he => by simp [pre22] at he
      go_simp
      exact hK _ _ (hJ.take hi hun hpre hX hF rfl)
    | 4, hi, ho, hun, haf =>
      have ho2 : some ⟨some 90, .fieldAddr 24 (.tmp 89) 0, 0, "law.go:166", #[⟨3, .data⟩], none⟩ = some o := ho
      obtain rfl := Option.some.inj ho2
      clear ho ho2
      have p3 : L.getD 3 false = true := haf ⟨3, .data⟩ (by simp) rfl
      have hpre : ∀ e ∈ pre22 4, L.getD e false = true := fun e he => by simp [pre22] at he; subst he; assumption
      have f3 : a.tmps.getD 89 undef = .pointer (some ⟨q10, 0, none⟩) := hF 3 (by omega) p3 (by omega)
      have g3 := tmp_q f3
      go_simp
      exact hK _ _ (hJ.take hi hun hpre hX hF rfl)
    | 5, hi, ho, hun, haf =>
      have ho2 : some ⟨some 91, .load 9 (.tmp 90), 9, "law.go:166", #[⟨4, .data⟩], none⟩ = some o := ho
      obtain rfl := Option.some.inj ho2
      clear ho ho2
      have p4 : L.getD 4 false = true := haf ⟨4, .data⟩ (by simp) rfl
      have hpre : ∀ e ∈ pre22 5, L.getD e false = true := fun e he => by simp [pre22] at he; subst he; assumption
      have f4 : a.tmps.getD 90 undef = .pointer (some ⟨q10, 0, none⟩) := hF 4 (by omega) p4 (by omega)
      have g4 := tmp_q f4
      go_simp
      exact hK _ _ (hJ.take hi hun hpre hX hF rfl)
    | 6, hi, ho, hun, haf =>
      have ho2 : some ⟨some 92, .buildSlice 44 1 #[(0, .tmp 91)], 44, "law.go:166", #[⟨5, .data⟩], none⟩ = some o := ho
      obtain rfl := Option.some.inj ho2
      clear ho ho2
      have p5 : L.getD 5 false = true := haf ⟨5, .data⟩ (by simp) rfl
      have hpre : ∀ e ∈ pre22 6, L.getD e false = true := fun e he => by simp [pre22] at he; subst he; assumption
      have f5 : a.tmps.getD 91 undef = .string d := hF 5 (by omega) p5 (by omega)
      have g5 := tmp_q f5
      go_simp
      exact hK _ _ (hJ.allo (by omega) hun hpre _ hX hF ⟨wx.heap.size, rfl, G22.new HBX.size hX _, new_cells (cs := [.string d]) rfl⟩)
    | 7, hi, ho, hun, haf =>
      have ho2 : some ⟨some 93, .load 59 (.tmp 13), 59, "law.go:166", #[], none⟩ = some o := ho
      obtain rfl := Option.some.inj ho2
      clear ho ho2
      have hpre : ∀ e ∈ pre22 7, L.getD e false = true := fun e he => by simp [pre22] at he
      go_simp
      exact hK _ _ (hJ.take hi hun hpre hX hF rfl)
    | 8, hi, ho, hun, haf =>
      have ho2 : some ⟨some 94, .buildSlice 45 1 #[(0, .tmp 93)], 45, "law.go:166", #[⟨7, .data⟩], none⟩ = some o := ho
      obtain rfl := Option.some.inj ho2
      clear ho ho2
      have p7 : L.getD 7 false = true := haf ⟨7, .data⟩ (by simp) rfl
      have hpre : ∀ e ∈ pre22 8, L.getD e false = true := fun e he => by simp [pre22] at he; subst he; assumption
      have f7 : a.tmps.getD 93 undef = .agg (opC k n).toArray := hF 7 (by omega) p7 (by omega)
      have g7 := tmp_q f7
      go_simp
      exact hK _ _ (hJ.allo (by omega) hun hpre _ hX hF ⟨wx.heap.size, rfl, G22.new HBX.size hX _, fun i u hu => new_cells (cs := opC k n) hu⟩)
    | 9, hi, ho, hun, haf =>
      have ho2 : some ⟨some 95, .build 47 #[(1, .tmp 92), (2, .tmp 94)], 47, "law.go:166", #[⟨6, .data⟩, ⟨8, .data⟩], none⟩ = some o := ho
      obtain rfl := Option.some.inj ho2
      clear ho ho2
      have p6 : L.getD 6 false = true := haf ⟨6, .data⟩ (by simp) rfl
      have p8 : L.getD 8 false = true := haf ⟨8, .data⟩ (by simp) rfl
      have hpre : ∀ e ∈ pre22 9, L.getD e false = true := fun e he => by simp [pre22] at he; rcases he with rfl | rfl <;> assumption
      obtain ⟨q1, e1, G1, C1⟩ := (hF 6 (by omega) p6 (by omega) : P6 d w.drew X wx (a.tmps.getD 92 undef))
      obtain ⟨q2, e2, G2, C2⟩ := (hF 8 (by omega) p8 (by omega) : P8 k n w.drew X wx (a.tmps.getD 94 undef))
      have u6 : a.eval (.tmp 92) = .slice (some ⟨q1, 0, none⟩) 1 1 := e1
      have u8 : a.eval (.tmp 94) = .slice (some ⟨q2, 0, none⟩) 1 1 := e2
      rw [if_pos (by simp [Region.wanted])]
      unfold Oper.wp
      simp only [execOp, List.map_toArray, List.map_cons, List.map_nil, u6, u8]
      go_simp
      exact hK _ _ (hJ.take hi hun hpre hX hF ⟨_, _, ⟨q1, rfl, G1, C1⟩, ⟨q2, rfl, G2, C2⟩, rfl⟩)
    | 10, hi, ho, hun, haf =>
      have ho2 : some ⟨some 96, .build 49 #[(0, .const (Value.string { data := #[97, 32, 110, 97, 109, 101, 32, 111, 102, 32, 105, 116, 115, 32, 111, 119, 110] })), (1, .tmp 95)], 49, "law.go:166", #[⟨9, .data⟩], none⟩ = some o := ho
      obtain rfl := Option.some.inj ho2
      clear ho ho2
      have p9 : L.getD 9 false = true := haf ⟨9, .data⟩ (by simp) rfl
      have hpre : ∀ e ∈ pre22 10, L.getD e false = true := fun e he => by simp [pre22] at he; subst he; assumption
      obtain ⟨v1, v2, ⟨q1, rfl, G1, C1⟩, ⟨q2, rfl, G2, C2⟩, e9⟩ := (hF 9 (by omega) p9 (by omega) : ∃ v1 v2, P6 d w.drew X wx v1 ∧ P8 k n w.drew X wx v2 ∧ a.tmps.getD 95 undef = .agg #[.string ⟨#[]⟩, v1, v2])
      have u9 : a.eval (.tmp 95) = .agg #[.string ⟨#[]⟩, .slice (some ⟨q1, 0, none⟩) 1 1, .slice (some ⟨q2, 0, none⟩) 1 1] := e9
      rw [if_pos (by simp [Region.wanted])]
      unfold Oper.wp
      simp only [execOp, List.map_toArray, List.map_cons, List.map_nil, u9]
      go_simp
      exact hK _ _ (hJ.take hi hun hpre hX hF ⟨_, _, ⟨q1, rfl, G1, C1⟩, ⟨q2, rfl, G2, C2⟩, rfl⟩)
    | 11, hi, ho, hun, haf =>
      have ho2 : some ⟨some 97, .buildSlice 22 1 #[(0, .tmp 96)], 22, "law.go:166", #[⟨10, .data⟩], none⟩ = some o := ho
      obtain rfl := Option.some.inj ho2
      clear ho ho2
      have p10 : L.getD 10 false = true := haf ⟨10, .data⟩ (by simp) rfl
      have hpre : ∀ e ∈ pre22 11, L.getD e false = true := fun e he => by simp [pre22] at he; subst he; assumption
      obtain ⟨v1, v2, ⟨q1, rfl, G1, C1⟩, ⟨q2, rfl, G2, C2⟩, e10⟩ := (hF 10 (by omega) p10 (by omega) : ∃ v1 v2, P6 d w.drew X wx v1 ∧ P8 k n w.drew X wx v2 ∧ a.tmps.getD 96 undef = .agg (nmC v1 v2).toArray)
      have u10 : a.eval (.tmp 96) = .agg #[.string ownN, .string ⟨#[]⟩, .slice (some ⟨q1, 0, none⟩) 1 1, .slice (some ⟨q2, 0, none⟩) 1 1] := e10
      rw [if_pos (by simp [Region.wanted])]
      unfold Oper.wp
      simp only [execOp, List.map_toArray, List.map_cons, List.map_nil, u10]
      go_simp
      exact hK _ _ (hJ.allo (by omega) hun hpre _ hX hF ⟨wx.heap.size, _, _, P6.st ⟨q1, rfl, G1, C1⟩ (St22.alloc X wx _), P8.st ⟨q2, rfl, G2, C2⟩ (St22.alloc X wx _), rfl, G22.new HBX.size hX _, fun i u hu => new_cells (cs := nmC _ _) hu⟩)
    | 12, hi, ho, hun, haf =>
      have ho2 : some ⟨some 98, .call { callee := Callee.builtin Builtin.append, args := #[.tmp 88, .tmp 97], argTypes := #[22, 22] }, 22, "law.go:166", #[⟨2, .data⟩, ⟨11, .data⟩, ⟨2, .chain⟩], none⟩ = some o := ho
      obtain rfl := Option.some.inj ho2
      clear ho ho2
      have p2 : L.getD 2 false = true := haf ⟨2, .data⟩ (by simp) rfl
      have p11 : L.getD 11 false = true := haf ⟨11, .data⟩ (by simp) rfl
      have hpre : ∀ e ∈ pre22 12, L.getD e false = true := fun e he => by simp [pre22] at he; rcases he with rfl | rfl <;> assumption
      obtain ⟨hr2, hx2⟩ := (hF 2 (by omega) p2 (fun _ => getD_un hun) : Row 4 w.drew.heap.size wx (a.tmps.getD 88 undef) sn cs ∧ ∀ b, (a.tmps.getD 88 undef).ownBlock = some b → X b)
      obtain ⟨q, v1, v2, h6, h8, e11, G3, C3⟩ := (hF 11 (by omega) p11 (by omega) : ∃ q v1 v2, P6 d w.drew X wx v1 ∧ P8 k n w.drew X wx v2 ∧ a.tmps.getD 97 undef = .slice (some ⟨q, 0, none⟩) 1 1 ∧ G22 w.drew X wx q ∧ ∀ i u, (nmC v1 v2)[i]? = some u → wx.cell? ⟨q, i, none⟩ = some u)
      rw [if_pos (by simp [Region.wanted])]
      have hsr : Src Tryz.prog 4 22 (.slice (some ⟨q, 0, none⟩) 1 1) 1 (nmC v1 v2) wx := Src.ofSlice wx Tryz.underlying22 _ 1 1 _ rfl (fun j u hj => by rw [show (⟨q, 0, none⟩ : Addr).add j = ⟨q, j, none⟩ by unfold Addr.add; split <;> simp_all]; exact C3 j u hj) (fun u hu => by
        simp only [List.mem_cons, List.not_mem_nil, or_false] at hu
        rcases hu with rfl | rfl | rfl | rfl
        · rfl
        · rfl
        · exact h6.one
        · exact h8.one)
      refine wp_append_rowW (.tmp 88) (.tmp 97) 22 22 rfl 4 49 (.agg #[.string ByteArray.empty, .string ByteArray.empty, .slice none 0 0, .slice none 0 0]) 80 Tryz.underlying22 infoN7g rfl w.drew.heap.size _ sn cs rfl hr2 _ e11 1 (nmC v1 v2) hsr HBX.size (by omega) (by decide) (fun v' w' hr ho hown => ?_)
      have hS : St22 X wx (fun q => X q ∨ v'.ownBlock = some q) w' := ⟨ho.size, fun q i hq hx => ho.cell hq (fun e => hx (hx2 q e)), fun _ h => .inl h, fun q h => by
        rcases h with h | h
        · exact .inl h
        · rcases hown with h3 | h3
          · exact .inl (hx2 q (h3 ▸ h))
          · rw [h3] at h; cases h; exact .inr (Nat.le_refl _)⟩
      refine hK _ _ (hJ.step hi hun hpre hF hS (fun q hq => ?_) (HBX.trans (ho.below (B := w.drew.heap.size) (fun i hi => (hX i (hx2 i hi)).1) HBX.size)) ⟨v1, v2, h6.st hS, h8.st hS, hr, fun b hb => .inr hb⟩ (fun h => absurd rfl h) (fun e => by omega))
      rcases hq with h | h
      · exact ⟨(hX q h).1, Nat.lt_of_lt_of_le (hX q h).2 ho.size⟩
      · exact hr.lt q h
    | 13, hi, ho, hun, haf =>
      have ho2 : some ⟨some 15, .assign (.tmp 98), 22, "law.go:166", #[⟨12, .data⟩, ⟨12, .chain⟩, ⟨0, .phase⟩, ⟨1, .phase⟩, ⟨2, .phase⟩, ⟨3, .phase⟩, ⟨4, .phase⟩, ⟨5, .phase⟩, ⟨6, .phase⟩, ⟨7, .phase⟩, ⟨8, .phase⟩, ⟨9, .phase⟩, ⟨10, .phase⟩, ⟨11, .phase⟩, ⟨12, .phase⟩], none⟩ = some o := ho
      obtain rfl := Option.some.inj ho2
      clear ho ho2
      have p12 : L.getD 12 false = true := haf ⟨12, .data⟩ (by simp) rfl
      have hpre : ∀ e ∈ pre22 13, L.getD e false = true := fun e he => by simp [pre22] at he; subst he; assumption
      have f12 : ∃ v1 v2, P6 d w.drew X wx v1 ∧ P8 k n w.drew X wx v2 ∧ Row 4 w.drew.heap.size wx (a.tmps.getD 98 undef) (sn + 1) (cs ++ nmC v1 v2) ∧ ∀ b, (a.tmps.getD 98 undef).ownBlock = some b → X b := hF 12 (by omega) p12 (by omega)
      obtain ⟨v98, hv98⟩ : ∃ v, a.tmps.getD 98 undef = v := ⟨_, rfl⟩
      have g12 := tmp_q hv98
      rw [hv98] at f12
      go_simp
      exact hK _ _ (hJ.take hi hun hpre hX hF f12)
  · intro L a wx hJ hnil
    have hall := all_listed ops22_before hJ.sz hnil
    obtain ⟨X, hX, hF⟩ := hJ.ex
    obtain ⟨v1, v2, ⟨q1, rfl, _, hc1⟩, ⟨q2, rfl, _, hc2⟩, hrow, _⟩ := hF 13 (by omega) (hall 13 (by show 13 < 14; omega)) (by omega)
    exact hQ a wx q1 q2 hJ.asz hJ.df hJ.off (((Below.refl w.heap.size w).drew).trans (hJ.bel.mono (Nat.le_refl _))) hc1 hc2 hrow
end Go.Proofs.YtojnagonhihknaaGreatDoor
