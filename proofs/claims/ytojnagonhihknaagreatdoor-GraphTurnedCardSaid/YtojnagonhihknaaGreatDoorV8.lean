/- Maps whose keys are ints: what they hold. Maps from ints to ints: what they hold. Maps from names to lots, of two ints each: what they hold. -/
import Derived.Maps.OwnOps
import Derived.Maps.OwnSet
import Derived.Test.YtojnagonhihknaaGreatDoorV1
import Derived.Test.YtojnagonhihknaaGreatDoorV3
import Derived.Test.YtojnagonhihknaaGreatDoorV4
import Derived.Test.YtojnagonhihknaaGreatDoorV5
set_option linter.unusedVariables false
namespace Go.Proofs.YtojnagonhihknaaGreatDoor
open Go.ChangeShapes Go.WideShapes Go.ChangeAt Go.RowKit Go.WideMaps Go.Maps

theorem ilaw : Keyed Tryz.prog 3 := int_keyed Tryz.underlying3
abbrev DU := DataW Unit
abbrev li (x : Int) : Lit := .int .i64 x
theorem li_ne {x y : Int} (h : x ≠ y) : li x ≠ li y := fun e => h (by injection e)
theorem li_wf {x : Int} (h1 : -9223372036854775808 ≤ x) (h2 : x ≤ 9223372036854775807) : (li x).wf = true := by
  show (decide (IntKind.i64.min ≤ x) && decide (x ≤ IntKind.i64.max)) = true
  rw [Bool.and_eq_true, decide_eq_true_iff, decide_eq_true_iff]
  exact ⟨h1, h2⟩
theorem li_key {x : Int} (h1 : -9223372036854775808 ≤ x) (h2 : x ≤ 9223372036854775807) : keyOf Tryz.prog 3 (.int .i64 x) = some (li x) := keyOf_int_mk Tryz.underlying3 (li_wf h1 h2)
theorem has_li {D : DU} (hD : IsMap D) (x y : Int) (d : DU) : has (D.put (li x) d) (li y) = (y == x || has D (li y)) := by
  by_cases e : y = x
  · subst e
    rw [has_put_same hD (by exact trivial)]
    simp
  · rw [has_put_other (li_ne e)]
    have : (y == x) = false := by rw [beq_eq_false_iff_ne]; exact e
    rw [this, Bool.false_or]
theorem at_li {D : DU} (hD : IsMap D) (x y : Int) (d z : DU) : (D.put (li x) d).atKey (li y) z = if y = x then d else D.atKey (li y) z := by
  by_cases e : y = x
  · subst e
    rw [if_pos rfl]
    exact atKey_put_same hD (by exact trivial) d z
  · rw [if_neg e]
    exact atKey_put_other (li_ne e) d z
def MS (W : World) (b : Nat) (ks : List Int) : Prop := ∃ D : DU, W.ownsMap Tryz.prog 3 unitElem b ks.length D ∧ ∀ y, has D (li y) = ks.contains y
theorem MS.lt {W : World} {b : Nat} {ks : List Int} (h : MS W b ks) : b < W.heap.size := by obtain ⟨D, h, _⟩ := h; exact World.ownsMap.lt h
theorem owns_below {W W' : World} {R : Value → Option (DU × List MemPlace)} {b n : Nat} {D : DU} (h : W.ownsMap Tryz.prog 3 R b n D) (hb : Below W.heap.size W W') : W'.ownsMap Tryz.prog 3 R b n D := by
  have hlt := World.ownsMap.lt h
  obtain ⟨es, clock, h0, F, hs, hD⟩ := h
  exact ⟨es, clock, (hb.block b hlt).trans h0, F, hs, hD⟩
theorem MS.below {W W' : World} {b : Nat} {ks : List Int} (h : MS W b ks) (hb : Below W.heap.size W W') : MS W' b ks := by
  obtain ⟨D, h, h2⟩ := h
  exact ⟨D, owns_below h hb, h2⟩
theorem MS.made (W : World) : MS (W.alloc (.map #[] 0)) W.heap.size [] := ⟨.map [], World.ownsMap_made _ _ _ _, fun y => rfl⟩
theorem MS.step {W : World} {b : Nat} {ks : List Int} {D : DU} {x : Int} (hD : IsMap D) (h : ∀ y, has D (li y) = ks.contains y) (h' : W.ownsMap Tryz.prog 3 unitElem b (ks.length + 1) (D.put (li x) (.agg []))) : MS W b (ks ++ [x]) := by
  refine ⟨_, by rw [List.length_append, List.length_singleton]; exact h', fun y => ?_⟩
  rw [has_li hD, h y, Bool.eq_iff_iff]
  simp
  exact Or.comm
end Go.Proofs.YtojnagonhihknaaGreatDoor
set_option linter.unusedVariables false
namespace Go.Proofs.YtojnagonhihknaaGreatDoor
open Go.ChangeShapes Go.WideShapes Go.ChangeAt Go.RowKit Go.WideMaps Go.Maps

def MI (W : World) (b : Nat) (hs : List Int) : Prop := ∃ D : DU, W.ownsMap Tryz.prog 3 (plainElem Tryz.prog 3) b hs.length D ∧ (∀ y, has D (li y) = hs.contains y) ∧ (∀ y ∈ hs, D.atKey (li y) (.lit (.int .i64 0)) = .lit (.int .i64 (hs.idxOf y : Int))) ∧ size D = hs.length
theorem MI.lt {W : World} {b : Nat} {hs : List Int} (h : MI W b hs) : b < W.heap.size := by obtain ⟨D, h, _⟩ := h; exact World.ownsMap.lt h
theorem MI.off {W W' : World} {b : Nat} {hs : List Int} {Z : Nat → Prop} (h : MI W b hs) (ho : Off Z W W') (hb : ¬ Z b) : MI W' b hs := by
  have hlt := h.lt
  obtain ⟨D, ⟨es, clock, h0, F, hs, hD⟩, h2⟩ := h
  exact ⟨D, ⟨es, clock, (ho.block b hlt hb).trans h0, F, hs, hD⟩, h2⟩
theorem MI.below {W W' : World} {b : Nat} {hs : List Int} (h : MI W b hs) (hb : Below W.heap.size W W') : MI W' b hs := h.off (Z := fun _ => False) (Off.of_below hb) (fun h => h)
theorem MI.made (W : World) : MI (W.alloc (.map #[] 0)) W.heap.size [] := ⟨.map [], World.ownsMap_made _ _ _ _, fun y => rfl, fun y h => (by cases h), rfl⟩
theorem MI.step {W W0 : World} {b : Nat} {hs : List Int} {D : DU} {x : Int} (h0 : W0.ownsMap Tryz.prog 3 (plainElem Tryz.prog 3) b hs.length D) (h : ∀ y, has D (li y) = hs.contains y) (h3 : ∀ y ∈ hs, D.atKey (li y) (.lit (.int .i64 0)) = .lit (.int .i64 (hs.idxOf y : Int))) (h4 : size D = hs.length) (hx : x ∉ hs) (h' : W.ownsMap Tryz.prog 3 (plainElem Tryz.prog 3) b (hs.length + 1) (D.put (li x) (.lit (.int .i64 (hs.length : Int))))) : MI W b (hs ++ [x]) := by
  have hD := World.ownsMap.isMap h0
  refine ⟨_, by rw [List.length_append, List.length_singleton]; exact h', fun y => ?_, fun y hy => ?_, ?_⟩
  · rw [has_li hD, h y, Bool.eq_iff_iff]
    simp
    exact Or.comm
  · rw [at_li hD]
    by_cases e : y = x
    · subst e
      rw [if_pos rfl, List.idxOf_append, if_neg hx]
      simp
    · rw [if_neg e]
      rcases List.mem_append.1 hy with hm | hm
      · rw [h3 y hm, List.idxOf_append, if_pos hm]
      · exact absurd (List.mem_singleton.1 hm) e
  · rw [size_put (World.ownsMap.tidy h0 ilaw), h x, h4]
    have : hs.contains x = false := by simpa using hx
    rw [this, List.length_append]
    rfl
theorem lit_i {a b : Int} (h : (DataW.lit (Lit.int .i64 a) : DU) = .lit (.int .i64 b)) : a = b := by
  injection h with h
  injection h
end Go.Proofs.YtojnagonhihknaaGreatDoor
set_option linter.unusedVariables false
namespace Go.Proofs.YtojnagonhihknaaGreatDoor
open Go.ChangeShapes Go.WideShapes Go.ChangeAt Go.RowKit Go.WideMaps Go.Maps

theorem slaw : Keyed Tryz.prog 9 := string_keyed Tryz.underlying9
abbrev lS (s : ByteArray) : Lit := .string s.data.toList
theorem lS_ne {x y : ByteArray} (h : x ≠ y) : lS x ≠ lS y := fun e => h (by
  injection e with e
  exact ba_ext e)
theorem lS_key {x : ByteArray} (h : x.size ≤ 140737488355328) : keyOf Tryz.prog 9 (.string x) = some (lS x) := keyOf_string_mk Tryz.underlying9 (Nat.le_trans h (by decide))
theorem has_lS {D : DU} (hD : IsMap D) (x y : ByteArray) (d : DU) : (has (D.put (lS x) d) (lS y) = true ↔ y = x ∨ has D (lS y) = true) := by
  by_cases e : y = x
  · subst e
    rw [has_put_same hD (by exact trivial)]
    exact ⟨fun _ => .inl rfl, fun _ => rfl⟩
  · rw [has_put_other (lS_ne e)]
    exact ⟨.inr, fun h => h.resolve_left e⟩
theorem at_lS {D : DU} (hD : IsMap D) (x y : ByteArray) (d z : DU) : (D.put (lS x) d).atKey (lS y) z = if y = x then d else D.atKey (lS y) z := by
  by_cases e : y = x
  · subst e
    rw [if_pos rfl]
    exact atKey_put_same hD (by exact trivial) d z
  · rw [if_neg e]
    exact atKey_put_other (lS_ne e) d z
abbrev lotV (f m : Int) : Value := .agg #[.int .i64 f, .int .i64 m]
abbrev lotD (f m : Int) : DU := .agg [.lit (.int .i64 f), .lit (.int .i64 m)]
def lotElem (v : Value) : Option (DU × List MemPlace) :=
  match v with
  | .agg xs => (match xs.toList with | [.int .i64 x, .int .i64 y] => some (lotD x y, []) | _ => none)
  | _ => none
theorem lotElem_mk (x y : Int) : lotElem (lotV x y) = some (lotD x y, []) := rfl
theorem lotElem_inv {v : Value} {z : DU × List MemPlace} (h : lotElem v = some z) : ∃ x y, v = lotV x y ∧ z = (lotD x y, []) := by
  cases v with
  | agg xs =>
    obtain ⟨l⟩ := xs
    match l, h with
    | [.int .i64 x, .int .i64 y], h => exact ⟨x, y, rfl, (Option.some.inj h).symm⟩
  | _ => simp [lotElem] at h
theorem lotD_inj {a b c d : Int} (h : lotD a b = lotD c d) : c = a ∧ d = b := by
  injection h with h
  injection h with h1 h2
  injection h2 with h2 _
  exact ⟨(lit_i h1).symm, (lit_i h2).symm⟩
theorem zeroLot (w : World) : (zeroValue 104).run Tryz.prog w = .ok (lotV 0 0) w := by kernel_rfl
def MLot (W : World) (b : Nat) (ks : Lb) (f m : ByteArray → Int) : Prop := ∃ D : DU, W.ownsMap Tryz.prog 9 lotElem b ks.length D ∧ (∀ y, (has D (lS y) = true ↔ y ∈ ks)) ∧ (∀ y ∈ ks, D.atKey (lS y) (lotD 0 0) = lotD (f y) (m y)) ∧ size D = ks.length
theorem MLot.lt {W : World} {b : Nat} {ks : Lb} {f m : ByteArray → Int} (h : MLot W b ks f m) : b < W.heap.size := by obtain ⟨D, h, _⟩ := h; exact World.ownsMap.lt h
theorem MLot.off {W W' : World} {b : Nat} {ks : Lb} {f m : ByteArray → Int} {Z : Nat → Prop} (h : MLot W b ks f m) (ho : Off Z W W') (hb : ¬ Z b) : MLot W' b ks f m := by
  have hlt := h.lt
  obtain ⟨D, ⟨es, clock, h0, F, hs, hD⟩, h2⟩ := h
  exact ⟨D, ⟨es, clock, (ho.block b hlt hb).trans h0, F, hs, hD⟩, h2⟩
theorem MLot.below {W W' : World} {b : Nat} {ks : Lb} {f m : ByteArray → Int} (h : MLot W b ks f m) (hb : Below W.heap.size W W') : MLot W' b ks f m := h.off (Z := fun _ => False) (Off.of_below hb) (fun h => h)
theorem MLot.made (W : World) (f m : ByteArray → Int) : MLot (W.alloc (.map #[] 0)) W.heap.size [] f m := ⟨.map [], World.ownsMap_made _ _ _ _, fun y => ⟨fun h => (by cases h), fun h => (by cases h)⟩, fun y h => (by cases h), rfl⟩
set_option maxRecDepth 100000 in
theorem MLot.look {W : World} {b : Nat} {ks : Lb} {f m : ByteArray → Int} (h : MLot W b ks f m) {x : ByteArray} (hs : x.size ≤ 140737488355328) (hx : x ∈ ks) : (Instr.lookup 71 (.map (some b)) (.string x) false).run Tryz.prog W = .ok (lotV (f x) (m x)) W := by
  obtain ⟨D, h1, _, h3, _⟩ := h
  obtain ⟨v, ps, hrun, hv⟩ := h1.lookup slaw Tryz.underlying71 (zeroLot W) (lotElem_mk 0 0) (lS_key hs)
  obtain ⟨x', y', rfl, e⟩ := lotElem_inv hv
  injection e with e _
  rw [h3 x hx] at e
  obtain ⟨e1, e2⟩ := lotD_inj e
  rw [hrun, e1, e2]
theorem MLot.put {W W0 : World} {b n : Nat} {ks : Lb} {D : DU} {x : ByteArray} {c d : Int} {f m : ByteArray → Int} (h0 : W0.ownsMap Tryz.prog 9 lotElem b n D) (h : ∀ y, (has D (lS y) = true ↔ y ∈ ks)) (h3 : ∀ y ∈ ks, D.atKey (lS y) (lotD 0 0) = lotD (f y) (m y)) (h4 : size D = ks.length) (hx : x ∉ ks) (hf : f x = c) (hm : m x = d) (h' : W.ownsMap Tryz.prog 9 lotElem b (ks.length + 1) (D.put (lS x) (lotD c d))) : MLot W b (ks ++ [x]) f m := by
  have hD := World.ownsMap.isMap h0
  refine ⟨_, by rw [List.length_append, List.length_singleton]; exact h', fun y => ?_, fun y hy => ?_, ?_⟩
  · rw [has_lS hD, h y, List.mem_append, List.mem_singleton]
    exact Or.comm
  · rw [at_lS hD]
    by_cases e : y = x
    · rw [if_pos e, e, hf, hm]
    · rw [if_neg e]
      rcases List.mem_append.1 hy with hm | hm
      · exact h3 y hm
      · exact absurd (List.mem_singleton.1 hm) e
  · have hno : has D (lS x) = false := by
      cases e : has D (lS x) with
      | false => rfl
      | true => exact absurd ((h x).1 e) hx
    rw [size_put (World.ownsMap.tidy h0 slaw), hno, h4, List.length_append]
    rfl
end Go.Proofs.YtojnagonhihknaaGreatDoor
