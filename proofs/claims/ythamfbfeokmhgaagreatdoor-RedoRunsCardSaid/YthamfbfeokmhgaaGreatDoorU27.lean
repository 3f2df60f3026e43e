/- Maps whose keys are ints: what they hold. Maps from numbers to texts of sectors, but those that have never been written. No function of the program is named here. -/
import Derived.Maps.OwnOps
import Derived.Maps.OwnSet
import Derived.Test.YthamfbfeokmhgaaGreatDoorU1
import Derived.Test.YthamfbfeokmhgaaGreatDoorU18
set_option linter.unusedVariables false
namespace Go.Proofs.YthamfbfeokmhgaaGreatDoor
open Go.ChangeShapes Go.WideShapes Go.ChangeAt Go.RowKit Go.WideMaps Go.Maps

theorem ilaw : Keyed Tryz.prog 3 := int_keyed Tryz.underlying3
abbrev DU := DataW Unit
abbrev li (x : Int) : Lit := .int .i64 x
theorem li_ne {x y : Int} (h : x ≠ y) : li x ≠ li y := fun e => h (by injection e)
theorem li_wf {x : Int} (h1 : -9223372036854775808 ≤ x) (h2 : x ≤ 9223372036854775807) : (li x).wf = true := by
  show (decide (IntKind.i64.min ≤ x) && decide (x ≤ IntKind.i64.max)) = true
  rw [Bool.and_eq_true, decide_eq_true_iff, decide_eq_true_iff]
  exact ⟨h1, h2⟩
theorem li_key {x : Int} (h1 : -9223372036854775808 ≤ x) (h2 : x ≤ 9223372036854775807) : keyOf Tryz.prog 3 (.int .i64 x) = some (li x) := keyOf_int_mk Tryz.underlying3 (li_wf h1 h2)
theorem has_li {D : DU} (hD : IsMap D) (x y : Int) (d : DU) : has (D.put (li x) d) (li y) = (y == x || has D (li y)) := by
  by_cases e : y = x
  · subst e
    rw [has_put_same hD (by exact trivial)]
    simp
  · rw [has_put_other (li_ne e)]
    have : (y == x) = false := by rw [beq_eq_false_iff_ne]; exact e
    rw [this, Bool.false_or]
theorem at_li {D : DU} (hD : IsMap D) (x y : Int) (d z : DU) : (D.put (li x) d).atKey (li y) z = if y = x then d else D.atKey (li y) z := by
  by_cases e : y = x
  · subst e
    rw [if_pos rfl]
    exact atKey_put_same hD (by exact trivial) d z
  · rw [if_neg e]
    exact atKey_put_other (li_ne e) d z
def MS (W : World) (b : Nat) (ks : List Int) : Prop := ∃ D : DU, W.ownsMap Tryz.prog 3 unitElem b ks.length D ∧ ∀ y, has D (li y) = ks.contains y
theorem MS.lt {W : World} {b : Nat} {ks : List Int} (h : MS W b ks) : b < W.heap.size := by obtain ⟨D, h, _⟩ := h; exact World.ownsMap.lt h
theorem owns_below {W W' : World} {R : Value → Option (DU × List MemPlace)} {b n : Nat} {D : DU} (h : W.ownsMap Tryz.prog 3 R b n D) (hb : Below W.heap.size W W') : W'.ownsMap Tryz.prog 3 R b n D := by
  have hlt := World.ownsMap.lt h
  obtain ⟨es, clock, h0, F, hs, hD⟩ := h
  exact ⟨es, clock, (hb.block b hlt).trans h0, F, hs, hD⟩
theorem MS.below {W W' : World} {b : Nat} {ks : List Int} (h : MS W b ks) (hb : Below W.heap.size W W') : MS W' b ks := by
  obtain ⟨D, h, h2⟩ := h
  exact ⟨D, owns_below h hb, h2⟩
theorem MS.made (W : World) : MS (W.alloc (.map #[] 0)) W.heap.size [] := ⟨.map [], World.ownsMap_made _ _ _ _, fun y => rfl⟩
theorem MS.step {W : World} {b : Nat} {ks : List Int} {D : DU} {x : Int} (hD : IsMap D) (h : ∀ y, has D (li y) = ks.contains y) (h' : W.ownsMap Tryz.prog 3 unitElem b (ks.length + 1) (D.put (li x) (.agg []))) : MS W b (ks ++ [x]) := by
  refine ⟨_, by rw [List.length_append, List.length_singleton]; exact h', fun y => ?_⟩
  rw [has_li hD, h y, Bool.eq_iff_iff]
  simp
  exact Or.comm
end Go.Proofs.YthamfbfeokmhgaaGreatDoor
set_option linter.unusedVariables false
namespace Go.Proofs.YthamfbfeokmhgaaGreatDoor
open Go.ChangeShapes Go.WideShapes Go.ChangeAt Go.RowKit Go.WideMaps Go.Maps

def strElem (v : Value) : Option (DU × List MemPlace) :=
  match v with
  | .string s => some (.lit (.string s.data.toList), [])
  | _ => none
theorem strElem_mk (s : ByteArray) : strElem (.string s) = some (.lit (.string s.data.toList), []) := rfl
theorem strElem_inv {v : Value} {z : DU × List MemPlace} (h : strElem v = some z) : ∃ s, v = .string s ∧ z = (.lit (.string s.data.toList), []) := by
  cases v with
  | string s => exact ⟨s, rfl, (Option.some.inj h).symm⟩
  | _ => simp [strElem] at h
theorem lit_s {a b : ByteArray} (h : (DataW.lit (Lit.string a.data.toList) : DU) = .lit (.string b.data.toList)) : a = b := by
  injection h with h
  injection h with h
  exact ByteArray.ext (Array.toList_inj.1 h)
theorem zeroStr (w : World) : (zeroValue 9).run Tryz.prog w = .ok (.string ByteArray.empty) w := by kernel_rfl
abbrev emD : DU := .lit (.string ByteArray.empty.data.toList)
def MSur (W : World) (b k n : Nat) (S : List ByteArray) : Prop := ∃ D : DU, W.ownsMap Tryz.prog 3 strElem b k D ∧ ∀ i : Nat, i < n → (has D (li i) = true → D.atKey (li i) emD = .lit (.string (fullB (S.getD i ByteArray.empty)).data.toList)) ∧ (has D (li i) = false → S.getD i ByteArray.empty = ByteArray.empty)
theorem MSur.lt {W : World} {b k n : Nat} {S : List ByteArray} (h : MSur W b k n S) : b < W.heap.size := by obtain ⟨D, h, _⟩ := h; exact World.ownsMap.lt h
theorem MSur.off {W W' : World} {b k n : Nat} {S : List ByteArray} {Z : Nat → Prop} (h : MSur W b k n S) (ho : Off Z W W') (hb : ¬ Z b) : MSur W' b k n S := by
  have hlt := h.lt
  obtain ⟨D, ⟨es, clock, h0, F, hs, hD⟩, h2⟩ := h
  exact ⟨D, ⟨es, clock, (ho.block b hlt hb).trans h0, F, hs, hD⟩, h2⟩
theorem MSur.made (W : World) (n : Nat) : MSur (W.alloc (.map #[] 0)) W.heap.size 0 n (List.replicate n ByteArray.empty) := ⟨.map [], World.ownsMap_made _ _ _ _, fun i hi => ⟨fun h => (by cases h), fun _ => by
  rw [List.getD_eq_getElem?_getD, List.getElem?_replicate, if_pos hi]
  rfl⟩⟩
theorem li_keyN {i : Nat} (h : i ≤ 9223372036854775807) : keyOf Tryz.prog 3 (.int .i64 (i : Int)) = some (li i) := li_key (by omega) (by omega)
set_option maxRecDepth 100000 in
theorem MSur.look {W : World} {b k n : Nat} {S : List ByteArray} (h : MSur W b k n S) {i : Nat} (hi : i < n) (hn : n ≤ 4096) : ∃ s ok, (∀ m, (Instr.lookup 67 (.map (some b)) (.int .i64 (i : Int)) true).run Tryz.prog (W.drewN m) = .ok (.tuple #[.string s, .bool ok]) (W.drewN m)) ∧ ((ok = true ∧ s = fullB (S.getD i ByteArray.empty)) ∨ (ok = false ∧ S.getD i ByteArray.empty = ByteArray.empty)) := by
  obtain ⟨D, h1, h2⟩ := h
  obtain ⟨g1, g2⟩ := h2 i hi
  obtain ⟨v, ps, hrun, hv⟩ := h1.look_ok ilaw Tryz.underlying67 (zeroStr W) (strElem_mk ByteArray.empty) (li_keyN (i := i) (by omega))
  obtain ⟨s, rfl, e⟩ := strElem_inv hv
  injection e with e _
  refine ⟨s, has D (li i), fun m => ?_, ?_⟩
  · have h1m : (W.drewN m).ownsMap Tryz.prog 3 strElem b k D := h1
    obtain ⟨v2, ps2, hrun2, hv2⟩ := h1m.look_ok ilaw Tryz.underlying67 (zeroStr _) (strElem_mk ByteArray.empty) (li_keyN (i := i) (by omega))
    obtain ⟨s2, rfl, e2⟩ := strElem_inv hv2
    injection e2 with e2 _
    have : s2 = s := lit_s (e2.symm.trans e)
    rw [hrun2, this]
  · cases hh : has D (li i) with
    | true => exact .inl ⟨rfl, lit_s (e.symm.trans (g1 hh))⟩
    | false => exact .inr ⟨rfl, g2 hh⟩
set_option maxRecDepth 100000 in
theorem MSur.put {W : World} {b k n : Nat} {S : List ByteArray} (h : MSur W b k n S) {i : Nat} (hi : i < n) (hl : S.length = n) (hn : n ≤ 4096) (hk : k ≤ 1000000000) (s : ByteArray) : ∃ W', (Instr.mapUpdate 67 (.map (some b)) (.int .i64 (i : Int)) (.string (fullB s))).run Tryz.prog W = .ok () W' ∧ MSur W' b (k + 1) n (S.set i s) ∧ Off (fun j => j = b) W W' := by
  obtain ⟨D, h1, h2⟩ := h
  have hD := World.ownsMap.isMap h1
  obtain ⟨W', hrun, ho, hg⟩ := h1.update ilaw Tryz.underlying67 (by unfold maxLen; omega) (li_keyN (i := i) (by omega)) (strElem_mk (fullB s))
  refine ⟨W', hrun, ⟨_, ho, fun j hj => ?_⟩, ⟨hg.os, hg.tape, hg.output, hg.size, fun j hj hne => hg.block j hj (fun e => hne (by simp at e; omega))⟩⟩
  obtain ⟨g1, g2⟩ := h2 j hj
  by_cases e : j = i
  · subst e
    have hs : (S.set j s).getD j ByteArray.empty = s := by rw [List.getD_eq_getElem?_getD, List.getElem?_set_self (by omega)]; rfl
    rw [hs]
    refine ⟨fun _ => by rw [at_li hD, if_pos rfl], fun h => ?_⟩
    rw [has_li hD] at h
    simp at h
  · have hs : (S.set i s).getD j ByteArray.empty = S.getD j ByteArray.empty := by rw [List.getD_eq_getElem?_getD, List.getElem?_set_ne (fun h => e h.symm), ← List.getD_eq_getElem?_getD]
    have hne : ((j : Nat) : Int) ≠ (i : Int) := by omega
    have hb : ((j : Int) == (i : Int)) = false := by rw [beq_eq_false_iff_ne]; exact hne
    rw [hs]
    refine ⟨fun h => ?_, fun h => ?_⟩
    · rw [has_li hD, hb, Bool.false_or] at h
      rw [at_li hD, if_neg hne]
      exact g1 h
    · rw [has_li hD, hb, Bool.false_or] at h
      exact g2 h
end Go.Proofs.YthamfbfeokmhgaaGreatDoor
