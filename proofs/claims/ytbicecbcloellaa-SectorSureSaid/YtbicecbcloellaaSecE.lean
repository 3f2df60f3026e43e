/- What SectorSure keeps beside the disk: two arrays of nine texts, and of each sector the texts that were ever there. No function of the program is named here. -/
import Derived.Test.YtbicecbcloellaaSecD
import Derived.Test.YtbicecbcloellaaIMap
set_option linter.unusedVariables false
namespace Go.Proofs.Ytbicecbcloellaa
open Go.ChangeShapes Go.WideShapes Go.ChangeAt Go.RowKit Go.WideMaps Go.Maps

theorem kslaw : Keyed Try.prog 9 := string_keyed Try.underlying9
abbrev kS (s : ByteArray) : Lit := .string s.data.toList
theorem kS_ne {x y : ByteArray} (h : x ≠ y) : kS x ≠ kS y := fun e => h (by
  injection e with e
  exact ByteArray.ext (Array.toList_inj.1 e))
theorem kS_key {x : ByteArray} (h : x.size ≤ 140737488355328) : keyOf Try.prog 9 (.string x) = some (kS x) := keyOf_string_mk Try.underlying9 (Nat.le_trans h (by decide))
theorem at_kS {D : DU} (hD : IsMap D) (x y : ByteArray) (d z : DU) : (D.put (kS x) d).atKey (kS y) z = if y = x then d else D.atKey (kS y) z := by
  by_cases e : y = x
  · subst e
    rw [if_pos rfl]
    exact atKey_put_same hD (by exact trivial) d z
  · rw [if_neg e]
    exact atKey_put_other (kS_ne e) d z
def bolElem (v : Value) : Option (DU × List MemPlace) :=
  match v with
  | .bool c => some (.lit (.bool c), [])
  | _ => none
theorem bolElem_mk (c : Bool) : bolElem (.bool c) = some (.lit (.bool c), []) := rfl
theorem bolElem_inv {v : Value} {z : DU × List MemPlace} (h : bolElem v = some z) : ∃ c, v = .bool c ∧ z = (.lit (.bool c), []) := by
  cases v with
  | bool c => exact ⟨c, rfl, (Option.some.inj h).symm⟩
  | _ => simp [bolElem] at h
theorem zeroBol (w : World) : (zeroValue 4).run Try.prog w = .ok (.bool false) w := by kernel_rfl
/-- Block b says true of all texts of E. -/
def MT (W : World) (b c : Nat) (E : ByteArray → Prop) : Prop := ∃ D : DU, W.ownsMap Try.prog 9 bolElem b c D ∧ ∀ s, E s → D.atKey (kS s) (.lit (.bool false)) = .lit (.bool true)
theorem MT.lt {W : World} {b c : Nat} {E : ByteArray → Prop} (h : MT W b c E) : b < W.heap.size := by obtain ⟨D, h, _⟩ := h; exact World.ownsMap.lt h
theorem MT.off {W W' : World} {b c : Nat} {E : ByteArray → Prop} {Z : Nat → Prop} (h : MT W b c E) (ho : Off Z W W') (hb : ¬ Z b) : MT W' b c E := by
  have hlt := h.lt
  obtain ⟨D, ⟨es, clock, h0, F, hs, hD⟩, h2⟩ := h
  exact ⟨D, ⟨es, clock, (ho.block b hlt hb).trans h0, F, hs, hD⟩, h2⟩
theorem MT.more {W : World} {b c c' : Nat} {E : ByteArray → Prop} (h : MT W b c E) (hc : c ≤ c') : MT W b c' E := by
  obtain ⟨D, h1, h2⟩ := h
  exact ⟨D, h1.mono hc, h2⟩
theorem MT.made (W : World) : MT (W.alloc (.map #[] 0)) W.heap.size 0 (fun _ => False) := ⟨.map [], World.ownsMap_made _ _ _ _, fun s h => h.elim⟩
set_option maxRecDepth 100000 in
theorem MT.look {W : World} {b c : Nat} {E : ByteArray → Prop} (h : MT W b c E) {s : ByteArray} (hs : s.size ≤ 140737488355328) (he : E s) : (Instr.lookup 33 (.map (some b)) (.string s) false).run Try.prog W = .ok (.bool true) W := by
  obtain ⟨D, h1, h2⟩ := h
  obtain ⟨v, ps, hrun, hv⟩ := h1.lookup kslaw Try.underlying33 (zeroBol W) (bolElem_mk false) (kS_key hs)
  obtain ⟨x, rfl, e⟩ := bolElem_inv hv
  injection e with e _
  rw [h2 s he] at e
  injection e with e
  injection e with e
  rw [hrun, ← e]
set_option maxRecDepth 100000 in
theorem MT.put {W : World} {b c : Nat} {E : ByteArray → Prop} (h : MT W b c E) {s : ByteArray} (hs : s.size ≤ 140737488355328) (hc : c ≤ 1000000000) : ∃ W', (Instr.mapUpdate 33 (.map (some b)) (.string s) (.bool true)).run Try.prog W = .ok () W' ∧ MT W' b (c + 1) (fun x => E x ∨ x = s) ∧ Off (fun j => j = b) W W' := by
  obtain ⟨D, h1, h2⟩ := h
  have hD := World.ownsMap.isMap h1
  obtain ⟨W', hrun, ho, hg⟩ := h1.update kslaw Try.underlying33 (by unfold maxLen; omega) (kS_key hs) (bolElem_mk true)
  refine ⟨W', hrun, ⟨_, ho, fun x hx => ?_⟩, ⟨hg.os, hg.tape, hg.output, hg.size, fun j hj hne => hg.block j hj (fun e => hne (by simp at e; omega))⟩⟩
  rw [at_kS hD]
  by_cases e : x = s
  · rw [if_pos e]
  · rw [if_neg e]
    rcases hx with hx | hx
    · exact h2 x hx
    · exact absurd hx e
def mapElem (v : Value) : Option (DU × List MemPlace) :=
  match v with
  | .map (some b) => some (.lit (.int .i64 (b : Int)), [])
  | .map none => some (.nil, [])
  | _ => none
theorem mapElem_mk (b : Nat) : mapElem (.map (some b)) = some (.lit (.int .i64 (b : Int)), []) := rfl
theorem mapElem_inv {v : Value} {b : Nat} {ps : List MemPlace} (h : mapElem v = some (.lit (.int .i64 (b : Int)), ps)) : v = .map (some b) := by
  unfold mapElem at h
  split at h
  · injection h with h
    injection h with h _
    injection h with h
    injection h with _ h
    rw [Int.ofNat.inj h]
  · injection h with h
    injection h with h _
    cases h
  · cases h
theorem zeroMp (w : World) : (zeroValue 33).run Try.prog w = .ok (.map none) w := by kernel_rfl
/-- Block b holds of each of the first n numbers its map. -/
def MM (W : World) (b c n : Nat) (mb : Nat → Nat) : Prop := ∃ D : DU, W.ownsMap Try.prog 3 mapElem b c D ∧ ∀ i : Nat, i < n → D.atKey (li i) .nil = .lit (.int .i64 (mb i : Int))
theorem MM.lt {W : World} {b c n : Nat} {mb : Nat → Nat} (h : MM W b c n mb) : b < W.heap.size := by obtain ⟨D, h, _⟩ := h; exact World.ownsMap.lt h
theorem MM.off {W W' : World} {b c n : Nat} {mb : Nat → Nat} {Z : Nat → Prop} (h : MM W b c n mb) (ho : Off Z W W') (hb : ¬ Z b) : MM W' b c n mb := by
  have hlt := h.lt
  obtain ⟨D, ⟨es, clock, h0, F, hs, hD⟩, h2⟩ := h
  exact ⟨D, ⟨es, clock, (ho.block b hlt hb).trans h0, F, hs, hD⟩, h2⟩
theorem MM.made (W : World) (mb : Nat → Nat) : MM (W.alloc (.map #[] 0)) W.heap.size 0 0 mb := ⟨.map [], World.ownsMap_made _ _ _ _, fun i h => absurd h (Nat.not_lt_zero _)⟩
set_option maxRecDepth 100000 in
theorem MM.look {W : World} {b c n : Nat} {mb : Nat → Nat} (h : MM W b c n mb) {i : Nat} (hi : i < n) (hn : n ≤ 9) : (Instr.lookup 30 (.map (some b)) (.int .i64 (i : Int)) false).run Try.prog W = .ok (.map (some (mb i))) W := by
  obtain ⟨D, h1, h2⟩ := h
  obtain ⟨v, ps, hrun, hv⟩ := h1.lookup ilaw Try.underlying30 (zeroMp W) (show mapElem (.map none) = some (.nil, []) from rfl) (li_key (x := (i : Int)) (by omega) (by omega))
  rw [h2 i hi] at hv
  rw [hrun, mapElem_inv hv]
set_option maxRecDepth 100000 in
theorem MM.put {W : World} {b c n : Nat} {mb : Nat → Nat} (h : MM W b c n mb) (hn : n < 9) (hc : c ≤ 1000000000) (x : Nat) : ∃ W', (Instr.mapUpdate 30 (.map (some b)) (.int .i64 (n : Int)) (.map (some x))).run Try.prog W = .ok () W' ∧ MM W' b (c + 1) (n + 1) (fun i => if i = n then x else mb i) ∧ Off (fun j => j = b) W W' := by
  obtain ⟨D, h1, h2⟩ := h
  have hD := World.ownsMap.isMap h1
  obtain ⟨W', hrun, ho, hg⟩ := h1.update ilaw Try.underlying30 (by unfold maxLen; omega) (li_key (x := (n : Int)) (by omega) (by omega)) (mapElem_mk x)
  refine ⟨W', hrun, ⟨_, ho, fun i hi => ?_⟩, ⟨hg.os, hg.tape, hg.output, hg.size, fun j hj hne => hg.block j hj (fun e => hne (by simp at e; omega))⟩⟩
  rw [at_li hD]
  show _ = DataW.lit (Lit.int .i64 (((if i = n then x else mb i : Nat)) : Int))
  by_cases e : i = n
  · subst e
    rw [if_pos rfl, if_pos rfl]
  · rw [if_neg (by omega), if_neg e]
    exact h2 i (by omega)
/-- An array of nine texts at block b. -/
def AR (W : World) (b : Nat) (L : List ByteArray) : Prop := L.length = 9 ∧ b < W.heap.size ∧ ∀ i s, L[i]? = some s → W.cell? ⟨b, i, none⟩ = some (.string s) ∧ W.frozen? ⟨b, i, none⟩ = false
theorem AR.off {W W' : World} {b : Nat} {L : List ByteArray} {Z : Nat → Prop} (h : AR W b L) (ho : Off Z W W') (hb : ¬ Z b) : AR W' b L :=
  ⟨h.1, Nat.lt_of_lt_of_le h.2.1 ho.size, fun i s hs => ⟨(ho.cell (p := ⟨b, i, none⟩) h.2.1 hb).trans (h.2.2 i s hs).1, (ho.frozen (p := ⟨b, i, none⟩) h.2.1 hb).trans (h.2.2 i s hs).2⟩⟩
theorem AR.set {W : World} {b : Nat} {L : List ByteArray} (h : AR W b L) {i : Nat} (hi : i < 9) (s : ByteArray) : AR (W.setCell ⟨b, i, none⟩ (.string s)) b (L.set i s) := by
  obtain ⟨h1, h2, h3⟩ := h
  obtain ⟨x, hx⟩ : ∃ x, L[i]? = some x := ⟨L[i]'(by omega), by simp⟩
  refine ⟨by rw [List.length_set]; exact h1, by simpa [World.setCell] using h2, fun j y hy => ⟨?_, ?_⟩⟩
  · by_cases e : i = j
    · subst e
      rw [List.getElem?_set_self (by omega)] at hy
      injection hy with hy
      subst hy
      exact World.cell?_setCell_same _ _ _ (h3 i x hx).1
    · rw [List.getElem?_set_ne e] at hy
      rw [World.cell?_setCell_other _ _ _ _ (fun h => e (by injection h))]
      exact (h3 j y hy).1
  · rw [World.frozen?_setCell]
    by_cases e : i = j
    · subst e; exact (h3 i x hx).2
    · rw [List.getElem?_set_ne e] at hy
      exact (h3 j y hy).2
/-- The blocks of all this. -/
def Yb (b5 b6 me n : Nat) (mb : Nat → Nat) (i : Nat) : Prop := i = b5 ∨ i = b6 ∨ i = me ∨ ∃ k, k < n ∧ i = mb k
structure OX (w : World) (b5 b6 me n c : Nat) (mb : Nat → Nat) (SA LA : List ByteArray) (E : Nat → ByteArray → Prop) : Prop where
  a5 : AR w b5 SA
  a6 : AR w b6 LA
  mm : MM w me c n mb
  mt : ∀ k, k < n → MT w (mb k) c (E k)
  d56 : b5 ≠ b6
  d5m : b5 ≠ me
  d6m : b6 ≠ me
  dk : ∀ k, k < n → mb k ≠ b5 ∧ mb k ≠ b6 ∧ mb k ≠ me
  dd : ∀ j k, j < n → k < n → j ≠ k → mb j ≠ mb k
section
variable {w w' : World} {b5 b6 me n c : Nat} {mb : Nat → Nat} {SA LA : List ByteArray} {E : Nat → ByteArray → Prop}
theorem OX.off {Z : Nat → Prop} (h : OX w b5 b6 me n c mb SA LA E) (ho : Off Z w w') (hz : ∀ i, Yb b5 b6 me n mb i → ¬ Z i) : OX w' b5 b6 me n c mb SA LA E :=
  ⟨h.a5.off ho (hz b5 (.inl rfl)), h.a6.off ho (hz b6 (.inr (.inl rfl))), h.mm.off ho (hz me (.inr (.inr (.inl rfl)))), fun k hk => (h.mt k hk).off ho (hz _ (.inr (.inr (.inr ⟨k, hk, rfl⟩)))), h.d56, h.d5m, h.d6m, h.dk, h.dd⟩
theorem OX.lt (h : OX w b5 b6 me n c mb SA LA E) : ∀ i, Yb b5 b6 me n mb i → i < w.heap.size := by
  rintro i (rfl | rfl | rfl | ⟨k, hk, rfl⟩)
  · exact h.a5.2.1
  · exact h.a6.2.1
  · exact h.mm.lt
  · exact (h.mt k hk).lt
theorem OX.set5 (h : OX w b5 b6 me n c mb SA LA E) {i : Nat} (hi : i < 9) (s : ByteArray) : OX (w.setCell ⟨b5, i, none⟩ (.string s)) b5 b6 me n c mb (SA.set i s) LA E := by
  have ho : Off (fun j => j = b5) w (w.setCell ⟨b5, i, none⟩ (.string s)) := (Off.refl (fun j => j = b5) w).setCell (p := ⟨b5, i, none⟩) (.inr rfl) _
  exact ⟨h.a5.set hi s, h.a6.off ho (fun e => h.d56 e.symm), h.mm.off ho (fun e => h.d5m e.symm), fun k hk => (h.mt k hk).off ho (fun e => (h.dk k hk).1 e), h.d56, h.d5m, h.d6m, h.dk, h.dd⟩
theorem OX.set6 (h : OX w b5 b6 me n c mb SA LA E) {i : Nat} (hi : i < 9) (s : ByteArray) : OX (w.setCell ⟨b6, i, none⟩ (.string s)) b5 b6 me n c mb SA (LA.set i s) E := by
  have ho : Off (fun j => j = b6) w (w.setCell ⟨b6, i, none⟩ (.string s)) := (Off.refl (fun j => j = b6) w).setCell (p := ⟨b6, i, none⟩) (.inr rfl) _
  exact ⟨h.a5.off ho (fun e => h.d56 e), h.a6.set hi s, h.mm.off ho (fun e => h.d6m e.symm), fun k hk => (h.mt k hk).off ho (fun e => (h.dk k hk).2.1 e), h.d56, h.d5m, h.d6m, h.dk, h.dd⟩
/-- A text more of sector i. -/
theorem OX.told (h : OX w b5 b6 me n c mb SA LA E) {i : Nat} (hi : i < n) {F : ByteArray → Prop} (hm : MT w' (mb i) (c + 1) F) (ho : Off (fun j => j = mb i) w w') : OX w' b5 b6 me n (c + 1) mb SA LA (fun k => if k = i then F else E k) := by
  refine ⟨h.a5.off ho (fun e => (h.dk i hi).1 e.symm), h.a6.off ho (fun e => (h.dk i hi).2.1 e.symm), ?_, fun k hk => ?_, h.d56, h.d5m, h.d6m, h.dk, h.dd⟩
  · obtain ⟨D, h1, h2⟩ := h.mm.off ho (fun e => (h.dk i hi).2.2 e.symm)
    exact ⟨D, h1.mono (Nat.le_succ _), h2⟩
  · by_cases e : k = i
    · subst e
      rw [if_pos rfl]
      exact hm
    · rw [if_neg e]
      exact ((h.mt k hk).off ho (fun e2 => h.dd k i hk hi e e2)).more (Nat.le_succ _)
end
end Go.Proofs.Ytbicecbcloellaa
