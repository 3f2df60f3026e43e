/- The document's disk in memory: its box, its map of sure sectors, what is pending. No function of the program is named here. -/
import Derived.Test.YtbicecbcloellaaDoorSecD
import Derived.Test.YtbicecbcloellaaDoorIMap
set_option linter.unusedVariables false
namespace Go.Proofs.YtbicecbcloellaaDoor
open Go.ChangeShapes Go.WideShapes Go.ChangeAt Go.RowKit Go.WideMaps Go.Maps

/-- How a text reads as a map's element. -/
def strElem (v : Value) : Option (DU × List MemPlace) :=
  match v with
  | .string s => some (.lit (.string s.data.toList), [])
  | _ => none
theorem strElem_mk (s : ByteArray) : strElem (.string s) = some (.lit (.string s.data.toList), []) := rfl
theorem strElem_inv {v : Value} {z : DU × List MemPlace} (h : strElem v = some z) : ∃ s, v = .string s ∧ z = (.lit (.string s.data.toList), []) := by
  cases v with
  | string s => exact ⟨s, rfl, (Option.some.inj h).symm⟩
  | _ => simp [strElem] at h
theorem lit_s {a b : ByteArray} (h : (DataW.lit (Lit.string a.data.toList) : DU) = .lit (.string b.data.toList)) : a = b := by
  injection h with h
  injection h with h
  exact ByteArray.ext (Array.toList_inj.1 h)
theorem zeroStr (w : World) : (zeroValue 9).run Tryd.prog w = .ok (.string ByteArray.empty) w := by kernel_rfl
abbrev emD : DU := .lit (.string ByteArray.empty.data.toList)
/-- Block b holds the sectors S, but those that have never been written. -/
def MSur (W : World) (b k n : Nat) (S : List ByteArray) : Prop := ∃ D : DU, W.ownsMap Tryd.prog 3 strElem b k D ∧ ∀ i : Nat, i < n → (has D (li i) = true → D.atKey (li i) emD = .lit (.string (fullB (S.getD i ByteArray.empty)).data.toList)) ∧ (has D (li i) = false → S.getD i ByteArray.empty = ByteArray.empty)
theorem MSur.lt {W : World} {b k n : Nat} {S : List ByteArray} (h : MSur W b k n S) : b < W.heap.size := by obtain ⟨D, h, _⟩ := h; exact World.ownsMap.lt h
theorem MSur.off {W W' : World} {b k n : Nat} {S : List ByteArray} {Z : Nat → Prop} (h : MSur W b k n S) (ho : Off Z W W') (hb : ¬ Z b) : MSur W' b k n S := by
  have hlt := h.lt
  obtain ⟨D, ⟨es, clock, h0, F, hs, hD⟩, h2⟩ := h
  exact ⟨D, ⟨es, clock, (ho.block b hlt hb).trans h0, F, hs, hD⟩, h2⟩
theorem MSur.made (W : World) (n : Nat) : MSur (W.alloc (.map #[] 0)) W.heap.size 0 n (List.replicate n ByteArray.empty) := ⟨.map [], World.ownsMap_made _ _ _ _, fun i hi => ⟨fun h => (by cases h), fun _ => by
  rw [List.getD_eq_getElem?_getD, List.getElem?_replicate, if_pos hi]
  rfl⟩⟩
theorem li_keyN {i : Nat} (h : i ≤ 9223372036854775807) : keyOf Tryd.prog 3 (.int .i64 (i : Int)) = some (li i) := li_key (by omega) (by omega)
set_option maxRecDepth 100000 in
theorem MSur.look {W : World} {b k n : Nat} {S : List ByteArray} (h : MSur W b k n S) {i : Nat} (hi : i < n) (hn : n ≤ 4096) : ∃ s ok, (∀ m, (Instr.lookup 43 (.map (some b)) (.int .i64 (i : Int)) true).run Tryd.prog (W.drewN m) = .ok (.tuple #[.string s, .bool ok]) (W.drewN m)) ∧ ((ok = true ∧ s = fullB (S.getD i ByteArray.empty)) ∨ (ok = false ∧ S.getD i ByteArray.empty = ByteArray.empty)) := by
  obtain ⟨D, h1, h2⟩ := h
  obtain ⟨g1, g2⟩ := h2 i hi
  obtain ⟨v, ps, hrun, hv⟩ := h1.look_ok ilaw Tryd.underlying43 (zeroStr W) (strElem_mk ByteArray.empty) (li_keyN (i := i) (by omega))
  obtain ⟨s, rfl, e⟩ := strElem_inv hv
  injection e with e _
  refine ⟨s, has D (li i), fun m => ?_, ?_⟩
  · have h1m : (W.drewN m).ownsMap Tryd.prog 3 strElem b k D := h1
    obtain ⟨v2, ps2, hrun2, hv2⟩ := h1m.look_ok ilaw Tryd.underlying43 (zeroStr _) (strElem_mk ByteArray.empty) (li_keyN (i := i) (by omega))
    obtain ⟨s2, rfl, e2⟩ := strElem_inv hv2
    injection e2 with e2 _
    have : s2 = s := lit_s (e2.symm.trans e)
    rw [hrun2, this]
  · cases hh : has D (li i) with
    | true => exact .inl ⟨rfl, lit_s (e.symm.trans (g1 hh))⟩
    | false => exact .inr ⟨rfl, g2 hh⟩
set_option maxRecDepth 100000 in
theorem MSur.put {W : World} {b k n : Nat} {S : List ByteArray} (h : MSur W b k n S) {i : Nat} (hi : i < n) (hl : S.length = n) (hn : n ≤ 4096) (hk : k ≤ 1000000000) (s : ByteArray) : ∃ W', (Instr.mapUpdate 43 (.map (some b)) (.int .i64 (i : Int)) (.string (fullB s))).run Tryd.prog W = .ok () W' ∧ MSur W' b (k + 1) n (S.set i s) ∧ Off (fun j => j = b) W W' := by
  obtain ⟨D, h1, h2⟩ := h
  have hD := World.ownsMap.isMap h1
  obtain ⟨W', hrun, ho, hg⟩ := h1.update ilaw Tryd.underlying43 (by unfold maxLen; omega) (li_keyN (i := i) (by omega)) (strElem_mk (fullB s))
  refine ⟨W', hrun, ⟨_, ho, fun j hj => ?_⟩, ⟨hg.os, hg.tape, hg.output, hg.size, fun j hj hne => hg.block j hj (fun e => hne (by simp at e; omega))⟩⟩
  obtain ⟨g1, g2⟩ := h2 j hj
  by_cases e : j = i
  · subst e
    have hs : (S.set j s).getD j ByteArray.empty = s := by rw [List.getD_eq_getElem?_getD, List.getElem?_set_self (by omega)]; rfl
    rw [hs]
    refine ⟨fun _ => by rw [at_li hD, if_pos rfl], fun h => ?_⟩
    rw [has_li hD] at h
    simp at h
  · have hs : (S.set i s).getD j ByteArray.empty = S.getD j ByteArray.empty := by rw [List.getD_eq_getElem?_getD, List.getElem?_set_ne (fun h => e h.symm), ← List.getD_eq_getElem?_getD]
    have hne : ((j : Nat) : Int) ≠ (i : Int) := by omega
    have hb : ((j : Int) == (i : Int)) = false := by rw [beq_eq_false_iff_ne]; exact hne
    rw [hs]
    refine ⟨fun h => ?_, fun h => ?_⟩
    · rw [has_li hD, hb, Bool.false_or] at h
      rw [at_li hD, if_neg hne]
      exact g1 h
    · rw [has_li hD, hb, Bool.false_or] at h
      exact g2 h
/-- What is pending, as the document's disk keeps it. -/
def fQ (Q : Pnd) : Pnd := Q.map fun q => (q.1, fullB q.2)
theorem fQ_len (Q : Pnd) : (fQ Q).length = Q.length := by simp [fQ]
theorem fQ_at {Q : Pnd} {j : Nat} {q : Nat × ByteArray} (h : Q[j]? = some q) : (fQ Q)[j]? = some (q.1, fullB q.2) := by simp [fQ, h]
theorem fQ_app (Q R : Pnd) : fQ (Q ++ R) = fQ Q ++ fQ R := by simp [fQ]
/-- The document's disk: its box at block q, its map at mb, its pending writes are v; all of it lies in the blocks Z. -/
structure RS (Z : Nat → Prop) (w : World) (q mb n k : Nat) (v : Value) (S : List ByteArray) (Q : Pnd) (f : Int) (o : Bool) : Prop where
  zlt : ∀ i, Z i → i < w.heap.size
  zq : Z q
  zm : Z mb
  zv : ∀ b, v.ownBlock = some b → Z b
  qm : q ≠ mb
  pw : ∀ b, v.ownBlock = some b → b ≠ q ∧ b ≠ mb
  c0 : w.cell? ⟨q, 0, none⟩ = some (.int .i64 (n : Int))
  c1 : w.cell? ⟨q, 1, none⟩ = some (.int .i64 f)
  c2 : w.cell? ⟨q, 2, none⟩ = some (.bool o)
  c3 : w.cell? ⟨q, 3, none⟩ = some (.map (some mb))
  c4 : w.cell? ⟨q, 4, none⟩ = some v
  fz : ∀ j, j < 5 → w.frozen? ⟨q, j, none⟩ = false
  mp : MSur w mb k n S
  rp : Row 2 0 w v Q.length (pv (fQ Q))
section
variable {Z : Nat → Prop} {w w' : World} {q mb n k : Nat} {v : Value} {S : List ByteArray} {Q : Pnd} {f : Int} {o : Bool}
theorem RS.off {Y : Nat → Prop} (h : RS Z w q mb n k v S Q f o) (ho : Off Y w w') (hz : ∀ i, Z i → ¬ Y i) : RS Z w' q mb n k v S Q f o := by
  have hp := h.zlt q h.zq
  have hc : ∀ j, w'.cell? ⟨q, j, none⟩ = w.cell? ⟨q, j, none⟩ := fun j => ho.cell (p := ⟨q, j, none⟩) hp (hz q h.zq)
  exact ⟨fun i hi => Nat.lt_of_lt_of_le (h.zlt i hi) ho.size, h.zq, h.zm, h.zv, h.qm, h.pw, (hc 0).trans h.c0, (hc 1).trans h.c1, (hc 2).trans h.c2, (hc 3).trans h.c3, (hc 4).trans h.c4,
    fun j hj => (ho.frozen (p := ⟨q, j, none⟩) hp (hz q h.zq)).trans (h.fz j hj), h.mp.off ho (hz mb h.zm), h.rp.off ho (fun b hb => hz b (h.zv b hb))⟩
theorem RS.below (h : RS Z w q mb n k v S Q f o) (hb : Below w.heap.size w w') : RS Z w' q mb n k v S Q f o := h.off (Y := fun _ => False) (Off.of_below hb) (fun _ _ h => h)
theorem rbox_set {u x : Value} {p j : Nat} (hc : w.cell? ⟨p, j, none⟩ = some x) (k : Nat) : (w.setCell ⟨p, j, none⟩ u).cell? ⟨p, k, none⟩ = if k = j then some u else w.cell? ⟨p, k, none⟩ := box_set hc k
theorem RS.setLeft (h : RS Z w q mb n k v S Q f o) (g : Int) : RS Z (w.setCell ⟨q, 1, none⟩ (.int .i64 g)) q mb n k v S Q g o := by
  have hc := fun k => box_set (u := .int .i64 g) h.c1 k
  have ho : Off (fun i => i = q) w (w.setCell ⟨q, 1, none⟩ (.int .i64 g)) := (Off.refl (fun i => i = q) w).setCell (p := ⟨q, 1, none⟩) (.inr rfl) _
  exact ⟨fun i hi => by simpa [World.setCell] using h.zlt i hi, h.zq, h.zm, h.zv, h.qm, h.pw, by rw [hc]; exact h.c0, by rw [hc]; rfl, by rw [hc]; exact h.c2, by rw [hc]; exact h.c3, by rw [hc]; exact h.c4,
    fun j hj => by rw [World.frozen?_setCell]; exact h.fz j hj, h.mp.off ho (fun e => h.qm e.symm), h.rp.setOther (fun e => (h.pw q e).1 rfl) _⟩
theorem RS.setOff (h : RS Z w q mb n k v S Q f o) (g : Bool) : RS Z (w.setCell ⟨q, 2, none⟩ (.bool g)) q mb n k v S Q f g := by
  have hc := fun k => box_set (u := .bool g) h.c2 k
  have ho : Off (fun i => i = q) w (w.setCell ⟨q, 2, none⟩ (.bool g)) := (Off.refl (fun i => i = q) w).setCell (p := ⟨q, 2, none⟩) (.inr rfl) _
  exact ⟨fun i hi => by simpa [World.setCell] using h.zlt i hi, h.zq, h.zm, h.zv, h.qm, h.pw, by rw [hc]; exact h.c0, by rw [hc]; exact h.c1, by rw [hc]; rfl, by rw [hc]; exact h.c3, by rw [hc]; exact h.c4,
    fun j hj => by rw [World.frozen?_setCell]; exact h.fz j hj, h.mp.off ho (fun e => h.qm e.symm), h.rp.setOther (fun e => (h.pw q e).1 rfl) _⟩
theorem RS.nilWait (h : RS Z w q mb n k v S Q f o) : RS Z (w.setCell ⟨q, 4, none⟩ (.slice none 0 0)) q mb n k (.slice none 0 0) S [] f o := by
  have hc := fun k => box_set (u := .slice none 0 0) h.c4 k
  have ho : Off (fun i => i = q) w (w.setCell ⟨q, 4, none⟩ (.slice none 0 0)) := (Off.refl (fun i => i = q) w).setCell (p := ⟨q, 4, none⟩) (.inr rfl) _
  exact ⟨fun i hi => by simpa [World.setCell] using h.zlt i hi, h.zq, h.zm, fun b hb => (by cases hb), h.qm, fun b hb => (by cases hb), by rw [hc]; exact h.c0, by rw [hc]; exact h.c1, by rw [hc]; exact h.c2, by rw [hc]; exact h.c3, by rw [hc]; rfl,
    fun j hj => by rw [World.frozen?_setCell]; exact h.fz j hj, h.mp.off ho (fun e => h.qm e.symm), Row.nil _ _ _⟩
/-- Behind a sector that has been made sure. -/
theorem RS.sure (h : RS Z w q mb n k v S Q f o) {k' : Nat} {S' : List ByteArray} (hm : MSur w' mb k' n S') (ho : Off (fun j => j = mb) w w') : RS Z w' q mb n k' v S' Q f o := by
  have hp := h.zlt q h.zq
  have hc : ∀ j, w'.cell? ⟨q, j, none⟩ = w.cell? ⟨q, j, none⟩ := fun j => ho.cell (p := ⟨q, j, none⟩) hp h.qm
  exact ⟨fun i hi => Nat.lt_of_lt_of_le (h.zlt i hi) ho.size, h.zq, h.zm, h.zv, h.qm, h.pw, (hc 0).trans h.c0, (hc 1).trans h.c1, (hc 2).trans h.c2, (hc 3).trans h.c3, (hc 4).trans h.c4,
    fun j hj => (ho.frozen (p := ⟨q, j, none⟩) hp h.qm).trans (h.fz j hj), hm, h.rp.off ho (fun b hb e => (h.pw b hb).2 e)⟩
/-- Behind an append to what is pending, its answer stored. -/
theorem RS.push {w6 : World} {v' : Value} {Q' : Pnd} (h : RS Z w q mb n k v S Q f o) (ho : Off (fun i => v.ownBlock = some i) w w6) (hr : Row 2 0 w6 v' Q'.length (pv (fQ Q'))) (hw : v'.ownBlock = v.ownBlock ∨ ∃ k, v'.ownBlock = some k ∧ w.heap.size ≤ k) :
    RS (fun i => Z i ∨ v'.ownBlock = some i) (w6.setCell ⟨q, 4, none⟩ v') q mb n k v' S Q' f o ∧ Off Z w (w6.setCell ⟨q, 4, none⟩ v') := by
  have hp := h.zlt q h.zq
  have hnp : ¬ v.ownBlock = some q := fun e => (h.pw q e).1 rfl
  have hnm : ¬ v.ownBlock = some mb := fun e => (h.pw mb e).2 rfl
  have hc : ∀ j, w6.cell? ⟨q, j, none⟩ = w.cell? ⟨q, j, none⟩ := fun j => ho.cell (p := ⟨q, j, none⟩) hp hnp
  have hc2 : ∀ k, (w6.setCell ⟨q, 4, none⟩ v').cell? ⟨q, k, none⟩ = if k = 4 then some v' else w6.cell? ⟨q, k, none⟩ := fun k => box_set (u := v') ((hc 4).trans h.c4) k
  have hpw : ∀ b, v'.ownBlock = some b → b ≠ q ∧ b ≠ mb := fun b hb => by
    rcases hw with e | ⟨k, e, hk⟩
    · exact h.pw b (e ▸ hb)
    · rw [e] at hb
      injection hb with hb
      subst hb
      have h1 := h.zlt mb h.zm
      omega
  have ho2 : Off (fun i => i = q) w6 (w6.setCell ⟨q, 4, none⟩ v') := (Off.refl (fun i => i = q) w6).setCell (p := ⟨q, 4, none⟩) (.inr rfl) _
  refine ⟨⟨fun i hi => ?_, .inl h.zq, .inl h.zm, fun b hb => .inr hb, h.qm, hpw, by rw [hc2, if_neg (by omega), hc]; exact h.c0, by rw [hc2, if_neg (by omega), hc]; exact h.c1, by rw [hc2, if_neg (by omega), hc]; exact h.c2, by rw [hc2, if_neg (by omega), hc]; exact h.c3, by rw [hc2]; rfl,
    fun j hj => by rw [World.frozen?_setCell]; exact (ho.frozen (p := ⟨q, j, none⟩) hp hnp).trans (h.fz j hj), (h.mp.off ho hnm).off ho2 (fun e => h.qm e.symm), hr.setOther (fun e => (hpw q e).1 rfl) _⟩,
    (ho.mono fun i hi => h.zv i hi).setCell (p := ⟨q, 4, none⟩) (.inr h.zq) _⟩
  show i < (w6.setCell ⟨q, 4, none⟩ v').heap.size
  simp only [World.setCell, Array.size_modify]
  rcases hi with hi | hi
  · exact Nat.lt_of_lt_of_le (h.zlt i hi) ho.size
  · exact (hr.lt i hi).2
/-- What stands at a place of what is pending. -/
theorem RS.atPend (h : RS Z w q mb n k v S Q f o) {j : Nat} {x : Nat × ByteArray} (hq : Q[j]? = some x) : ∃ b c, v = .slice (some ⟨b, 0, none⟩) Q.length c ∧ Q.length ≤ c ∧ c ≤ maxLen ∧ Z b ∧ b < w.heap.size ∧ b ≠ mb ∧ w.cell? ⟨b, j * 2, none⟩ = some (.int .i64 (x.1 : Int)) ∧ w.cell? ⟨b, j * 2 + 1, none⟩ = some (.string (fullB x.2)) := by
  have hl := (List.getElem?_eq_some_iff.1 hq).1
  obtain ⟨b, c, rfl, h2, h3, h4, h5, h6, h7⟩ := h.rp.pos (by omega)
  obtain ⟨a0, a1⟩ := pv_at (fQ_at hq)
  exact ⟨b, c, rfl, h4, h5, h.zv b rfl, h3, (h.pw b rfl).2, h7 _ _ a0, h7 _ _ a1⟩
end
/-- The document's disk D behind the pointer to q; k: how often a sector was made sure, at most. -/
def RX (Z : Nat → Prop) (w : World) (q k : Nat) (D : Dk) : Prop := ∃ mb v, RS Z w q mb D.sure.length k v D.sure D.pend D.fuel D.off
theorem RX.off {Z Y : Nat → Prop} {w w' : World} {q k : Nat} {D : Dk} (h : RX Z w q k D) (ho : Off Y w w') (hz : ∀ i, Z i → ¬ Y i) : RX Z w' q k D := by
  obtain ⟨mb, v, h⟩ := h
  exact ⟨mb, v, h.off ho hz⟩
theorem RX.zlt {Z : Nat → Prop} {w : World} {q k : Nat} {D : Dk} (h : RX Z w q k D) : ∀ i, Z i → i < w.heap.size := by
  obtain ⟨mb, v, h⟩ := h
  exact h.zlt
def RPost (Z : Nat → Prop) (w : World) (q k : Nat) (D' : Dk) (w' : World) : Prop := ∃ Z', RX Z' w' q k D' ∧ Off Z w w' ∧ ∀ i, Z' i → Z i ∨ w.heap.size ≤ i
end Go.Proofs.YtbicecbcloellaaDoor
