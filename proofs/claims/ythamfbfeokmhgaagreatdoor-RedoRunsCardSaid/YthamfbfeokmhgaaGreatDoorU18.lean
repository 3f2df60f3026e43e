/- A disk in memory: its box, its rows, what is pending. No function of the program is named here. Of package sector: the small methods of a disk. -/
import Derived.Test.YthamfbfeokmhgaaGreatDoorU16
import Derived.Test.YthamfbfeokmhgaaGreatDoorU17
import Derived.Test.YthamfbfeokmhgaaGreatDoorU3
set_option linter.unusedVariables false
namespace Go.Proofs.YthamfbfeokmhgaaGreatDoor
open Go.ChangeShapes Go.WideShapes Go.ChangeAt Go.RowKit

abbrev sv (S : List ByteArray) : List Value := S.map Value.string
theorem sv_len (S : List ByteArray) : (sv S).length = S.length := by simp
theorem sv_at {S : List ByteArray} {i : Nat} {s : ByteArray} (h : S[i]? = some s) : (sv S)[i]? = some (.string s) := by simp [sv, h]
theorem sv_set (S : List ByteArray) (i : Nat) (s : ByteArray) : (sv S).set i (.string s) = sv (S.set i s) := by simp [sv, List.map_set]
def pv (Q : Pnd) : List Value := Q.flatMap fun q => [.int .i64 (q.1 : Int), .string q.2]
theorem pv_len (Q : Pnd) : (pv Q).length = Q.length * 2 := by
  unfold pv
  induction Q with
  | nil => rfl
  | cons q r ih => rw [List.flatMap_cons, List.length_append, ih]; simp; omega
theorem pv_app (Q R : Pnd) : pv (Q ++ R) = pv Q ++ pv R := by unfold pv; rw [List.flatMap_append]
theorem pv_at {Q : Pnd} {j : Nat} {q : Nat × ByteArray} (h : Q[j]? = some q) : (pv Q)[j * 2]? = some (.int .i64 (q.1 : Int)) ∧ (pv Q)[j * 2 + 1]? = some (.string q.2) := by
  induction Q generalizing j with
  | nil => simp at h
  | cons x r ih =>
    cases j with
    | zero =>
      simp at h; subst h
      exact ⟨rfl, rfl⟩
    | succ j =>
      have h' : r[j]? = some q := by simpa using h
      obtain ⟨a, b⟩ := ih h'
      have e : ∀ k, (pv (x :: r))[k + 2]? = (pv r)[k]? := fun k => rfl
      exact ⟨by rw [show (j + 1) * 2 = j * 2 + 2 by omega, e]; exact a, by rw [show (j + 1) * 2 + 1 = j * 2 + 1 + 2 by omega, e]; exact b⟩

structure DM (Z : Nat → Prop) (w : World) (p bs bh : Nat) (v : Value) (D : Dk) : Prop where
  ok : D.Ok
  zlt : ∀ i, Z i → i < w.heap.size
  zp : Z p
  zs : Z bs
  zh : Z bh
  zv : ∀ b, v.ownBlock = some b → Z b
  ps : p ≠ bs
  ph : p ≠ bh
  sh : bs ≠ bh
  pw : ∀ b, v.ownBlock = some b → b ≠ p ∧ b ≠ bs ∧ b ≠ bh
  c0 : w.cell? ⟨p, 0, none⟩ = some (.slice (some ⟨bs, 0, none⟩) D.sure.length D.sure.length)
  c1 : w.cell? ⟨p, 1, none⟩ = some (.slice (some ⟨bh, 0, none⟩) D.sure.length D.sure.length)
  c2 : w.cell? ⟨p, 2, none⟩ = some v
  c3 : w.cell? ⟨p, 3, none⟩ = some (.int .i64 D.fuel)
  c4 : w.cell? ⟨p, 4, none⟩ = some (.bool D.off)
  fz : ∀ j, j < 5 → w.frozen? ⟨p, j, none⟩ = false
  rs : Row 1 0 w (.slice (some ⟨bs, 0, none⟩) D.sure.length D.sure.length) D.sure.length (sv D.sure)
  rh : Row 1 0 w (.slice (some ⟨bh, 0, none⟩) D.sure.length D.sure.length) D.sure.length (sv D.shown)
  rp : Row 2 0 w v D.pend.length (pv D.pend)
section
variable {Z : Nat → Prop} {w w' : World} {p bs bh : Nat} {v : Value} {D : Dk}
theorem own_is {b n c i : Nat} (h : (Value.slice (some ⟨b, 0, none⟩) n c).ownBlock = some i) : b = i := by
  have : some b = some i := h
  injection this
theorem DM.off {Y : Nat → Prop} (h : DM Z w p bs bh v D) (ho : Off Y w w') (hz : ∀ i, Z i → ¬ Y i) : DM Z w' p bs bh v D := by
  have hp := h.zlt p h.zp
  have hc : ∀ j, w'.cell? ⟨p, j, none⟩ = w.cell? ⟨p, j, none⟩ := fun j => ho.cell (p := ⟨p, j, none⟩) hp (hz p h.zp)
  exact ⟨h.ok, fun i hi => Nat.lt_of_lt_of_le (h.zlt i hi) ho.size, h.zp, h.zs, h.zh, h.zv, h.ps, h.ph, h.sh, h.pw, (hc 0).trans h.c0, (hc 1).trans h.c1, (hc 2).trans h.c2, (hc 3).trans h.c3, (hc 4).trans h.c4,
    fun j hj => (ho.frozen (p := ⟨p, j, none⟩) hp (hz p h.zp)).trans (h.fz j hj), h.rs.off ho (fun b hb => hz b (own_is hb ▸ h.zs)), h.rh.off ho (fun b hb => hz b (own_is hb ▸ h.zh)), h.rp.off ho (fun b hb => hz b (h.zv b hb))⟩
theorem DM.below (h : DM Z w p bs bh v D) (hb : Below w.heap.size w w') : DM Z w' p bs bh v D := h.off (Y := fun _ => False) (Off.of_below hb) (fun _ _ h => h)
theorem DM.drewN {n : Nat} (h : DM Z w p bs bh v D) : DM Z (w.drewN n) p bs bh v D := h.below (Below.drewN (Below.refl _ _))
theorem DM.drew (h : DM Z w p bs bh v D) : DM Z w.drew p bs bh v D := h.below (Below.refl _ _).drew
theorem DM.lt (h : DM Z w p bs bh v D) : p < w.heap.size := h.zlt p h.zp
theorem own_some {b n c : Nat} : (Value.slice (some ⟨b, 0, none⟩) n c).ownBlock = some b := rfl
theorem box_set {u x : Value} {j : Nat} (hc : w.cell? ⟨p, j, none⟩ = some x) (k : Nat) : (w.setCell ⟨p, j, none⟩ u).cell? ⟨p, k, none⟩ = if k = j then some u else w.cell? ⟨p, k, none⟩ := by
  by_cases e : k = j
  · subst e
    rw [if_pos rfl]
    exact World.cell?_setCell_same _ _ _ hc
  · rw [if_neg e]
    exact World.cell?_setCell_other _ _ _ _ (fun h => e (by injection h with _ h; exact h.symm))
theorem DM.setFuel (h : DM Z w p bs bh v D) {f : Int} (h1 : -1 ≤ f) (h2 : f ≤ 9223372036854775807) : DM Z (w.setCell ⟨p, 3, none⟩ (.int .i64 f)) p bs bh v { D with fuel := f } := by
  have hc := fun k => box_set (u := .int .i64 f) h.c3 k
  refine ⟨⟨h.ok.n1, h.ok.n2, h.ok.pl, h.ok.sl, h1, h2⟩, fun i hi => by simpa [World.setCell] using h.zlt i hi, h.zp, h.zs, h.zh, h.zv, h.ps, h.ph, h.sh, h.pw, by rw [hc]; exact h.c0, by rw [hc]; exact h.c1, by rw [hc]; exact h.c2, by rw [hc]; rfl, by rw [hc]; exact h.c4,
    fun j hj => by rw [World.frozen?_setCell]; exact h.fz j hj, h.rs.setOther (fun e => ?_) _, h.rh.setOther (fun e => ?_) _, h.rp.setOther (fun e => ?_) _⟩
  · rw [own_some] at e; injection e with e; exact h.ps e.symm
  · rw [own_some] at e; injection e with e; exact h.ph e.symm
  · exact (h.pw p e).1 rfl
theorem DM.setOff (h : DM Z w p bs bh v D) (b : Bool) : DM Z (w.setCell ⟨p, 4, none⟩ (.bool b)) p bs bh v { D with off := b } := by
  have hc := fun k => box_set (u := .bool b) h.c4 k
  refine ⟨⟨h.ok.n1, h.ok.n2, h.ok.pl, h.ok.sl, h.ok.f1, h.ok.f2⟩, fun i hi => by simpa [World.setCell] using h.zlt i hi, h.zp, h.zs, h.zh, h.zv, h.ps, h.ph, h.sh, h.pw, by rw [hc]; exact h.c0, by rw [hc]; exact h.c1, by rw [hc]; exact h.c2, by rw [hc]; exact h.c3, by rw [hc]; rfl,
    fun j hj => by rw [World.frozen?_setCell]; exact h.fz j hj, h.rs.setOther (fun e => ?_) _, h.rh.setOther (fun e => ?_) _, h.rp.setOther (fun e => ?_) _⟩
  · rw [own_some] at e; injection e with e; exact h.ps e.symm
  · rw [own_some] at e; injection e with e; exact h.ph e.symm
  · exact (h.pw p e).1 rfl
theorem DM.inRow (h : DM Z w p bs bh v D) {i : Nat} {s : ByteArray} (hs : D.shown[i]? = some s) : w.cell? ⟨bh, i, none⟩ = some (.string s) ∧ w.frozen? ⟨bh, i, none⟩ = false := by
  have := h.rh.cellF (sv_at hs)
  exact ⟨this.1, this.2.1⟩
theorem DM.inSure (h : DM Z w p bs bh v D) {i : Nat} {s : ByteArray} (hs : D.sure[i]? = some s) : w.cell? ⟨bs, i, none⟩ = some (.string s) ∧ w.frozen? ⟨bs, i, none⟩ = false := by
  have := h.rs.cellF (sv_at hs)
  exact ⟨this.1, this.2.1⟩
end
def DX (Z : Nat → Prop) (w : World) (p : Nat) (D : Dk) : Prop := ∃ bs bh v, DM Z w p bs bh v D
theorem DX.off {Z Y : Nat → Prop} {w w' : World} {p : Nat} {D : Dk} (h : DX Z w p D) (ho : Off Y w w') (hz : ∀ i, Z i → ¬ Y i) : DX Z w' p D := by
  obtain ⟨bs, bh, v, h⟩ := h
  exact ⟨bs, bh, v, h.off ho hz⟩
theorem DX.below {Z : Nat → Prop} {w w' : World} {p : Nat} {D : Dk} (h : DX Z w p D) (hb : Below w.heap.size w w') : DX Z w' p D := h.off (Y := fun _ => False) (Off.of_below hb) (fun _ _ h => h)
theorem DX.zlt {Z : Nat → Prop} {w : World} {p : Nat} {D : Dk} (h : DX Z w p D) : ∀ i, Z i → i < w.heap.size := by
  obtain ⟨bs, bh, v, h⟩ := h
  exact h.zlt
theorem DX.ok {Z : Nat → Prop} {w : World} {p : Nat} {D : Dk} (h : DX Z w p D) : D.Ok := by
  obtain ⟨bs, bh, v, h⟩ := h
  exact h.ok
def DPost (Z : Nat → Prop) (w : World) (p : Nat) (D' : Dk) (w' : World) : Prop := ∃ Z', DX Z' w' p D' ∧ Off Z w w' ∧ ∀ i, Z' i → Z i ∨ w.heap.size ≤ i
def errS (k : Int) : Value := if k = 0 then .nilIface else .iface 55 (.int .i64 k)
end Go.Proofs.YthamfbfeokmhgaaGreatDoor
set_option linter.unusedVariables false
set_option linter.unusedSimpArgs false
namespace Go.Proofs.YthamfbfeokmhgaaGreatDoor
open Go.ChangeShapes Go.WideShapes Go.ChangeAt Go.RowKit

theorem soff_any (p : Nat) (b : Bool) (w : World) (hc : w.cell? ⟨p, 4, none⟩ = some (.bool b)) : Calls Tryz.prog 11 #[.pointer (some ⟨p, 0, none⟩)] w fun e w' => e = .returned (.bool b) ∧ w' = w := by
  go_enter Tryz.func11, Tryz.ntmps11
  go_wp2_with fail
  go_ret
  exact ⟨rfl, rfl⟩
theorem shas_any (p b n c : Nat) (i : Int) (w : World) (hc : w.cell? ⟨p, 0, none⟩ = some (.slice (some ⟨b, 0, none⟩) n c)) : Calls Tryz.prog 36 #[.pointer (some ⟨p, 0, none⟩), .int .i64 i] w fun e w' => e = .returned (.bool (decide (0 ≤ i ∧ i < (n : Int)))) ∧ w' = w := by
  by_cases h : 0 ≤ i
  · by_cases h2 : i < (n : Int)
    · have e : decide (0 ≤ i ∧ i < (n : Int)) = true := decide_eq_true ⟨h, h2⟩
      rw [e]
      have h3 : decide (i < (n : Int)) = true := decide_eq_true h2
      go_enter Tryz.func36, Tryz.ntmps36
      go_wp2_with fail
      go_ret
      exact ⟨rfl, rfl⟩
    · have e : decide (0 ≤ i ∧ i < (n : Int)) = false := decide_eq_false (fun h => h2 h.2)
      rw [e]
      have h3 : decide (i < (n : Int)) = false := decide_eq_false h2
      go_enter Tryz.func36, Tryz.ntmps36
      go_wp2_with fail
      go_ret
      exact ⟨rfl, rfl⟩
  · have e : decide (0 ≤ i ∧ i < (n : Int)) = false := decide_eq_false (fun h2 => h h2.1)
    rw [e]
    go_enter Tryz.func36, Tryz.ntmps36
    go_wp2_with fail
    go_ret
    exact ⟨rfl, rfl⟩
theorem sstep_any {Z : Nat → Prop} {p bs bh : Nat} {v : Value} {D : Dk} (w : World) (h : DM Z w p bs bh v D) : Calls Tryz.prog 75 #[.pointer (some ⟨p, 0, none⟩)] w fun e w' =>
    e = .returned (errS (if D.fuel = 0 then 20 else 0)) ∧ DM Z w' p bs bh v (if D.fuel = 0 then { D with off := true } else { D with fuel := stepF D.fuel }) ∧ Off Z w w' := by
  have c3 := h.c3
  have c4 := h.c4
  have f3 := h.fz 3 (by omega)
  have f4 := h.fz 4 (by omega)
  have f1 := h.ok.f1
  have f2 := h.ok.f2
  obtain ⟨f, hf⟩ : ∃ f, f = D.fuel := ⟨_, rfl⟩
  rw [← hf] at c3 f1 f2 ⊢
  by_cases h0 : f = 0
  · subst h0
    rw [if_pos rfl, if_pos rfl]
    have h9 := h.setOff true
    rw [← hf] at h9
    have HP := Lib.hid h9
    clear h9
    have HO := Lib.hid ((Off.refl Z w).setCell (p := ⟨p, 4, none⟩) (.inr h.zp) (.bool true))
    clear h hf
    go_enter Tryz.func75, Tryz.ntmps75
    go_wp2_with fail
    go_ret
    exact ⟨rfl, HP.out, HO.out⟩
  · rw [if_neg h0, if_neg h0]
    have h0b : (f == (0 : Int)) = false := by rw [beq_eq_false_iff_ne]; exact h0
    by_cases h1 : 0 < f
    · have HP := Lib.hid (h.setFuel (f := f - 1) (by omega) (by omega))
      have HO := Lib.hid ((Off.refl Z w).setCell (p := ⟨p, 3, none⟩) (.inr h.zp) (.int .i64 (f - 1)))
      have he : stepF f = f - 1 := by unfold stepF; rw [if_pos h1]
      rw [he]
      clear h hf
      go_enter Tryz.func75, Tryz.ntmps75
      go_wp2_with fail
      go_ret
      exact ⟨rfl, HP.out, HO.out⟩
    · have he : stepF f = f := by unfold stepF; rw [if_neg h1]
      have hE : ({ D with fuel := stepF f } : Dk) = D := by rw [he, hf]
      rw [hE]
      have HP := Lib.hid h
      clear h hf
      go_enter Tryz.func75, Tryz.ntmps75
      go_wp2_with fail
      go_ret
      exact ⟨rfl, HP.out, Off.refl _ _⟩
theorem sfuel_any {Z : Nat → Prop} {p bs bh : Nat} {v : Value} {D : Dk} (w : World) (n : Int) (h : DM Z w p bs bh v D) (hn : n ≤ 9223372036854775807) : Calls Tryz.prog 15 #[.pointer (some ⟨p, 0, none⟩), .int .i64 n] w fun e w' =>
    e = .returned (.tuple #[]) ∧ DM Z w' p bs bh v (fuelD D n) ∧ Off Z w w' := by
  have c3 := h.c3
  have f3 := h.fz 3 (by omega)
  unfold fuelD
  by_cases h1 : n < -1
  · have hm : max n (-1) = -1 := by omega
    have HP := Lib.hid (h.setFuel (f := -1) (by omega) (by omega))
    have HO := Lib.hid ((Off.refl Z w).setCell (p := ⟨p, 3, none⟩) (.inr h.zp) (.int .i64 (-1)))
    rw [hm]
    clear h
    go_enter Tryz.func15, Tryz.ntmps15
    go_wp2_with fail
    go_end0
    exact ⟨rfl, HP.out, HO.out⟩
  · have hm : max n (-1) = n := by omega
    have HP := Lib.hid (h.setFuel (f := n) (by omega) (by omega))
    have HO := Lib.hid ((Off.refl Z w).setCell (p := ⟨p, 3, none⟩) (.inr h.zp) (.int .i64 n))
    rw [hm]
    clear h
    go_enter Tryz.func15, Tryz.ntmps15
    go_wp2_with fail
    go_end0
    exact ⟨rfl, HP.out, HO.out⟩
end Go.Proofs.YthamfbfeokmhgaaGreatDoor
