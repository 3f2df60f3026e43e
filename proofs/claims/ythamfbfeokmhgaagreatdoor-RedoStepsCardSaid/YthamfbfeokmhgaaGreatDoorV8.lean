/- Small things that several texts lean on. Of package sector: the small methods of a disk. -/
import Derived.Test.YthamfbfeokmhgaaGreatDoorV0
import Derived.Test.YthamfbfeokmhgaaGreatDoorV7
set_option linter.unusedVariables false
namespace Go.Proofs.YthamfbfeokmhgaaGreatDoor
open Go.ChangeShapes Go.WideShapes Go.ChangeAt Go.RowKit

theorem take_snoc {α : Type} {l : List α} {k : Nat} {x : α} (h : l[k]? = some x) : l.take (k + 1) = l.take k ++ [x] := by rw [List.take_add_one, h]; rfl
theorem Tryz.infoByte : (Tryz.prog.info? 5).map (fun i => (i.zero, i.size, i.bytes)) = some (some (.int .u8 0), 1, 1) := by kernel_rfl
theorem list_of {α : Type} (Q : Nat → α → Prop) : ∀ n, (∀ i, i < n → ∃ p, Q i p) → ∃ ps : List α, ps.length = n ∧ ∀ (i : Nat) p, ps[i]? = some p → Q i p
  | 0, _ => ⟨[], rfl, by simp⟩
  | n + 1, h => by
    obtain ⟨ps, hl, hq⟩ := list_of Q n fun i hi => h i (by omega)
    obtain ⟨p, hp⟩ := h n (by omega)
    refine ⟨ps ++ [p], by simp [hl], fun i q hi => ?_⟩
    rcases Nat.lt_or_ge i n with hn | hn
    · rw [List.getElem?_append_left (by omega)] at hi
      exact hq i q hi
    · have hlt := (List.getElem?_eq_some_iff.1 hi).1
      simp [hl] at hlt
      have e : i = n := by omega
      subst e
      rw [List.getElem?_append_right (by omega), hl, Nat.sub_self] at hi
      have : p = q := by simpa using hi
      subst this
      exact hp
end Go.Proofs.YthamfbfeokmhgaaGreatDoor
set_option linter.unusedVariables false
set_option linter.unusedSimpArgs false
namespace Go.Proofs.YthamfbfeokmhgaaGreatDoor
open Go.ChangeShapes Go.WideShapes Go.ChangeAt Go.RowKit

theorem soff_any (p : Nat) (b : Bool) (w : World) (hc : w.cell? ⟨p, 4, none⟩ = some (.bool b)) : Calls Tryz.prog 11 #[.pointer (some ⟨p, 0, none⟩)] w fun e w' => e = .returned (.bool b) ∧ w' = w := by
  go_enter Tryz.func11, Tryz.ntmps11
  go_wp2_with fail
  go_ret
  exact ⟨rfl, rfl⟩
theorem shas_any (p b n c : Nat) (i : Int) (w : World) (hc : w.cell? ⟨p, 0, none⟩ = some (.slice (some ⟨b, 0, none⟩) n c)) : Calls Tryz.prog 36 #[.pointer (some ⟨p, 0, none⟩), .int .i64 i] w fun e w' => e = .returned (.bool (decide (0 ≤ i ∧ i < (n : Int)))) ∧ w' = w := by
  by_cases h : 0 ≤ i
  · by_cases h2 : i < (n : Int)
    · have e : decide (0 ≤ i ∧ i < (n : Int)) = true := decide_eq_true ⟨h, h2⟩
      rw [e]
      have h3 : decide (i < (n : Int)) = true := decide_eq_true h2
      go_enter Tryz.func36, Tryz.ntmps36
      go_wp2_with fail
      go_ret
      exact ⟨rfl, rfl⟩
    · have e : decide (0 ≤ i ∧ i < (n : Int)) = false := decide_eq_false (fun h => h2 h.2)
      rw [e]
      have h3 : decide (i < (n : Int)) = false := decide_eq_false h2
      go_enter Tryz.func36, Tryz.ntmps36
      go_wp2_with fail
      go_ret
      exact ⟨rfl, rfl⟩
  · have e : decide (0 ≤ i ∧ i < (n : Int)) = false := decide_eq_false (fun h2 => h h2.1)
    rw [e]
    go_enter Tryz.func36, Tryz.ntmps36
    go_wp2_with fail
    go_ret
    exact ⟨rfl, rfl⟩
theorem sstep_any {Z : Nat → Prop} {p bs bh : Nat} {v : Value} {D : Dk} (w : World) (h : DM Z w p bs bh v D) : Calls Tryz.prog 75 #[.pointer (some ⟨p, 0, none⟩)] w fun e w' =>
    e = .returned (errS (if D.fuel = 0 then 20 else 0)) ∧ DM Z w' p bs bh v (if D.fuel = 0 then { D with off := true } else { D with fuel := stepF D.fuel }) ∧ Off Z w w' := by
  have c3 := h.c3
  have c4 := h.c4
  have f3 := h.fz 3 (by omega)
  have f4 := h.fz 4 (by omega)
  have f1 := h.ok.f1
  have f2 := h.ok.f2
  obtain ⟨f, hf⟩ : ∃ f, f = D.fuel := ⟨_, rfl⟩
  rw [← hf] at c3 f1 f2 ⊢
  by_cases h0 : f = 0
  · subst h0
    rw [if_pos rfl, if_pos rfl]
    have h9 := h.setOff true
    rw [← hf] at h9
    have HP := Lib.hid h9
    clear h9
    have HO := Lib.hid ((Off.refl Z w).setCell (p := ⟨p, 4, none⟩) (.inr h.zp) (.bool true))
    clear h hf
    go_enter Tryz.func75, Tryz.ntmps75
    go_wp2_with fail
    go_ret
    exact ⟨rfl, HP.out, HO.out⟩
  · rw [if_neg h0, if_neg h0]
    have h0b : (f == (0 : Int)) = false := by rw [beq_eq_false_iff_ne]; exact h0
    by_cases h1 : 0 < f
    · have HP := Lib.hid (h.setFuel (f := f - 1) (by omega) (by omega))
      have HO := Lib.hid ((Off.refl Z w).setCell (p := ⟨p, 3, none⟩) (.inr h.zp) (.int .i64 (f - 1)))
      have he : stepF f = f - 1 := by unfold stepF; rw [if_pos h1]
      rw [he]
      clear h hf
      go_enter Tryz.func75, Tryz.ntmps75
      go_wp2_with fail
      go_ret
      exact ⟨rfl, HP.out, HO.out⟩
    · have he : stepF f = f := by unfold stepF; rw [if_neg h1]
      have hE : ({ D with fuel := stepF f } : Dk) = D := by rw [he, hf]
      rw [hE]
      have HP := Lib.hid h
      clear h hf
      go_enter Tryz.func75, Tryz.ntmps75
      go_wp2_with fail
      go_ret
      exact ⟨rfl, HP.out, Off.refl _ _⟩
theorem sfuel_any {Z : Nat → Prop} {p bs bh : Nat} {v : Value} {D : Dk} (w : World) (n : Int) (h : DM Z w p bs bh v D) (hn : n ≤ 9223372036854775807) : Calls Tryz.prog 15 #[.pointer (some ⟨p, 0, none⟩), .int .i64 n] w fun e w' =>
    e = .returned (.tuple #[]) ∧ DM Z w' p bs bh v (fuelD D n) ∧ Off Z w w' := by
  have c3 := h.c3
  have f3 := h.fz 3 (by omega)
  unfold fuelD
  by_cases h1 : n < -1
  · have hm : max n (-1) = -1 := by omega
    have HP := Lib.hid (h.setFuel (f := -1) (by omega) (by omega))
    have HO := Lib.hid ((Off.refl Z w).setCell (p := ⟨p, 3, none⟩) (.inr h.zp) (.int .i64 (-1)))
    rw [hm]
    clear h
    go_enter Tryz.func15, Tryz.ntmps15
    go_wp2_with fail
    go_end0
    exact ⟨rfl, HP.out, HO.out⟩
  · have hm : max n (-1) = n := by omega
    have HP := Lib.hid (h.setFuel (f := n) (by omega) (by omega))
    have HO := Lib.hid ((Off.refl Z w).setCell (p := ⟨p, 3, none⟩) (.inr h.zp) (.int .i64 n))
    rw [hm]
    clear h
    go_enter Tryz.func15, Tryz.ntmps15
    go_wp2_with fail
    go_end0
    exact ⟨rfl, HP.out, HO.out⟩
end Go.Proofs.YthamfbfeokmhgaaGreatDoor
