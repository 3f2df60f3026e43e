/- Slices of bools that are read. No function of the program is named here. Of package sector: Flush and Fall. -/
import Derived.Test.YthamfbfeokmhgaaGreatDoorV2
import Derived.Test.YthamfbfeokmhgaaGreatDoorV30
set_option linter.unusedVariables false
namespace Go.Proofs.YthamfbfeokmhgaaGreatDoor
open Go.ChangeShapes Go.WideShapes Go.ChangeAt Go.RowKit

def RB (w : World) (v : Value) (l : List Bool) : Prop :=
  (l = [] ∧ ∃ a c, v = .slice a 0 c) ∨ (l ≠ [] ∧ ∃ b o c, v = .slice (some ⟨b, o, none⟩) l.length c ∧ l.length ≤ c ∧ c ≤ maxLen ∧ b < w.heap.size ∧ ∀ (j : Nat) x, l[j]? = some x → w.cell? ⟨b, o + j, none⟩ = some (.bool x))
theorem RB.off {Z : Nat → Prop} {w w' : World} {v : Value} {l : List Bool} (h : RB w v l) (ho : Off Z w w') (hv : l ≠ [] → ∀ b o n c, v = .slice (some ⟨b, o, none⟩) n c → ¬ Z b) : RB w' v l := by
  rcases h with h | ⟨hn, b, o, c, h1, h2, h3, h4, h5⟩
  · exact .inl h
  · exact .inr ⟨hn, b, o, c, h1, h2, h3, Nat.lt_of_lt_of_le h4 ho.size, fun j x hx => (ho.cell (p := ⟨b, o + j, none⟩) h4 (hv hn b o _ c h1)).trans (h5 j x hx)⟩
theorem RB.below {w w' : World} {v : Value} {l : List Bool} (h : RB w v l) (hb : Below w.heap.size w w') : RB w' v l := h.off (Z := fun _ => False) (Off.of_below hb) (fun _ _ _ _ _ _ h => h)
theorem RB.form {w : World} {v : Value} {l : List Bool} (h : RB w v l) : ∃ a c, v = .slice a l.length c := by
  rcases h with ⟨rfl, a, c, rfl⟩ | ⟨hn, b, o, c, rfl, _⟩
  · exact ⟨_, _, rfl⟩
  · exact ⟨_, _, rfl⟩
theorem RB.at {w : World} {a : Option Addr} {n c : Nat} {l : List Bool} (h : RB w (.slice a n c) l) {j : Nat} {x : Bool} (hx : l[j]? = some x) : ∃ b o, a = some ⟨b, o, none⟩ ∧ b < w.heap.size ∧ n ≤ c ∧ c ≤ maxLen ∧ w.cell? ⟨b, o + j, none⟩ = some (.bool x) := by
  rcases h with ⟨rfl, a', c', e⟩ | ⟨hn, b, o, c', e, hc, hm, hl, hx'⟩
  · simp at hx
  · simp only [Value.slice.injEq] at e
    obtain ⟨rfl, rfl, rfl⟩ := e
    exact ⟨b, o, rfl, hl, hc, hm, hx' j x hx⟩
theorem RB.nil (w : World) : RB w (.slice none 0 0) [] := .inl ⟨rfl, _, _, rfl⟩
theorem RB.lt {w : World} {v : Value} {l : List Bool} (h : RB w v l) (hl : l ≠ []) : ∀ b o n c, v = .slice (some ⟨b, o, none⟩) n c → b < w.heap.size := by
  rcases h with ⟨rfl, _⟩ | ⟨hn, b, o, c, rfl, _, _, h4, _⟩
  · exact absurd rfl hl
  · intro b' o' n' c' e
    simp only [Value.slice.injEq, Option.some.injEq, Addr.mk.injEq] at e
    omega
end Go.Proofs.YthamfbfeokmhgaaGreatDoor
set_option linter.unusedVariables false
set_option linter.unusedSimpArgs false
namespace Go.Proofs.YthamfbfeokmhgaaGreatDoor
open Go.ChangeShapes Go.WideShapes Go.ChangeAt Go.RowKit

theorem sflush1_any (j : Nat) (W : World) : Calls Tryz.prog 77 #[.int .i64 (j : Int)] W fun e w' => e = .returned (.bool true) ∧ w' = W := by
  go_enter Tryz.func77, Tryz.ntmps77
  go_wp2_with fail
  go_ret
  exact ⟨rfl, rfl⟩
theorem sfall1_any (j q : Nat) (kv : Value) (ks : List Bool) (W : World) (hc : W.cell? ⟨q, 0, none⟩ = some kv) (hr : RB W kv ks) : Calls Tryz.prog 33 #[.int .i64 (j : Int), .pointer (some ⟨q, 0, none⟩)] W fun e w' => e = .returned (.bool (ks.getD j false)) ∧ w' = W := by
  obtain ⟨ka, kc, rfl⟩ := hr.form
  obtain ⟨n, hn⟩ : ∃ n, n = ks.length := ⟨_, rfl⟩
  rw [← hn] at hr hc
  by_cases h : j < n
  · obtain ⟨x, hx⟩ : ∃ x, ks[j]? = some x := ⟨ks[j]'(by omega), by simp⟩
    have hg : ks.getD j false = x := by rw [List.getD_eq_getElem?_getD, hx]; rfl
    obtain ⟨b, o, rfl, hb, hc1, hc2, cx⟩ := hr.at hx
    rw [hg]
    unfold maxLen at hc2
    clear hx hg hr hn
    go_enter Tryz.func33, Tryz.ntmps33
    go_wp2_with fail
    go_ret
    exact ⟨rfl, rfl⟩
  · have hg : ks.getD j false = false := by rw [List.getD_eq_getElem?_getD, List.getElem?_eq_none (by omega)]; rfl
    rw [hg]
    have hd : decide ((j : Int) < (n : Int)) = false := decide_eq_false (by omega)
    clear hr hg hn
    go_enter Tryz.func33, Tryz.ntmps33
    go_wp2_with fail
    go_ret
    exact ⟨rfl, rfl⟩
theorem errS_zero : errS 0 = .nilIface := rfl
theorem errS_pos {k : Int} (h : k ≠ 0) : errS k = .iface 55 (.int .i64 k) := by unfold errS; rw [if_neg h]
set_option maxRecDepth 100000 in
theorem sflush_any {Z : Nat → Prop} {p : Nat} {D : Dk} (w : World) (h : DX Z w p D) (hl : D.pend.length ≤ 1000000) : Calls Tryz.prog 55 #[.pointer (some ⟨p, 0, none⟩)] w fun e w' => e = .returned (errS (flushD D).2) ∧ DPost Z w p (flushD D).1 w' := by
  obtain ⟨bs, bh, v, h⟩ := h
  have hok2 := flush_ok h.ok
  have SO := Lib.hid (soff_any p D.off w h.c4)
  by_cases ho : D.off = true
  · have e : flushD D = (D, 20) := by unfold flushD; rw [if_pos ho]
    rw [e]
    rw [ho] at SO
    have H := Lib.hid (show DPost Z w p D w from ⟨Z, ⟨bs, bh, v, h⟩, Off.refl _ _, fun i hi => .inl hi⟩)
    clear h ho hok2 e
    go_enter Tryz.func55, Tryz.ntmps55
    go_wp2_with fail
    refine SO.out.mono ?_
    rintro e w2 ⟨rfl, rfl⟩
    go_wp2_with fail
    go_ret
    exact ⟨rfl, H.out⟩
  · have hof : D.off = false := by simpa using ho
    rw [hof] at SO
    have ST := Lib.hid (sstep_any w h)
    by_cases hf : D.fuel = 0
    · have e : flushD D = ({ D with off := true }, 20) := by unfold flushD; rw [if_neg ho, if_pos hf]
      rw [e]
      rw [if_pos hf, if_pos hf] at ST
      have E20 : errS 20 = .iface 55 (.int .i64 20) := rfl
      rw [E20] at ST
      have neB : ∀ W : World, (binOp .neq 27 (.iface 55 (.int .i64 20)) .nilIface).run Tryz.prog W = .ok (.bool true) W := fun W => by kernel_rfl
      clear h ho hok2 e hf hof
      go_enter Tryz.func55, Tryz.ntmps55
      go_wp2_with fail
      refine SO.out.mono ?_
      rintro e w2 ⟨rfl, rfl⟩
      go_wp2_with fail
      refine ST.out.mono ?_
      rintro e w3 ⟨rfl, hd, ho⟩
      have H := Lib.hid (show DPost Z w2 p { D with off := true } w3 from ⟨Z, ⟨bs, bh, v, hd⟩, ho, fun i hi => .inl hi⟩)
      clear hd ho
      go_wp2_with fail
      go_ret
      exact ⟨rfl, H.out⟩
    · have e : flushD D = ({ sure := D.shown, pend := [], fuel := stepF D.fuel, off := D.off }, 0) := by unfold flushD; rw [if_neg ho, if_neg hf]
      rw [e] at hok2 ⊢
      rw [if_neg hf, if_neg hf] at ST
      have E0 : errS 0 = .nilIface := rfl
      rw [E0] at ST
      have HOK := Lib.hid hok2
      have HD := Lib.hid h.ok
      have HL := Lib.hid hl
      have HOF := Lib.hid hof
      clear h ho hok2 e hf hl hof
      go_enter Tryz.func55, Tryz.ntmps55
      go_wp2_with fail
      refine SO.out.mono ?_
      rintro e w2 ⟨rfl, rfl⟩
      go_wp2_with fail
      refine ST.out.mono ?_
      rintro e w3 ⟨rfl, hd, ho⟩
      have SE := Lib.hid (settleA_any (q0 := 0) (n := D.sure.length) allK w3 hd.raw rfl HD.out.n2 (fun q hq => (HD.out.pl q hq).1) HL.out (fun W _ j _ => sflush1_any j W))
      have HO3 := Lib.hid ho
      clear hd ho
      go_wp2_with fail
      refine SE.out.mono ?_
      rintro e w4 ⟨rfl, hd4, ho4⟩
      have H := Lib.hid (show DPost Z w2 p { sure := D.shown, pend := [], fuel := stepF D.fuel, off := D.off } w4 from ⟨Z, ⟨bs, bh, _, hd4.dm (by rw [D.shown_len]) rfl rfl rfl rfl rfl HOK.out⟩, HO3.out.trans ho4, fun i hi => .inl hi⟩)
      clear hd4 ho4
      go_wp2_with fail
      go_ret
      exact ⟨rfl, H.out⟩
set_option maxRecDepth 100000 in
theorem sfall_any {Z : Nat → Prop} {p : Nat} {D : Dk} (ks : List Bool) (kv : Value) (w : World) (h : DX Z w p D) (hl : D.pend.length ≤ 1000000) (hk : RB w kv ks) (hz : ks ≠ [] → ∀ b o n c, kv = .slice (some ⟨b, o, none⟩) n c → ¬ Z b) : Calls Tryz.prog 16 #[.pointer (some ⟨p, 0, none⟩), kv] w fun e w' => e = .returned (.tuple #[]) ∧ DPost Z w p (fallD (fun j => ks.getD j false) D) w' := by
  obtain ⟨bs, bh, v, h⟩ := h
  obtain ⟨ka, kc, rfl⟩ := hk.form
  obtain ⟨n, hn⟩ : ∃ n, n = ks.length := ⟨_, rfl⟩
  rw [← hn] at hk hz ⊢
  obtain ⟨w1, hw1⟩ : ∃ w1, w1 = w.alloc (.cells #[.slice ka n kc] 38) := ⟨_, rfl⟩
  obtain ⟨q, hq⟩ : ∃ q, q = w.heap.size := ⟨_, rfl⟩
  have hb1 : Below w.heap.size w w1 := by rw [hw1]; exact (Below.refl _ _).alloc (Nat.le_refl _) _
  have hc1 : w1.cell? ⟨q, 0, none⟩ = some (.slice ka n kc) := by rw [hw1, hq, World.cell?_alloc_at _ _ _ _ rfl]; rfl
  have hq1 : q < w1.heap.size := by rw [hw1, hq]; simp
  have hzq : ¬ Z q := fun e => by have := h.zlt q e; omega
  have h1 := h.below hb1
  have hok2 := fall_ok h.ok (fun j => ks.getD j false)
  have SE := Lib.hid (settleF_any (q0 := q) (n := D.sure.length) (fun j => ks.getD j false) w1 h1.raw rfl h.ok.n2 (fun q hq => (h.ok.pl q hq).1) hl (fun W ho j _ => sfall1_any j q (.slice ka n kc) ks W ((ho.cell (p := ⟨q, 0, none⟩) hq1 hzq).trans hc1) ((hk.below hb1).off ho hz)))
  have HW1 := Lib.hid hw1
  have HQ := Lib.hid hq
  have HO1 : Hid (Off Z w w1) := Lib.hid (Off.of_below hb1)
  have HOK := Lib.hid hok2
  have HFU : Hid (-1 ≤ D.fuel ∧ D.fuel ≤ 9223372036854775807) := Lib.hid ⟨h.ok.f1, h.ok.f2⟩
  clear h h1 hk hz hw1 hb1 hc1 hq1 hzq hn hl hok2 hq
  go_enter Tryz.func16, Tryz.ntmps16
  go_wp2_with fail
  rw [← HW1.out, ← HQ.out]
  refine SE.out.mono ?_
  rintro e w4 ⟨rfl, hd4, ho4⟩
  have c3 := hd4.c3
  have c4 := hd4.c4
  have f3 := hd4.fz 3 (by omega)
  have f4 := hd4.fz 4 (by omega)
  have hm : DM Z w4 p bs bh (.slice none 0 0) { sure := sk (fun j => ks.getD j false) D.sure D.pend D.pend.length, pend := [], fuel := D.fuel, off := D.off } := hd4.dm (by simp [sk_len]) rfl rfl rfl rfl rfl ⟨HOK.out.n1, HOK.out.n2, fun q hq => (by cases hq), HOK.out.sl, HFU.out.1, HFU.out.2⟩
  have h5 := hm.setOff false
  have h6 := h5.setFuel (f := -1) (by omega) (by omega)
  have H := Lib.hid (show DPost Z w p (fallD (fun j => ks.getD j false) D) _ from ⟨Z, ⟨bs, bh, _, h6⟩, ((HO1.out.trans ho4).setCell (p := ⟨p, 4, none⟩) (.inr hd4.zp) (.bool false)).setCell (p := ⟨p, 3, none⟩) (.inr hd4.zp) (.int .i64 (-1)), fun i hi => .inl hi⟩)
  clear hd4 ho4 hm h5 h6
  go_wp2_with fail
  go_end0
  exact ⟨rfl, H.out⟩
end Go.Proofs.YthamfbfeokmhgaaGreatDoor
