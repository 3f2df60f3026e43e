/- Of package sector: Flush and Fall. Of package sector: New, Read and Write. -/
import Derived.Deep.RegionHeld3
import Derived.Test.YthamfbfeokmhgaaGreatDoorShelf
import Derived.Test.YthamfbfeokmhgaaGreatDoorU29
import Derived.Test.YthamfbfeokmhgaaGreatDoorU3
set_option linter.unusedVariables false
set_option linter.unusedSimpArgs false
namespace Go.Proofs.YthamfbfeokmhgaaGreatDoor
open Go.ChangeShapes Go.WideShapes Go.ChangeAt Go.RowKit

theorem sflush1_any (j : Nat) (W : World) : Calls Tryz.prog 77 #[.int .i64 (j : Int)] W fun e w' => e = .returned (.bool true) ∧ w' = W := by
  go_enter Tryz.func77, Tryz.ntmps77
  go_wp2_with fail
  go_ret
  exact ⟨rfl, rfl⟩
theorem sfall1_any (j q : Nat) (kv : Value) (ks : List Bool) (W : World) (hc : W.cell? ⟨q, 0, none⟩ = some kv) (hr : RB W kv ks) : Calls Tryz.prog 33 #[.int .i64 (j : Int), .pointer (some ⟨q, 0, none⟩)] W fun e w' => e = .returned (.bool (ks.getD j false)) ∧ w' = W := by
  obtain ⟨ka, kc, rfl⟩ := hr.form
  obtain ⟨n, hn⟩ : ∃ n, n = ks.length := ⟨_, rfl⟩
  rw [← hn] at hr hc
  by_cases h : j < n
  · obtain ⟨x, hx⟩ : ∃ x, ks[j]? = some x := ⟨ks[j]'(by omega), by simp⟩
    have hg : ks.getD j false = x := by rw [List.getD_eq_getElem?_getD, hx]; rfl
    obtain ⟨b, o, rfl, hb, hc1, hc2, cx⟩ := hr.at hx
    rw [hg]
    unfold maxLen at hc2
    clear hx hg hr hn
    go_enter Tryz.func33, Tryz.ntmps33
    go_wp2_with fail
    go_ret
    exact ⟨rfl, rfl⟩
  · have hg : ks.getD j false = false := by rw [List.getD_eq_getElem?_getD, List.getElem?_eq_none (by omega)]; rfl
    rw [hg]
    have hd : decide ((j : Int) < (n : Int)) = false := decide_eq_false (by omega)
    clear hr hg hn
    go_enter Tryz.func33, Tryz.ntmps33
    go_wp2_with fail
    go_ret
    exact ⟨rfl, rfl⟩
theorem errS_zero : errS 0 = .nilIface := rfl
theorem errS_pos {k : Int} (h : k ≠ 0) : errS k = .iface 55 (.int .i64 k) := by unfold errS; rw [if_neg h]
set_option maxRecDepth 100000 in
theorem sflush_any {Z : Nat → Prop} {p : Nat} {D : Dk} (w : World) (h : DX Z w p D) (hl : D.pend.length ≤ 1000000) : Calls Tryz.prog 55 #[.pointer (some ⟨p, 0, none⟩)] w fun e w' => e = .returned (errS (flushD D).2) ∧ DPost Z w p (flushD D).1 w' := by
  obtain ⟨bs, bh, v, h⟩ := h
  have hok2 := flush_ok h.ok
  have SO := Lib.hid (soff_any p D.off w h.c4)
  by_cases ho : D.off = true
  · have e : flushD D = (D, 20) := by unfold flushD; rw [if_pos ho]
    rw [e]
    rw [ho] at SO
    have H := Lib.hid (show DPost Z w p D w from ⟨Z, ⟨bs, bh, v, h⟩, Off.refl _ _, fun i hi => .inl hi⟩)
    clear h ho hok2 e
    go_enter Tryz.func55, Tryz.ntmps55
    go_wp2_with fail
    refine SO.out.mono ?_
    rintro e w2 ⟨rfl, rfl⟩
    go_wp2_with fail
    go_ret
    exact ⟨rfl, H.out⟩
  · have hof : D.off = false := by simpa using ho
    rw [hof] at SO
    have ST := Lib.hid (sstep_any w h)
    by_cases hf : D.fuel = 0
    · have e : flushD D = ({ D with off := true }, 20) := by unfold flushD; rw [if_neg ho, if_pos hf]
      rw [e]
      rw [if_pos hf, if_pos hf] at ST
      have E20 : errS 20 = .iface 55 (.int .i64 20) := rfl
      rw [E20] at ST
      have neB : ∀ W : World, (binOp .neq 27 (.iface 55 (.int .i64 20)) .nilIface).run Tryz.prog W = .ok (.bool true) W := fun W => by kernel_rfl
      clear h ho hok2 e hf hof
      go_enter Tryz.func55, Tryz.ntmps55
      go_wp2_with fail
      refine SO.out.mono ?_
      rintro e w2 ⟨rfl, rfl⟩
      go_wp2_with fail
      refine ST.out.mono ?_
      rintro e w3 ⟨rfl, hd, ho⟩
      have H := Lib.hid (show DPost Z w2 p { D with off := true } w3 from ⟨Z, ⟨bs, bh, v, hd⟩, ho, fun i hi => .inl hi⟩)
      clear hd ho
      go_wp2_with fail
      go_ret
      exact ⟨rfl, H.out⟩
    · have e : flushD D = ({ sure := D.shown, pend := [], fuel := stepF D.fuel, off := D.off }, 0) := by unfold flushD; rw [if_neg ho, if_neg hf]
      rw [e] at hok2 ⊢
      rw [if_neg hf, if_neg hf] at ST
      have E0 : errS 0 = .nilIface := rfl
      rw [E0] at ST
      have HOK := Lib.hid hok2
      have HD := Lib.hid h.ok
      have HL := Lib.hid hl
      have HOF := Lib.hid hof
      clear h ho hok2 e hf hl hof
      go_enter Tryz.func55, Tryz.ntmps55
      go_wp2_with fail
      refine SO.out.mono ?_
      rintro e w2 ⟨rfl, rfl⟩
      go_wp2_with fail
      refine ST.out.mono ?_
      rintro e w3 ⟨rfl, hd, ho⟩
      have SE := Lib.hid (settleA_any (q0 := 0) (n := D.sure.length) allK w3 hd.raw rfl HD.out.n2 (fun q hq => (HD.out.pl q hq).1) HL.out (fun W _ j _ => sflush1_any j W))
      have HO3 := Lib.hid ho
      clear hd ho
      go_wp2_with fail
      refine SE.out.mono ?_
      rintro e w4 ⟨rfl, hd4, ho4⟩
      have H := Lib.hid (show DPost Z w2 p { sure := D.shown, pend := [], fuel := stepF D.fuel, off := D.off } w4 from ⟨Z, ⟨bs, bh, _, hd4.dm (by rw [D.shown_len]) rfl rfl rfl rfl rfl HOK.out⟩, HO3.out.trans ho4, fun i hi => .inl hi⟩)
      clear hd4 ho4
      go_wp2_with fail
      go_ret
      exact ⟨rfl, H.out⟩
set_option maxRecDepth 100000 in
theorem sfall_any {Z : Nat → Prop} {p : Nat} {D : Dk} (ks : List Bool) (kv : Value) (w : World) (h : DX Z w p D) (hl : D.pend.length ≤ 1000000) (hk : RB w kv ks) (hz : ks ≠ [] → ∀ b o n c, kv = .slice (some ⟨b, o, none⟩) n c → ¬ Z b) : Calls Tryz.prog 16 #[.pointer (some ⟨p, 0, none⟩), kv] w fun e w' => e = .returned (.tuple #[]) ∧ DPost Z w p (fallD (fun j => ks.getD j false) D) w' := by
  obtain ⟨bs, bh, v, h⟩ := h
  obtain ⟨ka, kc, rfl⟩ := hk.form
  obtain ⟨n, hn⟩ : ∃ n, n = ks.length := ⟨_, rfl⟩
  rw [← hn] at hk hz ⊢
  obtain ⟨w1, hw1⟩ : ∃ w1, w1 = w.alloc (.cells #[.slice ka n kc] 38) := ⟨_, rfl⟩
  obtain ⟨q, hq⟩ : ∃ q, q = w.heap.size := ⟨_, rfl⟩
  have hb1 : Below w.heap.size w w1 := by rw [hw1]; exact (Below.refl _ _).alloc (Nat.le_refl _) _
  have hc1 : w1.cell? ⟨q, 0, none⟩ = some (.slice ka n kc) := by rw [hw1, hq, World.cell?_alloc_at _ _ _ _ rfl]; rfl
  have hq1 : q < w1.heap.size := by rw [hw1, hq]; simp
  have hzq : ¬ Z q := fun e => by have := h.zlt q e; omega
  have h1 := h.below hb1
  have hok2 := fall_ok h.ok (fun j => ks.getD j false)
  have SE := Lib.hid (settleF_any (q0 := q) (n := D.sure.length) (fun j => ks.getD j false) w1 h1.raw rfl h.ok.n2 (fun q hq => (h.ok.pl q hq).1) hl (fun W ho j _ => sfall1_any j q (.slice ka n kc) ks W ((ho.cell (p := ⟨q, 0, none⟩) hq1 hzq).trans hc1) ((hk.below hb1).off ho hz)))
  have HW1 := Lib.hid hw1
  have HQ := Lib.hid hq
  have HO1 : Hid (Off Z w w1) := Lib.hid (Off.of_below hb1)
  have HOK := Lib.hid hok2
  have HFU : Hid (-1 ≤ D.fuel ∧ D.fuel ≤ 9223372036854775807) := Lib.hid ⟨h.ok.f1, h.ok.f2⟩
  clear h h1 hk hz hw1 hb1 hc1 hq1 hzq hn hl hok2 hq
  go_enter Tryz.func16, Tryz.ntmps16
  go_wp2_with fail
  rw [← HW1.out, ← HQ.out]
  refine SE.out.mono ?_
  rintro e w4 ⟨rfl, hd4, ho4⟩
  have c3 := hd4.c3
  have c4 := hd4.c4
  have f3 := hd4.fz 3 (by omega)
  have f4 := hd4.fz 4 (by omega)
  have hm : DM Z w4 p bs bh (.slice none 0 0) { sure := sk (fun j => ks.getD j false) D.sure D.pend D.pend.length, pend := [], fuel := D.fuel, off := D.off } := hd4.dm (by simp [sk_len]) rfl rfl rfl rfl rfl ⟨HOK.out.n1, HOK.out.n2, fun q hq => (by cases hq), HOK.out.sl, HFU.out.1, HFU.out.2⟩
  have h5 := hm.setOff false
  have h6 := h5.setFuel (f := -1) (by omega) (by omega)
  have H := Lib.hid (show DPost Z w p (fallD (fun j => ks.getD j false) D) _ from ⟨Z, ⟨bs, bh, _, h6⟩, ((HO1.out.trans ho4).setCell (p := ⟨p, 4, none⟩) (.inr hd4.zp) (.bool false)).setCell (p := ⟨p, 3, none⟩) (.inr hd4.zp) (.int .i64 (-1)), fun i hi => .inl hi⟩)
  clear hd4 ho4 hm h5 h6
  go_wp2_with fail
  go_end0
  exact ⟨rfl, H.out⟩
end Go.Proofs.YthamfbfeokmhgaaGreatDoor
set_option linter.unusedVariables false
set_option linter.unusedSimpArgs false
namespace Go.Proofs.YthamfbfeokmhgaaGreatDoor
open Go.ChangeShapes Go.WideShapes Go.ChangeAt Go.RowKit

theorem sclone_any (s : ByteArray) (w : World) (hs : s.size ≤ 281474976710656) : Calls Tryz.prog 76 #[.string s] w fun e w' => e = .returned (.string s) ∧ Below w.heap.size w w' := by
  have C : Calls Tryz.prog 93 #[.string s] w fun e w' => e = .returned (.string s) ∧ Below w.heap.size w w' := Tryz.stringslite_Clone s w hs
  go_enter Tryz.func76, Tryz.ntmps76
  go_wp2_with fail
  refine C.mono ?_
  rintro e w2 ⟨rfl, hb⟩
  go_wp2_with fail
  go_ret
  exact ⟨rfl, hb⟩
theorem repeat_zero (c : Nat) : Lib.repeatL [(0 : UInt8)] c = List.replicate c 0 := by
  induction c with
  | zero => rfl
  | succ c ih => rw [List.replicate_succ, ← ih]; rfl
theorem srep_any (c : Nat) (w : World) (hc : c ≤ 512) : Calls Tryz.prog 37 #[.string ⟨#[0]⟩, .int .i64 (c : Int)] w fun e w' => e = .returned (.string ⟨(List.replicate c (0 : UInt8)).toArray⟩) ∧ Below w.heap.size w w' := by
  have h := Tryz.strings_Repeat ⟨#[0]⟩ c w (by omega) (by show 1 * c ≤ _; omega)
  rw [show (⟨#[0]⟩ : ByteArray).data.toList = [(0 : UInt8)] from rfl, repeat_zero] at h
  exact h
theorem app_full (s : ByteArray) : s ++ (⟨(List.replicate (512 - s.size) (0 : UInt8)).toArray⟩ : ByteArray) = fullB s := by
  apply ByteArray.ext
  rw [ByteArray.data_append]
  apply Array.toList_inj.1
  simp [fullB]
@[reducible] def RdS (w : World) (p bh n i : Nat) (s : ByteArray) (W : World) : Prop := W.cell? ⟨p, 1, none⟩ = some (.slice (some ⟨bh, 0, none⟩) n n) ∧ W.cell? ⟨bh, i, none⟩ = some (.string s) ∧ Below w.heap.size w W
set_option maxHeartbeats 1000000 in
set_option maxRecDepth 100000 in
theorem sread_any {Z : Nat → Prop} {p : Nat} {D : Dk} (i : Int) (w : World) (h : DX Z w p D) : Calls Tryz.prog 21 #[.pointer (some ⟨p, 0, none⟩), .int .i64 i] w fun e w' => e = .returned (.tuple #[.string (readD D i).1, errS (readD D i).2]) ∧ Below w.heap.size w w' := by
  obtain ⟨bs, bh, v, h⟩ := h
  have SO := Lib.hid (soff_any p D.off w h.c4)
  by_cases ho : D.off = true
  · have e : readD D i = (⟨#[]⟩, 20) := by unfold readD; rw [if_pos ho]
    rw [e]
    rw [ho] at SO
    clear h ho e
    go_enter Tryz.func21, Tryz.ntmps21
    go_wp2_with fail
    refine SO.out.mono ?_
    rintro e w2 ⟨rfl, rfl⟩
    go_wp2_with fail
    go_ret2
    exact ⟨rfl, Below.refl _ _⟩
  · have hof : D.off = false := by simpa using ho
    rw [hof] at SO
    have SH := Lib.hid (shas_any p bs D.sure.length D.sure.length i w h.c0)
    by_cases hi : i < 0 ∨ (D.sure.length : Int) ≤ i
    · have e : readD D i = (⟨#[]⟩, 1) := by unfold readD; rw [if_neg ho, if_pos hi]
      rw [e]
      rw [decide_eq_false (by omega)] at SH
      clear h ho hof e hi
      go_enter Tryz.func21, Tryz.ntmps21
      go_wp2_with fail
      refine SO.out.mono ?_
      rintro e w2 ⟨rfl, rfl⟩
      go_wp2_with fail
      refine SH.out.mono ?_
      rintro e w2 ⟨rfl, rfl⟩
      go_wp2_with fail
      go_ret2
      exact ⟨rfl, Below.refl _ _⟩
    · have e : readD D i = (fullB (D.shown.getD i.toNat ByteArray.empty), 0) := by unfold readD; rw [if_neg ho, if_neg hi]
      rw [e]
      rw [decide_eq_true (by omega)] at SH
      obtain ⟨k, rfl⟩ : ∃ k : Nat, i = (k : Int) := ⟨i.toNat, by omega⟩
      rw [Int.toNat_natCast]
      obtain ⟨s, hs⟩ : ∃ s, s = D.shown.getD k ByteArray.empty := ⟨_, rfl⟩
      have hks : D.shown[k]? = some s := by rw [hs]; exact getD_at (by rw [D.shown_len]; omega)
      rw [← hs]
      have hsz := h.ok.shown s (List.mem_of_getElem? hks)
      have hS0 : RdS w p bh D.sure.length k s w := ⟨h.c1, (h.inRow hks).1, Below.refl _ _⟩
      have hkn : (k : Int) < (D.sure.length : Int) := by omega
      obtain ⟨n, hn⟩ : ∃ n, n = D.sure.length := ⟨_, rfl⟩
      have hn9 : n ≤ 4096 := by rw [hn]; exact h.ok.n2
      rw [← hn] at hS0 hkn
      have hS0b := hS0.2.1
      have hS0a := hS0.1
      have HS0 : Hid (RdS w p bh n k s w.drew) := Lib.hid ⟨hS0.1, hS0.2.1, hS0.2.2.drew⟩
      have HRP := Lib.hid (fun W => srep_any (512 - s.size) W (by omega))
      have hcI : ((512 - s.size : Nat) : Int) = IntKind.i64.wrap (512 - (s.size : Int)) := by rw [IntKind.wrap_i64]; omega
      rw [hcI] at HRP
      have HBL : Hid (∀ W W', RdS w p bh n k s W → Below W.heap.size W W' → RdS w p bh n k s W') := Lib.hid (fun W W' h hb => by
        have hp := cell_lt (o := 1) hS0a
        have hq := cell_lt (o := k) hS0b
        have h2 := h.2.2
        exact ⟨(hb.cell (p := ⟨p, 1, none⟩) (Nat.lt_of_lt_of_le hp h2.size)).trans h.1, (hb.cell (p := ⟨bh, k, none⟩) (Nat.lt_of_lt_of_le hq h2.size)).trans h.2.1, h2.trans (hb.mono h2.size)⟩)
      have hap := app_full s
      obtain ⟨zb, hzb⟩ : ∃ zb : ByteArray, zb = ⟨(List.replicate (512 - s.size) (0 : UInt8)).toArray⟩ := ⟨_, rfl⟩
      have hzs : zb.size ≤ 512 := by
        rw [hzb]
        show (List.replicate (512 - s.size) (0 : UInt8)).toArray.size ≤ 512
        simp
      rw [← hzb] at HRP hap
      have HAP := Lib.hid hap
      have hcat : ¬ 9223372036854775807 < s.size + zb.size := by omega
      clear h ho hof e hi hs hks hn hS0 hS0a hS0b hcI hap hzb
      go_enter Tryz.func21, Tryz.ntmps21
      go_wp2_with fail
      refine SO.out.mono ?_
      rintro e w2 ⟨rfl, rfl⟩
      go_wp2_with fail
      refine SH.out.mono ?_
      rintro e w2 ⟨rfl, rfl⟩
      go_wp2_with fail
      go_region_held3 (fun W => W.cell? ⟨p, 1, none⟩ = some (.slice (some ⟨bh, 0, none⟩) n n) ∧ W.cell? ⟨bh, k, none⟩ = some (.string s) ∧ Below w2.heap.size w2 W) (first | with_reducible exact HS3.out | with_reducible exact HS0.out) (first | (go_at_call 37; have hq : RdS w2 p bh n k s _ := (by assumption); (with_reducible refine (HRP.out _).mono ?_); rintro e w3 ⟨rfl, hb3⟩; have HS3 := Lib.hid (HBL.out _ w3 hq hb3); clear hq))
      rename_i hHeld
      clear hHeld
      go_wp2_with fail
      go_ret2
      refine ⟨?_, HS3.out.2.2⟩
      rw [← HAP.out]
      rfl
theorem infoSW : (Tryz.prog.info? 112).map (fun i => (i.zero, i.size, i.bytes)) = some (some (.agg #[.int .i64 0, .string ByteArray.empty]), 2, 24) := by kernel_rfl
section
variable {Z Z' : Nat → Prop} {w w' : World} {p bs bh n : Nat} {v : Value} {S H : List ByteArray} {Q : Pnd} {f : Int} {o : Bool}
theorem DS.grow (h : DS Z w p bs bh n v S H Q f o) (hz : ∀ i, Z i → Z' i) (hl : ∀ i, Z' i → i < w.heap.size) : DS Z' w p bs bh n v S H Q f o :=
  ⟨hl, hz _ h.zp, hz _ h.zs, hz _ h.zh, fun b hb => hz _ (h.zv b hb), h.ps, h.ph, h.sh, h.pw, h.c0, h.c1, h.c2, h.c3, h.c4, h.fz, h.rs, h.rh, h.rp⟩
end
section
variable {Z : Nat → Prop} {w w6 : World} {p bs bh n : Nat} {v v' : Value} {S H : List ByteArray} {Q Q' : Pnd} {f : Int} {o : Bool}
theorem DS.push (h : DS Z w p bs bh n v S H Q f o) (ho : Off (fun i => v.ownBlock = some i) w w6) (hr : Row 2 0 w6 v' Q'.length (pv Q')) (hw : v'.ownBlock = v.ownBlock ∨ ∃ k, v'.ownBlock = some k ∧ w.heap.size ≤ k) :
    DS (fun i => Z i ∨ v'.ownBlock = some i) (w6.setCell ⟨p, 2, none⟩ v') p bs bh n v' S H Q' f o ∧ Off Z w (w6.setCell ⟨p, 2, none⟩ v') := by
  have hp := h.zlt p h.zp
  have hnp : ¬ v.ownBlock = some p := fun e => (h.pw p e).1 rfl
  have hns : ¬ v.ownBlock = some bs := fun e => (h.pw bs e).2.1 rfl
  have hnh : ¬ v.ownBlock = some bh := fun e => (h.pw bh e).2.2 rfl
  have hc : ∀ j, w6.cell? ⟨p, j, none⟩ = w.cell? ⟨p, j, none⟩ := fun j => ho.cell (p := ⟨p, j, none⟩) hp hnp
  have hc2 : ∀ k, (w6.setCell ⟨p, 2, none⟩ v').cell? ⟨p, k, none⟩ = if k = 2 then some v' else w6.cell? ⟨p, k, none⟩ := fun k => box_set (u := v') ((hc 2).trans h.c2) k
  have hpw : ∀ b, v'.ownBlock = some b → b ≠ p ∧ b ≠ bs ∧ b ≠ bh := fun b hb => by
    rcases hw with e | ⟨k, e, hk⟩
    · exact h.pw b (e ▸ hb)
    · rw [e] at hb
      injection hb with hb
      subst hb
      have h1 := h.zlt bs h.zs
      have h2 := h.zlt bh h.zh
      omega
  have hrs := h.rs.off ho (fun b hb e => hns (own_is hb ▸ e))
  have hrh := h.rh.off ho (fun b hb e => hnh (own_is hb ▸ e))
  refine ⟨⟨fun i hi => ?_, .inl h.zp, .inl h.zs, .inl h.zh, fun b hb => .inr hb, h.ps, h.ph, h.sh, hpw, by rw [hc2, if_neg (by omega), hc]; exact h.c0, by rw [hc2, if_neg (by omega), hc]; exact h.c1, by rw [hc2]; rfl, by rw [hc2, if_neg (by omega), hc]; exact h.c3, by rw [hc2, if_neg (by omega), hc]; exact h.c4,
    fun j hj => by rw [World.frozen?_setCell]; exact (ho.frozen (p := ⟨p, j, none⟩) hp hnp).trans (h.fz j hj), hrs.setOther (fun e => h.ps (own_is e).symm) _, hrh.setOther (fun e => h.ph (own_is e).symm) _, hr.setOther (fun e => (hpw p e).1 rfl) _⟩,
    (ho.mono fun i hi => h.zv i hi).setCell (p := ⟨p, 2, none⟩) (.inr h.zp) _⟩
  show i < (w6.setCell ⟨p, 2, none⟩ v').heap.size
  simp only [World.setCell, Array.size_modify]
  rcases hi with hi | hi
  · exact Nat.lt_of_lt_of_le (h.zlt i hi) ho.size
  · exact (hr.lt i hi).2
end
theorem oneQ {i : Int} {s : ByteArray} : ∀ u ∈ [Value.int .i64 i, Value.string s], u.oneCell' = true := by
  intro u hu
  simp only [List.mem_cons, List.not_mem_nil, or_false] at hu
  rcases hu with rfl | rfl <;> rfl
set_option maxHeartbeats 4000000 in
set_option maxRecDepth 100000 in
theorem swrite_any {Z : Nat → Prop} {p : Nat} {D : Dk} (i : Int) (s : ByteArray) (w : World) (h : DX Z w p D) (hl : D.pend.length ≤ 1000000) (hs9 : s.size ≤ 140737488355328) : Calls Tryz.prog 54 #[.pointer (some ⟨p, 0, none⟩), .int .i64 i, .string s] w fun e w' => e = .returned (errS (writeD D i s).2) ∧ DPost Z w p (writeD D i s).1 w' := by
  obtain ⟨bs, bh, v, h⟩ := h
  have hok2 := write_ok h.ok i s
  have SO := Lib.hid (soff_any p D.off w h.c4)
  by_cases ho : D.off = true
  · have e : writeD D i s = (D, 20) := by unfold writeD; rw [if_pos ho]
    rw [e]
    rw [ho] at SO
    have H := Lib.hid (show DPost Z w p D w from ⟨Z, ⟨bs, bh, v, h⟩, Off.refl _ _, fun i hi => .inl hi⟩)
    clear h ho hok2 e
    go_enter Tryz.func54, Tryz.ntmps54
    go_wp2_with fail
    refine SO.out.mono ?_
    rintro e w2 ⟨rfl, rfl⟩
    go_wp2_with fail
    go_ret
    exact ⟨rfl, H.out⟩
  have hof : D.off = false := by simpa using ho
  rw [hof] at SO
  have SH := Lib.hid (shas_any p bs D.sure.length D.sure.length i w h.c0)
  by_cases hi : i < 0 ∨ (D.sure.length : Int) ≤ i
  · have e : writeD D i s = (D, 1) := by unfold writeD; rw [if_neg ho, if_pos (by omega)]
    rw [e]
    rw [decide_eq_false (by omega)] at SH
    have H := Lib.hid (show DPost Z w p D w from ⟨Z, ⟨bs, bh, v, h⟩, Off.refl _ _, fun i hi => .inl hi⟩)
    clear h ho hok2 e hof hi
    go_enter Tryz.func54, Tryz.ntmps54
    go_wp2_with fail
    refine SO.out.mono ?_
    rintro e w2 ⟨rfl, rfl⟩
    go_wp2_with fail
    refine SH.out.mono ?_
    rintro e w2 ⟨rfl, rfl⟩
    go_wp2_with fail
    go_ret
    exact ⟨rfl, H.out⟩
  rw [decide_eq_true (by omega)] at SH
  by_cases hs5 : 512 < s.size
  · have e : writeD D i s = (D, 1) := by unfold writeD; rw [if_neg ho, if_pos (by omega)]
    rw [e]
    have hsI : decide ((512 : Int) < (s.size : Int)) = true := decide_eq_true (by omega)
    have H := Lib.hid (show DPost Z w p D w from ⟨Z, ⟨bs, bh, v, h⟩, Off.refl _ _, fun i hi => .inl hi⟩)
    clear h ho hok2 e hof hi
    go_enter Tryz.func54, Tryz.ntmps54
    go_wp2_with fail
    refine SO.out.mono ?_
    rintro e w2 ⟨rfl, rfl⟩
    go_wp2_with fail
    refine SH.out.mono ?_
    rintro e w2 ⟨rfl, rfl⟩
    go_wp2_with fail
    go_ret
    exact ⟨rfl, H.out⟩
  have hsI : decide ((512 : Int) < (s.size : Int)) = false := decide_eq_false (by omega)
  have ST := Lib.hid (sstep_any w h)
  by_cases hf : D.fuel = 0
  · have e : writeD D i s = ({ D with off := true }, 20) := by unfold writeD; rw [if_neg ho, if_neg (by omega), if_pos hf]
    rw [e]
    rw [if_pos hf, if_pos hf] at ST
    have E20 : errS 20 = .iface 55 (.int .i64 20) := rfl
    rw [E20] at ST
    clear h ho hok2 e hf hof hi
    go_enter Tryz.func54, Tryz.ntmps54
    go_wp2_with fail
    refine SO.out.mono ?_
    rintro e w2 ⟨rfl, rfl⟩
    go_wp2_with fail
    refine SH.out.mono ?_
    rintro e w2 ⟨rfl, rfl⟩
    go_wp2_with fail
    refine ST.out.mono ?_
    rintro e w3 ⟨rfl, hd, ho⟩
    have H := Lib.hid (show DPost Z w2 p { D with off := true } w3 from ⟨Z, ⟨bs, bh, v, hd⟩, ho, fun i hi => .inl hi⟩)
    clear hd ho
    go_wp2_with fail
    go_ret
    exact ⟨rfl, H.out⟩
  obtain ⟨k, rfl⟩ : ∃ k : Nat, i = (k : Int) := ⟨i.toNat, by omega⟩
  have e : writeD D (k : Int) s = ({ D with fuel := stepF D.fuel, pend := D.pend ++ [(k, s)] }, 0) := by unfold writeD; rw [if_neg ho, if_neg (by omega), if_neg hf, Int.toNat_natCast]
  rw [e] at hok2 ⊢
  rw [if_neg hf, if_neg hf] at ST
  have E0 : errS 0 = .nilIface := rfl
  rw [E0] at ST
  obtain ⟨n, hn⟩ : ∃ n, n = D.sure.length := ⟨_, rfl⟩
  have hkn : k < n := by omega
  have hkI : (k : Int) < (n : Int) := by omega
  have hn9 : n ≤ 4096 := by rw [hn]; exact h.ok.n2
  have hs512 : s.size ≤ 512 := by omega
  have HNN := Lib.hid hn
  have HOK := Lib.hid hok2
  have HOF := Lib.hid hof
  have CL := Lib.hid (fun W => sclone_any s W (by omega))
  clear h ho hok2 e hf hof hi hn hs5
  go_enter Tryz.func54, Tryz.ntmps54
  go_wp2_with fail
  refine SO.out.mono ?_
  rintro e w2 ⟨rfl, rfl⟩
  go_wp2_with fail
  refine SH.out.mono ?_
  rintro e w2 ⟨rfl, rfl⟩
  go_wp2_with fail
  refine ST.out.mono ?_
  rintro e w3 ⟨rfl, hd, ho⟩
  have HD3 : Hid (DS Z w3 p bs bh D.sure.length v D.sure D.shown D.pend (stepF D.fuel) D.off) := Lib.hid hd.raw
  have HO3 := Lib.hid ho
  clear hd ho
  go_wp2_with fail
  refine (CL.out _).mono ?_
  rintro e w4 ⟨rfl, hb4⟩
  obtain ⟨m, hm⟩ : ∃ m, m = D.pend.length := ⟨_, rfl⟩
  rw [← hm] at hl
  obtain ⟨z, hz⟩ : ∃ z, z = w4.heap.size := ⟨_, rfl⟩
  obtain ⟨w5, hw5⟩ : ∃ w5, w5 = w4.alloc (.cells #[.int .i64 (k : Int), .string s] 112) := ⟨_, rfl⟩
  have hb5 : Below w4.heap.size w4 w5 := by rw [hw5]; exact (Below.refl _ _).alloc (Nat.le_refl _) _
  have z0 : w5.cell? ⟨z, 0, none⟩ = some (.int .i64 (k : Int)) := by rw [hw5, hz, World.cell?_alloc_at _ _ _ _ rfl]; rfl
  have z1 : w5.cell? ⟨z, 1, none⟩ = some (.string s) := by rw [hw5, hz, World.cell?_alloc_at _ _ _ _ rfl]; rfl
  have hzl : z < w5.heap.size := by rw [hw5, hz]; simp
  have hb35 := hb4.trans (hb5.mono hb4.size)
  have hd5 := HD3.out.below hb35
  have hzZ : ¬ Z z := fun e => by have := (HD3.out.below hb4).zlt z e; omega
  have HO5 := Lib.hid (HO3.out.trans (Off.of_below hb35))
  obtain ⟨va, vc, hv⟩ := hd5.rp.form
  rw [← hm] at hv
  subst hv
  have hrp := hd5.rp
  rw [← hm] at hrp
  have c2 := hd5.c2
  have HD5 := Lib.hid hd5
  have HWZ := Lib.hid hw5
  have HHZ := Lib.hid hz
  have HMM := Lib.hid hm
  have hnz : ¬ (Value.slice va m vc).ownBlock = some p := fun e => (hd5.pw p e).1 rfl
  have hpl : p < w5.heap.size := hd5.zlt p hd5.zp
  obtain ⟨wy, hwy⟩ : ∃ wy, wy = (w5.alloc (.cells #[.int .i64 (k : Int), .string s] 112)).drew := ⟨_, rfl⟩
  have hoy : Off (fun _ => False) w5 wy := by rw [hwy]; exact ((Off.refl _ w5).alloc _).drew
  have hszy : w5.heap.size ≤ wy.heap.size := hoy.size
  have HR2 : Hid (Row 2 0 (w5.alloc (.cells #[.int .i64 (k : Int), .string s] 112)).drew (.slice va m vc) m (pv D.pend)) := Lib.hid ((hrp.alloc _).drew)
  have HSR : Hid (Src Tryz.prog 2 57 (.slice (some ⟨w5.heap.size, 0, none⟩) 1 1) 1 [.int .i64 (k : Int), .string s] (w5.alloc (.cells #[.int .i64 (k : Int), .string s] 112)).drew) := Lib.hid (by
    refine Src.ofSlice _ Tryz.underlying57 _ 1 1 [.int .i64 (k : Int), .string s] rfl (fun j u hj => ?_) oneQ
    have e2 : (⟨w5.heap.size, 0, none⟩ : Addr).add j = ⟨w5.heap.size, j, none⟩ := by unfold Addr.add; split <;> simp_all
    rw [e2]
    show (w5.alloc (.cells #[.int .i64 (k : Int), .string s] 112)).cell? _ = _
    rw [World.cell?_alloc_at _ _ _ _ rfl]
    simpa using hj)
  have hn2 : m + 1 ≤ 1099511627776 := by omega
  have HK1 : Hid (∀ w6, Off (fun i => (Value.slice va m vc).ownBlock = some i) (w5.alloc (.cells #[.int .i64 (k : Int), .string s] 112)).drew w6 → w6.cell? ⟨p, 2, none⟩ = some (.slice va m vc)) := Lib.hid fun w6 ho6 => by
    rw [← hwy] at ho6
    exact (ho6.cell (p := ⟨p, 2, none⟩) (Nat.lt_of_lt_of_le hpl hszy) hnz).trans ((hoy.cell (p := ⟨p, 2, none⟩) hpl (fun h => h)).trans c2)
  have hf2 := hd5.fz 2 (by omega)
  have HK2 : Hid (∀ w6, Off (fun i => (Value.slice va m vc).ownBlock = some i) (w5.alloc (.cells #[.int .i64 (k : Int), .string s] 112)).drew w6 → w6.frozen? ⟨p, 2, none⟩ = false) := Lib.hid fun w6 ho6 => by
    rw [← hwy] at ho6
    exact (ho6.frozen (p := ⟨p, 2, none⟩) (Nat.lt_of_lt_of_le hpl hszy) hnz).trans ((hoy.frozen (p := ⟨p, 2, none⟩) hpl (fun h => h)).trans hf2)
  have HOY : Hid (Off (fun _ => False) w5 (w5.alloc (.cells #[.int .i64 (k : Int), .string s] 112)).drew) := Lib.hid (hwy ▸ hoy)
  have HB0 : Hid (0 ≤ (w5.alloc (.cells #[.int .i64 (k : Int), .string s] 112)).drew.heap.size) := Lib.hid (Nat.zero_le _)
  have HZL := Lib.hid hzl
  have HZZ := Lib.hid hzZ
  clear hb4 hb5 hd5 hrp hw5 hm hz hwy hoy hszy hb35 hnz hzl hzZ wy
  go_wp2_with fail
  rw [← HWZ.out, ← HHZ.out]
  go_region_law (refine step_append_row rfl (.tmp 35) (.tmp 37) 57 57 rfl 2 112 (.agg #[.int .i64 0, .string ByteArray.empty]) 24 Tryz.underlying57 infoSW rfl 0 (.slice va m vc) m (pv D.pend) (by simp [Act.eval]) HR2.out (.slice (some ⟨w5.heap.size, 0, none⟩) 1 1) (by simp [Act.eval]) 1 [.int .i64 (k : Int), .string s] HSR.out HB0.out hn2 (by decide) ?_; intro v6 w6 hr6 ho6 hw6; have k1 := HK1.out w6 ho6; have k2 := HK2.out w6 ho6; obtain ⟨a6, c6, hv6⟩ := hr6.form; subst hv6)
  all_goals
    have hy := HD5.out.off HOY.out (fun _ _ h => h)
    have hr7 : Row 2 0 w6 (.slice a6 (m + 1) c6) (D.pend ++ [(k, s)]).length (pv (D.pend ++ [(k, s)])) := by
      rw [pv_app, List.length_append, List.length_singleton, ← HMM.out]
      exact hr6
    obtain ⟨hd7, ho7⟩ := hy.push ho6 hr7 (hw6.imp id fun h => ⟨_, h, Nat.le_refl _⟩)
    have ho57 := (HOY.out.mono (Z' := Z) (fun _ h => h.elim)).trans ho7
    have HO7 := Lib.hid ho57
    have HD7 := Lib.hid hd7
    have c1 := hd7.c1
    have z17 := (ho57.cell (p := ⟨z, 1, none⟩) HZL.out HZZ.out).trans z1
    rw [← HNN.out] at c1
    obtain ⟨s0, hs0⟩ : ∃ s0, D.shown[k]? = some s0 := ⟨D.shown[k]'(by rw [D.shown_len, ← HNN.out]; exact hkn), by simp⟩
    obtain ⟨xh, fh, _⟩ := hd7.rh.cellF (sv_at hs0)
    have hd8 := hd7.setShown (i := k) (by rw [D.shown_len, ← HNN.out]; exact hkn) s
    have hsh : D.shown.set k s = sk allK D.sure (D.pend ++ [(k, s)]) (D.pend ++ [(k, s)]).length := (shown_push D.sure D.pend (k, s)).symm
    rw [hsh] at hd8
    have HDM := Lib.hid (hd8.dm (D := { D with fuel := stepF D.fuel, pend := D.pend ++ [(k, s)] }) rfl rfl rfl rfl rfl rfl HOK.out)
    have HO8 := Lib.hid ((HO5.out.trans ho57).setCell (p := ⟨bh, k, none⟩) (.inr HD5.out.zh) (.string s))
    have hs35 : w2.heap.size ≤ w5.heap.size := HO5.out.size
    have HNEW : Hid (∀ i, (Z i ∨ (Value.slice a6 (m + 1) c6).ownBlock = some i) → Z i ∨ w2.heap.size ≤ i) := Lib.hid (fun i hi => by
      rcases hi with hi | hi
      · exact .inl hi
      · rcases hw6 with e | e
        · exact .inl (HD5.out.zv i (e ▸ hi))
        · rw [e] at hi
          injection hi with hi
          have := HOY.out.size
          exact .inr (by omega))
    obtain ⟨w7, hw7⟩ : ∃ w7, w7 = w6.setCell ⟨p, 2, none⟩ (.slice a6 (m + 1) c6) := ⟨_, rfl⟩
    rw [← hw7] at c1 z17 xh fh HDM HO8
    have HW7 := Lib.hid hw7
    clear hd7 hd8 ho7 ho57 hy hr7 hs0 hsh hw7 k1 k2 hr6 ho6 hw6 z0 z1 c2 hf2
    go_wp2_with fail
    rw [← HW7.out]
    go_region
    go_wp2_with fail
    go_ret
    exact ⟨rfl, ⟨_, ⟨bs, bh, _, HDM.out.drew⟩, HO8.out.drew, HNEW.out⟩⟩
end Go.Proofs.YthamfbfeokmhgaaGreatDoor
