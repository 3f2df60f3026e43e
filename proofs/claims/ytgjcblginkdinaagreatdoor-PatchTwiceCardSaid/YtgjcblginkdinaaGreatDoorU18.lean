/- The contract of the reader's list. The contract of the reader's form. -/
import Derived.Test.YtgjcblginkdinaaGreatDoorShelf
import Derived.Test.YtgjcblginkdinaaGreatDoorU13
import Derived.Test.YtgjcblginkdinaaGreatDoorU16
set_option linter.unusedVariables false
namespace Go.Proofs.YtgjcblginkdinaaGreatDoor
open Go.ChangeShapes Go.WideShapes Go.ChangeAt Go.RowKit

def FormC (s : ByteArray) (d : Nat) : Prop := ∀ (br q : Nat) (wz : World), Rd br wz s q → q ≤ s.size → Calls Tryz.prog 80 #[.pointer (some ⟨br, 0, none⟩), .int .i64 (d : Nat)] wz (ReadP d (s.data.toList.drop q) br s wz)

theorem fm_len {d : Nat} {L R : List UInt8} {T : Tm} (h : IsF d L T R) : R.length < L.length := by
  obtain ⟨c, r, e, _⟩ := Tm.head T
  rw [h.2.2, e, List.length_append, List.length_cons]
  omega

theorem Rd.off {Z : Nat → Prop} {br : Nat} {w w' : World} {s : ByteArray} {p : Nat} (h : Rd br w s p) (ho : Off Z w w') (hz : ¬ Z br) : Rd br w' s p :=
  ⟨(ho.cell (p := ⟨br, 0, none⟩) (cell_lt h.text) hz).trans h.text, (ho.cell (p := ⟨br, 1, none⟩) (cell_lt h.at_) hz).trans h.at_, (ho.frozen (p := ⟨br, 1, none⟩) (cell_lt h.at_) hz).trans h.free⟩
theorem Tm.length_le_bytess (xs : List Tm) : xs.length ≤ (Tm.bytess xs).length := by
  induction xs with
  | nil => simp
  | cons x r ih =>
    obtain ⟨c, q, e, _⟩ := Tm.head x
    simp only [Tm.bytess, List.length_cons, List.length_append, e]
    omega

theorem off_start (br : Nat) (w : World) (u : Value) (o : Obj) (h : br < w.heap.size) : Off (· = br) (w.alloc o) ((w.setCell ⟨br, 1, none⟩ u).alloc o) := by
  have hs : (w.setCell ⟨br, 1, none⟩ u).heap.size = w.heap.size := by simp [World.setCell]
  refine ⟨rfl, rfl, rfl, by simp [World.setCell], fun i hi hn => ?_⟩
  have hi' : i < w.heap.size + 1 := by simpa using hi
  show ((w.setCell ⟨br, 1, none⟩ u).heap.push o)[i]? = (w.heap.push o)[i]?
  rw [Array.getElem?_push, Array.getElem?_push, hs]
  split
  · rfl
  · exact Below.heap_setCell _ _ _ _ hn

set_option maxHeartbeats 4000000 in
set_option maxRecDepth 100000 in
theorem rdlist_any (br : Nat) (s : ByteArray) (p d : Nat) (w : World) (L1 : List UInt8) (h : Rd br w s p) (hs : s.size ≤ 100000) (hd : d ≤ 8) (hfirst : s.data.toList.drop p = 40 :: L1) (hform : d < 8 → FormC s (d + 1)) :
    Calls Tryz.prog 116 #[.pointer (some ⟨br, 0, none⟩), .int .i64 (d : Nat)] w (ReadP d (40 :: L1) br s w) := by
  have hbr := cell_lt h.text
  have hbrn : ¬ w.heap.size = br := by omega
  have hps : p < s.size := by
    have := congrArg List.length hfirst
    rw [List.length_drop, ba_len, List.length_cons] at this
    omega
  have hd1 : s.data.toList.drop (p + 1) = L1 := by rw [← List.drop_drop, hfirst]; rfl
  obtain ⟨r1, r2, r3⟩ := h
  have HRD := Lib.hid (Rd.mk r1 r2 r3)
  have HD1 := Lib.hid hd1
  have HFC := Lib.hid hform
  clear hfirst hd1 hform
  by_cases hd8 : d = 8
  · subst hd8
    have hno : ∀ T R, ¬ IsF 8 (40 :: L1) T R := fun T R => isF_deep T R
    have HNO := Lib.hid hno
    clear hno
    go_enter Tryz.func116, Tryz.ntmps116
    go_wp2_with fail
    refine bodyPost_ret (v := .tuple #[fz, .bool false]) (by simp [results, Tryz.results116, go_sem]) rfl ⟨?_, .inr ⟨rfl, HNO.out⟩⟩
    exact (Off.refl _ _).alloc _
  · have hd7 : ((d : Int) == 8) = false := by rw [beq_eq_false_iff_ne]; omega
    have hp1 : (p : Int) + 1 ≤ 9223372036854775807 := by omega
    have HD8 := Lib.hid hd8
    clear hd8
    go_enter Tryz.func116, Tryz.ntmps116
    go_wp2_with fail
    have hst : Rd br ((w.setCell ⟨br, 1, none⟩ (.int .i64 ((p : Int) + 1))).alloc (.cells #[.bool false, .string ⟨#[]⟩, .slice none 0 0] 61)) s (p + 1) := by
      have e := HRD.out.set (p + 1)
      exact e.below ((Below.refl _ _).alloc (Nat.le_refl _) _)
    have HST := Lib.hid hst
    clear hst
    clear r1 r2 r3
    go_loopw [6] (fun v wr => ∃ (q : Nat) (es : List FE) (Lk : List UInt8), q ≤ s.size ∧ s.data.toList.drop q = Lk ∧ Items d L1 (es.map FE.tm) Lk ∧ Made (w.heap.size + 1) wr v es ∧ Rd br wr s q ∧ Off (· = br) (w.alloc (.cells #[.bool false, .string ⟨#[]⟩, .slice none 0 0] 61)) wr) (fun _ wr => s.size - (intOf ((wr.cell? ⟨br, 1, none⟩).getD .nilIface)).toNat)
    case atStart => exact ⟨p + 1, [], L1, hps, HD1.out, Items.start (by have := HD8.out; omega), Made.nil _ _, HST.out, off_start _ _ _ _ hbr⟩
    case round =>
      obtain ⟨q, es, Lk, hq, hLk, hit, hmd, hrd, hoff⟩ := hrel
      obtain ⟨x, hx⟩ : ∃ x, x = nx Lk := ⟨_, rfl⟩
      have hc : ∀ wz, Rd br wz s q → Calls Tryz.prog 115 #[.pointer (some ⟨br, 0, none⟩)] wz fun e w' => e = .returned (.int .u8 x) ∧ ∃ n, w' = wz.drewN n := fun wz hz => by
        have := next_any br s q wz hz (by omega) (by omega)
        rw [hLk, ← hx] at this
        exact this
      obtain ⟨r1, r2, r3⟩ := hrd
      obtain ⟨⟨z1, z2, z3⟩, zf, zl⟩ := cells3_off hoff hbrn
      have zf0 := zf 0
      have zf1 := zf 1
      have zf2 := zf 2
      obtain ⟨a0, c0, hv⟩ := hmd.row.form
      obtain ⟨n, hn⟩ : ∃ n, n = es.length := ⟨_, rfl⟩
      rw [← hn] at hv
      subst hv
      have HC := Lib.hid hc
      have HX := Lib.hid hx
      have HLK := Lib.hid hLk
      have HIT := Lib.hid hit
      have HM := Lib.hid hmd
      have HR := Lib.hid (Rd.mk r1 r2 r3)
      have HO := Lib.hid hoff
      have HN := Lib.hid hn
      have HZL := Lib.hid zl
      clear hc hx hLk hit hmd hoff zf hn
      by_cases h41 : x = 41
      · have hxc : (x != 41) = false := by rw [bne_eq_false_iff_eq]; exact h41
        have hLk : ∃ r, Lk = 41 :: r := by
          have e := HX.out
          cases e1 : Lk with
          | nil => rw [e1] at e; simp [nx] at e; omega
          | cons c r =>
            rw [e1] at e
            refine ⟨r, ?_⟩
            have : (c.toNat : Int) = 41 := by rw [← h41]; exact e.symm
            have hc : c = 41 := by
              apply UInt8.toNat.inj
              show c.toNat = 41
              omega
            rw [hc]
        obtain ⟨R, hR⟩ := hLk
        have hqs : q < s.size := by
          have h3 := congrArg List.length HLK.out
          rw [List.length_drop, ba_len, hR, List.length_cons] at h3
          omega
        have hdq : s.data.toList.drop (q + 1) = R := by rw [← List.drop_drop, HLK.out, hR]; rfl
        have hfin : IsF d (40 :: L1) (.mk true noText (es.map FE.tm)) R := by
          have := HIT.out
          rw [hR] at this
          exact this.done
        have hsl : SlL (fun i => w.heap.size + 1 ≤ i) wr (.slice a0 n c0) (es.map FE.tm) := HM.out.sl fun i h => h
        have hnl : n = (es.map FE.tm).length := by rw [List.length_map]; exact HN.out
        have HDQ := Lib.hid hdq
        have HFIN := Lib.hid hfin
        have HSL := Lib.hid hsl
        have HNL := Lib.hid hnl
        have hq1 : (q : Int) + 1 ≤ 9223372036854775807 := by omega
        clear hR h41 hdq hfin hsl hnl
        go_wp2_with fail
        refine (HC.out _ HR.out).mono ?_
        rintro e w2 ⟨rfl, n2, rfl⟩
        go_wp2_with fail
        refine bodyPost_ret (v := .tuple #[fv true noText (.slice a0 n c0), .bool true]) (by simp [results, Tryz.results116, go_sem, z1, z2, z3]) rfl ⟨?_, .inl ⟨true, noText, es.map FE.tm, a0, c0, q + 1, R, by rw [← HNL.out], HFIN.out, hqs, HDQ.out, ?_, by decide, ?_⟩⟩
        · exact (((((((Off.refl _ _).alloc _).trans HO.out).drewN).setCell (.inr rfl) _).setCell (.inl (Nat.le_refl _)) _).setCell (.inl (Nat.le_refl _)) _).setCell (.inl (Nat.le_refl _)) _
        · exact ((((HR.out.drewN (n := n2)).set (q + 1)).setOther hbrn _).setOther hbrn _).setOther hbrn _
        · have hfo : Off (fun i => i = br ∨ i = w.heap.size) wr (((((wr.drewN n2).setCell ⟨br, 1, none⟩ (.int .i64 ((q : Int) + 1))).setCell ⟨w.heap.size, 0, none⟩ (.bool true)).setCell ⟨w.heap.size, 1, none⟩ (.string ⟨#[]⟩)).setCell ⟨w.heap.size, 2, none⟩ (.slice a0 n c0)) :=
            ((((Off.refl _ _).drewN.setCell (p := ⟨br, 1, none⟩) (.inr (.inl rfl)) _).setCell (p := ⟨w.heap.size, 0, none⟩) (.inr (.inr rfl)) _).setCell (p := ⟨w.heap.size, 1, none⟩) (.inr (.inr rfl)) _).setCell (p := ⟨w.heap.size, 2, none⟩) (.inr (.inr rfl)) _
          have := (HSL.out.off hfo fun i hi h => by rcases h with h | h <;> omega).mono (Z' := fun i => w.heap.size ≤ i) fun i _ hi => by omega
          rw [← HNL.out]
          exact this
      · have hxc : (x != 41) = true := by rw [bne_iff_ne]; exact h41
        have hno41 : ∀ R, Lk ≠ 41 :: R := fun R e => h41 (by have := HX.out; rw [e] at this; exact this)
        have HNO41 := Lib.hid hno41
        clear hno41 h41
        go_wp2_with fail
        refine (HC.out _ HR.out).mono ?_
        rintro e w2 ⟨rfl, n2, rfl⟩
        go_wp2_with fail
        refine (HFC.out (by have := HD8.out; omega) br q _ HR.out.drewN hq).mono ?_
        rintro e w3 ⟨hoff3, hcase⟩
        rw [HLK.out] at hcase
        have ho3 : Off (· = br) (w.alloc (.cells #[.bool false, .string ⟨#[]⟩, .slice none 0 0] 61)) w3 := HO.out.drewN.trans hoff3
        have HO3 := Lib.hid ho3
        have HOF3 := Lib.hid hoff3
        clear z1 z2 z3 zf0 zf1 zf2 zl
        obtain ⟨⟨z1, z2, z3⟩, zf, zl⟩ := cells3_off ho3 hbrn
        have zf0 := zf 0
        have zf1 := zf 1
        have zf2 := zf 2
        clear ho3 zf hoff3
        rcases hcase with ⟨l1, t1, xs1, a1, c1, q3, R3, rfl, hF3, hq3, hR3, hrd3, hts3, hsl3⟩ | ⟨rfl, hno⟩
        · have HF3 := Lib.hid hF3
          have HQ3 := Lib.hid hR3
          have HR3 := Lib.hid hrd3
          have HSL3 := Lib.hid hsl3
          obtain ⟨m1, hm1⟩ : ∃ m, m = xs1.length := ⟨_, rfl⟩
          have HM1 := Lib.hid hm1
          rw [← hm1]
          clear hF3 hR3 hrd3 hsl3 hm1
          have hrow : Row 3 (w.heap.size + 1) w3 (.slice a0 n c0) n (fcells es) := by
            have := ((HM.out.below (w' := wr.drewN n2) (Below.drewN (Below.refl _ _))).off HOF3.out (fun i hi => by have : i = br := hi; omega)).row
            rw [← HN.out] at this
            exact this
          have HROW := Lib.hid hrow
          have hsrc : Src Tryz.prog 3 59 (.slice (some ⟨w3.heap.size + 1, 0, none⟩) 1 1) 1 [.bool l1, .string t1, .slice a1 m1 c1] ((w3.alloc (.cells #[.bool l1, .string t1, .slice a1 m1 c1] 61)).alloc (.cells #[.bool l1, .string t1, .slice a1 m1 c1] 61)) := by
            have := src_new (P := Tryz.prog) (w := w3.alloc (.cells #[.bool l1, .string t1, .slice a1 m1 c1] 61)) (k := 3) Tryz.underlying59 [.bool l1, .string t1, .slice a1 m1 c1] 1 61 1 rfl (by intro u hu; simp only [List.mem_cons, List.not_mem_nil, or_false] at hu; rcases hu with rfl | rfl | rfl <;> rfl)
            simpa using this
          have HSRC := Lib.hid hsrc
          have hes : n ≤ 100000 := by
            have h2 := congrArg List.length HIT.out.eq
            have h3 := Tm.length_le_bytess (es.map FE.tm)
            have h4 := congrArg List.length HD1.out
            rw [List.length_map, ← HN.out] at h3
            rw [List.length_append] at h2
            rw [List.length_drop, ba_len] at h4
            omega
          clear hrow hsrc
          go_wp2_with (at_builtin; refine wpList_append_row rfl (.tmp 32) (.tmp 34) 59 59 rfl 3 61 (.agg #[.bool false, .string ByteArray.empty, .slice none 0 0]) 48 Tryz.underlying59 Tryz.infoForm rfl (w.heap.size + 1) (.slice a0 n c0) n (fcells es) (by simp [Act.eval]) (by exact (HROW.out.alloc _).alloc _) (.slice (some ⟨w3.heap.size + 1, 0, none⟩) 1 1) (by simp [Act.eval]) 1 [.bool l1, .string t1, .slice a1 m1 c1] (by exact HSRC.out) (by simp; omega) (by omega) (by decide) ?_; intro v6 w6 hr6 ho6 hw6; have HR6 := Lib.hid hr6; have HO6 := Lib.hid ho6; have HW6 := Lib.hid hw6; clear hr6 ho6 hw6)
          have hmd3 : Made (w.heap.size + 1) w3 (.slice a0 n c0) es := (HM.out.below (w' := wr.drewN n2) (Below.drewN (Below.refl _ _))).off HOF3.out (fun i hi => by have : i = br := hi; omega)
          have hal : ∀ o1 o2, Below w3.heap.size w3 ((w3.alloc o1).alloc o2) := fun o1 o2 => ((Below.refl _ _).alloc (Nat.le_refl _) _).alloc (by simp) _
          have hown : ∀ b, (Value.slice a0 n c0).ownBlock = some b → w.heap.size + 1 ≤ b ∧ b < wr.heap.size := HM.out.row.lt
          have hsl : SlL (fun i => w.heap.size + 1 ≤ i ∧ (Value.slice a0 n c0).ownBlock ≠ some i) w3 (.slice a1 m1 c1) xs1 := by
            have := HSL3.out
            rw [← HM1.out] at this
            refine this.mono fun i _ hi => ⟨?_, fun e => ?_⟩
            · have h1 : wr.heap.size ≤ i := hi
              have h2 := HZL.out
              omega
            · have h1 : wr.heap.size ≤ i := hi
              have h2 := (hown i e).2
              omega
          have hcell6 : Rd br w6 s q3 := (HR3.out.below (hal _ _)).off HO6.out (fun e => by have := (hown br e).1; omega)
          refine ⟨⟨q3, es ++ [(l1, t1, xs1, .slice a1 m1 c1)], R3, hq3, HQ3.out, ?_, ?_, hcell6, ?_⟩, ?_⟩
          · rw [List.map_append]
            exact HIT.out.next HF3.out
          · refine (hmd3.below (hal _ _)).push (hsl.keep (hal _ _)) hts3 ?_ HO6.out HW6.out
            have := HR6.out
            rw [HN.out] at this
            exact this
          · refine ((HO3.out.alloc _).alloc _).trans' HO6.out fun i hi e => ?_
            have h1 := (hown i e).1
            have h2 : i < w.heap.size + 1 := by simpa using hi
            omega
          · rw [hcell6.at_, HR.out.at_]
            have h1 := fm_len HF3.out
            have h2 := congrArg List.length HQ3.out
            have h3 := congrArg List.length HLK.out
            rw [List.length_drop, ba_len] at h2 h3
            simp [intOf]
            omega
        · have hnf := HIT.out.fail HNO41.out hno
          have HNF := Lib.hid hnf
          clear hnf hno
          go_wp2_with fail
          refine bodyPost_ret (v := .tuple #[fz, .bool false]) (by simp [results, Tryz.results116, go_sem, z1, z2, z3, zl]) rfl ⟨?_, .inr ⟨rfl, HNF.out⟩⟩
          exact ((((((Off.refl _ _).alloc _).trans HO3.out).setCell (.inl (Nat.le_refl _)) _).setCell (.inl (Nat.le_refl _)) _).setCell (.inl (Nat.le_refl _)) _).alloc _
end Go.Proofs.YtgjcblginkdinaaGreatDoor
set_option linter.unusedVariables false
namespace Go.Proofs.YtgjcblginkdinaaGreatDoor
open Go.ChangeShapes Go.WideShapes Go.ChangeAt Go.RowKit

theorem read_wrap {d : Nat} {L : List UInt8} {br : Nat} {s : ByteArray} {w w1 w2 : World} {e : Ending} (h : ReadP d L br s w1 e w2) (ho : Off (· = br) w w1) (hs : w.heap.size < w1.heap.size) (hbr : ¬ w.heap.size = br) (u0 u1 u2 : Value) :
    ReadP d L br s w e (((w2.setCell ⟨w.heap.size, 0, none⟩ u0).setCell ⟨w.heap.size, 1, none⟩ u1).setCell ⟨w.heap.size, 2, none⟩ u2) := by
  obtain ⟨h1, h2⟩ := h
  refine ⟨((((ho.trans h1).setCell (.inl (Nat.le_refl _)) _).setCell (.inl (Nat.le_refl _)) _).setCell (.inl (Nat.le_refl _)) _), ?_⟩
  rcases h2 with ⟨l, t, xs, a, c, q, R, g1, g2, g3, g4, g5, g6, g7⟩ | h2
  · refine .inl ⟨l, t, xs, a, c, q, R, g1, g2, g3, g4, ((g5.setOther hbr _).setOther hbr _).setOther hbr _, g6, ?_⟩
    have hfo : Off (fun i => i = w.heap.size) w2 (((w2.setCell ⟨w.heap.size, 0, none⟩ u0).setCell ⟨w.heap.size, 1, none⟩ u1).setCell ⟨w.heap.size, 2, none⟩ u2) :=
      (((Off.refl (fun i => i = w.heap.size) w2).setCell (p := ⟨w.heap.size, 0, none⟩) (.inr rfl) _).setCell (p := ⟨w.heap.size, 1, none⟩) (.inr rfl) _).setCell (p := ⟨w.heap.size, 2, none⟩) (.inr rfl) _
    exact (g7.off hfo fun i hi h => by omega).mono fun i _ hi => by omega
  · exact .inr h2

set_option maxHeartbeats 4000000 in
set_option maxRecDepth 100000 in
theorem rdform_step (br : Nat) (s : ByteArray) (p d : Nat) (w : World) (h : Rd br w s p) (hp : p ≤ s.size) (hs : s.size ≤ 100000) (hd : d ≤ 8) (hform : d < 8 → FormC s (d + 1)) :
    Calls Tryz.prog 80 #[.pointer (some ⟨br, 0, none⟩), .int .i64 (d : Nat)] w (ReadP d (s.data.toList.drop p) br s w) := by
  obtain ⟨L, hL⟩ : ∃ L, L = s.data.toList.drop p := ⟨_, rfl⟩
  rw [← hL]
  obtain ⟨x, hx⟩ : ∃ x, x = nx L := ⟨_, rfl⟩
  have hbr := cell_lt h.text
  have hbrn : ¬ w.heap.size = br := by omega
  have hc : ∀ wz, Rd br wz s p → Calls Tryz.prog 115 #[.pointer (some ⟨br, 0, none⟩)] wz fun e w' => e = .returned (.int .u8 x) ∧ ∃ n, w' = wz.drewN n := fun wz hz => by
    have := next_any br s p wz hz hp (by omega)
    rw [← hL, ← hx] at this
    exact this
  have hr0 : ∀ o, Rd br (w.alloc o) s p := fun o => h.below ((Below.refl _ _).alloc (Nat.le_refl _) _)
  have ho0 : ∀ o n, Off (· = br) w ((w.alloc o).drewN n) := fun o n => ((Off.refl _ _).alloc _).drewN
  have hs0 : ∀ o n, w.heap.size < ((w.alloc o).drewN n).heap.size := fun o n => by show _ < (w.heap.push _).size; simp
  have HC := Lib.hid hc
  have HL := Lib.hid hL
  have HX := Lib.hid hx
  have HR := Lib.hid h
  have HR0 := Lib.hid hr0
  have HO0 := Lib.hid ho0
  have HS0 := Lib.hid hs0
  have HF := Lib.hid hform
  clear hc hL hx h hr0 ho0 hs0 hform
  by_cases h40 : x = 40
  · have hL1 : ∃ L1, L = 40 :: L1 := by
      have e := HX.out
      cases e1 : L with
      | nil => rw [e1] at e; simp [nx] at e; omega
      | cons c r =>
        rw [e1] at e
        refine ⟨r, ?_⟩
        have : (c.toNat : Int) = 40 := by rw [← h40]; exact e.symm
        have hc : c = 40 := by
          apply UInt8.toNat.inj
          show c.toNat = 40
          omega
        rw [hc]
    obtain ⟨L1, hL1⟩ := hL1
    have hlist : ∀ wz, Rd br wz s p → Calls Tryz.prog 116 #[.pointer (some ⟨br, 0, none⟩), .int .i64 (d : Nat)] wz (ReadP d L br s wz) := fun wz hz => by
      rw [hL1]
      exact rdlist_any br s p d wz L1 hz hs hd (by rw [← HL.out, hL1]) HF.out
    have HLI := Lib.hid hlist
    clear hlist hL1
    have b40 : (x == 40) = true := by rw [beq_iff_eq]; exact h40
    clear h40
    go_enter Tryz.func80, Tryz.ntmps80
    go_wp2_with fail
    refine (HC.out _ (HR0.out _)).mono ?_
    rintro e w2 ⟨rfl, n2, rfl⟩
    go_wp2_with fail
    refine (HLI.out _ (HR0.out _).drewN).mono ?_
    rintro e w3 hrp
    have hof3 := hrp.1
    have HRP := Lib.hid (read_wrap hrp (HO0.out _ _) (HS0.out _ _) hbrn)
    obtain ⟨⟨z1, z2, z3⟩, zf, zl⟩ := cells3_off ((Off.refl _ _).drewN.trans hof3) hbrn
    have zf0 := zf 0
    have zf1 := zf 1
    have zf2 := zf 2
    rcases hrp.2 with ⟨l1, t1, xs1, a1, c1, q3, R3, rfl, -⟩ | ⟨rfl, -⟩
    · clear hrp hof3 zf
      go_wp2_with fail
      refine bodyPost_ret (v := .tuple #[fv l1 t1 (.slice a1 xs1.length c1), .bool true]) (by simp [results, Tryz.results80, go_sem, z1, z2, z3]) rfl ?_
      exact HRP.out _ _ _
    · clear hrp hof3 zf
      go_wp2_with fail
      refine bodyPost_ret (v := .tuple #[fz, .bool false]) (by simp [results, Tryz.results80, go_sem, z1, z2, z3]) rfl ?_
      exact HRP.out _ _ _
  · have hx40 : (x == 40) = false := by rw [beq_eq_false_iff_ne]; exact h40
    clear h40
    have htext : (∃ c r, L = c :: r ∧ isDig c ∧ (c = 48 → ∃ r2, r = 58 :: r2)) → ∀ wz, Rd br wz s p → Calls Tryz.prog 118 #[.pointer (some ⟨br, 0, none⟩)] wz (ReadP d L br s wz) := fun hf wz hz => by
      have := rdtext_any br s p d wz hz hp hs hd (by rw [← HL.out]; exact hf)
      rw [← HL.out] at this
      exact this
    by_cases h48 : x = 48
    · have hL1 : ∃ L1, L = 48 :: L1 := by
        have e := HX.out
        cases e1 : L with
        | nil => rw [e1] at e; simp [nx] at e; omega
        | cons c r =>
          rw [e1] at e
          refine ⟨r, ?_⟩
          have : (c.toNat : Int) = 48 := by rw [← h48]; exact e.symm
          have hc : c = 48 := by
            apply UInt8.toNat.inj
            show c.toNat = 48
            omega
          rw [hc]
      obtain ⟨L1, hL1⟩ := hL1
      have hex : (s.extract p s.size).data.toList = L := by rw [extract_list, List.take_of_length_le (by rw [List.length_drop, ba_len]; exact Nat.le_refl _), HL.out]
      have b48 : (x == 48) = true := by rw [beq_iff_eq]; exact h48
      obtain ⟨bb, hbb⟩ : ∃ bb, bb = Lib.hasPrefix (s.extract p s.size).data.toList (⟨#[48, 58]⟩ : ByteArray).data.toList := ⟨_, rfl⟩
      have hpre : ∀ wz, Calls Tryz.prog 117 #[.string (s.extract p s.size), .string ⟨#[48, 58]⟩] wz fun e w' => e = .returned (.bool bb) ∧ w' = wz := fun wz => by
        rw [hbb]
        exact Tryz.strings_HasPrefix (s.extract p s.size) ⟨#[48, 58]⟩ wz
      have HPRE := Lib.hid hpre
      have HBB := Lib.hid hbb
      have HL1 := Lib.hid hL1
      have HEX := Lib.hid hex
      have k0 : (0 : Int) ≤ p := by omega
      have k1 : (p : Int) ≤ s.size := by omega
      have HT := Lib.hid htext
      clear h48 hbb hpre hL1 hex htext
      cases bb with
      | true =>
        have htx := HT.out (by
          have e := HBB.out
          rw [HEX.out, HL1.out] at e
          refine ⟨48, L1, HL1.out, by decide, fun _ => ?_⟩
          cases e1 : L1 with
          | nil => rw [e1] at e; simp [Lib.hasPrefix, List.isPrefixOf] at e
          | cons c r =>
            rw [e1] at e
            simp [Lib.hasPrefix, List.isPrefixOf] at e
            exact ⟨r, by rw [e]⟩)
        have HTX := Lib.hid htx
        clear htx HT
        go_enter Tryz.func80, Tryz.ntmps80
        go_wp2_with fail
        refine (HC.out _ (HR0.out _)).mono ?_
        rintro e w2 ⟨rfl, n2, rfl⟩
        have hy : Rd br ((w.alloc (.cells #[.bool false, .string ⟨#[]⟩, .slice none 0 0] 61)).drewN n2) s p := (HR0.out _).drewN
        have hy2 : Off (· = br) w ((w.alloc (.cells #[.bool false, .string ⟨#[]⟩, .slice none 0 0] 61)).drewN n2) ∧ w.heap.size < ((w.alloc (.cells #[.bool false, .string ⟨#[]⟩, .slice none 0 0] 61)).drewN n2).heap.size := ⟨HO0.out _ _, HS0.out _ _⟩
        have hy3 : Off (· = br) (w.alloc (.cells #[.bool false, .string ⟨#[]⟩, .slice none 0 0] 61)) ((w.alloc (.cells #[.bool false, .string ⟨#[]⟩, .slice none 0 0] 61)).drewN n2) := (Off.refl _ _).drewN
        have HRY := Lib.hid hy
        have HOY := Lib.hid hy2
        have HOZ := Lib.hid hy3
        clear hy hy2 hy3
        generalize ((w.alloc (.cells #[.bool false, .string ⟨#[]⟩, .slice none 0 0] 61)).drewN n2) = wy at HRY HOY HOZ ⊢
        obtain ⟨r1, r2, r3⟩ := HRY.out
        go_wp2_with fail
        go_quiet ((go_at_call 117; exact Calls.quiet_of_same (HPRE.out _)))
        clear r1 r2 r3
        go_wp2_with fail
        refine (HTX.out _ HRY.out.drewN).mono ?_
        rintro e w3 hrp
        have hof3 := hrp.1
        have HRP := Lib.hid (read_wrap hrp (HOY.out.1.drewN) (by exact HOY.out.2) hbrn)
        obtain ⟨⟨z1, z2, z3⟩, zf, zl⟩ := cells3_off (HOZ.out.drewN.trans hof3) hbrn
        have zf0 := zf 0
        have zf1 := zf 1
        have zf2 := zf 2
        rcases hrp.2 with ⟨l1, t1, xs1, a1, c1, q3, R3, rfl, -⟩ | ⟨rfl, -⟩
        · clear hrp hof3 zf
          go_wp2_with fail
          refine bodyPost_ret (v := .tuple #[fv l1 t1 (.slice a1 xs1.length c1), .bool true]) (by simp [results, Tryz.results80, go_sem, z1, z2, z3]) rfl ?_
          exact HRP.out _ _ _
        · clear hrp hof3 zf
          go_wp2_with fail
          refine bodyPost_ret (v := .tuple #[fz, .bool false]) (by simp [results, Tryz.results80, go_sem, z1, z2, z3]) rfl ?_
          exact HRP.out _ _ _
      | false =>
        have hno : ∀ T R, ¬ IsF d L T R := by
          rw [HL1.out]
          refine text_zero fun r e2 => ?_
          have e := HBB.out
          rw [HEX.out, HL1.out, e2] at e
          simp [Lib.hasPrefix, List.isPrefixOf] at e
        have HNO := Lib.hid hno
        clear hno HT
        go_enter Tryz.func80, Tryz.ntmps80
        go_wp2_with fail
        refine (HC.out _ (HR0.out _)).mono ?_
        rintro e w2 ⟨rfl, n2, rfl⟩
        have hy : Rd br ((w.alloc (.cells #[.bool false, .string ⟨#[]⟩, .slice none 0 0] 61)).drewN n2) s p := (HR0.out _).drewN
        have hy2 : Off (· = br) w ((w.alloc (.cells #[.bool false, .string ⟨#[]⟩, .slice none 0 0] 61)).drewN n2) ∧ w.heap.size < ((w.alloc (.cells #[.bool false, .string ⟨#[]⟩, .slice none 0 0] 61)).drewN n2).heap.size := ⟨HO0.out _ _, HS0.out _ _⟩
        have hy3 : Off (· = br) (w.alloc (.cells #[.bool false, .string ⟨#[]⟩, .slice none 0 0] 61)) ((w.alloc (.cells #[.bool false, .string ⟨#[]⟩, .slice none 0 0] 61)).drewN n2) := (Off.refl _ _).drewN
        have HRY := Lib.hid hy
        have HOY := Lib.hid hy2
        have HOZ := Lib.hid hy3
        clear hy hy2 hy3
        generalize ((w.alloc (.cells #[.bool false, .string ⟨#[]⟩, .slice none 0 0] 61)).drewN n2) = wy at HRY HOY HOZ ⊢
        obtain ⟨r1, r2, r3⟩ := HRY.out
        obtain ⟨⟨z1, z2, z3⟩, zf, zl⟩ := cells3_off HOZ.out hbrn
        have zf0 := zf 0
        have zf1 := zf 1
        have zf2 := zf 2
        clear zf
        go_wp2_with fail
        go_quiet ((go_at_call 117; exact Calls.quiet_of_same (HPRE.out _)))
        clear r1 r2 r3
        go_wp2_with fail
        refine bodyPost_ret (v := .tuple #[fz, .bool false]) (by simp [results, Tryz.results80, go_sem, z1, z2, z3]) rfl ⟨?_, .inr ⟨rfl, HNO.out⟩⟩
        exact ((HOY.out.1.drewN.setCell (.inl (Nat.le_refl _)) _).setCell (.inl (Nat.le_refl _)) _).setCell (.inl (Nat.le_refl _)) _
    · have hx48 : (x == 48) = false := by rw [beq_eq_false_iff_ne]; exact h48
      by_cases hdg : 49 ≤ x ∧ x ≤ 57
      · have htx := htext (by
          have e := HX.out
          cases e1 : L with
          | nil => rw [e1] at e; simp [nx] at e; omega
          | cons c r =>
            rw [e1] at e
            have e' : x = (c.toNat : Int) := e
            refine ⟨c, r, rfl, ⟨by omega, by omega⟩, fun h => ?_⟩
            subst h
            exact absurd e' h48)
        have HTX := Lib.hid htx
        have hcs : x = 49 ∨ x = 50 ∨ x = 51 ∨ x = 52 ∨ x = 53 ∨ x = 54 ∨ x = 55 ∨ x = 56 ∨ x = 57 := by omega
        clear htx htext HX hdg h48 hx40 hx48
        rcases hcs with rfl | rfl | rfl | rfl | rfl | rfl | rfl | rfl | rfl
        all_goals
          go_enter Tryz.func80, Tryz.ntmps80
          go_wp2_with fail
          refine (HC.out _ (HR0.out _)).mono ?_
          rintro e w2 ⟨rfl, n2, rfl⟩
          have hy : Rd br ((w.alloc (.cells #[.bool false, .string ⟨#[]⟩, .slice none 0 0] 61)).drewN n2) s p := (HR0.out _).drewN
          have hy2 : Off (· = br) w ((w.alloc (.cells #[.bool false, .string ⟨#[]⟩, .slice none 0 0] 61)).drewN n2) ∧ w.heap.size < ((w.alloc (.cells #[.bool false, .string ⟨#[]⟩, .slice none 0 0] 61)).drewN n2).heap.size := ⟨HO0.out _ _, HS0.out _ _⟩
          have hy3 : Off (· = br) (w.alloc (.cells #[.bool false, .string ⟨#[]⟩, .slice none 0 0] 61)) ((w.alloc (.cells #[.bool false, .string ⟨#[]⟩, .slice none 0 0] 61)).drewN n2) := (Off.refl _ _).drewN
          have HRY := Lib.hid hy
          have HOY := Lib.hid hy2
          have HOZ := Lib.hid hy3
          clear hy hy2 hy3
          generalize ((w.alloc (.cells #[.bool false, .string ⟨#[]⟩, .slice none 0 0] 61)).drewN n2) = wy at HRY HOY HOZ ⊢
          go_wp2_with fail
          refine (HTX.out _ HRY.out).mono ?_
          rintro e w3 hrp
          have hof3 := hrp.1
          have HRP := Lib.hid (read_wrap hrp HOY.out.1 (by exact HOY.out.2) hbrn)
          obtain ⟨⟨z1, z2, z3⟩, zf, zl⟩ := cells3_off (HOZ.out.trans hof3) hbrn
          have zf0 := zf 0
          have zf1 := zf 1
          have zf2 := zf 2
          rcases hrp.2 with ⟨l1, t1, xs1, a1, c1, q3, R3, rfl, -⟩ | ⟨rfl, -⟩
          · clear hrp hof3 zf
            go_wp2_with fail
            refine bodyPost_ret (v := .tuple #[fv l1 t1 (.slice a1 xs1.length c1), .bool true]) (by simp [results, Tryz.results80, go_sem, z1, z2, z3]) rfl ?_
            exact HRP.out _ _ _
          · clear hrp hof3 zf
            go_wp2_with fail
            refine bodyPost_ret (v := .tuple #[fz, .bool false]) (by simp [results, Tryz.results80, go_sem, z1, z2, z3]) rfl ?_
            exact HRP.out _ _ _
      · have hno : ∀ T R, ¬ IsF d L T R := isF_none fun c r e => by
          have e1 := HX.out
          rw [e] at e1
          have e' : x = (c.toNat : Int) := e1
          constructor
          · rintro rfl
            rw [e'] at hx40
            exact absurd hx40 (by decide)
          · rintro ⟨g1, g2⟩
            have h9 : ¬ x = 48 := h48
            omega
        have HNO := Lib.hid hno
        have f49 : (x == 49) = false := by rw [beq_eq_false_iff_ne]; omega
        have f50 : (x == 50) = false := by rw [beq_eq_false_iff_ne]; omega
        have f51 : (x == 51) = false := by rw [beq_eq_false_iff_ne]; omega
        have f52 : (x == 52) = false := by rw [beq_eq_false_iff_ne]; omega
        have f53 : (x == 53) = false := by rw [beq_eq_false_iff_ne]; omega
        have f54 : (x == 54) = false := by rw [beq_eq_false_iff_ne]; omega
        have f55 : (x == 55) = false := by rw [beq_eq_false_iff_ne]; omega
        have f56 : (x == 56) = false := by rw [beq_eq_false_iff_ne]; omega
        have f57 : (x == 57) = false := by rw [beq_eq_false_iff_ne]; omega
        clear hno htext h48 hdg
        go_enter Tryz.func80, Tryz.ntmps80
        go_wp2_with fail
        refine (HC.out _ (HR0.out _)).mono ?_
        rintro e w2 ⟨rfl, n2, rfl⟩
        have hy : Rd br ((w.alloc (.cells #[.bool false, .string ⟨#[]⟩, .slice none 0 0] 61)).drewN n2) s p := (HR0.out _).drewN
        have hy2 : Off (· = br) w ((w.alloc (.cells #[.bool false, .string ⟨#[]⟩, .slice none 0 0] 61)).drewN n2) ∧ w.heap.size < ((w.alloc (.cells #[.bool false, .string ⟨#[]⟩, .slice none 0 0] 61)).drewN n2).heap.size := ⟨HO0.out _ _, HS0.out _ _⟩
        have hy3 : Off (· = br) (w.alloc (.cells #[.bool false, .string ⟨#[]⟩, .slice none 0 0] 61)) ((w.alloc (.cells #[.bool false, .string ⟨#[]⟩, .slice none 0 0] 61)).drewN n2) := (Off.refl _ _).drewN
        have HRY := Lib.hid hy
        have HOY := Lib.hid hy2
        have HOZ := Lib.hid hy3
        clear hy hy2 hy3
        generalize ((w.alloc (.cells #[.bool false, .string ⟨#[]⟩, .slice none 0 0] 61)).drewN n2) = wy at HRY HOY HOZ ⊢
        obtain ⟨⟨z1, z2, z3⟩, zf, zl⟩ := cells3_off HOZ.out hbrn
        have zf0 := zf 0
        have zf1 := zf 1
        have zf2 := zf 2
        clear zf
        go_wp2_with fail
        refine bodyPost_ret (v := .tuple #[fz, .bool false]) (by simp [results, Tryz.results80, go_sem, z1, z2, z3]) rfl ⟨?_, .inr ⟨rfl, HNO.out⟩⟩
        exact ((HOY.out.1.setCell (.inl (Nat.le_refl _)) _).setCell (.inl (Nat.le_refl _)) _).setCell (.inl (Nat.le_refl _)) _

theorem rdform_any (s : ByteArray) (hs : s.size ≤ 100000) : ∀ (k d : Nat), d + k = 8 → FormC s d
  | 0, d, h => fun br q wz hr hq => rdform_step br s q d wz hr hq hs (by omega) fun h8 => by omega
  | k + 1, d, h => fun br q wz hr hq => rdform_step br s q d wz hr hq hs (by omega) fun _ => rdform_any s hs k (d + 1) (by omega)
end Go.Proofs.YtgjcblginkdinaaGreatDoor
