/- The contract of the reader's list. -/
import Derived.Test.YthamfbfeokmhgaaGreatDoorU20
import Derived.Test.YthamfbfeokmhgaaGreatDoorU39
set_option linter.unusedVariables false
namespace Go.Proofs.YthamfbfeokmhgaaGreatDoor
open Go.ChangeShapes Go.WideShapes Go.ChangeAt Go.RowKit

def FormC (s : ByteArray) (d : Nat) : Prop := ∀ (br q : Nat) (wz : World), Rd br wz s q → q ≤ s.size → Calls Tryz.prog 85 #[.pointer (some ⟨br, 0, none⟩), .int .i64 (d : Nat)] wz (ReadP d (s.data.toList.drop q) br s wz)

theorem fm_len {d : Nat} {L R : List UInt8} {T : Tm} (h : IsF d L T R) : R.length < L.length := by
  obtain ⟨c, r, e, _⟩ := Tm.head T
  rw [h.2.2, e, List.length_append, List.length_cons]
  omega

theorem Rd.off {Z : Nat → Prop} {br : Nat} {w w' : World} {s : ByteArray} {p : Nat} (h : Rd br w s p) (ho : Off Z w w') (hz : ¬ Z br) : Rd br w' s p :=
  ⟨(ho.cell (p := ⟨br, 0, none⟩) (cell_lt h.text) hz).trans h.text, (ho.cell (p := ⟨br, 1, none⟩) (cell_lt h.at_) hz).trans h.at_, (ho.frozen (p := ⟨br, 1, none⟩) (cell_lt h.at_) hz).trans h.free⟩
theorem Tm.length_le_bytess (xs : List Tm) : xs.length ≤ (Tm.bytess xs).length := by
  induction xs with
  | nil => simp
  | cons x r ih =>
    obtain ⟨c, q, e, _⟩ := Tm.head x
    simp only [Tm.bytess, List.length_cons, List.length_append, e]
    omega

theorem off_start (br : Nat) (w : World) (u : Value) (o : Obj) (h : br < w.heap.size) : Off (· = br) (w.alloc o) ((w.setCell ⟨br, 1, none⟩ u).alloc o) := by
  have hs : (w.setCell ⟨br, 1, none⟩ u).heap.size = w.heap.size := by simp [World.setCell]
  refine ⟨rfl, rfl, rfl, by simp [World.setCell], fun i hi hn => ?_⟩
  have hi' : i < w.heap.size + 1 := by simpa using hi
  show ((w.setCell ⟨br, 1, none⟩ u).heap.push o)[i]? = (w.heap.push o)[i]?
  rw [Array.getElem?_push, Array.getElem?_push, hs]
  split
  · rfl
  · exact Below.heap_setCell _ _ _ _ hn

set_option maxHeartbeats 4000000 in
set_option maxRecDepth 100000 in
theorem rdlist_any (br : Nat) (s : ByteArray) (p d : Nat) (w : World) (L1 : List UInt8) (h : Rd br w s p) (hs : s.size ≤ 100000) (hd : d ≤ 8) (hfirst : s.data.toList.drop p = 40 :: L1) (hform : d < 8 → FormC s (d + 1)) :
    Calls Tryz.prog 99 #[.pointer (some ⟨br, 0, none⟩), .int .i64 (d : Nat)] w (ReadP d (40 :: L1) br s w) := by
  have hbr := cell_lt h.text
  have hbrn : ¬ w.heap.size = br := by omega
  have hps : p < s.size := by
    have := congrArg List.length hfirst
    rw [List.length_drop, ba_len, List.length_cons] at this
    omega
  have hd1 : s.data.toList.drop (p + 1) = L1 := by rw [← List.drop_drop, hfirst]; rfl
  obtain ⟨r1, r2, r3⟩ := h
  have HRD := Lib.hid (Rd.mk r1 r2 r3)
  have HD1 := Lib.hid hd1
  have HFC := Lib.hid hform
  clear hfirst hd1 hform
  by_cases hd8 : d = 8
  · subst hd8
    have hno : ∀ T R, ¬ IsF 8 (40 :: L1) T R := fun T R => isF_deep T R
    have HNO := Lib.hid hno
    clear hno
    go_enter Tryz.func99, Tryz.ntmps99
    go_wp2_with fail
    refine bodyPost_ret (v := .tuple #[fz, .bool false]) (by simp [results, Tryz.results99, go_sem]) rfl ⟨?_, .inr ⟨rfl, HNO.out⟩⟩
    exact (Off.refl _ _).alloc _
  · have hd7 : ((d : Int) == 8) = false := by rw [beq_eq_false_iff_ne]; omega
    have hp1 : (p : Int) + 1 ≤ 9223372036854775807 := by omega
    have HD8 := Lib.hid hd8
    clear hd8
    go_enter Tryz.func99, Tryz.ntmps99
    go_wp2_with fail
    have hst : Rd br ((w.setCell ⟨br, 1, none⟩ (.int .i64 ((p : Int) + 1))).alloc (.cells #[.bool false, .string ⟨#[]⟩, .slice none 0 0] 101)) s (p + 1) := by
      have e := HRD.out.set (p + 1)
      exact e.below ((Below.refl _ _).alloc (Nat.le_refl _) _)
    have HST := Lib.hid hst
    clear hst
    clear r1 r2 r3
    go_loopw [6] (fun v wr => ∃ (q : Nat) (es : List FE) (Lk : List UInt8), q ≤ s.size ∧ s.data.toList.drop q = Lk ∧ Items d L1 (es.map FE.tm) Lk ∧ Made (w.heap.size + 1) wr v es ∧ Rd br wr s q ∧ Off (· = br) (w.alloc (.cells #[.bool false, .string ⟨#[]⟩, .slice none 0 0] 101)) wr) (fun _ wr => s.size - (intOf ((wr.cell? ⟨br, 1, none⟩).getD .nilIface)).toNat)
    case atStart => exact ⟨p + 1, [], L1, hps, HD1.out, Items.start (by have := HD8.out; omega), Made.nil _ _, HST.out, off_start _ _ _ _ hbr⟩
    case round =>
      obtain ⟨q, es, Lk, hq, hLk, hit, hmd, hrd, hoff⟩ := hrel
      obtain ⟨x, hx⟩ : ∃ x, x = nx Lk := ⟨_, rfl⟩
      have hc : ∀ wz, Rd br wz s q → Calls Tryz.prog 98 #[.pointer (some ⟨br, 0, none⟩)] wz fun e w' => e = .returned (.int .u8 x) ∧ ∃ n, w' = wz.drewN n := fun wz hz => by
        have := next_any br s q wz hz (by omega) (by omega)
        rw [hLk, ← hx] at this
        exact this
      obtain ⟨r1, r2, r3⟩ := hrd
      obtain ⟨⟨z1, z2, z3⟩, zf, zl⟩ := cells3_off hoff hbrn
      have zf0 := zf 0
      have zf1 := zf 1
      have zf2 := zf 2
      obtain ⟨a0, c0, hv⟩ := hmd.row.form
      obtain ⟨n, hn⟩ : ∃ n, n = es.length := ⟨_, rfl⟩
      rw [← hn] at hv
      subst hv
      have HC := Lib.hid hc
      have HX := Lib.hid hx
      have HLK := Lib.hid hLk
      have HIT := Lib.hid hit
      have HM := Lib.hid hmd
      have HR := Lib.hid (Rd.mk r1 r2 r3)
      have HO := Lib.hid hoff
      have HN := Lib.hid hn
      have HZL := Lib.hid zl
      clear hc hx hLk hit hmd hoff zf hn
      by_cases h41 : x = 41
      · have hxc : (x != 41) = false := by rw [bne_eq_false_iff_eq]; exact h41
        have hLk : ∃ r, Lk = 41 :: r := by
          have e := HX.out
          cases e1 : Lk with
          | nil => rw [e1] at e; simp [nx] at e; omega
          | cons c r =>
            rw [e1] at e
            refine ⟨r, ?_⟩
            have : (c.toNat : Int) = 41 := by rw [← h41]; exact e.symm
            have hc : c = 41 := by
              apply UInt8.toNat.inj
              show c.toNat = 41
              omega
            rw [hc]
        obtain ⟨R, hR⟩ := hLk
        have hqs : q < s.size := by
          have h3 := congrArg List.length HLK.out
          rw [List.length_drop, ba_len, hR, List.length_cons] at h3
          omega
        have hdq : s.data.toList.drop (q + 1) = R := by rw [← List.drop_drop, HLK.out, hR]; rfl
        have hfin : IsF d (40 :: L1) (.mk true noText (es.map FE.tm)) R := by
          have := HIT.out
          rw [hR] at this
          exact this.done
        have hsl : SlL (fun i => w.heap.size + 1 ≤ i) wr (.slice a0 n c0) (es.map FE.tm) := HM.out.sl fun i h => h
        have hnl : n = (es.map FE.tm).length := by rw [List.length_map]; exact HN.out
        have HDQ := Lib.hid hdq
        have HFIN := Lib.hid hfin
        have HSL := Lib.hid hsl
        have HNL := Lib.hid hnl
        have hq1 : (q : Int) + 1 ≤ 9223372036854775807 := by omega
        clear hR h41 hdq hfin hsl hnl
        go_wp2_with fail
        refine (HC.out _ HR.out).mono ?_
        rintro e w2 ⟨rfl, n2, rfl⟩
        go_wp2_with fail
        refine bodyPost_ret (v := .tuple #[fv true noText (.slice a0 n c0), .bool true]) (by simp [results, Tryz.results99, go_sem, z1, z2, z3]) rfl ⟨?_, .inl ⟨true, noText, es.map FE.tm, a0, c0, q + 1, R, by rw [← HNL.out], HFIN.out, hqs, HDQ.out, ?_, by decide, ?_⟩⟩
        · exact (((((((Off.refl _ _).alloc _).trans HO.out).drewN).setCell (.inr rfl) _).setCell (.inl (Nat.le_refl _)) _).setCell (.inl (Nat.le_refl _)) _).setCell (.inl (Nat.le_refl _)) _
        · exact ((((HR.out.drewN (n := n2)).set (q + 1)).setOther hbrn _).setOther hbrn _).setOther hbrn _
        · have hfo : Off (fun i => i = br ∨ i = w.heap.size) wr (((((wr.drewN n2).setCell ⟨br, 1, none⟩ (.int .i64 ((q : Int) + 1))).setCell ⟨w.heap.size, 0, none⟩ (.bool true)).setCell ⟨w.heap.size, 1, none⟩ (.string ⟨#[]⟩)).setCell ⟨w.heap.size, 2, none⟩ (.slice a0 n c0)) :=
            ((((Off.refl _ _).drewN.setCell (p := ⟨br, 1, none⟩) (.inr (.inl rfl)) _).setCell (p := ⟨w.heap.size, 0, none⟩) (.inr (.inr rfl)) _).setCell (p := ⟨w.heap.size, 1, none⟩) (.inr (.inr rfl)) _).setCell (p := ⟨w.heap.size, 2, none⟩) (.inr (.inr rfl)) _
          have := (HSL.out.off hfo fun i hi h => by rcases h with h | h <;> omega).mono (Z' := fun i => w.heap.size ≤ i) fun i _ hi => by omega
          rw [← HNL.out]
          exact this
      · have hxc : (x != 41) = true := by rw [bne_iff_ne]; exact h41
        have hno41 : ∀ R, Lk ≠ 41 :: R := fun R e => h41 (by have := HX.out; rw [e] at this; exact this)
        have HNO41 := Lib.hid hno41
        clear hno41 h41
        go_wp2_with fail
        refine (HC.out _ HR.out).mono ?_
        rintro e w2 ⟨rfl, n2, rfl⟩
        go_wp2_with fail
        refine (HFC.out (by have := HD8.out; omega) br q _ HR.out.drewN hq).mono ?_
        rintro e w3 ⟨hoff3, hcase⟩
        rw [HLK.out] at hcase
        have ho3 : Off (· = br) (w.alloc (.cells #[.bool false, .string ⟨#[]⟩, .slice none 0 0] 101)) w3 := HO.out.drewN.trans hoff3
        have HO3 := Lib.hid ho3
        have HOF3 := Lib.hid hoff3
        clear z1 z2 z3 zf0 zf1 zf2 zl
        obtain ⟨⟨z1, z2, z3⟩, zf, zl⟩ := cells3_off ho3 hbrn
        have zf0 := zf 0
        have zf1 := zf 1
        have zf2 := zf 2
        clear ho3 zf hoff3
        rcases hcase with ⟨l1, t1, xs1, a1, c1, q3, R3, rfl, hF3, hq3, hR3, hrd3, hts3, hsl3⟩ | ⟨rfl, hno⟩
        · have HF3 := Lib.hid hF3
          have HQ3 := Lib.hid hR3
          have HR3 := Lib.hid hrd3
          have HSL3 := Lib.hid hsl3
          obtain ⟨m1, hm1⟩ : ∃ m, m = xs1.length := ⟨_, rfl⟩
          have HM1 := Lib.hid hm1
          rw [← hm1]
          clear hF3 hR3 hrd3 hsl3 hm1
          have hrow : Row 3 (w.heap.size + 1) w3 (.slice a0 n c0) n (fcells es) := by
            have := ((HM.out.below (w' := wr.drewN n2) (Below.drewN (Below.refl _ _))).off HOF3.out (fun i hi => by have : i = br := hi; omega)).row
            rw [← HN.out] at this
            exact this
          have HROW := Lib.hid hrow
          have hsrc : Src Tryz.prog 3 96 (.slice (some ⟨w3.heap.size + 1, 0, none⟩) 1 1) 1 [.bool l1, .string t1, .slice a1 m1 c1] ((w3.alloc (.cells #[.bool l1, .string t1, .slice a1 m1 c1] 101)).alloc (.cells #[.bool l1, .string t1, .slice a1 m1 c1] 101)) := by
            have := src_new (P := Tryz.prog) (w := w3.alloc (.cells #[.bool l1, .string t1, .slice a1 m1 c1] 101)) (k := 3) Tryz.underlying96 [.bool l1, .string t1, .slice a1 m1 c1] 1 101 1 rfl (by intro u hu; simp only [List.mem_cons, List.not_mem_nil, or_false] at hu; rcases hu with rfl | rfl | rfl <;> rfl)
            simpa using this
          have HSRC := Lib.hid hsrc
          have hes : n ≤ 100000 := by
            have h2 := congrArg List.length HIT.out.eq
            have h3 := Tm.length_le_bytess (es.map FE.tm)
            have h4 := congrArg List.length HD1.out
            rw [List.length_map, ← HN.out] at h3
            rw [List.length_append] at h2
            rw [List.length_drop, ba_len] at h4
            omega
          clear hrow hsrc
          go_wp2_with (at_builtin; refine wpList_append_row rfl (.tmp 32) (.tmp 34) 96 96 rfl 3 101 (.agg #[.bool false, .string ByteArray.empty, .slice none 0 0]) 48 Tryz.underlying96 Tryz.infoForm rfl (w.heap.size + 1) (.slice a0 n c0) n (fcells es) (by simp [Act.eval]) (by exact (HROW.out.alloc _).alloc _) (.slice (some ⟨w3.heap.size + 1, 0, none⟩) 1 1) (by simp [Act.eval]) 1 [.bool l1, .string t1, .slice a1 m1 c1] (by exact HSRC.out) (by simp; omega) (by omega) (by decide) ?_; intro v6 w6 hr6 ho6 hw6; have HR6 := Lib.hid hr6; have HO6 := Lib.hid ho6; have HW6 := Lib.hid hw6; clear hr6 ho6 hw6)
          have hmd3 : Made (w.heap.size + 1) w3 (.slice a0 n c0) es := (HM.out.below (w' := wr.drewN n2) (Below.drewN (Below.refl _ _))).off HOF3.out (fun i hi => by have : i = br := hi; omega)
          have hal : ∀ o1 o2, Below w3.heap.size w3 ((w3.alloc o1).alloc o2) := fun o1 o2 => ((Below.refl _ _).alloc (Nat.le_refl _) _).alloc (by simp) _
          have hown : ∀ b, (Value.slice a0 n c0).ownBlock = some b → w.heap.size + 1 ≤ b ∧ b < wr.heap.size := HM.out.row.lt
          have hsl : SlL (fun i => w.heap.size + 1 ≤ i ∧ (Value.slice a0 n c0).ownBlock ≠ some i) w3 (.slice a1 m1 c1) xs1 := by
            have := HSL3.out
            rw [← HM1.out] at this
            refine this.mono fun i _ hi => ⟨?_, fun e => ?_⟩
            · have h1 : wr.heap.size ≤ i := hi
              have h2 := HZL.out
              omega
            · have h1 : wr.heap.size ≤ i := hi
              have h2 := (hown i e).2
              omega
          have hcell6 : Rd br w6 s q3 := (HR3.out.below (hal _ _)).off HO6.out (fun e => by have := (hown br e).1; omega)
          refine ⟨⟨q3, es ++ [(l1, t1, xs1, .slice a1 m1 c1)], R3, hq3, HQ3.out, ?_, ?_, hcell6, ?_⟩, ?_⟩
          · rw [List.map_append]
            exact HIT.out.next HF3.out
          · refine (hmd3.below (hal _ _)).push (hsl.keep (hal _ _)) hts3 ?_ HO6.out HW6.out
            have := HR6.out
            rw [HN.out] at this
            exact this
          · refine ((HO3.out.alloc _).alloc _).trans' HO6.out fun i hi e => ?_
            have h1 := (hown i e).1
            have h2 : i < w.heap.size + 1 := by simpa using hi
            omega
          · rw [hcell6.at_, HR.out.at_]
            have h1 := fm_len HF3.out
            have h2 := congrArg List.length HQ3.out
            have h3 := congrArg List.length HLK.out
            rw [List.length_drop, ba_len] at h2 h3
            simp [intOf]
            omega
        · have hnf := HIT.out.fail HNO41.out hno
          have HNF := Lib.hid hnf
          clear hnf hno
          go_wp2_with fail
          refine bodyPost_ret (v := .tuple #[fz, .bool false]) (by simp [results, Tryz.results99, go_sem, z1, z2, z3, zl]) rfl ⟨?_, .inr ⟨rfl, HNF.out⟩⟩
          exact ((((((Off.refl _ _).alloc _).trans HO3.out).setCell (.inl (Nat.le_refl _)) _).setCell (.inl (Nat.le_refl _)) _).setCell (.inl (Nat.le_refl _)) _).alloc _
end Go.Proofs.YthamfbfeokmhgaaGreatDoor
