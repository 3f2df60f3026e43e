/- The contract of the reader's form. -/
import Derived.Test.YthamfbfeokmhgaaGreatDoorShelf
import Derived.Test.YthamfbfeokmhgaaGreatDoorU40
set_option linter.unusedVariables false
namespace Go.Proofs.YthamfbfeokmhgaaGreatDoor
open Go.ChangeShapes Go.WideShapes Go.ChangeAt Go.RowKit

theorem read_wrap {d : Nat} {L : List UInt8} {br : Nat} {s : ByteArray} {w w1 w2 : World} {e : Ending} (h : ReadP d L br s w1 e w2) (ho : Off (· = br) w w1) (hs : w.heap.size < w1.heap.size) (hbr : ¬ w.heap.size = br) (u0 u1 u2 : Value) :
    ReadP d L br s w e (((w2.setCell ⟨w.heap.size, 0, none⟩ u0).setCell ⟨w.heap.size, 1, none⟩ u1).setCell ⟨w.heap.size, 2, none⟩ u2) := by
  obtain ⟨h1, h2⟩ := h
  refine ⟨((((ho.trans h1).setCell (.inl (Nat.le_refl _)) _).setCell (.inl (Nat.le_refl _)) _).setCell (.inl (Nat.le_refl _)) _), ?_⟩
  rcases h2 with ⟨l, t, xs, a, c, q, R, g1, g2, g3, g4, g5, g6, g7⟩ | h2
  · refine .inl ⟨l, t, xs, a, c, q, R, g1, g2, g3, g4, ((g5.setOther hbr _).setOther hbr _).setOther hbr _, g6, ?_⟩
    have hfo : Off (fun i => i = w.heap.size) w2 (((w2.setCell ⟨w.heap.size, 0, none⟩ u0).setCell ⟨w.heap.size, 1, none⟩ u1).setCell ⟨w.heap.size, 2, none⟩ u2) :=
      (((Off.refl (fun i => i = w.heap.size) w2).setCell (p := ⟨w.heap.size, 0, none⟩) (.inr rfl) _).setCell (p := ⟨w.heap.size, 1, none⟩) (.inr rfl) _).setCell (p := ⟨w.heap.size, 2, none⟩) (.inr rfl) _
    exact (g7.off hfo fun i hi h => by omega).mono fun i _ hi => by omega
  · exact .inr h2

set_option maxHeartbeats 4000000 in
set_option maxRecDepth 100000 in
theorem rdform_step (br : Nat) (s : ByteArray) (p d : Nat) (w : World) (h : Rd br w s p) (hp : p ≤ s.size) (hs : s.size ≤ 100000) (hd : d ≤ 8) (hform : d < 8 → FormC s (d + 1)) :
    Calls Tryz.prog 85 #[.pointer (some ⟨br, 0, none⟩), .int .i64 (d : Nat)] w (ReadP d (s.data.toList.drop p) br s w) := by
  obtain ⟨L, hL⟩ : ∃ L, L = s.data.toList.drop p := ⟨_, rfl⟩
  rw [← hL]
  obtain ⟨x, hx⟩ : ∃ x, x = nx L := ⟨_, rfl⟩
  have hbr := cell_lt h.text
  have hbrn : ¬ w.heap.size = br := by omega
  have hc : ∀ wz, Rd br wz s p → Calls Tryz.prog 98 #[.pointer (some ⟨br, 0, none⟩)] wz fun e w' => e = .returned (.int .u8 x) ∧ ∃ n, w' = wz.drewN n := fun wz hz => by
    have := next_any br s p wz hz hp (by omega)
    rw [← hL, ← hx] at this
    exact this
  have hr0 : ∀ o, Rd br (w.alloc o) s p := fun o => h.below ((Below.refl _ _).alloc (Nat.le_refl _) _)
  have ho0 : ∀ o n, Off (· = br) w ((w.alloc o).drewN n) := fun o n => ((Off.refl _ _).alloc _).drewN
  have hs0 : ∀ o n, w.heap.size < ((w.alloc o).drewN n).heap.size := fun o n => by show _ < (w.heap.push _).size; simp
  have HC := Lib.hid hc
  have HL := Lib.hid hL
  have HX := Lib.hid hx
  have HR := Lib.hid h
  have HR0 := Lib.hid hr0
  have HO0 := Lib.hid ho0
  have HS0 := Lib.hid hs0
  have HF := Lib.hid hform
  clear hc hL hx h hr0 ho0 hs0 hform
  by_cases h40 : x = 40
  · have hL1 : ∃ L1, L = 40 :: L1 := by
      have e := HX.out
      cases e1 : L with
      | nil => rw [e1] at e; simp [nx] at e; omega
      | cons c r =>
        rw [e1] at e
        refine ⟨r, ?_⟩
        have : (c.toNat : Int) = 40 := by rw [← h40]; exact e.symm
        have hc : c = 40 := by
          apply UInt8.toNat.inj
          show c.toNat = 40
          omega
        rw [hc]
    obtain ⟨L1, hL1⟩ := hL1
    have hlist : ∀ wz, Rd br wz s p → Calls Tryz.prog 99 #[.pointer (some ⟨br, 0, none⟩), .int .i64 (d : Nat)] wz (ReadP d L br s wz) := fun wz hz => by
      rw [hL1]
      exact rdlist_any br s p d wz L1 hz hs hd (by rw [← HL.out, hL1]) HF.out
    have HLI := Lib.hid hlist
    clear hlist hL1
    have b40 : (x == 40) = true := by rw [beq_iff_eq]; exact h40
    clear h40
    go_enter Tryz.func85, Tryz.ntmps85
    go_wp2_with fail
    refine (HC.out _ (HR0.out _)).mono ?_
    rintro e w2 ⟨rfl, n2, rfl⟩
    go_wp2_with fail
    refine (HLI.out _ (HR0.out _).drewN).mono ?_
    rintro e w3 hrp
    have hof3 := hrp.1
    have HRP := Lib.hid (read_wrap hrp (HO0.out _ _) (HS0.out _ _) hbrn)
    obtain ⟨⟨z1, z2, z3⟩, zf, zl⟩ := cells3_off ((Off.refl _ _).drewN.trans hof3) hbrn
    have zf0 := zf 0
    have zf1 := zf 1
    have zf2 := zf 2
    rcases hrp.2 with ⟨l1, t1, xs1, a1, c1, q3, R3, rfl, -⟩ | ⟨rfl, -⟩
    · clear hrp hof3 zf
      go_wp2_with fail
      refine bodyPost_ret (v := .tuple #[fv l1 t1 (.slice a1 xs1.length c1), .bool true]) (by simp [results, Tryz.results85, go_sem, z1, z2, z3]) rfl ?_
      exact HRP.out _ _ _
    · clear hrp hof3 zf
      go_wp2_with fail
      refine bodyPost_ret (v := .tuple #[fz, .bool false]) (by simp [results, Tryz.results85, go_sem, z1, z2, z3]) rfl ?_
      exact HRP.out _ _ _
  · have hx40 : (x == 40) = false := by rw [beq_eq_false_iff_ne]; exact h40
    clear h40
    have htext : (∃ c r, L = c :: r ∧ isDig c ∧ (c = 48 → ∃ r2, r = 58 :: r2)) → ∀ wz, Rd br wz s p → Calls Tryz.prog 100 #[.pointer (some ⟨br, 0, none⟩)] wz (ReadP d L br s wz) := fun hf wz hz => by
      have := rdtext_any br s p d wz hz hp hs hd (by rw [← HL.out]; exact hf)
      rw [← HL.out] at this
      exact this
    by_cases h48 : x = 48
    · have hL1 : ∃ L1, L = 48 :: L1 := by
        have e := HX.out
        cases e1 : L with
        | nil => rw [e1] at e; simp [nx] at e; omega
        | cons c r =>
          rw [e1] at e
          refine ⟨r, ?_⟩
          have : (c.toNat : Int) = 48 := by rw [← h48]; exact e.symm
          have hc : c = 48 := by
            apply UInt8.toNat.inj
            show c.toNat = 48
            omega
          rw [hc]
      obtain ⟨L1, hL1⟩ := hL1
      have hex : (s.extract p s.size).data.toList = L := by rw [extract_list, List.take_of_length_le (by rw [List.length_drop, ba_len]; exact Nat.le_refl _), HL.out]
      have b48 : (x == 48) = true := by rw [beq_iff_eq]; exact h48
      obtain ⟨bb, hbb⟩ : ∃ bb, bb = Lib.hasPrefix (s.extract p s.size).data.toList (⟨#[48, 58]⟩ : ByteArray).data.toList := ⟨_, rfl⟩
      have hpre : ∀ wz, Calls Tryz.prog 57 #[.string (s.extract p s.size), .string ⟨#[48, 58]⟩] wz fun e w' => e = .returned (.bool bb) ∧ w' = wz := fun wz => by
        rw [hbb]
        exact Tryz.strings_HasPrefix (s.extract p s.size) ⟨#[48, 58]⟩ wz
      have HPRE := Lib.hid hpre
      have HBB := Lib.hid hbb
      have HL1 := Lib.hid hL1
      have HEX := Lib.hid hex
      have k0 : (0 : Int) ≤ p := by omega
      have k1 : (p : Int) ≤ s.size := by omega
      have HT := Lib.hid htext
      clear h48 hbb hpre hL1 hex htext
      cases bb with
      | true =>
        have htx := HT.out (by
          have e := HBB.out
          rw [HEX.out, HL1.out] at e
          refine ⟨48, L1, HL1.out, by decide, fun _ => ?_⟩
          cases e1 : L1 with
          | nil => rw [e1] at e; simp [Lib.hasPrefix, List.isPrefixOf] at e
          | cons c r =>
            rw [e1] at e
            simp [Lib.hasPrefix, List.isPrefixOf] at e
            exact ⟨r, by rw [e]⟩)
        have HTX := Lib.hid htx
        clear htx HT
        go_enter Tryz.func85, Tryz.ntmps85
        go_wp2_with fail
        refine (HC.out _ (HR0.out _)).mono ?_
        rintro e w2 ⟨rfl, n2, rfl⟩
        have hy : Rd br ((w.alloc (.cells #[.bool false, .string ⟨#[]⟩, .slice none 0 0] 101)).drewN n2) s p := (HR0.out _).drewN
        have hy2 : Off (· = br) w ((w.alloc (.cells #[.bool false, .string ⟨#[]⟩, .slice none 0 0] 101)).drewN n2) ∧ w.heap.size < ((w.alloc (.cells #[.bool false, .string ⟨#[]⟩, .slice none 0 0] 101)).drewN n2).heap.size := ⟨HO0.out _ _, HS0.out _ _⟩
        have hy3 : Off (· = br) (w.alloc (.cells #[.bool false, .string ⟨#[]⟩, .slice none 0 0] 101)) ((w.alloc (.cells #[.bool false, .string ⟨#[]⟩, .slice none 0 0] 101)).drewN n2) := (Off.refl _ _).drewN
        have HRY := Lib.hid hy
        have HOY := Lib.hid hy2
        have HOZ := Lib.hid hy3
        clear hy hy2 hy3
        generalize ((w.alloc (.cells #[.bool false, .string ⟨#[]⟩, .slice none 0 0] 101)).drewN n2) = wy at HRY HOY HOZ ⊢
        obtain ⟨r1, r2, r3⟩ := HRY.out
        go_wp2_with fail
        go_quiet ((go_at_call 57; exact Calls.quiet_of_same (HPRE.out _)))
        clear r1 r2 r3
        go_wp2_with fail
        refine (HTX.out _ HRY.out.drewN).mono ?_
        rintro e w3 hrp
        have hof3 := hrp.1
        have HRP := Lib.hid (read_wrap hrp (HOY.out.1.drewN) (by exact HOY.out.2) hbrn)
        obtain ⟨⟨z1, z2, z3⟩, zf, zl⟩ := cells3_off (HOZ.out.drewN.trans hof3) hbrn
        have zf0 := zf 0
        have zf1 := zf 1
        have zf2 := zf 2
        rcases hrp.2 with ⟨l1, t1, xs1, a1, c1, q3, R3, rfl, -⟩ | ⟨rfl, -⟩
        · clear hrp hof3 zf
          go_wp2_with fail
          refine bodyPost_ret (v := .tuple #[fv l1 t1 (.slice a1 xs1.length c1), .bool true]) (by simp [results, Tryz.results85, go_sem, z1, z2, z3]) rfl ?_
          exact HRP.out _ _ _
        · clear hrp hof3 zf
          go_wp2_with fail
          refine bodyPost_ret (v := .tuple #[fz, .bool false]) (by simp [results, Tryz.results85, go_sem, z1, z2, z3]) rfl ?_
          exact HRP.out _ _ _
      | false =>
        have hno : ∀ T R, ¬ IsF d L T R := by
          rw [HL1.out]
          refine text_zero fun r e2 => ?_
          have e := HBB.out
          rw [HEX.out, HL1.out, e2] at e
          simp [Lib.hasPrefix, List.isPrefixOf] at e
        have HNO := Lib.hid hno
        clear hno HT
        go_enter Tryz.func85, Tryz.ntmps85
        go_wp2_with fail
        refine (HC.out _ (HR0.out _)).mono ?_
        rintro e w2 ⟨rfl, n2, rfl⟩
        have hy : Rd br ((w.alloc (.cells #[.bool false, .string ⟨#[]⟩, .slice none 0 0] 101)).drewN n2) s p := (HR0.out _).drewN
        have hy2 : Off (· = br) w ((w.alloc (.cells #[.bool false, .string ⟨#[]⟩, .slice none 0 0] 101)).drewN n2) ∧ w.heap.size < ((w.alloc (.cells #[.bool false, .string ⟨#[]⟩, .slice none 0 0] 101)).drewN n2).heap.size := ⟨HO0.out _ _, HS0.out _ _⟩
        have hy3 : Off (· = br) (w.alloc (.cells #[.bool false, .string ⟨#[]⟩, .slice none 0 0] 101)) ((w.alloc (.cells #[.bool false, .string ⟨#[]⟩, .slice none 0 0] 101)).drewN n2) := (Off.refl _ _).drewN
        have HRY := Lib.hid hy
        have HOY := Lib.hid hy2
        have HOZ := Lib.hid hy3
        clear hy hy2 hy3
        generalize ((w.alloc (.cells #[.bool false, .string ⟨#[]⟩, .slice none 0 0] 101)).drewN n2) = wy at HRY HOY HOZ ⊢
        obtain ⟨r1, r2, r3⟩ := HRY.out
        obtain ⟨⟨z1, z2, z3⟩, zf, zl⟩ := cells3_off HOZ.out hbrn
        have zf0 := zf 0
        have zf1 := zf 1
        have zf2 := zf 2
        clear zf
        go_wp2_with fail
        go_quiet ((go_at_call 57; exact Calls.quiet_of_same (HPRE.out _)))
        clear r1 r2 r3
        go_wp2_with fail
        refine bodyPost_ret (v := .tuple #[fz, .bool false]) (by simp [results, Tryz.results85, go_sem, z1, z2, z3]) rfl ⟨?_, .inr ⟨rfl, HNO.out⟩⟩
        exact ((HOY.out.1.drewN.setCell (.inl (Nat.le_refl _)) _).setCell (.inl (Nat.le_refl _)) _).setCell (.inl (Nat.le_refl _)) _
    · have hx48 : (x == 48) = false := by rw [beq_eq_false_iff_ne]; exact h48
      by_cases hdg : 49 ≤ x ∧ x ≤ 57
      · have htx := htext (by
          have e := HX.out
          cases e1 : L with
          | nil => rw [e1] at e; simp [nx] at e; omega
          | cons c r =>
            rw [e1] at e
            have e' : x = (c.toNat : Int) := e
            refine ⟨c, r, rfl, ⟨by omega, by omega⟩, fun h => ?_⟩
            subst h
            exact absurd e' h48)
        have HTX := Lib.hid htx
        have hcs : x = 49 ∨ x = 50 ∨ x = 51 ∨ x = 52 ∨ x = 53 ∨ x = 54 ∨ x = 55 ∨ x = 56 ∨ x = 57 := by omega
        clear htx htext HX hdg h48 hx40 hx48
        rcases hcs with rfl | rfl | rfl | rfl | rfl | rfl | rfl | rfl | rfl
        all_goals
          go_enter Tryz.func85, Tryz.ntmps85
          go_wp2_with fail
          refine (HC.out _ (HR0.out _)).mono ?_
          rintro e w2 ⟨rfl, n2, rfl⟩
          have hy : Rd br ((w.alloc (.cells #[.bool false, .string ⟨#[]⟩, .slice none 0 0] 101)).drewN n2) s p := (HR0.out _).drewN
          have hy2 : Off (· = br) w ((w.alloc (.cells #[.bool false, .string ⟨#[]⟩, .slice none 0 0] 101)).drewN n2) ∧ w.heap.size < ((w.alloc (.cells #[.bool false, .string ⟨#[]⟩, .slice none 0 0] 101)).drewN n2).heap.size := ⟨HO0.out _ _, HS0.out _ _⟩
          have hy3 : Off (· = br) (w.alloc (.cells #[.bool false, .string ⟨#[]⟩, .slice none 0 0] 101)) ((w.alloc (.cells #[.bool false, .string ⟨#[]⟩, .slice none 0 0] 101)).drewN n2) := (Off.refl _ _).drewN
          have HRY := Lib.hid hy
          have HOY := Lib.hid hy2
          have HOZ := Lib.hid hy3
          clear hy hy2 hy3
          generalize ((w.alloc (.cells #[.bool false, .string ⟨#[]⟩, .slice none 0 0] 101)).drewN n2) = wy at HRY HOY HOZ ⊢
          go_wp2_with fail
          refine (HTX.out _ HRY.out).mono ?_
          rintro e w3 hrp
          have hof3 := hrp.1
          have HRP := Lib.hid (read_wrap hrp HOY.out.1 (by exact HOY.out.2) hbrn)
          obtain ⟨⟨z1, z2, z3⟩, zf, zl⟩ := cells3_off (HOZ.out.trans hof3) hbrn
          have zf0 := zf 0
          have zf1 := zf 1
          have zf2 := zf 2
          rcases hrp.2 with ⟨l1, t1, xs1, a1, c1, q3, R3, rfl, -⟩ | ⟨rfl, -⟩
          · clear hrp hof3 zf
            go_wp2_with fail
            refine bodyPost_ret (v := .tuple #[fv l1 t1 (.slice a1 xs1.length c1), .bool true]) (by simp [results, Tryz.results85, go_sem, z1, z2, z3]) rfl ?_
            exact HRP.out _ _ _
          · clear hrp hof3 zf
            go_wp2_with fail
            refine bodyPost_ret (v := .tuple #[fz, .bool false]) (by simp [results, Tryz.results85, go_sem, z1, z2, z3]) rfl ?_
            exact HRP.out _ _ _
      · have hno : ∀ T R, ¬ IsF d L T R := isF_none fun c r e => by
          have e1 := HX.out
          rw [e] at e1
          have e' : x = (c.toNat : Int) := e1
          constructor
          · rintro rfl
            rw [e'] at hx40
            exact absurd hx40 (by decide)
          · rintro ⟨g1, g2⟩
            have h9 : ¬ x = 48 := h48
            omega
        have HNO := Lib.hid hno
        have f49 : (x == 49) = false := by rw [beq_eq_false_iff_ne]; omega
        have f50 : (x == 50) = false := by rw [beq_eq_false_iff_ne]; omega
        have f51 : (x == 51) = false := by rw [beq_eq_false_iff_ne]; omega
        have f52 : (x == 52) = false := by rw [beq_eq_false_iff_ne]; omega
        have f53 : (x == 53) = false := by rw [beq_eq_false_iff_ne]; omega
        have f54 : (x == 54) = false := by rw [beq_eq_false_iff_ne]; omega
        have f55 : (x == 55) = false := by rw [beq_eq_false_iff_ne]; omega
        have f56 : (x == 56) = false := by rw [beq_eq_false_iff_ne]; omega
        have f57 : (x == 57) = false := by rw [beq_eq_false_iff_ne]; omega
        clear hno htext h48 hdg
        go_enter Tryz.func85, Tryz.ntmps85
        go_wp2_with fail
        refine (HC.out _ (HR0.out _)).mono ?_
        rintro e w2 ⟨rfl, n2, rfl⟩
        have hy : Rd br ((w.alloc (.cells #[.bool false, .string ⟨#[]⟩, .slice none 0 0] 101)).drewN n2) s p := (HR0.out _).drewN
        have hy2 : Off (· = br) w ((w.alloc (.cells #[.bool false, .string ⟨#[]⟩, .slice none 0 0] 101)).drewN n2) ∧ w.heap.size < ((w.alloc (.cells #[.bool false, .string ⟨#[]⟩, .slice none 0 0] 101)).drewN n2).heap.size := ⟨HO0.out _ _, HS0.out _ _⟩
        have hy3 : Off (· = br) (w.alloc (.cells #[.bool false, .string ⟨#[]⟩, .slice none 0 0] 101)) ((w.alloc (.cells #[.bool false, .string ⟨#[]⟩, .slice none 0 0] 101)).drewN n2) := (Off.refl _ _).drewN
        have HRY := Lib.hid hy
        have HOY := Lib.hid hy2
        have HOZ := Lib.hid hy3
        clear hy hy2 hy3
        generalize ((w.alloc (.cells #[.bool false, .string ⟨#[]⟩, .slice none 0 0] 101)).drewN n2) = wy at HRY HOY HOZ ⊢
        obtain ⟨⟨z1, z2, z3⟩, zf, zl⟩ := cells3_off HOZ.out hbrn
        have zf0 := zf 0
        have zf1 := zf 1
        have zf2 := zf 2
        clear zf
        go_wp2_with fail
        refine bodyPost_ret (v := .tuple #[fz, .bool false]) (by simp [results, Tryz.results85, go_sem, z1, z2, z3]) rfl ⟨?_, .inr ⟨rfl, HNO.out⟩⟩
        exact ((HOY.out.1.setCell (.inl (Nat.le_refl _)) _).setCell (.inl (Nat.le_refl _)) _).setCell (.inl (Nat.le_refl _)) _

theorem rdform_any (s : ByteArray) (hs : s.size ≤ 100000) : ∀ (k d : Nat), d + k = 8 → FormC s d
  | 0, d, h => fun br q wz hr hq => rdform_step br s q d wz hr hq hs (by omega) fun h8 => by omega
  | k + 1, d, h => fun br q wz hr hq => rdform_step br s q d wz hr hq hs (by omega) fun _ => rdform_any s hs k (d + 1) (by omega)
end Go.Proofs.YthamfbfeokmhgaaGreatDoor
