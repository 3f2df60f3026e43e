/- The contract of the reader's text. -/
import Derived.Deep.LoopGhost
import Derived.StillTailTactics
import Derived.Test.YthamfbfeokmhgaaGreatDoorU20
import Derived.Test.YthamfbfeokmhgaaGreatDoorU5
set_option linter.unusedVariables false
namespace Go.Proofs.YthamfbfeokmhgaaGreatDoor
open Go.ChangeShapes Go.WideShapes Go.ChangeAt Go.RowKit
open Go.Lib (decDigits)

def ReadP (d : Nat) (L : List UInt8) (br : Nat) (s : ByteArray) (w : World) (e : Ending) (w' : World) : Prop :=
  Off (· = br) w w' ∧
    ((∃ l t xs a c q R, e = .returned (.tuple #[fv l t (.slice a xs.length c), .bool true]) ∧ IsF d L (.mk l t xs) R ∧ q ≤ s.size ∧ s.data.toList.drop q = R ∧ Rd br w' s q ∧ t.size ≤ 140737488355328 ∧ SlL (fun i => w.heap.size ≤ i) w' (.slice a xs.length c) xs) ∨
     (e = .returned (.tuple #[fz, .bool false]) ∧ ∀ T R, ¬ IsF d L T R))
theorem text_fin {s : ByteArray} {d k q S : Nat} {L L2 : List UInt8} (hd : d ≤ 8) (hdig : ∀ c ∈ L.take k, isDig c) (hne : L.take k ≠ []) (hL2 : L.drop k = 58 :: L2) (hd2 : s.data.toList.drop (q + 1) = L2) (hS : S = val (L.take k)) (hSq : q + 1 + S ≤ s.size)
    (hf : ∃ c r, L = c :: r ∧ isDig c ∧ (c = 48 → ∃ r2, r = 58 :: r2)) : IsF d L (.mk false (s.extract (q + 1) (q + 1 + S)) []) (s.data.toList.drop (q + 1 + S)) := by
  have hz : (L.take k).head? = some 48 → L.take k = [48] := by
    intro h
    obtain ⟨c, r, e, hc, h48⟩ := hf
    cases k with
    | zero => simp at hne
    | succ k =>
      rw [e] at h ⊢
      simp only [List.take_succ_cons, List.head?_cons, Option.some.injEq] at h
      subst h
      obtain ⟨r2, e2⟩ := h48 rfl
      cases k with
      | zero => rfl
      | succ k =>
        exfalso
        refine not_dig_58 (hdig 58 ?_)
        rw [e, e2]
        simp
  have e := List.take_append_drop k L
  rw [hL2] at e
  rw [← e]
  have hl2 : L2.length = s.size - (q + 1) := by rw [← hd2, List.length_drop, ba_len]
  refine text_ok hd hne hdig hz _ _ ?_ ?_
  · rw [← hS, ← ba_len, extract_list, List.length_take, hd2, hl2]; omega
  · rw [extract_list, hd2, show q + 1 + S - (q + 1) = S by omega]
    have : s.data.toList.drop (q + 1 + S) = L2.drop S := by rw [← hd2, List.drop_drop]
    rw [this, List.take_append_drop]
theorem Rd.setOther {br : Nat} {w : World} {s : ByteArray} {p : Nat} (h : Rd br w s p) {q : Addr} (hq : q.block ≠ br) (u : Value) : Rd br (w.setCell q u) s p :=
  ⟨(World.cell?_setCell_other _ _ _ _ (fun e => hq (by rw [e]))).trans h.text, (World.cell?_setCell_other _ _ _ _ (fun e => hq (by rw [e]))).trans h.at_, (World.frozen?_setCell _ _ _ _).trans h.free⟩
set_option maxHeartbeats 4000000 in
set_option maxRecDepth 100000 in
theorem rdtext_any (br : Nat) (s : ByteArray) (p d : Nat) (w : World) (h : Rd br w s p) (hp : p ≤ s.size) (hs : s.size ≤ 100000) (hd : d ≤ 8)
    (hfirst : ∃ c r, s.data.toList.drop p = c :: r ∧ isDig c ∧ (c = 48 → ∃ r2, r = 58 :: r2)) :
    Calls Tryz.prog 100 #[.pointer (some ⟨br, 0, none⟩)] w (ReadP d (s.data.toList.drop p) br s w) := by
  obtain ⟨L, hL⟩ : ∃ L, L = s.data.toList.drop p := ⟨_, rfl⟩
  have hN : p + L.length = s.size := by rw [hL, List.length_drop, ba_len]; omega
  have hdr : ∀ k, s.data.toList.drop (p + k) = L.drop k := fun k => by rw [hL, List.drop_drop]
  rw [← hL] at hfirst ⊢
  obtain ⟨N, hNN⟩ : ∃ N, N = L.length := ⟨_, rfl⟩
  rw [← hNN] at hN
  have hbr := cell_lt h.text
  have hbrn : ¬ w.heap.size = br := by omega
  have HRD := Lib.hid h
  have HL := Lib.hid hL
  have HNN := Lib.hid hNN
  have HDR := Lib.hid hdr
  have HF := Lib.hid hfirst
  clear h hL hNN hdr hfirst
  go_enter Tryz.func100, Tryz.ntmps100
  go_wp2_with fail
  go_loopw [4] (fun sz wr => ∃ k : Nat, k ≤ N ∧ sz = .int .i64 (val (L.take k)) ∧ (∀ c ∈ L.take k, isDig c) ∧ Rd br wr s (p + k) ∧ Off (· = br) (w.alloc (.cells #[.bool false, .string ⟨#[]⟩, .slice none 0 0] 101)) wr ∧ val (L.take k) ≤ 100001) (fun _ wr => s.size - (intOf ((wr.cell? ⟨br, 1, none⟩).getD .nilIface)).toNat)
  case atStart => exact ⟨0, Nat.zero_le _, rfl, by simp, HRD.out.below ((Below.refl _ _).alloc (Nat.le_refl _) _), Off.refl _ _, by simp [val]⟩
  case round =>
    obtain ⟨k, hk, rfl, hdig, hrd, hoff, hval⟩ := hrel
    obtain ⟨x, hx⟩ : ∃ x, x = nx (L.drop k) := ⟨_, rfl⟩
    have hxr := nx_range (L.drop k)
    rw [← hx] at hxr
    obtain ⟨hx0, hx1⟩ := hxr
    obtain ⟨S, hS⟩ : ∃ S, S = val (L.take k) := ⟨_, rfl⟩
    rw [← hS] at hval ⊢
    have hc : ∀ wz, Rd br wz s (p + k) → Calls Tryz.prog 98 #[.pointer (some ⟨br, 0, none⟩)] wz fun e w' => e = .returned (.int .u8 x) ∧ ∃ n, w' = wz.drewN n := fun wz hz => by
      have := next_any br s (p + k) wz hz (by omega) (by omega)
      rw [HDR.out, ← hx] at this
      exact this
    obtain ⟨q, hq⟩ : ∃ q, q = p + k := ⟨_, rfl⟩
    rw [← hq] at hc hrd
    have hqs : q ≤ s.size := by omega
    obtain ⟨r1, r2, r3⟩ := hrd
    obtain ⟨⟨z1, z2, z3⟩, zf, zl⟩ := cells3_off hoff hbrn
    have zf0 := zf 0
    have zf1 := zf 1
    have zf2 := zf 2
    have HC := Lib.hid hc
    have HX := Lib.hid hx
    have HSS := Lib.hid hS
    have HD := Lib.hid hdig
    have HR := Lib.hid (Rd.mk r1 r2 r3)
    have HO := Lib.hid hoff
    have HQ := Lib.hid hq
    clear hc hx hS hdig hoff hq zf
    by_cases hdg : 48 ≤ x ∧ x ≤ 57
    · obtain ⟨h48, h57⟩ := hdg
      obtain ⟨c, hcx⟩ : ∃ c, L.drop k = c :: L.drop (k + 1) ∧ x = (c.toNat : Int) := by
        have e := HX.out
        cases e1 : L.drop k with
        | nil => rw [e1] at e; simp [nx] at e; omega
        | cons c r =>
          rw [e1] at e
          have e2 : L.drop (k + 1) = r := by rw [← List.drop_drop, e1]; rfl
          exact ⟨c, by rw [e2], e⟩
      have hkN : k < N := by
        have := congrArg List.length hcx.1
        rw [List.length_drop, List.length_cons, List.length_drop, ← HNN.out] at this
        omega
      have hget : L[k]? = some c := by
        have := congrArg (fun l => l.head?) hcx.1
        simpa [List.head?_drop] using this
      have htk : L.take (k + 1) = L.take k ++ [c] := by rw [List.take_add_one, hget]; rfl
      have hcd : isDig c := ⟨by have := hcx.2; omega, by have := hcx.2; omega⟩
      have hv2 : ((val (L.take (k + 1)) : Nat) : Int) = 10 * (S : Int) + (x - 48) := by
        rw [htk, val_snoc, ← HSS.out, hcx.2]
        have := hcd.1
        omega
      have HG := Lib.hid hcx
      have HTK := Lib.hid htk
      have HCD := Lib.hid hcd
      have HV2 := Lib.hid hv2
      clear hcx hget htk hcd hv2
      by_cases hbig : (s.size : Int) - (q : Int) < 10 * (S : Int) + (x - 48)
      · have hno : ∀ T R, ¬ IsF d L T R := fun T R hT => by
          have e := List.take_append_drop k L
          rw [HG.out.1] at e
          rw [← e] at hT
          refine text_fail_long HD.out HCD.out ?_ T R hT
          have e2 := HV2.out
          rw [HTK.out] at e2
          have e3 : (L.drop (k + 1)).length = N - (k + 1) := by rw [List.length_drop, HNN.out]
          have e4 := HQ.out
          rw [e3]
          omega
        have HNO := Lib.hid hno
        clear hno
        go_wp2_with fail
        refine (HC.out _ HR.out).mono ?_
        rintro e w2 ⟨rfl, n2, rfl⟩
        go_wp2_with fail
        refine (HC.out _ HR.out.drewN).mono ?_
        rintro e w3 ⟨rfl, n3, rfl⟩
        go_wp2_with fail
        refine (HC.out _ HR.out.drewN).mono ?_
        rintro e w4 ⟨rfl, n4, rfl⟩
        go_wp2_with fail
        go_quiet (fail)
        go_wp2_with fail
        refine bodyPost_ret (v := .tuple #[fz, .bool false]) (by simp [results, Tryz.results100, go_sem, z1, z2, z3]) rfl ⟨?_, .inr ⟨rfl, HNO.out⟩⟩
        exact (((((Off.refl _ _).alloc _).trans HO.out).drewN.setCell (.inl (Nat.le_refl _)) _).setCell (.inl (Nat.le_refl _)) _).setCell (.inl (Nat.le_refl _)) _
      · have hq63 : (q : Int) + 1 ≤ 9223372036854775807 := by omega
        have hbB : decide ((s.size : Int) - (q : Int) < 10 * (S : Int) + (x - 48)) = false := decide_eq_false hbig
        have HBIG := Lib.hid hbig
        clear hbig
        go_wp2_with fail
        refine (HC.out _ HR.out).mono ?_
        rintro e w2 ⟨rfl, n2, rfl⟩
        go_wp2_with fail
        refine (HC.out _ HR.out.drewN).mono ?_
        rintro e w3 ⟨rfl, n3, rfl⟩
        go_wp2_with fail
        refine (HC.out _ HR.out.drewN).mono ?_
        rintro e w4 ⟨rfl, n4, rfl⟩
        go_wp2_with fail
        go_quiet (fail)
        go_wp2_with fail
        refine ⟨⟨k + 1, hkN, ?_, ?_, ?_, ?_, ?_⟩, ?_⟩
        · rw [HV2.out]
        · intro c' hc'
          rw [HTK.out] at hc'
          rcases List.mem_append.1 hc' with h | h
          · exact HD.out c' h
          · rw [List.mem_singleton] at h; exact h ▸ HCD.out
        · have := HR.out.drewN (n := n2 + n3 + n4 + nq)
          have e := this.set (q + 1)
          have e2 := HQ.out
          rw [show p + (k + 1) = q + 1 by omega]
          exact e
        · exact HO.out.drewN.setCell (.inr rfl) _
        · have := HV2.out
          have := HBIG.out
          omega
        · have e1 : ((wr.drewN (n2 + n3 + n4 + nq)).setCell ⟨br, 1, none⟩ (.int .i64 ((q : Int) + 1))).cell? ⟨br, 1, none⟩ = some (.int .i64 ((q : Int) + 1)) := World.cell?_setCell_same _ _ _ (by exact r2)
          rw [e1, r2]
          have e2 := HQ.out
          simp [intOf]
          omega
    · have hk2 : ∀ y r, L.drop k = y :: r → ¬ isDig y := fun y r e hy => by
        have e1 := HX.out
        rw [e] at e1
        apply hdg
        have : x = (y.toNat : Int) := e1
        unfold isDig at hy
        omega
      have hnd : ¬ 48 ≤ x ∨ (48 ≤ x ∧ ¬ x ≤ 57) := by omega
      have hk0 : k ≠ 0 := by
        rintro rfl
        obtain ⟨c, r, e, hc, _⟩ := HF.out
        exact hk2 c r e hc
      have hne : L.take k ≠ [] := by
        intro e
        have := congrArg List.length e
        rw [List.length_take, ← HNN.out, List.length_nil] at this
        omega
      have HK2 := Lib.hid hk2
      have HNE := Lib.hid hne
      clear hk2 hk0 hne hdg
      by_cases h58 : x = 58
      · have hLk : ∃ r, L.drop k = 58 :: r := by
          have e := HX.out
          cases e1 : L.drop k with
          | nil => rw [e1] at e; simp [nx] at e; omega
          | cons c r =>
            rw [e1] at e
            refine ⟨r, ?_⟩
            have : (c.toNat : Int) = 58 := by rw [← h58]; exact e.symm
            have hc : c = 58 := by
              apply UInt8.toNat.inj
              show c.toNat = 58
              omega
            rw [hc]
        obtain ⟨L2, hL2⟩ := hLk
        have hkN : k < N := by
          have := congrArg List.length hL2
          rw [List.length_drop, List.length_cons, ← HNN.out] at this
          omega
        have hl2 : L2.length = N - (k + 1) := by
          have := congrArg List.length hL2
          rw [List.length_drop, List.length_cons, ← HNN.out] at this
          omega
        have hd2 : s.data.toList.drop (q + 1) = L2 := by
          have e : s.data.toList.drop q = 58 :: L2 := by rw [← hL2, ← HDR.out, HQ.out]
          rw [← List.drop_drop, e]; rfl
        have HL2 := Lib.hid hL2
        have HLL := Lib.hid hl2
        have HD2 := Lib.hid hd2
        clear hL2 hl2 hd2
        have hxc : (x != 58) = false := by rw [bne_eq_false_iff_eq]; exact h58
        clear h58
        by_cases hshort : L2.length < S
        · have hno : ∀ T R, ¬ IsF d L T R := fun T R hT => by
            have e := List.take_append_drop k L
            rw [HL2.out] at e
            rw [← e] at hT
            exact text_fail_short HNE.out HD.out (by rw [← HSS.out]; exact hshort) T R hT
          have HNO := Lib.hid hno
          have hbB : decide ((s.size : Int) - ((q : Int) + 1) < (S : Int)) = true := decide_eq_true (by have := HLL.out; have := HQ.out; omega)
          clear hno
          rcases hnd with h1 | ⟨h1, h2⟩
          · go_wp2_with fail
            refine (HC.out _ HR.out).mono ?_
            rintro e w2 ⟨rfl, n2, rfl⟩
            go_wp2_with fail
            refine (HC.out _ HR.out.drewN).mono ?_
            rintro e w3 ⟨rfl, n3, rfl⟩
            go_wp2_with fail
            go_quiet (fail)
            go_wp2_with fail
            refine bodyPost_ret (v := .tuple #[fz, .bool false]) (by simp [results, Tryz.results100, go_sem, z1, z2, z3]) rfl ⟨?_, .inr ⟨rfl, HNO.out⟩⟩
            exact (((((((Off.refl _ _).alloc _).trans HO.out).drewN.setCell (.inr rfl) _).drewN).setCell (.inl (Nat.le_refl _)) _).setCell (.inl (Nat.le_refl _)) _).setCell (.inl (Nat.le_refl _)) _
          · go_wp2_with fail
            refine (HC.out _ HR.out).mono ?_
            rintro e w2 ⟨rfl, n2, rfl⟩
            go_wp2_with fail
            refine (HC.out _ HR.out.drewN).mono ?_
            rintro e w3 ⟨rfl, n3, rfl⟩
            go_wp2_with fail
            refine (HC.out _ HR.out.drewN).mono ?_
            rintro e w4 ⟨rfl, n4, rfl⟩
            go_wp2_with fail
            go_quiet (fail)
            go_wp2_with fail
            refine bodyPost_ret (v := .tuple #[fz, .bool false]) (by simp [results, Tryz.results100, go_sem, z1, z2, z3]) rfl ⟨?_, .inr ⟨rfl, HNO.out⟩⟩
            exact (((((((Off.refl _ _).alloc _).trans HO.out).drewN.setCell (.inr rfl) _).drewN).setCell (.inl (Nat.le_refl _)) _).setCell (.inl (Nat.le_refl _)) _).setCell (.inl (Nat.le_refl _)) _
        · have hSq : q + 1 + S ≤ s.size := by have := HLL.out; have := HQ.out; omega
          have hbB : decide ((s.size : Int) - ((q : Int) + 1) < (S : Int)) = false := decide_eq_false (by omega)
          have hfin := text_fin (s := s) hd HD.out HNE.out HL2.out HD2.out HSS.out hSq HF.out
          have hext : (s.extract (q + 1) (q + 1 + S)).size ≤ 140737488355328 := by rw [← ba_len, extract_list, List.length_take, List.length_drop, ba_len]; omega
          obtain ⟨A, hA⟩ : ∃ A, A = q + 1 + S := ⟨_, rfl⟩
          obtain ⟨C, hC⟩ : ∃ C, C = q + 1 := ⟨_, rfl⟩
          rw [← hA] at hfin hext
          rw [← hC] at hfin hext
          have HFIN := Lib.hid hfin
          have HEXT := Lib.hid hext
          have HA := Lib.hid hA
          have HCC := Lib.hid hC
          have hAs : A ≤ s.size := by omega
          have hCA : C ≤ A := by omega
          have hCi : (C : Int) = (A : Int) - (S : Int) := by omega
          have HCI := Lib.hid hCi
          clear hfin hext hA hC hCi
          rcases hnd with h1 | ⟨h1, h2⟩
          · go_wp2_with fail
            refine (HC.out _ HR.out).mono ?_
            rintro e w2 ⟨rfl, n2, rfl⟩
            go_wp2_with fail
            refine (HC.out _ HR.out.drewN).mono ?_
            rintro e w3 ⟨rfl, n3, rfl⟩
            go_wp2_with fail
            go_quiet (fail)
            go_wp2_with fail
            have HY : Hid (Rd br ((((wr.drewN (n2 + n3)).setCell ⟨br, 1, none⟩ (.int .i64 ((q : Int) + 1))).drewN nq).setCell ⟨br, 1, none⟩ (.int .i64 ((q : Int) + 1 + (S : Int)))) s A ∧ Off (· = br) (w.alloc (.cells #[.bool false, .string ⟨#[]⟩, .slice none 0 0] 101)) ((((wr.drewN (n2 + n3)).setCell ⟨br, 1, none⟩ (.int .i64 ((q : Int) + 1))).drewN nq).setCell ⟨br, 1, none⟩ (.int .i64 ((q : Int) + 1 + (S : Int))))) := by
              rw [HA.out]
              exact ⟨(((HR.out.drewN (n := n2 + n3)).set (q + 1)).drewN (n := nq)).set (q + 1 + S), ((HO.out.drewN.setCell (p := ⟨br, 1, none⟩) (.inr rfl) _).drewN).setCell (p := ⟨br, 1, none⟩) (.inr rfl) _⟩
            generalize ((((wr.drewN (n2 + n3)).setCell ⟨br, 1, none⟩ (.int .i64 ((q : Int) + 1))).drewN nq).setCell ⟨br, 1, none⟩ (.int .i64 ((q : Int) + 1 + (S : Int)))) = wy at HY ⊢
            clear r1 r2 r3 z1 z2 z3 zf0 zf1 zf2 zl
            obtain ⟨y1, y2, y3⟩ := HY.out.1
            have hoy := HY.out.2.drew
            have HOY := Lib.hid hoy
            have hry : Rd br wy.drew s A := ⟨y1, y2, y3⟩
            have HRY := Lib.hid hry
            have i0 : (0 : Int) ≤ C := by omega
            have i1 : (C : Int) ≤ A := by omega
            have i2 : (A : Int) ≤ s.size := by omega
            have i3 : IntKind.i64.wrap ((A : Int) - (S : Int)) = (C : Int) := by rw [← HCI.out]; exact IntWalk.i64_in _ (by omega)
            clear hoy hry
            go_still_tail 15, (by kernel_rfl)
            change wpList _ _ _ _ _ wy.drew
            generalize wy.drew = wx at HOY HRY ⊢
            clear HY y1 y2 y3
            go_wp2_with fail
            refine (text_any _ _).mono ?_
            rintro e w5 ⟨rfl, hb5⟩
            have ho5 : Off (· = br) (w.alloc (.cells #[.bool false, .string ⟨#[]⟩, .slice none 0 0] 101)) w5 := HOY.out.trans (Off.of_below hb5)
            obtain ⟨⟨z1, z2, z3⟩, zf, zl⟩ := cells3_off ho5 hbrn
            have zf0 := zf 0
            have zf1 := zf 1
            have zf2 := zf 2
            have HO5 := Lib.hid ho5
            have HR5 := Lib.hid (HRY.out.below hb5)
            clear ho5 hb5 zf
            go_wp2_with fail
            refine bodyPost_ret (v := .tuple #[fv false (s.extract C A) (.slice none 0 0), .bool true]) (by simp [results, Tryz.results100, go_sem, z1, z2, z3]) rfl ⟨?_, .inl ⟨false, s.extract C A, [], none, 0, A, s.data.toList.drop A, rfl, HFIN.out, hAs, rfl, ?_, HEXT.out, .nil none 0 (Nat.zero_le _)⟩⟩
            · exact (((((Off.refl _ _).alloc _).trans HO5.out).setCell (.inl (Nat.le_refl _)) _).setCell (.inl (Nat.le_refl _)) _).setCell (.inl (Nat.le_refl _)) _
            · exact ((HR5.out.setOther hbrn _).setOther hbrn _).setOther hbrn _
          · go_wp2_with fail
            refine (HC.out _ HR.out).mono ?_
            rintro e w2 ⟨rfl, n2, rfl⟩
            go_wp2_with fail
            refine (HC.out _ HR.out.drewN).mono ?_
            rintro e w3 ⟨rfl, n3, rfl⟩
            go_wp2_with fail
            refine (HC.out _ HR.out.drewN).mono ?_
            rintro e w4 ⟨rfl, n4, rfl⟩
            go_wp2_with fail
            go_quiet (fail)
            go_wp2_with fail
            have HY : Hid (Rd br ((((wr.drewN (n2 + n3 + n4)).setCell ⟨br, 1, none⟩ (.int .i64 ((q : Int) + 1))).drewN nq).setCell ⟨br, 1, none⟩ (.int .i64 ((q : Int) + 1 + (S : Int)))) s A ∧ Off (· = br) (w.alloc (.cells #[.bool false, .string ⟨#[]⟩, .slice none 0 0] 101)) ((((wr.drewN (n2 + n3 + n4)).setCell ⟨br, 1, none⟩ (.int .i64 ((q : Int) + 1))).drewN nq).setCell ⟨br, 1, none⟩ (.int .i64 ((q : Int) + 1 + (S : Int))))) := by
              rw [HA.out]
              exact ⟨(((HR.out.drewN (n := n2 + n3 + n4)).set (q + 1)).drewN (n := nq)).set (q + 1 + S), ((HO.out.drewN.setCell (p := ⟨br, 1, none⟩) (.inr rfl) _).drewN).setCell (p := ⟨br, 1, none⟩) (.inr rfl) _⟩
            generalize ((((wr.drewN (n2 + n3 + n4)).setCell ⟨br, 1, none⟩ (.int .i64 ((q : Int) + 1))).drewN nq).setCell ⟨br, 1, none⟩ (.int .i64 ((q : Int) + 1 + (S : Int)))) = wy at HY ⊢
            clear r1 r2 r3 z1 z2 z3 zf0 zf1 zf2 zl
            obtain ⟨y1, y2, y3⟩ := HY.out.1
            have hoy := HY.out.2.drew
            have HOY := Lib.hid hoy
            have hry : Rd br wy.drew s A := ⟨y1, y2, y3⟩
            have HRY := Lib.hid hry
            have i0 : (0 : Int) ≤ C := by omega
            have i1 : (C : Int) ≤ A := by omega
            have i2 : (A : Int) ≤ s.size := by omega
            have i3 : IntKind.i64.wrap ((A : Int) - (S : Int)) = (C : Int) := by rw [← HCI.out]; exact IntWalk.i64_in _ (by omega)
            clear hoy hry
            go_still_tail 15, (by kernel_rfl)
            change wpList _ _ _ _ _ wy.drew
            generalize wy.drew = wx at HOY HRY ⊢
            clear HY y1 y2 y3
            go_wp2_with fail
            refine (text_any _ _).mono ?_
            rintro e w5 ⟨rfl, hb5⟩
            have ho5 : Off (· = br) (w.alloc (.cells #[.bool false, .string ⟨#[]⟩, .slice none 0 0] 101)) w5 := HOY.out.trans (Off.of_below hb5)
            obtain ⟨⟨z1, z2, z3⟩, zf, zl⟩ := cells3_off ho5 hbrn
            have zf0 := zf 0
            have zf1 := zf 1
            have zf2 := zf 2
            have HO5 := Lib.hid ho5
            have HR5 := Lib.hid (HRY.out.below hb5)
            clear ho5 hb5 zf
            go_wp2_with fail
            refine bodyPost_ret (v := .tuple #[fv false (s.extract C A) (.slice none 0 0), .bool true]) (by simp [results, Tryz.results100, go_sem, z1, z2, z3]) rfl ⟨?_, .inl ⟨false, s.extract C A, [], none, 0, A, s.data.toList.drop A, rfl, HFIN.out, hAs, rfl, ?_, HEXT.out, .nil none 0 (Nat.zero_le _)⟩⟩
            · exact (((((Off.refl _ _).alloc _).trans HO5.out).setCell (.inl (Nat.le_refl _)) _).setCell (.inl (Nat.le_refl _)) _).setCell (.inl (Nat.le_refl _)) _
            · exact ((HR5.out.setOther hbrn _).setOther hbrn _).setOther hbrn _
      · have hno : ∀ T R, ¬ IsF d L T R := fun T R hT => by
          rw [← List.take_append_drop k L] at hT
          refine text_fail_colon HNE.out HD.out HK2.out (fun r e => h58 ?_) T R hT
          have e1 := HX.out
          rw [e] at e1
          exact e1
        have h58b : (x != 58) = true := by rw [bne_iff_ne]; exact h58
        have HNO := Lib.hid hno
        clear hno h58
        rcases hnd with h1 | ⟨h1, h2⟩
        · go_wp2_with fail
          refine (HC.out _ HR.out).mono ?_
          rintro e w2 ⟨rfl, n2, rfl⟩
          go_wp2_with fail
          refine (HC.out _ HR.out.drewN).mono ?_
          rintro e w3 ⟨rfl, n3, rfl⟩
          go_wp2_with fail
          refine bodyPost_ret (v := .tuple #[fz, .bool false]) (by simp [results, Tryz.results100, go_sem, z1, z2, z3]) rfl ⟨?_, .inr ⟨rfl, HNO.out⟩⟩
          exact (((((Off.refl _ _).alloc _).trans HO.out).drewN.setCell (.inl (Nat.le_refl _)) _).setCell (.inl (Nat.le_refl _)) _).setCell (.inl (Nat.le_refl _)) _
        · go_wp2_with fail
          refine (HC.out _ HR.out).mono ?_
          rintro e w2 ⟨rfl, n2, rfl⟩
          go_wp2_with fail
          refine (HC.out _ HR.out.drewN).mono ?_
          rintro e w3 ⟨rfl, n3, rfl⟩
          go_wp2_with fail
          refine (HC.out _ HR.out.drewN).mono ?_
          rintro e w4 ⟨rfl, n4, rfl⟩
          go_wp2_with fail
          refine bodyPost_ret (v := .tuple #[fz, .bool false]) (by simp [results, Tryz.results100, go_sem, z1, z2, z3]) rfl ⟨?_, .inr ⟨rfl, HNO.out⟩⟩
          exact (((((Off.refl _ _).alloc _).trans HO.out).drewN.setCell (.inl (Nat.le_refl _)) _).setCell (.inl (Nat.le_refl _)) _).setCell (.inl (Nat.le_refl _)) _
end Go.Proofs.YthamfbfeokmhgaaGreatDoor
