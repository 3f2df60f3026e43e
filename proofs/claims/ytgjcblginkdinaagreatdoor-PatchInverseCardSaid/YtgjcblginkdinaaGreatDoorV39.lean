/- The contract of the document's Sum. -/
import Derived.Test.YtgjcblginkdinaaGreatDoorV38
set_option linter.unusedVariables false
namespace Go.Proofs.YtgjcblginkdinaaGreatDoor
open Go.ChangeShapes Go.WideShapes Go.ChangeAt Go.RowKit

attribute [local go_sem] bv_u8 wd_add wd_xor wd_and wd_or wd_ofByte wd_shl24 wd_shl16 wd_shl8 wd_shr3 wd_shr10
attribute [local go_sem] wd_not wd_byte wd_shr24 wd_shr16 wd_shr8

set_option maxHeartbeats 20000000 in
set_option maxRecDepth 100000 in
theorem rsum_any (s : ByteArray) (w : World) (hs : s.size ≤ 100000) :
    Calls Tryz.prog 37 #[.string s] w fun e w' => e = .returned (.string ⟨(shaR KK H0 s.data.toList).toArray⟩) ∧ Below w.heap.size w w' := by
  have hl : s.data.toList.length = s.size := Array.length_toList
  have hss : s.size ≤ 100000 := hs
  obtain ⟨n, hn⟩ : ∃ n, n = s.size := ⟨_, rfl⟩
  obtain ⟨L, hL⟩ : ∃ L, L = s.data.toList := ⟨_, rfl⟩
  rw [← hL] at hl
  rw [← hn] at hl hs
  have HL := Lib.hid hL
  have HN := Lib.hid hn
  have HLL := Lib.hid hl
  clear hL hl hn
  go_enter Tryz.func37, Tryz.ntmps37
  go_wp2_with fail
  refine (tableH w).mono ?_
  rintro e w1 ⟨hv, rfl, harrh, hb1⟩
  obtain ⟨bh, ch, hhv, hbh1, hbh2, hch1, hch2, hch3, hch4⟩ := harrh.pos (by simp [wvs, stW])
  rw [wvs_len, stW_len] at hhv
  subst hhv
  have HH := Lib.hid harrh
  have HB1 := Lib.hid hb1
  clear harrh hb1 hch1 hch2 hch3 hch4
  go_wp2_with fail
  refine (tableK w1).mono ?_
  rintro e w2 ⟨kv, rfl, harrk, hb2⟩
  obtain ⟨bk, ck, hkv, hbk1, hbk2, hck1, hck2, hck3, hck4⟩ := harrk.pos (by simp [wvs, KK])
  rw [wvs_len, KK_len] at hkv
  subst hkv
  have HK := Lib.hid harrk
  have HB2 := Lib.hid hb2
  have hs12 := hb2.size
  have hs01 := HB1.out.size
  clear harrk hb2 hck1 hck2 hck3 hck4
  obtain ⟨s2, hs2⟩ : ∃ s2 : ByteArray, s2 = s ++ ⟨#[128]⟩ := ⟨_, rfl⟩
  have hs2d : s2.data.toList = L ++ [128] := by rw [hs2, HL.out]; simp
  have hs2z : s2.size = n + 1 := by
    have h1 : s2.data.toList.length = s2.size := Array.length_toList
    rw [← h1, hs2d, List.length_append, HLL.out]; rfl
  obtain ⟨v0, w3, hrun, harr, hb3⟩ := arr_bytes (B := w2.heap.size) (P := Tryz.prog) w2 9 101 5 s2 Tryz.underlying9 Tryz.underlying101 Tryz.underlying5 (Nat.le_refl _) (by omega)
  rw [hs2] at hrun
  rw [hs2d] at harr
  have HA2 : Hid (Arr w2.heap.size w3 v0 (bys (L ++ [128] ++ List.replicate 0 0))) := Lib.hid (by rw [List.replicate_zero, List.append_nil]; exact harr)
  have HB3 := Lib.hid hb3
  clear harr hb3 hs2 hs2d hs2z
  go_wp2
  go_loopw [5] (fun v wr => ∃ j : Nat, j ≤ zeros L.length ∧ Arr w2.heap.size wr v (bys (L ++ [128] ++ List.replicate j 0)) ∧ Below w2.heap.size w2 wr) (fun v _ => 2000000 - lenOf v)
  case atStart => exact ⟨0, Nat.zero_le _, HA2.out, HB3.out⟩
  case round => as_aux_lemma =>
    obtain ⟨j, hj, harr, hbel⟩ := hrel
    have hz := zeros_lt L.length
    have hll := HLL.out
    obtain ⟨a, c, rfl⟩ := harr.form
    have hNl : (bys (L ++ [128] ++ List.replicate j 0)).length = L.length + 1 + j := by simp [bys_len]; omega
    obtain ⟨N, hNe⟩ : ∃ N, N = (bys (L ++ [128] ++ List.replicate j 0)).length := ⟨_, rfl⟩
    rw [← hNe] at hNl
    have HA3 := Lib.hid harr
    rw [← hNe] at HA3
    rw [← hNe]
    have HB4 := Lib.hid hbel
    have hsz3 := hbel.size
    have HNe := Lib.hid hNe
    have HJ := Lib.hid hj
    have HNl := Lib.hid hNl
    clear harr hbel hNe
    by_cases h56 : N % 64 = 56
    · as_aux_lemma =>
      have t1 : (((N : Int) % 64) == 56) = true := by rw [beq_iff_eq]; omega
      have t2 : (N : Int) % 64 = 56 := by omega
      have hje : j = zeros L.length := zeros_le (by rw [← hNl]; exact h56) hj
      have HJE := Lib.hid hje
      have HH6 := Lib.hid h56
      clear hje h56 hj hNl hz hll
      go_wp2
      have HA6 : Hid (Arr w2.heap.size wr (.slice a N c) (bys (L ++ [128] ++ List.replicate (zeros L.length) 0 ++ bitsB n 0))) := Lib.hid (by
        rw [← HJE.out]
        show Arr _ _ _ (bys (_ ++ []))
        rw [List.append_nil]
        exact HA3.out)
      clear t1 t2
      go_loopw [5, 7] (fun v sv wr => ∃ i : Nat, i ≤ 8 ∧ sv = .int .i64 (7 - (i : Int)) ∧ Arr w2.heap.size wr v (bys (L ++ [128] ++ List.replicate (zeros L.length) 0 ++ bitsB n i)) ∧ Below w2.heap.size w2 wr) (fun _ sv _ => (intOf sv + 1).toNat)
      case atStart => exact ⟨0, by omega, rfl, HA6.out, HB4.out⟩
      case round => as_aux_lemma =>
        obtain ⟨i, hi, rfl, harr, hbel⟩ := hrel
        obtain ⟨a6, c6, h6⟩ := harr.form
        obtain ⟨N6, hN6⟩ : ∃ N, N = (bys (L ++ [128] ++ List.replicate (zeros L.length) 0 ++ bitsB n i)).length := ⟨_, rfl⟩
        rw [← hN6] at h6
        subst h6
        have hN6' : N6 ≤ 1000200 := by
          rw [hN6, bys_len]
          have e1 := zeros_lt L.length
          have e2 := HLL.out
          simp [bitsB_len]; omega
        have HA7 := Lib.hid harr
        have HB7 := Lib.hid hbel
        have hsz7 := hbel.size
        have HN6 := Lib.hid hN6
        have HI := Lib.hid hi
        clear harr hbel hN6
        by_cases hlt : i < 8
        · as_aux_lemma =>
          obtain ⟨sh, hsh⟩ : ∃ sh : Nat, sh = 56 - 8 * i := ⟨_, rfl⟩
          have hsh' : (8 : Int) * (7 - (i : Int)) = (sh : Int) := by omega
          have hs56 : (sh : Int) ≤ 56 := by omega
          have hi7 : (i : Int) ≤ 7 := by omega
          obtain ⟨b, hb⟩ : ∃ b, b = UInt8.ofNat (n * 8 % 18446744073709551616 / 2 ^ (56 - 8 * i)) := ⟨_, rfl⟩
          have hval : IntKind.u8.wrap ((s.size : Int) * 8 / 2 ^ sh) = bv b := by
            rw [← HN.out, hb, ← hsh, IntKind.wrap_u8', bv, UInt8.toNat_ofNat', Nat.mod_eq_of_lt (by omega : n * 8 < 18446744073709551616)]
            rw [Int.natCast_emod, Int.natCast_ediv, Int.natCast_mul, Int.natCast_pow]
            rfl
          have HS := Lib.hid hsh
          have HBb := Lib.hid hb
          clear hsh hb hi
          go_wp2_with (at_builtin; refine wpList_append_arr rfl _ _ 101 rfl 5 (.int .u8 0) 1 Tryz.underlying101 Tryz.infoByte rfl w2.heap.size _ _ [.int .u8 (bv b)] rfl (HA7.out.alloc _) _ _ _ rfl rfl news_new one1 (Nat.zero_lt_succ _) (by rw [sizeAl]; omega) (by rw [← HN6.out]; show _ + 1 ≤ _; omega) (by decide) ?_; rintro v8 w8 harr8 hb8)
          have harr9 : Arr w2.heap.size w8 v8 (bys (L ++ [128] ++ List.replicate (zeros L.length) 0 ++ bitsB n (i + 1))) := by
            rw [bitsB_succ, ← List.append_assoc, bys_app, ← HBb.out]
            exact harr8
          refine ⟨⟨i + 1, by omega, by go_num, harr9, (HB7.out.alloc hsz7 _).trans hb8⟩, ?_⟩
          simp [intOf]; omega
        · as_aux_lemma =>
          have hie : i = 8 := by omega
          rw [hie] at HA7 HN6
          have HIE := Lib.hid hie
          obtain ⟨E, hE⟩ : ∃ E, E = endL L n := ⟨_, rfl⟩
          have hE8 : L ++ [128] ++ List.replicate (zeros L.length) 0 ++ bitsB n 8 = E := by rw [hE, endL]
          rw [hE8] at HA7 HN6
          have hEl : E.length = N6 := by rw [HN6.out, bys_len]
          obtain ⟨q, hq⟩ : ∃ q, N6 = 64 * q := ⟨N6 / 64, by have := endL_len L n; rw [← hE, hEl] at this; omega⟩
          have HE := Lib.hid hE
          have HEL := Lib.hid hEl
          obtain ⟨bb, cb, hs6, hbb1, hbb2, -, -, hbb5, hbb6⟩ := HA7.out.pos (by intro h; have e1 := bys_len E; rw [h, hE] at e1; have e2 := endL_pos L n; rw [← e1] at e2; simp at e2)
          obtain ⟨rfl, rfl⟩ := (by injection hs6 with e1 e2 e3; exact ⟨e1, e3⟩ : a6 = some ⟨bb, 0, none⟩ ∧ c6 = cb)
          have HBB := Lib.hid hbb6
          have hqa : N6 ≤ 64 * q := by omega
          have hqb : 64 * q ≤ N6 := by omega
          have hi9 : (8 : Int) ≤ i := by omega
          have hi9n : 8 ≤ i := by omega
          clear hE hE8 hEl hq hs6 hbb5 hbb6 hi hie hlt
          obtain ⟨w5, rfl⟩ : ∃ w5, w5 = wr := ⟨wr, rfl⟩
          go_wp2
          have hbne : bb ≠ bh := by omega
          have hkne : bk ≠ bh := by omega
          have hsz5 : w2.heap.size ≤ w5.heap.size := hsz7
          have HH5 : Hid (Arr w.heap.size w5 (.slice (some ⟨bh, 0, none⟩) 8 ch) (wvs (stW H0))) := Lib.hid ((HH.out.below HB2.out).below HB7.out)
          have HK5 : Hid (Arr w1.heap.size w5 (.slice (some ⟨bk, 0, none⟩) 64 ck) (wvs KK)) := Lib.hid (HK.out.below HB7.out)
          have HB5 : Hid (Below w.heap.size w w5) := Lib.hid ((HB1.out.trans (HB2.out.mono hs01)).trans (HB7.out.mono (Nat.le_trans hs01 hs12)))
          have HKC : Hid (∀ t, t < 64 → w5.cell? ⟨bk, t, none⟩ = some (.int .u32 (nv (KK.getD t 0)))) := Lib.hid (fun t ht => by
            obtain ⟨b', c', h1, -, -, -, -, -, h7⟩ := HK5.out.pos (by simp [wvs, KK])
            injection h1 with e1 e2 e3
            injection e1 with e1
            injection e1 with e1
            subst e1
            exact h7 t _ (wvs_at (getD_some 0 (by rw [KK_len]; exact ht))))
          obtain ⟨R, hR⟩ : ∃ R, R = mixL KK q H0 E := ⟨_, rfl⟩
          have HR := Lib.hid hR
          clear hi9 hi9n hR
          go_loopw [8] (fun iv wt => ∃ (m : Nat) (S : St), m ≤ q ∧ iv = .int .i64 ((64 * m : Nat) : Int) ∧ Hid (mixL KK (q - m) S (E.drop (64 * m)) = R) ∧ Arr w.heap.size wt (.slice (some ⟨bh, 0, none⟩) 8 ch) (wvs (stW S)) ∧ Hid (Keep bh w5 wt) ∧ Below w.heap.size w wt) (fun iv _ => 64 * q - (intOf iv).toNat)
          case atStart => exact ⟨0, H0, Nat.zero_le _, rfl, Lib.hid (by rw [HR.out]; rfl), HH5.out, Lib.hid (Keep.refl _ _), HB5.out⟩
          case round => as_aux_lemma =>
            obtain ⟨m, S, hm, rfl, HM, harr, HKP, hbel⟩ := hrel
            obtain ⟨at', hat⟩ : ∃ a, a = 64 * m := ⟨_, rfl⟩
            rw [← hat]
            rw [← hat] at HM
            have hszt : w5.heap.size ≤ wr.heap.size := HKP.out.1
            have HHt := Lib.hid harr
            have HBt := Lib.hid hbel
            clear harr hbel
            by_cases hlt : m < q
            · as_aux_lemma =>
              have hat1 : at' + 64 ≤ N6 := by omega
              have hat3 : (at' : Int) < N6 := by omega
              have hat4 : (0 : Int) ≤ at' := by omega
              have HAT := Lib.hid hat
              have hmk : (Instr.makeSlice 119 (.int .i64 64) (.int .i64 64)).run Tryz.prog wr = .ok (.slice (some ⟨wr.heap.size, 0, none⟩) 64 64) (wr.alloc (.cells (madeCells #[.int .u32 0] 64) 122)) :=
                run_make_row' (P := Tryz.prog) 119 122 (.int .u32 0) 4 Tryz.underlying119 Tryz.infoU32 rfl .i64 .i64 64 (by omega) (by omega) wr
              obtain ⟨Bk, hBk⟩ : ∃ B, B = (E.drop at').take 64 := ⟨_, rfl⟩
              have HBK := Lib.hid hBk
              clear hat hBk
              obtain ⟨w6, rfl⟩ : ∃ w6, w6 = wr := ⟨wr, rfl⟩
              go_wp2
              clear hmk
              go_loopw [10] (fun tv wt => ∃ (t : Nat), t ≤ 64 ∧ tv = .int .i64 t ∧ wt.rowIs w6.heap.size 122 64 (fun j => .int .u32 (nv ((sch Bk t).getD j 0))) ∧ Below w6.heap.size w6 wt) (fun tv _ => 64 - (intOf tv).toNat)
              case atStart => exact ⟨0, Nat.zero_le _, rfl, (World.rowIs_made w6 (.int .u32 0) 64 122).congr (fun j _ => rfl), (Below.refl _ _).alloc (Nat.le_refl _) _⟩
              case round => as_aux_lemma =>
                obtain ⟨t, ht, rfl, hrow, hbel⟩ := hrel
                have HRW := Lib.hid hrow
                have HB6 := Lib.hid hbel
                by_cases ht16 : t < 16
                · as_aux_lemma =>
                  obtain ⟨b0, e0⟩ : ∃ b, E[at' + 4 * t]? = some b := ⟨E[at' + 4 * t]'(by rw [HEL.out]; omega), List.getElem?_eq_getElem _⟩
                  obtain ⟨b1, e1⟩ : ∃ b, E[at' + 4 * t + 1]? = some b := ⟨E[at' + 4 * t + 1]'(by rw [HEL.out]; omega), List.getElem?_eq_getElem _⟩
                  obtain ⟨b2, e2⟩ : ∃ b, E[at' + 4 * t + 2]? = some b := ⟨E[at' + 4 * t + 2]'(by rw [HEL.out]; omega), List.getElem?_eq_getElem _⟩
                  obtain ⟨b3, e3⟩ : ∃ b, E[at' + 4 * t + 3]? = some b := ⟨E[at' + 4 * t + 3]'(by rw [HEL.out]; omega), List.getElem?_eq_getElem _⟩
                  have cbk : ∀ k x, E[k]? = some x → wr.cell? ⟨bb, k, none⟩ = some (.int .u8 (bv x)) := fun k x hx => (hbel.cell (p := ⟨bb, k, none⟩) (by show bb < w6.heap.size; omega)).trans ((HKP.out.cell hbb2 hbne).trans (HBB.out k _ (bys_at hx)))
                  have c0 := cbk _ _ e0
                  have c1 := cbk _ _ e1
                  have c2 := cbk _ _ e2
                  have c3 := cbk _ _ e3
                  have hwd : wdAt Bk t = BitVec.ofNat 32 b0.toNat <<< 24 ||| BitVec.ofNat 32 b1.toNat <<< 16 ||| BitVec.ofNat 32 b2.toNat <<< 8 ||| BitVec.ofNat 32 b3.toNat := by
                    rw [wdAt, HBK.out, bk_at (by omega) e0, bk_at (by omega) (by rw [← Nat.add_assoc]; exact e1), bk_at (by omega) (by rw [← Nat.add_assoc]; exact e2), bk_at (by omega) (by rw [← Nat.add_assoc]; exact e3)]; rfl
                  have HWD := Lib.hid hwd
                  have hcell := hrow.cell (i := t) (by omega)
                  have hfroz := hrow.frozen t
                  have h01 : (0 : Int) ≤ t := by omega
                  have h02 : (t : Int) < 16 := by omega
                  have h64 : (t : Int) < 64 := by omega
                  have j0 : (0 : Int) ≤ at' + 4 * t := by omega
                  have j1 : (0 : Int) ≤ at' + 4 * t + 1 := by omega
                  have j2 : (0 : Int) ≤ at' + 4 * t + 2 := by omega
                  have j3 : (0 : Int) ≤ at' + 4 * t + 3 := by omega
                  have l0 : (at' : Int) + 4 * t < N6 := by omega
                  have l1 : (at' : Int) + 4 * t + 1 < N6 := by omega
                  have l2 : (at' : Int) + 4 * t + 2 < N6 := by omega
                  have l3 : (at' : Int) + 4 * t + 3 < N6 := by omega
                  clear hrow hbel cbk e0 e1 e2 e3 hwd ht
                  obtain ⟨w0, rfl⟩ : ∃ w0, w0 = wr := ⟨wr, rfl⟩
                  go_wp2
                  go_region
                  go_wp2
                  refine ⟨⟨t + 1, by omega, by go_num, ?_, ?_⟩, by simp [intOf]; omega⟩
                  · refine (World.rowIs.set (f := fun j => .int .u32 (nv ((sch Bk t).getD j 0))) (by exact HRW.out) t _).drew.congr fun j hj => ?_
                    rw [sch_getD Bk t j]
                    by_cases e : j = t
                    · rw [if_pos e, if_pos e, nextW, if_pos ht16, HWD.out]
                    · rw [if_neg e, if_neg e]
                  · exact Below.drew (HB6.out.setCell (p := ⟨w6.heap.size, t, none⟩) (Nat.le_refl _) _)
                · by_cases ht64 : t < 64
                  · as_aux_lemma =>
                    have h01 : (16 : Int) ≤ t := by omega
                    have h02 : (t : Int) < 64 := by omega
                    obtain ⟨p, rfl⟩ : ∃ p, t = p + 16 := ⟨t - 16, by omega⟩
                    have g15 := hrow.cell (i := p + 1) (by omega)
                    have g2 := hrow.cell (i := p + 14) (by omega)
                    have g16 := hrow.cell (i := p) (by omega)
                    have g7 := hrow.cell (i := p + 9) (by omega)
                    have gk := hrow.cell (i := p + 16) (by omega)
                    have hfroz := hrow.frozen (p + 16)
                    have hnx : nextW Bk (sch Bk (p + 16)) (p + 16) = (sch Bk (p + 16)).getD p 0 + ls0 ((sch Bk (p + 16)).getD (p + 1) 0) + (sch Bk (p + 16)).getD (p + 9) 0 + ls1 ((sch Bk (p + 16)).getD (p + 14) 0) := by
                      rw [nextW, if_neg (by omega)]; rfl
                    obtain ⟨x15, e15⟩ : ∃ x, x = (sch Bk (p + 16)).getD (p + 1) 0 := ⟨_, rfl⟩
                    obtain ⟨x2, e2⟩ : ∃ x, x = (sch Bk (p + 16)).getD (p + 14) 0 := ⟨_, rfl⟩
                    obtain ⟨x16, e16⟩ : ∃ x, x = (sch Bk (p + 16)).getD p 0 := ⟨_, rfl⟩
                    obtain ⟨x7, e7⟩ : ∃ x, x = (sch Bk (p + 16)).getD (p + 9) 0 := ⟨_, rfl⟩
                    obtain ⟨xk, ek⟩ : ∃ x, x = (sch Bk (p + 16)).getD (p + 16) 0 := ⟨_, rfl⟩
                    rw [← e15, ← e2, ← e16, ← e7] at hnx
                    rw [← e15] at g15
                    rw [← e2] at g2
                    rw [← e16] at g16
                    rw [← e7] at g7
                    rw [← ek] at gk
                    have HNX := Lib.hid hnx
                    have k16 : IntKind.i64.wrap (p : Int) = (p : Int) := by rw [IntKind.wrap_i64]; omega
                    have k17 : IntKind.i64.wrap ((p : Int) + 16 - 16) = (p : Int) := by rw [IntKind.wrap_i64]; omega
                    have k7 : IntKind.i64.wrap ((p : Int) + 16 - 7) = (p : Int) + 9 := by rw [IntKind.wrap_i64]; omega
                    have k8 : ((p : Int) + 9).toNat = p + 9 := by omega
                    have k9 : (0 : Int) ≤ (p : Int) + 9 := by omega
                    have k10 : (p : Int) + 9 < 64 := by omega
                    have k11 : (p : Int) < 64 := by omega
                    have n0 : (0 : Int) ≤ ((p + 16 : Nat) : Int) := by omega
                    have n1 : ((p + 16 : Nat) : Int) < 64 := by omega
                    have n2 : (0 : Int) ≤ (p : Int) + 16 := by omega
                    have n3 : ((p : Int) + 16).toNat = p + 16 := by omega
                    have k12 : (p : Int) + 16 < 64 := by omega
                    clear hrow hbel hnx e15 e2 e16 e7 ek ht ht16 ht64
                    obtain ⟨w0, rfl⟩ : ∃ w0, w0 = wr := ⟨wr, rfl⟩
                    go_wp2
                    go_region_held3 (fun w' => w'.cell? ⟨w6.heap.size, p, none⟩ = some (.int .u32 (nv x16)) ∧ w'.cell? ⟨w6.heap.size, p + 9, none⟩ = some (.int .u32 (nv x7))) (first | exact ⟨g16, g7⟩ | exact ⟨(World.cell?_setCell_other _ _ _ _ (fun h => absurd (congrArg Addr.off h) (by show ¬ (p + 16 = p); omega))).trans g16, (World.cell?_setCell_other _ _ _ _ (fun h => absurd (congrArg Addr.off h) (by show ¬ (p + 16 = p + 9); omega))).trans g7⟩)
                      (first | (go_at_call 79; refine (rturn_any _ _ _ (by decide) (by decide)).mono ?_; rintro e w' ⟨rfl, q', rfl⟩))
                    all_goals clear k16 k17 k7 k8 n3
                    all_goals go_wp2
                    all_goals refine ⟨⟨p + 16 + 1, by omega, by go_num, ?_, ?_⟩, by simp [intOf]; omega⟩
                    all_goals first
                      | (refine Below.setCell ?_ (p := ⟨w6.heap.size, p + 16, none⟩) (Nat.le_refl _) _; exact Below.same' HB6.out rfl rfl rfl rfl)
                      | (refine (World.rowIs.set (f := fun j => .int .u32 (nv ((sch Bk (p + 16)).getD j 0))) (by exact HRW.out) (p + 16) _).congr fun j hj => ?_
                         rw [sch_getD Bk (p + 16) j]
                         by_cases e : j = p + 16
                         · rw [if_pos e, if_pos e, HNX.out]; rfl
                         · rw [if_neg e, if_neg e])
                  · as_aux_lemma =>
                    have hte : t = 64 := by omega
                    rw [hte] at HRW
                    have HWC : Hid (∀ t, t < 64 → wr.cell? ⟨w6.heap.size, t, none⟩ = some (.int .u32 (nv ((sch Bk 64).getD t 0)))) := Lib.hid (fun t ht => HRW.out.cell ht)
                    have hsz6 := hbel.size
                    have hwlt : w6.heap.size < wr.heap.size := HRW.out.lt
                    obtain ⟨bh', ch', e1, -, hbhlt, -, -, hth, hch⟩ := HHt.out.pos (by simp [wvs, stW])
                    obtain ⟨rfl, rfl⟩ := (by injection e1 with e1 e2 e3; injection e1 with e1; injection e1 with e1; exact ⟨e1, e3⟩ : bh = bh' ∧ ch = ch')
                    have HHC : Hid (∀ (j : Nat) (v : Value), (wvs (stW S))[j]? = some v → wr.cell? ⟨bh, j, none⟩ = some v) := Lib.hid (fun j v hv => (hbel.cell (p := ⟨bh, j, none⟩) hbhlt).trans (hch j v hv))
                    have HHr : Hid (Arr w.heap.size wr (.slice (some ⟨bh, 0, none⟩) 8 ch) (wvs (stW S))) := Lib.hid (HHt.out.below hbel)
                    have hbhr : bh < wr.heap.size := Nat.lt_of_lt_of_le hbhlt hsz6
                    have ht9 : ¬ (t : Int) < 64 := by omega
                    clear hrow hbel e1 hth hch hte ht ht16 ht64
                    obtain ⟨w7, rfl⟩ : ∃ w7, w7 = wr := ⟨wr, rfl⟩
                    go_wp2_with (at_builtin; refine wpList_append_arr rfl _ _ 119 rfl 122 (.int .u32 0) 4 Tryz.underlying119 Tryz.infoU32 rfl w7.heap.size (.slice (some ⟨w7.heap.size, 0, none⟩) 0 0) [] (wvs (stW S)) rfl (arr_new (cs := []) (cap := 0) (Nat.le_refl _) (Nat.zero_le _) (by decide) rfl (.inl rfl) (fun j u hu => by simp at hu)) bh 8 ch rfl rfl (fun j u hu => (World.cell?_alloc_past _ _ _ hbhr).trans (HHC.out j u hu)) one_map (by rw [wvs_len, stW_len]; omega) (by rw [sizeAl]; omega) (by rw [wvs_len, stW_len]; decide) (by decide) ?_; rintro v8 w8 harr8 hb8)
                    have hv8 : Arr w7.heap.size w8 v8 (wvs (stW S)) := harr8
                    have HV8 := Lib.hid hv8
                    have HB8 := Lib.hid (((Below.refl w7.heap.size w7).alloc (Nat.le_refl _) _).trans hb8)
                    have hs78 := HB8.out.size
                    clear harr8 hb8 hv8 ht9
                    have hkw8 : bk < w8.heap.size := by omega
                    have hww8 : w6.heap.size < w8.heap.size := by omega
                    have HKC8 : Hid (∀ t, t < 64 → w8.cell? ⟨bk, t, none⟩ = some (.int .u32 (nv (KK.getD t 0)))) := Lib.hid (fun t ht64 => (HB8.out.cell (p := ⟨bk, t, none⟩) (by show bk < w7.heap.size; omega)).trans ((HB6.out.cell (p := ⟨bk, t, none⟩) (by show bk < w6.heap.size; omega)).trans ((HKP.out.cell (by omega) hkne).trans (HKC.out t ht64))))
                    have HWC8 : Hid (∀ t, t < 64 → w8.cell? ⟨w6.heap.size, t, none⟩ = some (.int .u32 (nv ((sch Bk 64).getD t 0)))) := Lib.hid (fun t ht64 => (HB8.out.cell (p := ⟨w6.heap.size, t, none⟩) (by show w6.heap.size < w7.heap.size; omega)).trans (HWC.out t ht64))
                    refine rounds (B := w7.heap.size) S (sch Bk 64) bk ck w6.heap.size v8 w8 _ HV8 hs78 HKC8 HWC8 hkw8 hww8 _ _ _ _ _ _ _ _ _ _ _ _ _ _ _ _ _ _ _ _ _ _ _ _ _ _ _ _ _ _ _ _ _ _ _ _ _ _ _ _ _ _ _ _ _ _ _ _ _ _ _ _ _ _ _ _ _ _ _ _ _ _ _ _ _ _ _ _ _ _ _ _ _ _ _ _ _ _ _ _ _ _ _ _ _ _ _ _ _ _ _ _ _ _ _ _ _ _ _ _ _ _ _ _ _ _ _ _ _ _ _ _ _ _ _ _ _ _ _ _ _ _ _ _ _ _ _ _ _ _ _ _ _ _ _ _ _ _ _ _ _ _ _ _ _ _ _ _ _ _ _ _ _ _ _ _ _ _ _ _ _ _ _ _ _ _ _ _ _ _ _ _ _ _ _ _ _ _ _ _ _ _ _ _ _ _ _ _ _ _ _ _ _ _ _ _ _ _ _ _ _ _ _ _ _ _ _ _ _ _ _ _ _ _ _ _ _ _ _ _ _ _ _ _ _ _ _ _ _ _ _ _ _ _ _ _ _ _ _ _ _ _ _ _ _ _ _ _ _ _ _ _ _ _ _ _ _ _ _ _ _ _ _ _ _ _ _ _ _ _ _ _ _ _ _ _ _ _ _ _ _ _ _ _ _ _ _ _ _ (Lib.hid (fun u14 u15 u16 u17 u18 u19 u145 u146 u147 u148 u149 u150 u151 u152 u153 u154 u155 u156 u157 u158 u159 u160 u161 u162 u163 u164 u165 u166 u167 u168 u169 u170 u171 u172 u173 u174 u175 u176 u177 u178 u179 u180 u181 u182 u183 u184 u185 u186 u187 u188 u189 u190 u191 u192 u193 u194 u195 u196 u197 u198 u199 u200 u201 u202 u203 u204 u205 u206 u207 u208 u209 u210 u211 u212 u213 u214 u215 u216 u217 u218 u219 u220 u221 u222 u223 u224 u225 u226 u227 u228 u229 u230 u231 u232 u233 u234 u235 u236 u237 u238 u239 u240 u241 u242 u243 u244 wr harr hbel => ?_))
                    obtain ⟨V, HVV⟩ : ∃ V, Hid (runs KK (sch Bk 64) S 64 = V) := ⟨_, Lib.hid rfl⟩
                    rw [HVV.out] at harr
                    obtain ⟨bq, cq, hvq, hbq1, hbq2, hcq1, hcq2, hcq3, hcq4⟩ := harr.pos (by simp [wvs, stW])
                    rw [wvs_len, stW_len] at hvq hcq1
                    subst hvq
                    have hszq := hbel.size
                    have HVC : Hid (∀ (j : Nat) (u : Value), (wvs (stW V))[j]? = some u → wr.cell? ⟨bq, j, none⟩ = some u) := Lib.hid hcq4
                    have HBELq := Lib.hid hbel
                    have hqne : bq ≠ bh := by omega
                    have HH9 : Hid (Arr w.heap.size wr (.slice (some ⟨bh, 0, none⟩) 8 ch) (wvs (mixd (stW S) (stW V) 0))) := Lib.hid ((HHr.out.below (HB8.out.mono (Nat.le_refl _))).below hbel)
                    have HB9 : Hid (Below w.heap.size w wr) := Lib.hid ((((HBt.out.trans (HB6.out.mono HBt.out.size)).trans (HB8.out.mono (Nat.le_trans HBt.out.size hsz6))).trans (hbel.mono (Nat.le_trans (Nat.le_trans HBt.out.size hsz6) hs78))))
                    clear harr hbel hcq3 hcq4 hcq1 hcq2
                    obtain ⟨w9, rfl⟩ : ∃ w9, w9 = wr := ⟨wr, rfl⟩
                    go_wp2
                    go_loopw [20] (fun iv wt => ∃ (i : Nat), i ≤ 8 ∧ iv = .int .i64 i ∧ Arr w.heap.size wt (.slice (some ⟨bh, 0, none⟩) 8 ch) (wvs (mixd (stW S) (stW V) i)) ∧ Hid (Keep bh w9 wt) ∧ Below w.heap.size w wt) (fun iv _ => 8 - (intOf iv).toNat)
                    case atStart => exact ⟨0, Nat.zero_le _, rfl, HH9.out, Lib.hid (Keep.refl _ _), HB9.out⟩
                    case round => as_aux_lemma =>
                      obtain ⟨i, hi, rfl, harr, HKP9, hbel⟩ := hrel
                      have HAi := Lib.hid harr
                      have HBi := Lib.hid hbel
                      obtain ⟨bh', ch', e1, -, -, hl9, -, hth, hch⟩ := harr.pos (by simp [wvs, mixd, stW]; omega)
                      have hl8 : 8 = (wvs (mixd (stW S) (stW V) i)).length := by injection e1
                      obtain ⟨rfl, rfl⟩ := (by injection e1 with e1 e2 e3; injection e1 with e1; injection e1 with e1; exact ⟨e1, e3⟩ : bh = bh' ∧ ch = ch')
                      by_cases hi8 : i < 8
                      · as_aux_lemma =>
                        obtain ⟨x, hx⟩ : ∃ x, (stW S)[i]? = some x := ⟨(stW S)[i]'(by rw [stW_len]; exact hi8), List.getElem?_eq_getElem _⟩
                        obtain ⟨y, hy⟩ : ∃ x, (stW V)[i]? = some x := ⟨(stW V)[i]'(by rw [stW_len]; exact hi8), List.getElem?_eq_getElem _⟩
                        have cx : wr.cell? ⟨bh, i, none⟩ = some (.int .u32 (nv x)) := hch i _ (wvs_at (by rw [mixd_at _ _ rfl rfl hi8]; exact hx))
                        have fx := (hth i (by omega)).2
                        have cy : wr.cell? ⟨bq, i, none⟩ = some (.int .u32 (nv y)) := (HKP9.out.cell hbq2 hqne).trans (HVC.out i _ (wvs_at hy))
                        have h01 : (0 : Int) ≤ i := by omega
                        have h02 : (i : Int) < 8 := by omega
                        have hset := mixd_set (stW S) (stW V) rfl rfl hx hy
                        have HSET := Lib.hid hset
                        clear hx hy hset hch hth e1 harr hbel hi hl8 hl9
                        obtain ⟨w0, rfl⟩ : ∃ w0, w0 = wr := ⟨wr, rfl⟩
                        go_wp2
                        go_region
                        all_goals go_wp2
                        all_goals refine ⟨⟨i + 1, hi8, by go_num, ?_, Lib.hid ((HKP9.out.setCell i _).drew), ?_⟩, by simp [intOf]; omega⟩
                        all_goals first
                          | (rw [← HSET.out, wvs_set]; exact Arr.drew (Arr.set HAi.out (by rw [wvs_len, mixd_len _ _ rfl rfl]; exact hi8) _))
                          | exact Below.drew (HBi.out.setCell (p := ⟨bh, i, none⟩) hbh1 _)
                      · as_aux_lemma =>
                        have hie : i = 8 := by omega
                        have hmx : mixd (stW S) (stW V) i = stW (addS S V) := by rw [hie]; rfl
                        rw [hmx] at HAi
                        have hi9' : ¬ (i : Int) < 8 := by omega
                        clear hch hth e1 harr hbel hi hie hmx hi8 hl8 hl9
                        go_wp2
                        have hq1 : q - m = (q - (m + 1)) + 1 := by omega
                        have hnew : mixL KK (q - (m + 1)) (addS S V) (E.drop (64 * (m + 1))) = R := by
                          have h1 := HM.out
                          rw [hq1, mixL, List.drop_drop, ← HBK.out, mixB, HVV.out] at h1
                          rw [show 64 * (m + 1) = at' + 64 from by have := HAT.out; omega]
                          exact h1
                        refine ⟨⟨m + 1, addS S V, hlt, congrArg (Value.int .i64) (by have := HAT.out; omega), Lib.hid hnew, HAi.out, Lib.hid ((((HKP.out.below HB6.out).below HB8.out).below HBELq.out).trans HKP9.out), HBi.out⟩, ?_⟩
                        have := HAT.out
                        simp [intOf]; omega
            · as_aux_lemma =>
              have hme : m = q := by omega
              have hS : S = R := by
                have h1 := HM.out
                rw [hme, Nat.sub_self, mixL] at h1
                exact h1
              have hfin : shaR KK H0 s.data.toList = outW (stW S) := by
                have h1 : N6 / 64 = q := by omega
                rw [hS, HR.out, shaR, ← HL.out, HLL.out, ← HE.out, HEL.out, h1]
              have HFIN := Lib.hid hfin
              obtain ⟨bh', ch', e1, -, hbhlt, -, -, hth, hch⟩ := HHt.out.pos (by simp [wvs, stW])
              obtain ⟨rfl, rfl⟩ := (by injection e1 with e1 e2 e3; injection e1 with e1; injection e1 with e1; exact ⟨e1, e3⟩ : bh = bh' ∧ ch = ch')
              have HHC : Hid (∀ (j : Nat) (v : Value), (wvs (stW S))[j]? = some v → wr.cell? ⟨bh, j, none⟩ = some v) := Lib.hid hch
              have hge : ¬ (at' : Int) < N6 := by omega
              clear hfin hS e1 hth hch hlt hm hat
              obtain ⟨w6, rfl⟩ : ∃ w6, w6 = wr := ⟨wr, rfl⟩
              go_wp2
              clear hme hge
              go_loopw [21, 22] (fun sv iv wt => ∃ (i : Nat) (X : ByteArray), i ≤ 8 ∧ iv = .int .i64 i ∧ sv = .string X ∧ Hid (X = ⟨(outW ((stW S).take i)).toArray⟩) ∧ Below w6.heap.size w6 wt) (fun _ iv _ => 8 - (intOf iv).toNat)
              case atStart => exact ⟨0, ⟨#[]⟩, Nat.zero_le _, rfl, rfl, Lib.hid rfl, Below.refl _ _⟩
              case round => as_aux_lemma =>
                obtain ⟨i, X, hi, rfl, rfl, HX, hbel⟩ := hrel
                have hszq := hbel.size
                have HBq := Lib.hid hbel
                by_cases hi8 : i < 8
                · as_aux_lemma =>
                  have hXs : X.size ≤ 32 := by
                    rw [HX.out]
                    show (outW ((stW S).take i)).toArray.size ≤ 32
                    rw [List.size_toArray, outW_len, List.length_take, stW_len]; omega
                  obtain ⟨x, hx⟩ : ∃ x, (stW S)[i]? = some x := ⟨(stW S)[i]'(by rw [stW_len]; exact hi8), List.getElem?_eq_getElem _⟩
                  have cx : wr.cell? ⟨bh, i, none⟩ = some (.int .u32 (nv x)) := (hbel.cell (p := ⟨bh, i, none⟩) hbhlt).trans (HHC.out i _ (wvs_at hx))
                  have h01 : (0 : Int) ≤ i := by omega
                  have h02 : (i : Int) < 8 := by omega
                  have HXX := Lib.hid hx
                  clear hx hbel hi
                  obtain ⟨w0, rfl⟩ : ∃ w0, w0 = wr := ⟨wr, rfl⟩
                  have hcv : (convert 101 9 (.slice (some ⟨w0.heap.size, 0, none⟩) 4 4)).run Tryz.prog (w0.alloc (.cells #[.int .u8 (bv (lowB (x >>> 24))), .int .u8 (bv (lowB (x >>> 16))), .int .u8 (bv (lowB (x >>> 8))), .int .u8 (bv (lowB x))] 5)).drew = .ok (.string ⟨#[lowB (x >>> 24), lowB (x >>> 16), lowB (x >>> 8), lowB x]⟩) (w0.alloc (.cells #[.int .u8 (bv (lowB (x >>> 24))), .int .u8 (bv (lowB (x >>> 16))), .int .u8 (bv (lowB (x >>> 8))), .int .u8 (bv (lowB x))] 5)).drew :=
                    arr_string (P := Tryz.prog) (l := wdB x) (B := 0) (Arr.drew (arr_new (cs := bys (wdB x)) (cap := 4) (fr := (0, 0)) (Nat.zero_le _) (Nat.le_refl _) (by decide) rfl (.inl rfl) (fun j u hu => by simpa [bys, wdB] using hu))) 101 9 5 Tryz.underlying101 Tryz.underlying5 Tryz.underlying9
                  go_wp2
                  go_region
                  all_goals go_wp2
                  all_goals refine ⟨⟨i + 1, _, hi8, by go_num, rfl, Lib.hid ?_, (HBq.out.alloc hszq _).drew⟩, by simp [intOf]; omega⟩
                  all_goals rw [HX.out, take_snoc HXX.out, outW_snoc]
                  all_goals exact ByteArray.ext (by simp [wdB])
                · as_aux_lemma =>
                  have hie : i = 8 := by omega
                  have hXe : X = ⟨(shaR KK H0 s.data.toList).toArray⟩ := by
                    rw [HX.out, hie, HFIN.out]; rfl
                  have HXE := Lib.hid hXe
                  clear hbel hie hXe
                  go_wp2
                  go_ret
                  exact ⟨by rw [← HXE.out]; rfl, HBt.out.trans (HBq.out.mono HBt.out.size)⟩
    · as_aux_lemma =>
      have t1 : (((N : Int) % 64) == 56) = false := by rw [beq_eq_false_iff_ne]; omega
      have t2 : ¬ (N : Int) % 64 = 56 := by omega
      have hjl : j < zeros L.length := by
        rcases Nat.lt_or_ge j (zeros L.length) with h | h
        · exact h
        · exfalso
          have e : j = zeros L.length := by omega
          have := zeros_mod L.length
          rw [hNl, e] at h56
          exact h56 this
      have HJL := Lib.hid hjl
      have HH6 := Lib.hid h56
      clear h56 hjl hj hNl hz hll
      go_wp2_with (at_builtin; refine wpList_append_arr rfl _ _ 101 rfl 5 (.int .u8 0) 1 Tryz.underlying101 Tryz.infoByte rfl w2.heap.size _ _ [.int .u8 0] rfl (HA3.out.alloc _) _ _ _ rfl rfl news_new (by decide) (by decide) (by rw [sizeAl]; omega) (by have e1 := HNe.out; have e2 := HNl.out; have e3 := zeros_lt L.length; have e4 := HJL.out; have e5 := HLL.out; rw [← e1]; show _ + 1 ≤ _; omega) (by decide) ?_; rintro v4 w4 harr4 hb4)
      have harr5 : Arr w2.heap.size w4 v4 (bys (L ++ [128] ++ List.replicate (j + 1) 0)) := by
        rw [← rep_succ, bys_app]
        exact harr4
      obtain ⟨a5, c5, h5⟩ := harr5.form
      refine ⟨⟨j + 1, HJL.out, harr5, (HB4.out.alloc hsz3 _).trans hb4⟩, ?_⟩
      rw [h5]
      show 2000000 - (bys (L ++ [128] ++ List.replicate (j + 1) 0)).length < 2000000 - N
      have e3 := zeros_lt L.length
      have e4 := HJL.out
      have e5 := HNl.out
      have e7 := HLL.out
      have e6 : (bys (L ++ [128] ++ List.replicate (j + 1) 0)).length = L.length + 1 + (j + 1) := by simp [bys_len]; omega
      omega
end Go.Proofs.YtgjcblginkdinaaGreatDoor
