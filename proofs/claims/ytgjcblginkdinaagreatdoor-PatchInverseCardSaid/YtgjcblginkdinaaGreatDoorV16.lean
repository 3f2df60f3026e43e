/- The contracts of the functions that read digits: the program's and the document's. Patches as values: which are right, their form, their lines, their inverse. Mathematics alone. -/
import Derived.Test.YtgjcblginkdinaaGreatDoorV10
import Derived.Test.YtgjcblginkdinaaGreatDoorV13
import Derived.Test.YtgjcblginkdinaaGreatDoorV14
import Derived.Test.YtgjcblginkdinaaGreatDoorV15
import Derived.Test.YtgjcblginkdinaaGreatDoorV7
import Derived.Test.YtgjcblginkdinaaGreatDoorV8
import Derived.Test.YtgjcblginkdinaaGreatDoorV9
set_option linter.unusedVariables false
namespace Go.Proofs.YtgjcblginkdinaaGreatDoor
open Go.ChangeShapes Go.WideShapes Go.ChangeAt Go.RowKit

attribute [local go_sem] bv_u8

set_option maxRecDepth 100000 in
theorem ib_any (c : UInt8) (w : World) :
    Calls Tryz.prog 148 #[.string digB, .int .u8 (bv c)] w fun e w' => e = .returned (.int .i64 (dv c)) ∧ w' = w := by
  go_enter Tryz.func148, Tryz.ntmps148
  go_wp2
  rw [run_callFunc_extern Tryz.func171 (by kernel_rfl) (by kernel_rfl) (by kernel_rfl) (e := Extern.BytealgIndexByte.indexByte) (by kernel_rfl), Lib.run_indexByteString digB (bv c) w]
  simp only [Result.andThen]
  rw [Oper.upon_value]
  go_wp2
  go_ret
  refine ⟨ret_int ?_, rfl⟩
  have e : UInt8.ofNat (bv c).toNat = c := by unfold bv; simp
  rw [e]; rfl

set_option maxHeartbeats 1000000 in
theorem digit_any (c : UInt8) (w : World) :
    Calls Tryz.prog 130 #[.int .u8 (bv c)] w fun e w' => e = .returned (.int .i64 (dv c)) ∧ w' = w := by
  have hr := bv_range c
  obtain ⟨h0, h1⟩ := hr
  have hd := dv_eq c
  have hx : bv c = (c.toNat : Int) := rfl
  obtain ⟨x, hxx⟩ : ∃ x, x = bv c := ⟨_, rfl⟩
  obtain ⟨d, hdd⟩ : ∃ d, d = dv c := ⟨_, rfl⟩
  rw [← hxx] at h0 h1 hx ⊢
  rw [← hdd] at hd ⊢
  by_cases a1 : 48 ≤ x
  · by_cases a2 : x ≤ 57
    · have e : d = x - 48 := by rw [hd, if_pos (by omega)]; omega
      have e1 : IntKind.u8.wrap (x - 48) = x - 48 := by rw [IntKind.wrap_u8']; omega
      clear hd hx hxx hdd
      subst e
      go_enter Tryz.func130, Tryz.ntmps130
      go_wp2
      go_ret
      exact ⟨rfl, rfl⟩
    · by_cases a3 : 97 ≤ x
      · by_cases a4 : x ≤ 102
        · have e : d = x - 97 + 10 := by rw [hd, if_neg (by omega), if_pos (by omega)]; omega
          clear hd hx hxx hdd
          subst e
          go_enter Tryz.func130, Tryz.ntmps130
          go_wp2
          go_ret
          exact ⟨rfl, rfl⟩
        · have e : d = -1 := by rw [hd, if_neg (by omega), if_neg (by omega)]
          clear hd hx hxx hdd
          subst e
          go_enter Tryz.func130, Tryz.ntmps130
          go_wp2
          go_ret
          exact ⟨rfl, rfl⟩
      · have e : d = -1 := by rw [hd, if_neg (by omega), if_neg (by omega)]
        clear hd hx hxx hdd
        subst e
        go_enter Tryz.func130, Tryz.ntmps130
        go_wp2
        go_ret
        exact ⟨rfl, rfl⟩
  · have a3 : ¬ 97 ≤ x := by omega
    have e : d = -1 := by rw [hd, if_neg (by omega), if_neg (by omega)]
    clear hd hx hxx hdd
    subst e
    go_enter Tryz.func130, Tryz.ntmps130
    go_wp2
    go_ret
    exact ⟨rfl, rfl⟩

def rawS (o : Option (List UInt8)) : Value := match o with | some m => .string ⟨m.toArray⟩ | none => .string ⟨#[]⟩
def rawE (o : Option (List UInt8)) : Value := match o with | some _ => .nilIface | none => .iface 47 (.int .i64 4)
def rawN (o : Option (List UInt8)) : Value := match o with | some _ => .int .i64 0 | none => .int .i64 4

theorem or_digits (a b : UInt8) (ha : 0 ≤ dv a) (hb : 0 ≤ dv b) : bits .or .i64 (dv a * 16) (dv b) = dv a * 16 + dv b := by
  have h1 := dv_lt a
  have h2 := dv_lt b
  exact bits_join .i64 63 (by decide) (fun n h0 hn => by rw [IntKind.wrap_i64]; omega) 4 (dv a * 16) (dv b) (by omega) (by omega) (by omega) hb (by omega) (by omega)
theorem pair_val (a b : UInt8) (ha : 0 ≤ dv a) (hb : 0 ≤ dv b) : IntKind.u8.wrap (dv a * 16 + dv b) = bv (pairB a b) := by
  have h1 := dv_lt a
  have h2 := dv_lt b
  rw [IntKind.wrap_u8', bv, pairB, UInt8.toNat_ofNat']
  have : (2 : Nat) ^ 8 = 256 := rfl
  rw [this]; omega
theorem raw_go {L out : List UInt8} {i : Nat} {a b : UInt8} (h : rawL L = (rawL (L.drop i)).map (out ++ ·)) (h1 : L[i]? = some a) (h2 : L[i + 1]? = some b) (ha : 0 ≤ dv a) (hb : 0 ≤ dv b) :
    rawL L = (rawL (L.drop (i + 2))).map ((out ++ [pairB a b]) ++ ·) := by
  rw [h, raw_step h1 h2, rawL, if_neg (by omega), Option.map_map]
  congr 1
  funext x
  simp
theorem raw_bad {L out : List UInt8} {i : Nat} {a b : UInt8} (h : rawL L = (rawL (L.drop i)).map (out ++ ·)) (h1 : L[i]? = some a) (h2 : L[i + 1]? = some b) (hab : dv a < 0 ∨ dv b < 0) : rawL L = none := by
  rw [h, raw_step h1 h2, rawL, if_pos hab]; rfl
theorem raw_end {L out : List UInt8} {i : Nat} (h : rawL L = (rawL (L.drop i)).map (out ++ ·)) (hi : L.length ≤ i) : rawL L = some out := by
  rw [h, List.drop_eq_nil_of_le hi]; simp [rawL]

set_option maxHeartbeats 2000000 in
set_option maxRecDepth 100000 in
theorem raw_any (s : ByteArray) (w : World) (hs : s.size ≤ 1000000) :
    Calls Tryz.prog 126 #[.string s] w fun e w' => e = .returned (.tuple #[rawS (rawL s.data.toList), rawE (rawL s.data.toList)]) ∧ Below w.heap.size w w' := by
  have hl : s.data.toList.length = s.size := Array.length_toList
  have HL := Lib.hid hl
  by_cases hodd : s.size % 2 = 1
  · have t1 : (((s.size : Int) % 2) == 0) = false := by rw [beq_eq_false_iff_ne]; omega
    have hr := raw_odd (s.size / 2) s.data.toList (by omega)
    rw [hr]
    clear hl hr
    go_enter Tryz.func126, Tryz.ntmps126
    go_wp2
    go_ret2
    exact ⟨rfl, Below.refl _ _⟩
  · obtain ⟨h, hh⟩ : ∃ h, s.size = 2 * h := ⟨s.size / 2, by omega⟩
    have t3 : (((s.size : Int) % 2) != 0) = false := by simp; omega
    have t2 : (s.size : Int) / 2 = (h : Int) := by omega
    have hmk := arr_make (P := Tryz.prog) w 101 5 (.int .u8 0) 1 Tryz.underlying101 Tryz.infoByte rfl .i64 .i64 h (by omega) (by omega)
    have hh5 : h ≤ 500000 := by omega
    have HH := Lib.hid hh
    clear hl hh
    go_enter Tryz.func126, Tryz.ntmps126
    go_wp2
    clear t3 t2 hmk hodd
    go_loopw [4, 5] (fun v iv wr => ∃ (i : Nat) (out : List UInt8), i % 2 = 0 ∧ i ≤ s.size ∧ iv = .int .i64 i ∧ Arr w.heap.size wr v (bys out) ∧ out.length ≤ s.size ∧ Hid (2 * out.length = i) ∧ Hid (rawL s.data.toList = (rawL (s.data.toList.drop i)).map (out ++ ·)) ∧ Below w.heap.size w wr) (fun _ iv _ => s.size - (intOf iv).toNat)
    case atStart => exact ⟨0, [], rfl, Nat.zero_le _, rfl, arr_made w _ _ _ (Nat.le_refl _) (by omega), Nat.zero_le _, Lib.hid rfl, Lib.hid (by simp), (Below.refl _ _).alloc (Nat.le_refl _) _⟩
    case round =>
      obtain ⟨i, out, hi2, hi, rfl, harr, hol, HO, HR, hbel⟩ := hrel
      have hsz := hbel.size
      obtain ⟨p0, q0, hv⟩ := harr.form
      rw [bys_len] at hv
      subst hv
      have HA := Lib.hid harr
      have HB := Lib.hid hbel
      by_cases hlt : i < s.size
      · have hlt1 : i + 1 < s.size := by have := HH.out; omega
        have h01 : (0 : Int) ≤ i := by omega
        have h02 : (i : Int) < s.size := by omega
        have h03 : (0 : Int) ≤ i + 1 := by omega
        have h04 : (i : Int) + 1 < s.size := by omega
        obtain ⟨a, ha⟩ : ∃ b, s[i] = b := ⟨_, rfl⟩
        obtain ⟨b, hb⟩ : ∃ b, s[i + 1] = b := ⟨_, rfl⟩
        have g1 : s.data.toList[i]? = some a := by rw [← ha]; exact Lib.data_getElem? s i hlt
        have g2 : s.data.toList[i + 1]? = some b := by rw [← hb]; exact Lib.data_getElem? s (i + 1) hlt1
        have G1 := Lib.hid g1
        have G2 := Lib.hid g2
        have a1 := dv_ge a
        have b1 := dv_ge b
        have a2 := dv_lt a
        have b2 := dv_lt b
        have hor := or_digits a b
        have hpv := pair_val a b
        obtain ⟨da, hda⟩ : ∃ d, dv a = d := ⟨_, rfl⟩
        obtain ⟨db, hdb⟩ : ∃ d, dv b = d := ⟨_, rfl⟩
        have hia : ∀ wx : World, Calls Tryz.prog 148 #[.string digB, .int .u8 (bv a)] wx fun e w' => e = .returned (.int .i64 da) ∧ w' = wx := fun wx => by rw [← hda]; exact ib_any a wx
        have hib : ∀ wx : World, Calls Tryz.prog 148 #[.string digB, .int .u8 (bv b)] wx fun e w' => e = .returned (.int .i64 db) ∧ w' = wx := fun wx => by rw [← hdb]; exact ib_any b wx
        rw [hda] at a1 a2 hor hpv
        rw [hdb] at b1 b2 hor hpv
        have HIA := Lib.hid hia
        have HIB := Lib.hid hib
        have HDA := Lib.hid hda
        have HDB := Lib.hid hdb
        have HI2 := Lib.hid hi2
        have HOL := Lib.hid hol
        clear hia hib hda hdb g1 g2 harr hbel hi2 hi
        obtain ⟨w0, rfl⟩ : ∃ w0, w0 = wr := ⟨wr, rfl⟩
        by_cases hx : da < 0
        · clear hor hpv
          go_wp2
          go_quiet (first | (go_at_call 148; exact Calls.quiet_of_same (HIA.out _)) | (go_at_call 148; exact Calls.quiet_of_same (HIB.out _)))
          go_wp2
          go_ret2
          rw [raw_bad HR.out G1.out G2.out (.inl (by rw [HDA.out]; exact hx))]
          exact ⟨rfl, Below.drewN HB.out⟩
        · by_cases hy : db < 0
          · clear hor hpv
            go_wp2
            go_quiet (first | (go_at_call 148; exact Calls.quiet_of_same (HIA.out _)) | (go_at_call 148; exact Calls.quiet_of_same (HIB.out _)))
            go_wp2
            go_ret2
            rw [raw_bad HR.out G1.out G2.out (.inr (by rw [HDB.out]; exact hy))]
            exact ⟨rfl, Below.drewN HB.out⟩
          · have hor' := hor (by omega) (by omega)
            have hpv' := hpv (by omega) (by omega)
            clear hor hpv
            go_wp2
            go_quiet (first | (go_at_call 148; exact Calls.quiet_of_same (HIA.out _)) | (go_at_call 148; exact Calls.quiet_of_same (HIB.out _)))
            generalize hwz : w0.drewN nq = wz
            have HAZ : Hid (Arr w.heap.size wz (.slice p0 out.length q0) (bys out)) := Lib.hid (by rw [← hwz]; exact HA.out)
            have HBZ : Hid (Below w.heap.size w wz) := Lib.hid (by rw [← hwz]; exact Below.drewN HB.out)
            have hszz := HBZ.out.size
            clear hwz
            go_wp2_with (at_builtin; refine wpList_append_arr rfl _ _ 101 rfl 5 (.int .u8 0) 1 Tryz.underlying101 Tryz.infoByte rfl w.heap.size (.slice p0 out.length q0) _ [.int .u8 (bv (pairB a b))] rfl (HAZ.out.alloc _) _ _ _ rfl rfl news_new one1 (Nat.zero_lt_succ _) (by rw [sizeAl]; omega) (by have := HOL.out; rw [bys_len]; show _ + 1 ≤ _; omega) (by decide) ?_; rintro v4 w4 harr4 hb4)
            refine ⟨⟨i + 2, out ++ [pairB a b], by have := HI2.out; omega, by omega, by go_num, by rw [bys_app]; exact harr4, by have := HO.out; simp; omega, Lib.hid (by have := HO.out; simp; omega), Lib.hid (raw_go HR.out G1.out G2.out (by rw [HDA.out]; omega) (by rw [HDB.out]; omega)), (HBZ.out.alloc hszz _).trans hb4⟩, by simp [intOf]; omega⟩
      · have hie : i = s.size := by omega
        have hst := arr_string (P := Tryz.prog) harr 101 9 5 Tryz.underlying101 Tryz.underlying5 Tryz.underlying9
        have hre := raw_end HR.out (by rw [HL.out, hie]; exact Nat.le_refl _)
        have HRE := Lib.hid hre
        clear harr hbel hie hre
        go_wp2
        go_ret2
        rw [HRE.out]
        exact ⟨rfl, HB.out⟩

def rightL (l : List UInt8) : Bool := decide (l.length = 64) && (rawL l).isSome

set_option maxHeartbeats 1000000 in
theorem right_any (s : ByteArray) (w : World) (hs : s.size ≤ 1000000) :
    Calls Tryz.prog 97 #[.string s] w fun e w' => e = .returned (.bool (rightL s.data.toList)) ∧ Below w.heap.size w w' := by
  have hl : s.data.toList.length = s.size := Array.length_toList
  have hr := raw_any s w hs
  by_cases h64 : s.size = 64
  · have t1 : ((s.size : Int) == 64) = true := by rw [beq_iff_eq]; omega
    have e1 : rightL s.data.toList = (rawL s.data.toList).isSome := by rw [rightL, hl, h64]; simp
    rw [e1]
    obtain ⟨o, ho⟩ : ∃ o, rawL s.data.toList = o := ⟨_, rfl⟩
    rw [ho] at hr ⊢
    have HR := Lib.hid hr
    clear hr hl e1 ho
    go_enter Tryz.func97, Tryz.ntmps97
    go_wp2_with fail
    refine HR.out.mono ?_
    rintro e w1 ⟨rfl, hb⟩
    cases o with
    | none =>
      simp only [rawS, rawE]
      go_wp2
      go_ret
      exact ⟨rfl, hb⟩
    | some m =>
      simp only [rawS, rawE]
      go_wp2
      go_ret
      exact ⟨rfl, hb⟩
  · have t1 : ((s.size : Int) == 64) = false := by rw [beq_eq_false_iff_ne]; omega
    have e1 : rightL s.data.toList = false := by rw [rightL, hl]; simp [h64]
    rw [e1]
    clear hr hl e1
    go_enter Tryz.func97, Tryz.ntmps97
    go_wp2
    go_ret
    exact ⟨rfl, Below.refl _ _⟩

set_option maxHeartbeats 2000000 in
set_option maxRecDepth 100000 in
theorem rhex_any (s : ByteArray) (w : World) (hs : s.size ≤ 1000000) :
    Calls Tryz.prog 36 #[.string s] w fun e w' => e = .returned (.string ⟨(hexL s.data.toList).toArray⟩) ∧ Below w.heap.size w w' := by
  have hl : s.data.toList.length = s.size := Array.length_toList
  go_enter Tryz.func36, Tryz.ntmps36
  go_wp2
  go_loopw [4, 5] (fun v iv wr => ∃ k : Nat, k ≤ s.size ∧ iv = .int .i64 k ∧ Arr w.heap.size wr v (bys (hexL (s.data.toList.take k))) ∧ Below w.heap.size w wr) (fun _ iv _ => s.size - (intOf iv).toNat)
  case atStart => exact ⟨0, Nat.zero_le _, rfl, Arr.nil _ _, Below.refl _ _⟩
  case round =>
    obtain ⟨k, hk, rfl, harr, hbel⟩ := hrel
    have hsz := hbel.size
    by_cases hlt : k < s.size
    · have h01 : (0 : Int) ≤ k := by omega
      have h02 : (k : Int) < s.size := by omega
      obtain ⟨b, hb⟩ : ∃ b, s[k] = b := ⟨_, rfl⟩
      have hget : s.data.toList[k]? = some b := by rw [← hb]; exact Lib.data_getElem? s k hlt
      have hr := bv_range b
      have q0 : 0 ≤ bv b / 16 := by omega
      have q1 : bv b / 16 < 16 := by omega
      have q2 : 0 ≤ bv b % 16 := by omega
      have q3 : bv b % 16 < 16 := by omega
      have q4 : (bv b).tdiv 16 = bv b / 16 := Int.tdiv_eq_ediv_of_nonneg hr.1
      have q5 : (bv b).tmod 16 = bv b % 16 := Int.tmod_eq_emod_of_nonneg hr.1
      have q6 : IntKind.u8.wrap (bv b / 16) = bv b / 16 := by rw [IntKind.wrap_u8']; omega
      have q7 : IntKind.u8.wrap (bv b % 16) = bv b % 16 := by rw [IntKind.wrap_u8']; omega
      have n1 : (bv b / 16).toNat < 16 := by omega
      have n2 : (bv b % 16).toNat < 16 := by omega
      have m1 : (bv b / 16).toNat = b.toNat / 16 := by unfold bv; omega
      have m2 : (bv b % 16).toNat = b.toNat % 16 := by unfold bv; omega
      obtain ⟨x1, hx1⟩ : ∃ x, digB[(bv b / 16).toNat]'n1 = x := ⟨_, rfl⟩
      obtain ⟨x2, hx2⟩ : ∃ x, digB[(bv b % 16).toNat]'n2 = x := ⟨_, rfl⟩
      have hy1 : x1 = dg (b.toNat / 16) := by rw [← hx1, digB_at _ n1, m1]
      have hy2 : x2 = dg (b.toNat % 16) := by rw [← hx2, digB_at _ n2, m2]
      have HY1 := Lib.hid hy1
      have HY2 := Lib.hid hy2
      clear hy1 hy2 m1 m2
      unfold digB at hx1 hx2
      obtain ⟨a0, c0, hv⟩ := harr.form
      obtain ⟨N, hN⟩ : ∃ N, N = (bys (hexL (s.data.toList.take k))).length := ⟨_, rfl⟩
      rw [← hN] at hv
      subst hv
      have HA := Lib.hid harr
      have HB := Lib.hid hbel
      have HG := Lib.hid hget
      have hlen : (bys (hexL (s.data.toList.take k))).length ≤ 2000000 := by rw [bys_len, hexL_len, List.length_take]; omega
      have HLEN := Lib.hid hlen
      have HN := Lib.hid hN
      clear harr hbel hget hlen hN
      obtain ⟨w0, rfl⟩ : ∃ w0, w0 = wr := ⟨wr, rfl⟩
      go_wp2
      go_region_law (refine step_append_arr rfl (.tmp 12) (.tmp 25) 101 rfl 5 (.int .u8 0) 1 Tryz.underlying101 Tryz.infoByte rfl w.heap.size (.slice a0 N c0) _ [.int .u8 (bv x1), .int .u8 (bv x2)] (by simp [Act.eval]) (by exact (HA.out.alloc _).drew) w0.heap.size 2 2 (by simp [Act.eval]) rfl (by intro j u' hj; rw [cell_drew]; exact news_new j u' hj) one2 (Nat.zero_lt_succ _) (by show _ ≤ (w0.alloc _).heap.size; rw [sizeAl]; omega) (by have := HLEN.out; show _ + 2 ≤ _; omega) (by decide) ?_; intro v4 w4 harr4 hb4; obtain ⟨a4, c4, h4⟩ := harr4.form; have HA4 := Lib.hid harr4; have HB4 := Lib.hid hb4; have H4 := Lib.hid h4; clear harr4 hb4 h4)
      all_goals go_wp2
      all_goals refine ⟨⟨k + 1, hlt, by go_num, ?_, (HB.out.alloc hsz _).drew.trans (by exact HB4.out)⟩, by simp [intOf]; omega⟩
      all_goals rw [take_snoc HG.out, hexL_snoc, bys_app, ← HY1.out, ← HY2.out]
      all_goals exact HA4.out
    · have hke : k = s.size := by omega
      have hst := arr_string (P := Tryz.prog) harr 101 9 5 Tryz.underlying101 Tryz.underlying5 Tryz.underlying9
      have hcl : (hexL (s.data.toList.take k)) = hexL s.data.toList := by rw [List.take_of_length_le (by omega)]
      rw [hcl] at hst
      have HB := Lib.hid hbel
      clear harr hbel hcl
      obtain ⟨X, hX⟩ : ∃ X, X = hexL s.data.toList := ⟨_, rfl⟩
      rw [← hX] at hst
      have HX := Lib.hid hX
      clear hX
      go_wp2
      go_ret
      refine ⟨?_, HB.out⟩
      rw [← HX.out]; rfl
end Go.Proofs.YtgjcblginkdinaaGreatDoor
set_option linter.unusedVariables false
namespace Go.Proofs.YtgjcblginkdinaaGreatDoor
open Go.Lib (decDigits itoa)

abbrev Lb := List ByteArray

structure Rf where
  at_ : Int
  n : Int
deriving DecidableEq

structure Opp where
  kind : Int
  a : Rf
  b : Rf
  lines : Lb

structure Pt where
  note : ByteArray
  deps : Lb
  ops : List Opp

def refB (deps made : Nat) (r : Rf) : Bool :=
  if r.at_ = -1 then decide (r.n = 0) || decide (r.n = 1)
  else if r.at_ = -2 then decide (0 ≤ r.n) && decide (r.n < made)
  else decide (0 ≤ r.at_) && decide (r.at_ < deps) && decide (0 ≤ r.n) && decide (r.n < 300)
def betwB (deps made : Nat) (a b : Rf) : Bool := refB deps made a && refB deps made b && decide (a ≠ b) && decide (a ≠ ⟨-1, 1⟩) && decide (b ≠ ⟨-1, 0⟩)
def lineB (s : ByteArray) : Bool := decide (s.size ≤ 500) && !s.data.toList.contains 10 && !mk s.data.toList
def opR (deps made : Nat) (o : Opp) : Bool :=
  if o.kind = 1 then decide (o.lines.length ≠ 0) && o.lines.all lineB && betwB deps made o.a o.b
  else if o.kind = 2 ∨ o.kind = 3 then decide (o.lines.length = 0) && betwB deps made o.a o.b
  else if o.kind = 4 ∨ o.kind = 5 then decide (o.lines.length = 0) && decide (o.b = ⟨0, 0⟩) && decide (0 ≤ o.a.at_) && refB deps made o.a
  else false
def opB (deps made : Nat) (o : Opp) : Bool := opR deps made o && decide (o.kind = 1 → o.lines.length + made ≤ 300)
def opsR (deps : Nat) : Nat → List Opp → Bool
  | _, [] => true
  | m, o :: r => opR deps m o && opsR deps (m + (if o.kind = 1 then o.lines.length else 0)) r
def opsB (deps : Nat) : Nat → List Opp → Bool
  | _, [] => true
  | m, o :: r => opB deps m o && opsB deps (m + o.lines.length) r
def madeN : List Opp → Nat
  | [] => 0
  | o :: r => (if o.kind = 1 then o.lines.length else 0) + madeN r
def linesN : List Opp → Nat
  | [] => 0
  | o :: r => o.lines.length + linesN r

theorem madeN_app (a b : List Opp) : madeN (a ++ b) = madeN a + madeN b := by
  induction a with
  | nil => simp [madeN]
  | cons o r ih => simp only [List.cons_append, madeN, ih]; omega
theorem linesN_app (a b : List Opp) : linesN (a ++ b) = linesN a + linesN b := by
  induction a with
  | nil => simp [linesN]
  | cons o r ih => simp only [List.cons_append, linesN, ih]; omega
theorem madeN_le (a : List Opp) : madeN a ≤ linesN a := by
  induction a with
  | nil => simp [madeN]
  | cons o r ih => simp only [madeN, linesN]; split <;> omega
theorem lines_mem {l : List Opp} {o : Opp} (h : o ∈ l) : o.lines.length ≤ linesN l := by
  induction l with
  | nil => simp at h
  | cons x r ih =>
    simp only [linesN]
    rcases List.mem_cons.1 h with rfl | h
    · omega
    · have := ih h; omega
theorem linesN_take (l : List Opp) (k : Nat) : linesN (l.take k) ≤ linesN l := by
  have := linesN_app (l.take k) (l.drop k)
  rw [List.take_append_drop] at this
  omega
theorem madeN_take (l : List Opp) (k : Nat) : madeN (l.take k) ≤ madeN l := by
  have := madeN_app (l.take k) (l.drop k)
  rw [List.take_append_drop] at this
  omega

theorem opR_lines {deps m : Nat} {o : Opp} (h : opR deps m o = true) : (if o.kind = 1 then o.lines.length else 0) = o.lines.length := by
  unfold opR at h
  split at h
  · rename_i e; rw [if_pos e]
  · rename_i e
    rw [if_neg e]
    split at h
    · simp only [Bool.and_eq_true, decide_eq_true_eq] at h; omega
    · split at h
      · simp only [Bool.and_eq_true, decide_eq_true_eq] at h; omega
      · cases h

theorem opsB_iff (deps : Nat) : ∀ (l : List Opp) (m : Nat), m ≤ 300 → (opsB deps m l = true ↔ opsR deps m l = true ∧ m + madeN l ≤ 300)
  | [], m, hm => by simp [opsB, opsR, madeN]; omega
  | o :: r, m, hm => by
    simp only [opsB, opsR, madeN, opB, Bool.and_eq_true, decide_eq_true_eq]
    constructor
    · rintro ⟨⟨h1, h2⟩, h3⟩
      have e := opR_lines h1
      have hm' : m + o.lines.length ≤ 300 := by
        by_cases hk : o.kind = 1
        · have := h2 hk; omega
        · rw [if_neg hk] at e; omega
      have := (opsB_iff deps r _ hm').1 h3
      rw [e]
      exact ⟨⟨h1, this.1⟩, by have := this.2; omega⟩
    · rintro ⟨⟨h1, h3⟩, h4⟩
      have e := opR_lines h1
      rw [e] at h3 h4
      refine ⟨⟨h1, fun _ => by omega⟩, (opsB_iff deps r _ (by omega)).2 ⟨h3, by omega⟩⟩

theorem opsR_app (deps : Nat) : ∀ (a b : List Opp) (m : Nat), opsR deps m (a ++ b) = (opsR deps m a && opsR deps (m + madeN a) b)
  | [], b, m => by simp [opsR, madeN]
  | o :: r, b, m => by
    simp only [List.cons_append, opsR, madeN, opsR_app deps r b, Bool.and_assoc]
    rw [Nat.add_assoc]
theorem opsB_app (deps : Nat) : ∀ (a b : List Opp) (m : Nat), opsB deps m (a ++ b) = (opsB deps m a && opsB deps (m + linesN a) b)
  | [], b, m => by simp [opsB, linesN]
  | o :: r, b, m => by
    simp only [List.cons_append, opsB, linesN, opsB_app deps r b, Bool.and_assoc]
    rw [Nat.add_assoc]

def Ris (d : Lb) (k : Nat) : Prop := ∀ j, j < k → ∀ x, d[j]? = some x → rightL x.data.toList = true ∧ ∀ i y, j = i + 1 → d[i]? = some y → ¬ x.data.toList ≤ y.data.toList
noncomputable def risB (d : Lb) : Bool := @decide (d.length ≤ 64 ∧ Ris d d.length) (Classical.propDecidable _)
theorem risB_iff {d : Lb} : risB d = true ↔ d.length ≤ 64 ∧ Ris d d.length := by unfold risB; exact @decide_eq_true_iff _ (Classical.propDecidable _)

noncomputable def soundB (p : Pt) : Bool := decide (p.note.size ≤ 100) && decide (p.ops.length ≤ 400) && risB p.deps && opsB p.deps.length 0 p.ops

def txT (t : ByteArray) : Tm := .mk false t []
def liT (xs : List Tm) : Tm := .mk true noText xs
def nuT (n : Int) : Tm := txT (tx (itoa n))
def rfT (r : Rf) : Tm := liT [nuT r.at_, nuT r.n]
def tsT (l : Lb) : Tm := liT (l.map txT)
def opT (o : Opp) : Tm := liT [nuT o.kind, rfT o.a, rfT o.b, tsT o.lines]
def headB : ByteArray := ⟨#[116, 97, 109, 98, 111, 117, 114]⟩
def ptT (p : Pt) : Tm := liT [txT headB, txT p.note, tsT p.deps, liT (p.ops.map opT)]

theorem oks_all {α : Type} (f : α → Tm) (h : ∀ x, (f x).ok = true) (l : List α) : Tm.oks (l.map f) = true := by
  rw [Tm.oks_iff]
  intro x hx
  obtain ⟨y, _, rfl⟩ := List.mem_map.1 hx
  exact h y
theorem depths_all {α : Type} (f : α → Tm) (d : Nat) (h : ∀ x, (f x).depth ≤ d) (l : List α) : Tm.depths (l.map f) ≤ d := by
  rw [Tm.depths_le]
  intro x hx
  obtain ⟨y, _, rfl⟩ := List.mem_map.1 hx
  exact h y
theorem liT_ok (xs : List Tm) : (liT xs).ok = Tm.oks xs := by unfold liT; rw [Tm.ok_list]; rfl
theorem txT_ok (t : ByteArray) : (txT t).ok = true := by unfold txT; rw [Tm.ok_text]; rfl
theorem liT_depth (xs : List Tm) : (liT xs).depth = Tm.depths xs + 1 := by unfold liT; rw [Tm.depth]; rfl
theorem txT_depth (t : ByteArray) : (txT t).depth = 0 := by unfold txT; rw [Tm.depth]; rfl
theorem nuT_ok (n : Int) : (nuT n).ok = true := txT_ok _
theorem rfT_ok (r : Rf) : (rfT r).ok = true := by simp [rfT, liT_ok, Tm.oks, nuT_ok]
theorem tsT_ok (l : Lb) : (tsT l).ok = true := by rw [tsT, liT_ok]; exact oks_all _ txT_ok _
theorem opT_ok (o : Opp) : (opT o).ok = true := by simp [opT, liT_ok, Tm.oks, nuT_ok, rfT_ok, tsT_ok]
theorem ptT_ok (p : Pt) : (ptT p).ok = true := by
  simp only [ptT, liT_ok, Tm.oks, txT_ok, tsT_ok, oks_all _ opT_ok, Bool.and_self]
theorem nuT_depth (n : Int) : (nuT n).depth = 0 := txT_depth _
theorem rfT_depth (r : Rf) : (rfT r).depth = 1 := by simp [rfT, liT_depth, Tm.depths, nuT_depth]
theorem tsT_depth (l : Lb) : (tsT l).depth ≤ 1 := by
  rw [tsT, liT_depth]
  have := depths_all txT 0 (fun t => by rw [txT_depth]; exact Nat.le_refl _) l
  omega
theorem opT_depth (o : Opp) : (opT o).depth ≤ 2 := by
  have := tsT_depth o.lines
  simp only [opT, liT_depth, Tm.depths, nuT_depth, rfT_depth]
  omega
theorem ptT_depth (p : Pt) : (ptT p).depth ≤ 4 := by
  have h1 := tsT_depth p.deps
  have h2 := depths_all opT 2 opT_depth p.ops
  simp only [ptT, liT_depth, Tm.depths, txT_depth]
  omega

noncomputable def rightP (p : Pt) : Bool := soundB p && decide ((ptT p).bytes.length ≤ 65536)
theorem can_iff (p : Pt) : CanW 0 [] (ptT p) ↔ (ptT p).bytes.length ≤ 65536 := by
  have := ptT_depth p
  unfold CanW
  rw [ptT_ok]
  simp only [List.length_nil, true_and]
  omega
theorem fits_iff (p : Pt) : fits (ptT p) = decide ((ptT p).bytes.length ≤ 65536) := by
  have := ptT_depth p
  unfold fits
  rw [decide_eq_true (by omega : (ptT p).depth ≤ 8), Bool.true_and]

noncomputable def bytesP (p : Pt) : List UInt8 := if rightP p then (ptT p).bytes else []
noncomputable def errP (p : Pt) : Int := if rightP p then 0 else 10
def nameL (p : Pt) : List UInt8 := hexL (sumL (ptT p).bytes)
noncomputable def nameP (p : Pt) : List UInt8 := if rightP p then nameL p else []

def wfI (n : Int) : Prop := -9223372036854775808 ≤ n ∧ n ≤ 9223372036854775807
def Rf.wf (r : Rf) : Prop := wfI r.at_ ∧ wfI r.n
def Opp.wf (o : Opp) : Prop := wfI o.kind ∧ o.a.wf ∧ o.b.wf
def Pt.wf (p : Pt) : Prop := ∀ o ∈ p.ops, o.wf

theorem nuT_inj {n m : Int} (hn : wfI n) (hm : wfI m) (h : nuT n = nuT m) : n = m := by
  unfold nuT txT at h
  injection h with _ h _
  exact itoa_inj hn.1 hn.2 hm.1 hm.2 (tx_inj h)
theorem liT_inj {xs ys : List Tm} (h : liT xs = liT ys) : xs = ys := by unfold liT at h; injection h
theorem txT_inj {s t : ByteArray} (h : txT s = txT t) : s = t := by unfold txT at h; injection h
theorem rfT_inj {r s : Rf} (hr : r.wf) (hs : s.wf) (h : rfT r = rfT s) : r = s := by
  have h := liT_inj h
  simp only [List.cons.injEq, and_true] at h
  cases r; cases s
  have h1 := nuT_inj hr.1 hs.1 h.1
  have h2 := nuT_inj hr.2 hs.2 h.2
  simp_all
theorem map_inj_on {α β : Type} (f : α → β) (Q : α → Prop) (h : ∀ x y, Q x → Q y → f x = f y → x = y) : ∀ l m : List α, (∀ x ∈ l, Q x) → (∀ x ∈ m, Q x) → l.map f = m.map f → l = m
  | [], [], _, _, _ => rfl
  | [], _ :: _, _, _, e => by simp at e
  | _ :: _, [], _, _, e => by simp at e
  | x :: r, y :: s, hl, hm, e => by
    simp only [List.map_cons, List.cons.injEq] at e
    rw [h x y (hl x (by simp)) (hm y (by simp)) e.1, map_inj_on f Q h r s (fun z hz => hl z (by simp [hz])) (fun z hz => hm z (by simp [hz])) e.2]
theorem tsT_inj {l m : Lb} (h : tsT l = tsT m) : l = m :=
  map_inj_on txT (fun _ => True) (fun _ _ _ _ e => txT_inj e) l m (fun _ _ => trivial) (fun _ _ => trivial) (liT_inj h)
theorem opT_inj {o q : Opp} (ho : o.wf) (hq : q.wf) (h : opT o = opT q) : o = q := by
  have h := liT_inj h
  simp only [List.cons.injEq, and_true] at h
  cases o; cases q
  have h1 := nuT_inj ho.1 hq.1 h.1
  have h2 := rfT_inj ho.2.1 hq.2.1 h.2.1
  have h3 := rfT_inj ho.2.2 hq.2.2 h.2.2.1
  have h4 := tsT_inj h.2.2.2
  simp_all
theorem ptT_inj {p q : Pt} (hp : p.wf) (hq : q.wf) (h : ptT p = ptT q) : p = q := by
  have h := liT_inj h
  simp only [List.cons.injEq, and_true, true_and] at h
  cases p; cases q
  have h1 := txT_inj h.1
  have h2 := tsT_inj h.2.1
  have h3 := map_inj_on opT Opp.wf (fun _ _ => opT_inj) _ _ hp hq (liT_inj h.2.2)
  simp_all
end Go.Proofs.YtgjcblginkdinaaGreatDoor
