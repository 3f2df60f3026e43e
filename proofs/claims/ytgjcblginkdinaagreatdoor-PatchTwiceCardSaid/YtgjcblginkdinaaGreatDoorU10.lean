/- The contracts of the functions that read digits: the program's and the document's. append to slices of one-cell elements, as far as a machine's memory goes. No function of the program is named here. The contracts of the document's Raw and Right. -/
import Derived.Deep.RegionWith
import Derived.Test.YtgjcblginkdinaaGreatDoorU0
import Derived.Test.YtgjcblginkdinaaGreatDoorU8
import Derived.Test.YtgjcblginkdinaaGreatDoorU9
set_option linter.unusedVariables false
namespace Go.Proofs.YtgjcblginkdinaaGreatDoor
open Go.ChangeShapes Go.WideShapes Go.ChangeAt Go.RowKit

attribute [local go_sem] bv_u8

set_option maxRecDepth 100000 in
theorem ib_any (c : UInt8) (w : World) :
    Calls Tryz.prog 148 #[.string digB, .int .u8 (bv c)] w fun e w' => e = .returned (.int .i64 (dv c)) ∧ w' = w := by
  go_enter Tryz.func148, Tryz.ntmps148
  go_wp2
  rw [run_callFunc_extern Tryz.func171 (by kernel_rfl) (by kernel_rfl) (by kernel_rfl) (e := Extern.BytealgIndexByte.indexByte) (by kernel_rfl), Lib.run_indexByteString digB (bv c) w]
  simp only [Result.andThen]
  rw [Oper.upon_value]
  go_wp2
  go_ret
  refine ⟨ret_int ?_, rfl⟩
  have e : UInt8.ofNat (bv c).toNat = c := by unfold bv; simp
  rw [e]; rfl

def rawS (o : Option (List UInt8)) : Value := match o with | some m => .string ⟨m.toArray⟩ | none => .string ⟨#[]⟩
def rawE (o : Option (List UInt8)) : Value := match o with | some _ => .nilIface | none => .iface 47 (.int .i64 4)
theorem or_digits (a b : UInt8) (ha : 0 ≤ dv a) (hb : 0 ≤ dv b) : bits .or .i64 (dv a * 16) (dv b) = dv a * 16 + dv b := by
  have h1 := dv_lt a
  have h2 := dv_lt b
  exact bits_join .i64 63 (by decide) (fun n h0 hn => by rw [IntKind.wrap_i64]; omega) 4 (dv a * 16) (dv b) (by omega) (by omega) (by omega) hb (by omega) (by omega)
theorem pair_val (a b : UInt8) (ha : 0 ≤ dv a) (hb : 0 ≤ dv b) : IntKind.u8.wrap (dv a * 16 + dv b) = bv (pairB a b) := by
  have h1 := dv_lt a
  have h2 := dv_lt b
  rw [IntKind.wrap_u8', bv, pairB, UInt8.toNat_ofNat']
  have : (2 : Nat) ^ 8 = 256 := rfl
  rw [this]; omega
theorem raw_go {L out : List UInt8} {i : Nat} {a b : UInt8} (h : rawL L = (rawL (L.drop i)).map (out ++ ·)) (h1 : L[i]? = some a) (h2 : L[i + 1]? = some b) (ha : 0 ≤ dv a) (hb : 0 ≤ dv b) :
    rawL L = (rawL (L.drop (i + 2))).map ((out ++ [pairB a b]) ++ ·) := by
  rw [h, raw_step h1 h2, rawL, if_neg (by omega), Option.map_map]
  congr 1
  funext x
  simp
theorem raw_bad {L out : List UInt8} {i : Nat} {a b : UInt8} (h : rawL L = (rawL (L.drop i)).map (out ++ ·)) (h1 : L[i]? = some a) (h2 : L[i + 1]? = some b) (hab : dv a < 0 ∨ dv b < 0) : rawL L = none := by
  rw [h, raw_step h1 h2, rawL, if_pos hab]; rfl
theorem raw_end {L out : List UInt8} {i : Nat} (h : rawL L = (rawL (L.drop i)).map (out ++ ·)) (hi : L.length ≤ i) : rawL L = some out := by
  rw [h, List.drop_eq_nil_of_le hi]; simp [rawL]

set_option maxHeartbeats 2000000 in
set_option maxRecDepth 100000 in
theorem raw_any (s : ByteArray) (w : World) (hs : s.size ≤ 1000000) :
    Calls Tryz.prog 126 #[.string s] w fun e w' => e = .returned (.tuple #[rawS (rawL s.data.toList), rawE (rawL s.data.toList)]) ∧ Below w.heap.size w w' := by
  have hl : s.data.toList.length = s.size := Array.length_toList
  have HL := Lib.hid hl
  by_cases hodd : s.size % 2 = 1
  · have t1 : (((s.size : Int) % 2) == 0) = false := by rw [beq_eq_false_iff_ne]; omega
    have hr := raw_odd (s.size / 2) s.data.toList (by omega)
    rw [hr]
    clear hl hr
    go_enter Tryz.func126, Tryz.ntmps126
    go_wp2
    go_ret2
    exact ⟨rfl, Below.refl _ _⟩
  · obtain ⟨h, hh⟩ : ∃ h, s.size = 2 * h := ⟨s.size / 2, by omega⟩
    have t3 : (((s.size : Int) % 2) != 0) = false := by simp; omega
    have t2 : (s.size : Int) / 2 = (h : Int) := by omega
    have hmk := arr_make (P := Tryz.prog) w 101 5 (.int .u8 0) 1 Tryz.underlying101 Tryz.infoByte rfl .i64 .i64 h (by omega) (by omega)
    have hh5 : h ≤ 500000 := by omega
    have HH := Lib.hid hh
    clear hl hh
    go_enter Tryz.func126, Tryz.ntmps126
    go_wp2
    clear t3 t2 hmk hodd
    go_loopw [4, 5] (fun v iv wr => ∃ (i : Nat) (out : List UInt8), i % 2 = 0 ∧ i ≤ s.size ∧ iv = .int .i64 i ∧ Arr w.heap.size wr v (bys out) ∧ out.length ≤ s.size ∧ Hid (2 * out.length = i) ∧ Hid (rawL s.data.toList = (rawL (s.data.toList.drop i)).map (out ++ ·)) ∧ Below w.heap.size w wr) (fun _ iv _ => s.size - (intOf iv).toNat)
    case atStart => exact ⟨0, [], rfl, Nat.zero_le _, rfl, arr_made w _ _ _ (Nat.le_refl _) (by omega), Nat.zero_le _, Lib.hid rfl, Lib.hid (by simp), (Below.refl _ _).alloc (Nat.le_refl _) _⟩
    case round =>
      obtain ⟨i, out, hi2, hi, rfl, harr, hol, HO, HR, hbel⟩ := hrel
      have hsz := hbel.size
      obtain ⟨p0, q0, hv⟩ := harr.form
      rw [bys_len] at hv
      subst hv
      have HA := Lib.hid harr
      have HB := Lib.hid hbel
      by_cases hlt : i < s.size
      · have hlt1 : i + 1 < s.size := by have := HH.out; omega
        have h01 : (0 : Int) ≤ i := by omega
        have h02 : (i : Int) < s.size := by omega
        have h03 : (0 : Int) ≤ i + 1 := by omega
        have h04 : (i : Int) + 1 < s.size := by omega
        obtain ⟨a, ha⟩ : ∃ b, s[i] = b := ⟨_, rfl⟩
        obtain ⟨b, hb⟩ : ∃ b, s[i + 1] = b := ⟨_, rfl⟩
        have g1 : s.data.toList[i]? = some a := by rw [← ha]; exact Lib.data_getElem? s i hlt
        have g2 : s.data.toList[i + 1]? = some b := by rw [← hb]; exact Lib.data_getElem? s (i + 1) hlt1
        have G1 := Lib.hid g1
        have G2 := Lib.hid g2
        have a1 := dv_ge a
        have b1 := dv_ge b
        have a2 := dv_lt a
        have b2 := dv_lt b
        have hor := or_digits a b
        have hpv := pair_val a b
        obtain ⟨da, hda⟩ : ∃ d, dv a = d := ⟨_, rfl⟩
        obtain ⟨db, hdb⟩ : ∃ d, dv b = d := ⟨_, rfl⟩
        have hia : ∀ wx : World, Calls Tryz.prog 148 #[.string digB, .int .u8 (bv a)] wx fun e w' => e = .returned (.int .i64 da) ∧ w' = wx := fun wx => by rw [← hda]; exact ib_any a wx
        have hib : ∀ wx : World, Calls Tryz.prog 148 #[.string digB, .int .u8 (bv b)] wx fun e w' => e = .returned (.int .i64 db) ∧ w' = wx := fun wx => by rw [← hdb]; exact ib_any b wx
        rw [hda] at a1 a2 hor hpv
        rw [hdb] at b1 b2 hor hpv
        have HIA := Lib.hid hia
        have HIB := Lib.hid hib
        have HDA := Lib.hid hda
        have HDB := Lib.hid hdb
        have HI2 := Lib.hid hi2
        have HOL := Lib.hid hol
        clear hia hib hda hdb g1 g2 harr hbel hi2 hi
        obtain ⟨w0, rfl⟩ : ∃ w0, w0 = wr := ⟨wr, rfl⟩
        by_cases hx : da < 0
        · clear hor hpv
          go_wp2
          go_quiet (first | (go_at_call 148; exact Calls.quiet_of_same (HIA.out _)) | (go_at_call 148; exact Calls.quiet_of_same (HIB.out _)))
          go_wp2
          go_ret2
          rw [raw_bad HR.out G1.out G2.out (.inl (by rw [HDA.out]; exact hx))]
          exact ⟨rfl, Below.drewN HB.out⟩
        · by_cases hy : db < 0
          · clear hor hpv
            go_wp2
            go_quiet (first | (go_at_call 148; exact Calls.quiet_of_same (HIA.out _)) | (go_at_call 148; exact Calls.quiet_of_same (HIB.out _)))
            go_wp2
            go_ret2
            rw [raw_bad HR.out G1.out G2.out (.inr (by rw [HDB.out]; exact hy))]
            exact ⟨rfl, Below.drewN HB.out⟩
          · have hor' := hor (by omega) (by omega)
            have hpv' := hpv (by omega) (by omega)
            clear hor hpv
            go_wp2
            go_quiet (first | (go_at_call 148; exact Calls.quiet_of_same (HIA.out _)) | (go_at_call 148; exact Calls.quiet_of_same (HIB.out _)))
            generalize hwz : w0.drewN nq = wz
            have HAZ : Hid (Arr w.heap.size wz (.slice p0 out.length q0) (bys out)) := Lib.hid (by rw [← hwz]; exact HA.out)
            have HBZ : Hid (Below w.heap.size w wz) := Lib.hid (by rw [← hwz]; exact Below.drewN HB.out)
            have hszz := HBZ.out.size
            clear hwz
            go_wp2_with (at_builtin; refine wpList_append_arr rfl _ _ 101 rfl 5 (.int .u8 0) 1 Tryz.underlying101 Tryz.infoByte rfl w.heap.size (.slice p0 out.length q0) _ [.int .u8 (bv (pairB a b))] rfl (HAZ.out.alloc _) _ _ _ rfl rfl news_new one1 (Nat.zero_lt_succ _) (by rw [sizeAl]; omega) (by have := HOL.out; rw [bys_len]; show _ + 1 ≤ _; omega) (by decide) ?_; rintro v4 w4 harr4 hb4)
            refine ⟨⟨i + 2, out ++ [pairB a b], by have := HI2.out; omega, by omega, by go_num, by rw [bys_app]; exact harr4, by have := HO.out; simp; omega, Lib.hid (by have := HO.out; simp; omega), Lib.hid (raw_go HR.out G1.out G2.out (by rw [HDA.out]; omega) (by rw [HDB.out]; omega)), (HBZ.out.alloc hszz _).trans hb4⟩, by simp [intOf]; omega⟩
      · have hie : i = s.size := by omega
        have hst := arr_string (P := Tryz.prog) harr 101 9 5 Tryz.underlying101 Tryz.underlying5 Tryz.underlying9
        have hre := raw_end HR.out (by rw [HL.out, hie]; exact Nat.le_refl _)
        have HRE := Lib.hid hre
        clear harr hbel hie hre
        go_wp2
        go_ret2
        rw [HRE.out]
        exact ⟨rfl, HB.out⟩

def rightL (l : List UInt8) : Bool := decide (l.length = 64) && (rawL l).isSome

set_option maxHeartbeats 1000000 in
theorem right_any (s : ByteArray) (w : World) (hs : s.size ≤ 1000000) :
    Calls Tryz.prog 97 #[.string s] w fun e w' => e = .returned (.bool (rightL s.data.toList)) ∧ Below w.heap.size w w' := by
  have hl : s.data.toList.length = s.size := Array.length_toList
  have hr := raw_any s w hs
  by_cases h64 : s.size = 64
  · have t1 : ((s.size : Int) == 64) = true := by rw [beq_iff_eq]; omega
    have e1 : rightL s.data.toList = (rawL s.data.toList).isSome := by rw [rightL, hl, h64]; simp
    rw [e1]
    obtain ⟨o, ho⟩ : ∃ o, rawL s.data.toList = o := ⟨_, rfl⟩
    rw [ho] at hr ⊢
    have HR := Lib.hid hr
    clear hr hl e1 ho
    go_enter Tryz.func97, Tryz.ntmps97
    go_wp2_with fail
    refine HR.out.mono ?_
    rintro e w1 ⟨rfl, hb⟩
    cases o with
    | none =>
      simp only [rawS, rawE]
      go_wp2
      go_ret
      exact ⟨rfl, hb⟩
    | some m =>
      simp only [rawS, rawE]
      go_wp2
      go_ret
      exact ⟨rfl, hb⟩
  · have t1 : ((s.size : Int) == 64) = false := by rw [beq_eq_false_iff_ne]; omega
    have e1 : rightL s.data.toList = false := by rw [rightL, hl]; simp [h64]
    rw [e1]
    clear hr hl e1
    go_enter Tryz.func97, Tryz.ntmps97
    go_wp2
    go_ret
    exact ⟨rfl, Below.refl _ _⟩

end Go.Proofs.YtgjcblginkdinaaGreatDoor
set_option linter.unusedVariables false
namespace Go.Proofs.YtgjcblginkdinaaGreatDoor
open Go.ChangeShapes Go.WideShapes Go.ChangeAt Go.RowKit
section
variable {P : Program}

end
end Go.Proofs.YtgjcblginkdinaaGreatDoor
set_option linter.unusedVariables false
namespace Go.Proofs.YtgjcblginkdinaaGreatDoor
open Go.ChangeShapes Go.WideShapes Go.ChangeAt Go.RowKit

attribute [local go_sem] bv_u8

end Go.Proofs.YtgjcblginkdinaaGreatDoor
