/- What endings and others share. What hex digits' functions share. The contracts of the functions that read digits: the program's and the document's. append to slices of one-cell elements, as9 far as9 a machine's memory goes. No function of the program is named here. The contracts of the document's Raw and Right. -/
import Derived.Deep.RegionWith
import Derived.Test.YtojnagonhihknaaGreatDoorU1
import Derived.Test.YtojnagonhihknaaGreatDoorU11
import Derived.Test.YtojnagonhihknaaGreatDoorU2
import Derived.Test.YtojnagonhihknaaGreatDoorU6
set_option linter.unusedVariables false
namespace Go.Proofs.YtojnagonhihknaaGreatDoor
open Go.ChangeShapes Go.WideShapes Go.ChangeAt Go.RowKit

end Go.Proofs.YtojnagonhihknaaGreatDoor
set_option linter.unusedVariables false
namespace Go.Proofs.YtojnagonhihknaaGreatDoor
open Go.ChangeShapes Go.WideShapes Go.ChangeAt Go.RowKit

theorem arr_make {P : Program} (w : World) (t e : TypeId) (z : Value) (bytes : Nat) (ht : P.underlying t = some (.slice e)) (hinfo : (P.info? e).map (fun i => (i.zero, i.size, i.bytes)) = some (some z, 1, bytes)) (hz1 : z.cells = #[z]) (kl kc : IntKind) (n : Nat) (hb : bytes ≤ 16) (hn : n ≤ 1099511627776) :
    (Instr.makeSlice t (.int kl 0) (.int kc (n : Int))).run P w = .ok (.slice (some ⟨w.heap.size, 0, none⟩) 0 n) (w.alloc (.cells (madeCells #[z] n) e)) := by
  obtain ⟨i, hi, hzz⟩ := Option.map_eq_some_iff.1 hinfo
  simp only [Prod.mk.injEq] at hzz
  obtain ⟨hz, hs, hby⟩ := hzz
  have hm : ((bytes * n : Nat) : Int) ≤ 281474976710656 := by
    have := Nat.mul_le_mul hb hn
    omega
  rw [Int.natCast_mul] at hm
  have hr := run_make (P := P) w t e i z ht hi hz kl kc 0 n (by omega) (by omega) (by rw [hby]; exact hm) (by omega)
  simp only [Int.toNat_natCast, hs, Nat.mul_one, hz1, Int.toNat_zero] at hr
  exact hr
theorem arr_made {B : Nat} (w : World) (z : Value) (n : Nat) (e : TypeId) (hB : B ≤ w.heap.size) (hn : n ≤ 1099511627776) : Arr B (w.alloc (.cells (madeCells #[z] n) e)) (.slice (some ⟨w.heap.size, 0, none⟩) 0 n) [] :=
  arr_new (cs := []) (cap := n) hB (Nat.zero_le _) (by unfold maxLen; omega) (size_madeCells _ _) (.inl rfl) (fun j u hu => by simp at hu)
theorem cell_drew (w : World) (a : Addr) : w.drew.cell? a = w.cell? a := rfl
def digB : ByteArray := ⟨#[48, 49, 50, 51, 52, 53, 54, 55, 56, 57, 97, 98, 99, 100, 101, 102]⟩
theorem bv_range (b : UInt8) : 0 ≤ bv b ∧ bv b < 256 := by have := UInt8.toNat_lt b; unfold bv; omega
end Go.Proofs.YtojnagonhihknaaGreatDoor
set_option linter.unusedVariables false
namespace Go.Proofs.YtojnagonhihknaaGreatDoor
open Go.ChangeShapes Go.WideShapes Go.ChangeAt Go.RowKit

attribute [local go_sem] bv_u8
set_option maxRecDepth 100000 in
theorem ib_any (c : UInt8) (w : World) :
    Calls Tryz.prog 187 #[.string digB, .int .u8 (bv c)] w fun e w' => e = .returned (.int .i64 (dv c)) ∧ w' = w := by
  go_enter Tryz.func187, Tryz.ntmps187
  go_wp2
  rw [run_callFunc_extern Tryz.func196 (by kernel_rfl) (by kernel_rfl) (by kernel_rfl) (e := Extern.BytealgIndexByte.indexByte) (by kernel_rfl), Lib.run_indexByteString digB (bv c) w]
  simp only [Result.andThen]
  rw [Oper.upon_value]
  go_wp2
  go_ret
  refine ⟨ret_int ?_, rfl⟩
  have e : UInt8.ofNat (bv c).toNat = c := by unfold bv; simp
  rw [e]; rfl
set_option maxHeartbeats 1000000 in
theorem digit_any (c : UInt8) (w : World) :
    Calls Tryz.prog 78 #[.int .u8 (bv c)] w fun e w' => e = .returned (.int .i64 (dv c)) ∧ w' = w := by
  have hr := bv_range c
  obtain ⟨h0, h1⟩ := hr
  have hd := dv_eq c
  have hx : bv c = (c.toNat : Int) := rfl
  obtain ⟨x, hxx⟩ : ∃ x, x = bv c := ⟨_, rfl⟩
  obtain ⟨d, hdd⟩ : ∃ d, d = dv c := ⟨_, rfl⟩
  rw [← hxx] at h0 h1 hx ⊢
  rw [← hdd] at hd ⊢
  by_cases a1 : 48 ≤ x
  · by_cases a2 : x ≤ 57
    · have e : d = x - 48 := by rw [hd, if_pos (by omega)]; omega
      have e1 : IntKind.u8.wrap (x - 48) = x - 48 := by rw [IntKind.wrap_u8']; omega
      clear hd hx hxx hdd
      subst e
      go_enter Tryz.func78, Tryz.ntmps78
      go_wp2
      go_ret
      exact ⟨rfl, rfl⟩
    · by_cases a3 : 97 ≤ x
      · by_cases a4 : x ≤ 102
        · have e : d = x - 97 + 10 := by rw [hd, if_neg (by omega), if_pos (by omega)]; omega
          clear hd hx hxx hdd
          subst e
          go_enter Tryz.func78, Tryz.ntmps78
          go_wp2
          go_ret
          exact ⟨rfl, rfl⟩
        · have e : d = -1 := by rw [hd, if_neg (by omega), if_neg (by omega)]
          clear hd hx hxx hdd
          subst e
          go_enter Tryz.func78, Tryz.ntmps78
          go_wp2
          go_ret
          exact ⟨rfl, rfl⟩
      · have e : d = -1 := by rw [hd, if_neg (by omega), if_neg (by omega)]
        clear hd hx hxx hdd
        subst e
        go_enter Tryz.func78, Tryz.ntmps78
        go_wp2
        go_ret
        exact ⟨rfl, rfl⟩
  · have a3 : ¬ 97 ≤ x := by omega
    have e : d = -1 := by rw [hd, if_neg (by omega), if_neg (by omega)]
    clear hd hx hxx hdd
    subst e
    go_enter Tryz.func78, Tryz.ntmps78
    go_wp2
    go_ret
    exact ⟨rfl, rfl⟩
def rawS (o : Option (List UInt8)) : Value := match o with | some m => .string ⟨m.toArray⟩ | none => .string ⟨#[]⟩
def rawE (o : Option (List UInt8)) : Value := match o with | some _ => .nilIface | none => .iface 67 (.int .i64 4)
def rawN (o : Option (List UInt8)) : Value := match o with | some _ => .int .i64 0 | none => .int .i64 4
theorem or_digits (a b : UInt8) (ha : 0 ≤ dv a) (hb : 0 ≤ dv b) : bits .or .i64 (dv a * 16) (dv b) = dv a * 16 + dv b := by
  have h1 := dv_lt a
  have h2 := dv_lt b
  exact bits_join .i64 63 (by decide) (fun n h0 hn => by rw [IntKind.wrap_i64]; omega) 4 (dv a * 16) (dv b) (by omega) (by omega) (by omega) hb (by omega) (by omega)
theorem pair_val (a b : UInt8) (ha : 0 ≤ dv a) (hb : 0 ≤ dv b) : IntKind.u8.wrap (dv a * 16 + dv b) = bv (pairB a b) := by
  have h1 := dv_lt a
  have h2 := dv_lt b
  rw [IntKind.wrap_u8', bv, pairB, UInt8.toNat_ofNat']
  have : (2 : Nat) ^ 8 = 256 := rfl
  rw [this]; omega
theorem raw_go {L out : List UInt8} {i : Nat} {a b : UInt8} (h : rawL L = (rawL (L.drop i)).map (out ++ ·)) (h1 : L[i]? = some a) (h2 : L[i + 1]? = some b) (ha : 0 ≤ dv a) (hb : 0 ≤ dv b) :
    rawL L = (rawL (L.drop (i + 2))).map ((out ++ [pairB a b]) ++ ·) := by
  rw [h, raw_step h1 h2, rawL, if_neg (by omega), Option.map_map]
  congr 1
  funext x
  simp
theorem raw_bad {L out : List UInt8} {i : Nat} {a b : UInt8} (h : rawL L = (rawL (L.drop i)).map (out ++ ·)) (h1 : L[i]? = some a) (h2 : L[i + 1]? = some b) (hab : dv a < 0 ∨ dv b < 0) : rawL L = none := by
  rw [h, raw_step h1 h2, rawL, if_pos hab]; rfl
theorem raw_end {L out : List UInt8} {i : Nat} (h : rawL L = (rawL (L.drop i)).map (out ++ ·)) (hi : L.length ≤ i) : rawL L = some out := by
  rw [h, List.drop_eq_nil_of_le hi]; simp [rawL]
set_option maxHeartbeats 2000000 in
set_option maxRecDepth 100000 in
theorem raw_any (s : ByteArray) (w : World) (hs : s.size ≤ 1000000) :
    Calls Tryz.prog 181 #[.string s] w fun e w' => e = .returned (.tuple #[rawS (rawL s.data.toList), rawE (rawL s.data.toList)]) ∧ Below w.heap.size w w' := by
  have hl : s.data.toList.length = s.size := Array.length_toList
  have HL := Lib.hid hl
  by_cases hodd : s.size % 2 = 1
  · have t1 : (((s.size : Int) % 2) == 0) = false := by rw [beq_eq_false_iff_ne]; omega
    have hr := raw_odd (s.size / 2) s.data.toList (by omega)
    rw [hr]
    clear hl hr
    go_enter Tryz.func181, Tryz.ntmps181
    go_wp2
    go_ret2
    exact ⟨rfl, Below.refl _ _⟩
  · obtain ⟨h, hh⟩ : ∃ h, s.size = 2 * h := ⟨s.size / 2, by omega⟩
    have t3 : (((s.size : Int) % 2) != 0) = false := by simp; omega
    have t2 : (s.size : Int) / 2 = (h : Int) := by omega
    have hmk := arr_make (P := Tryz.prog) w 144 5 (.int .u8 0) 1 Tryz.underlying144 Tryz.infoByte rfl .i64 .i64 h (by omega) (by omega)
    have hh5 : h ≤ 500000 := by omega
    have HH := Lib.hid hh
    clear hl hh
    go_enter Tryz.func181, Tryz.ntmps181
    go_wp2
    clear t3 t2 hmk hodd
    go_loopw [4, 5] (fun v iv wr => ∃ (i : Nat) (out : List UInt8), i % 2 = 0 ∧ i ≤ s.size ∧ iv = .int .i64 i ∧ Arr w.heap.size wr v (bys out) ∧ out.length ≤ s.size ∧ Hid (2 * out.length = i) ∧ Hid (rawL s.data.toList = (rawL (s.data.toList.drop i)).map (out ++ ·)) ∧ Below w.heap.size w wr) (fun _ iv _ => s.size - (intOf iv).toNat)
    case atStart => exact ⟨0, [], rfl, Nat.zero_le _, rfl, arr_made w _ _ _ (Nat.le_refl _) (by omega), Nat.zero_le _, Lib.hid rfl, Lib.hid (by simp), (Below.refl _ _).alloc (Nat.le_refl _) _⟩
    case round =>
      obtain ⟨i, out, hi2, hi, rfl, harr, hol, HO, HR, hbel⟩ := hrel
      have hsz := hbel.size
      obtain ⟨p0, q0, hv⟩ := harr.form
      rw [bys_len] at hv
      subst hv
      have HA := Lib.hid harr
      have HB := Lib.hid hbel
      by_cases hlt : i < s.size
      · have hlt1 : i + 1 < s.size := by have := HH.out; omega
        have h01 : (0 : Int) ≤ i := by omega
        have h02 : (i : Int) < s.size := by omega
        have h03 : (0 : Int) ≤ i + 1 := by omega
        have h04 : (i : Int) + 1 < s.size := by omega
        obtain ⟨a, ha⟩ : ∃ b, s[i] = b := ⟨_, rfl⟩
        obtain ⟨b, hb⟩ : ∃ b, s[i + 1] = b := ⟨_, rfl⟩
        have g1 : s.data.toList[i]? = some a := by rw [← ha]; exact Lib.data_getElem? s i hlt
        have g2 : s.data.toList[i + 1]? = some b := by rw [← hb]; exact Lib.data_getElem? s (i + 1) hlt1
        have G1 := Lib.hid g1
        have G2 := Lib.hid g2
        have a1 := dv_ge a
        have b1 := dv_ge b
        have a2 := dv_lt a
        have b2 := dv_lt b
        have hor := or_digits a b
        have hpv := pair_val a b
        obtain ⟨da, hda⟩ : ∃ d, dv a = d := ⟨_, rfl⟩
        obtain ⟨db, hdb⟩ : ∃ d, dv b = d := ⟨_, rfl⟩
        have hia : ∀ wx : World, Calls Tryz.prog 187 #[.string digB, .int .u8 (bv a)] wx fun e w' => e = .returned (.int .i64 da) ∧ w' = wx := fun wx => by rw [← hda]; exact ib_any a wx
        have hib : ∀ wx : World, Calls Tryz.prog 187 #[.string digB, .int .u8 (bv b)] wx fun e w' => e = .returned (.int .i64 db) ∧ w' = wx := fun wx => by rw [← hdb]; exact ib_any b wx
        rw [hda] at a1 a2 hor hpv
        rw [hdb] at b1 b2 hor hpv
        have HIA := Lib.hid hia
        have HIB := Lib.hid hib
        have HDA := Lib.hid hda
        have HDB := Lib.hid hdb
        have HI2 := Lib.hid hi2
        have HOL := Lib.hid hol
        clear hia hib hda hdb g1 g2 harr hbel hi2 hi
        obtain ⟨w0, rfl⟩ : ∃ w0, w0 = wr := ⟨wr, rfl⟩
        by_cases hx : da < 0
        · clear hor hpv
          go_wp2
          go_quiet (first | (go_at_call 187; exact Calls.quiet_of_same (HIA.out _)) | (go_at_call 187; exact Calls.quiet_of_same (HIB.out _)))
          go_wp2
          go_ret2
          rw [raw_bad HR.out G1.out G2.out (.inl (by rw [HDA.out]; exact hx))]
          exact ⟨rfl, Below.drewN HB.out⟩
        · by_cases hy : db < 0
          · clear hor hpv
            go_wp2
            go_quiet (first | (go_at_call 187; exact Calls.quiet_of_same (HIA.out _)) | (go_at_call 187; exact Calls.quiet_of_same (HIB.out _)))
            go_wp2
            go_ret2
            rw [raw_bad HR.out G1.out G2.out (.inr (by rw [HDB.out]; exact hy))]
            exact ⟨rfl, Below.drewN HB.out⟩
          · have hor' := hor (by omega) (by omega)
            have hpv' := hpv (by omega) (by omega)
            clear hor hpv
            go_wp2
            go_quiet (first | (go_at_call 187; exact Calls.quiet_of_same (HIA.out _)) | (go_at_call 187; exact Calls.quiet_of_same (HIB.out _)))
            generalize hwz : w0.drewN nq = wz
            have HAZ : Hid (Arr w.heap.size wz (.slice p0 out.length q0) (bys out)) := Lib.hid (by rw [← hwz]; exact HA.out)
            have HBZ : Hid (Below w.heap.size w wz) := Lib.hid (by rw [← hwz]; exact Below.drewN HB.out)
            have hszz := HBZ.out.size
            clear hwz
            go_wp2_with (at_builtin; refine wpList_append_arr rfl _ _ 144 rfl 5 (.int .u8 0) 1 Tryz.underlying144 Tryz.infoByte rfl w.heap.size (.slice p0 out.length q0) _ [.int .u8 (bv (pairB a b))] rfl (HAZ.out.alloc _) _ _ _ rfl rfl news_new one1 (Nat.zero_lt_succ _) (by rw [sizeAl]; omega) (by have := HOL.out; rw [bys_len]; show _ + 1 ≤ _; omega) (by decide) ?_; rintro v4 w4 harr4 hb4)
            refine ⟨⟨i + 2, out ++ [pairB a b], by have := HI2.out; omega, by omega, by go_num, by rw [bys_app]; exact harr4, by have := HO.out; simp; omega, Lib.hid (by have := HO.out; simp; omega), Lib.hid (raw_go HR.out G1.out G2.out (by rw [HDA.out]; omega) (by rw [HDB.out]; omega)), (HBZ.out.alloc hszz _).trans hb4⟩, by simp [intOf]; omega⟩
      · have hie : i = s.size := by omega
        have hst := arr_string (P := Tryz.prog) harr 144 9 5 Tryz.underlying144 Tryz.underlying5 Tryz.underlying9
        have hre := raw_end HR.out (by rw [HL.out, hie]; exact Nat.le_refl _)
        have HRE := Lib.hid hre
        clear harr hbel hie hre
        go_wp2
        go_ret2
        rw [HRE.out]
        exact ⟨rfl, HB.out⟩
set_option maxHeartbeats 1000000 in
theorem right_any (s : ByteArray) (w : World) (hs : s.size ≤ 1000000) :
    Calls Tryz.prog 165 #[.string s] w fun e w' => e = .returned (.bool (rightL s.data.toList)) ∧ Below w.heap.size w w' := by
  have hl : s.data.toList.length = s.size := Array.length_toList
  have hr := raw_any s w hs
  by_cases h64 : s.size = 64
  · have t1 : ((s.size : Int) == 64) = true := by rw [beq_iff_eq]; omega
    have e1 : rightL s.data.toList = (rawL s.data.toList).isSome := by rw [rightL, hl, h64]; simp
    rw [e1]
    obtain ⟨o, ho⟩ : ∃ o, rawL s.data.toList = o := ⟨_, rfl⟩
    rw [ho] at hr ⊢
    have HR := Lib.hid hr
    clear hr hl e1 ho
    go_enter Tryz.func165, Tryz.ntmps165
    go_wp2_with fail
    refine HR.out.mono ?_
    rintro e w1 ⟨rfl, hb⟩
    cases o with
    | none =>
      simp only [rawS, rawE]
      go_wp2
      go_ret
      exact ⟨rfl, hb⟩
    | some m =>
      simp only [rawS, rawE]
      go_wp2
      go_ret
      exact ⟨rfl, hb⟩
  · have t1 : ((s.size : Int) == 64) = false := by rw [beq_eq_false_iff_ne]; omega
    have e1 : rightL s.data.toList = false := by rw [rightL, hl]; simp [h64]
    rw [e1]
    clear hr hl e1
    go_enter Tryz.func165, Tryz.ntmps165
    go_wp2
    go_ret
    exact ⟨rfl, Below.refl _ _⟩
end Go.Proofs.YtojnagonhihknaaGreatDoor
set_option linter.unusedVariables false
namespace Go.Proofs.YtojnagonhihknaaGreatDoor
open Go.ChangeShapes Go.WideShapes Go.ChangeAt Go.RowKit
section
variable {P : Program}

theorem run_append_arr_w {B : Nat} {w : World} {v : Value} {cs news : List Value} (t ty e : TypeId) (z : Value) (bytes : Nat) (ht : P.underlying t = some (.slice e)) (hinfo : (P.info? e).map (fun i => (i.zero, i.size, i.bytes)) = some (some z, 1, bytes)) (hz1 : z.cells.size = 1)
    (h : Arr B w v cs) (g c : Nat) (hnews : ∀ j u, news[j]? = some u → w.cell? ⟨g, j, none⟩ = some u) (h1 : ∀ u ∈ news, u.oneCell' = true) (hn : 0 < news.length) (hB : B ≤ w.heap.size) (hl : cs.length + news.length ≤ 140737488355328) (hb : (cs.length + news.length) * bytes ≤ 140737488355328) :
    ∃ v' w', (Builtin.append_ #[t, t] ty #[v, .slice (some ⟨g, 0, none⟩) news.length c]).run P w = .ok v' w' ∧ Arr B w' v' (cs ++ news) ∧ Below B w w' := by
  obtain ⟨i, hi, hzz⟩ := Option.map_eq_some_iff.1 hinfo
  simp only [Prod.mk.injEq] at hzz
  obtain ⟨hz, hsz, hby⟩ := hzz
  have hsrc : Src P i.size t (.slice (some ⟨g, 0, none⟩) news.length c) news.length news w := by
    rw [hsz]
    exact Src.ofSlice w ht ⟨g, 0, none⟩ news.length c news (by omega) (fun j u hu => by rw [Addr.add_mid, Nat.zero_add]; exact hnews j u hu) h1
  have grow : ∀ (base : Option Addr) (sCap : Nat), (Builtin.firstCells i.size cs.length (.slice base cs.length sCap)).run P w.drew = .ok cs.toArray w.drew → sCap < cs.length + news.length →
      ∃ v' w', (Builtin.append_ #[t, t] ty #[.slice base cs.length sCap, .slice (some ⟨g, 0, none⟩) news.length c]).run P w = .ok v' w' ∧ Arr B w' v' (cs ++ news) ∧ Below B w w' := by
    intro base sCap hold hg
    have hfit : Builtin.nextslicecap (cs.length + news.length) sCap * i.bytes ≤ 281474976710656 := growslice_fits hg (by
      rw [hby]
      exact hb)
    have hr := run_append_grow_src (P := P) w t t ty e i z ht hi hz base cs.length sCap cs hold (.slice (some ⟨g, 0, none⟩) news.length c) news.length news hsrc hg (by omega) hfit
    have hge := grownCap_ge w (cs.length + news.length) sCap e
    have hcm : grownCap w (cs.length + news.length) sCap e ≤ maxLen := grownCap_le_maxLen w _ sCap e (by unfold maxLen; omega)
    refine ⟨_, _, hr, ?_, ?_⟩
    · have := arr_new (B := B) (w := w.drew) (e := e) (cs := cs ++ news) (cap := grownCap w (cs.length + news.length) sCap e) (xs := (cs ++ news).toArray ++ Builtin.zeroCells z.cells (grownCap w (cs.length + news.length) sCap e - (cs.length + news.length))) (fr := (0, 0)) hB
        (by rw [List.length_append]; exact hge) hcm (by rw [Array.size_append, List.size_toArray, List.length_append, size_zeroCells, hz1]; omega) (.inl rfl) (fun j u hu => by
          rw [Array.getElem?_append, if_pos (by rw [List.size_toArray]; exact (List.getElem?_eq_some_iff.1 hu).1)]
          simpa using hu)
      rw [List.length_append] at this
      exact this
    · exact ((Below.refl B w).drew).alloc hB _
  rcases h with ⟨rfl, rfl⟩ | ⟨b, cap, rfl, h2, h3, h4, h5, h6, h7⟩
  · exact grow none 0 (by simpa using run_firstCells_none w.drew i.size 0 0 0) (by omega)
  · by_cases hroom : cs.length + news.length ≤ cap
    · have hr := run_append_room_src (P := P) w t t ty e i ht hi b 0 cs.length cap _ news.length news hsrc hroom
        (fun j hj => by rw [hsz, Nat.zero_add, Nat.mul_one]; exact (h6 _ (by omega)).1) (fun j hj => by rw [hsz, Nat.zero_add, Nat.mul_one]; exact (h6 _ (by omega)).2)
      rw [hsz, Nat.zero_add, Nat.mul_one] at hr
      refine ⟨_, _, hr, .inr ⟨b, cap, by rw [List.length_append], h2, ?_, by rw [List.length_append]; exact hroom, h5, fun j hj => ?_, fun j u hu => ?_⟩, ?_⟩
      · have : ∀ (vs : List Value) (o : Nat) (x : World), (x.setCells b o vs).heap.size = x.heap.size := fun vs => by
          induction vs with
          | nil => intros; rfl
          | cons a r ih => intro o x; rw [World.setCells, ih]; simp [World.setCell]
        rw [this]; exact h3
      · exact ⟨World.isSome_setCells b news cs.length w _ (h6 j hj).1, by rw [World.frozen?_setCells]; exact (h6 j hj).2⟩
      · have hjl : j < (cs ++ news).length := (List.getElem?_eq_some_iff.1 hu).1
        rw [List.length_append] at hjl
        by_cases e1 : j < cs.length
        · rw [List.getElem?_append_left e1] at hu
          rw [World.cell?_setCells_out b news cs.length w ⟨b, j, none⟩ (fun _ _ => .inl e1)]
          exact h7 j u hu
        · rw [List.getElem?_append_right (by omega)] at hu
          have hin := World.cell?_setCells_in b news cs.length w (fun i hi => (h6 _ (by omega)).1) (j - cs.length) (by omega)
          rw [show cs.length + (j - cs.length) = j by omega] at hin
          rw [hin, ← hu, List.getElem?_eq_getElem (by omega)]
      · have : ∀ (vs : List Value) (o : Nat) (x : World), Below B w x → Below B w (x.setCells b o vs) := fun vs => by
          induction vs with
          | nil => intro o x hx; exact hx
          | cons a r ih => intro o x hx; exact ih (o + 1) _ (hx.setCell (p := ⟨b, o, none⟩) h2 a)
        exact this news cs.length w (Below.refl B w)
    · exact grow (some ⟨b, 0, none⟩) cap (run_firstCells_some w.drew i.size cs.length ⟨b, 0, none⟩ cs.length cap cs (by rw [hsz]; omega) (fun j u hu => by rw [Addr.add_mid, Nat.zero_add]; exact h7 j u hu)) (by omega)

theorem wp_append_arr_w {w : World} {o : Oper} {a : Act} {K : Act → World → Prop} {Q : Exit → Act → World → Prop} (s x : Operand) (t : TypeId)
    (ho : o.op = .call { callee := .builtin .append, args := #[s, x], argTypes := #[t, t] }) (e : TypeId) (z : Value) (bytes : Nat) (ht : P.underlying t = some (.slice e)) (hinfo : (P.info? e).map (fun i => (i.zero, i.size, i.bytes)) = some (some z, 1, bytes)) (hz1 : z.cells.size = 1)
    (B : Nat) (v : Value) (cs news : List Value) (hs : a.eval s = v) (h : Arr B w v cs) (g m c : Nat) (hx : a.eval x = .slice (some ⟨g, 0, none⟩) m c) (hm : m = news.length) (hnews : ∀ j u, news[j]? = some u → w.cell? ⟨g, j, none⟩ = some u) (h1 : ∀ u ∈ news, u.oneCell' = true) (hn : 0 < news.length)
    (hB : B ≤ w.heap.size) (hl : cs.length + news.length ≤ 140737488355328) (hb : (cs.length + news.length) * bytes ≤ 140737488355328)
    (hK : ∀ v' w', Arr B w' v' (cs ++ news) → Below B w w' → K (a.put o.dst v') w') : o.wp P a w K Q := by
  subst hm
  obtain ⟨v', w', hr, h2, h3⟩ := run_append_arr_w (P := P) t o.type e z bytes ht hinfo hz1 h g c hnews h1 hn hB hl hb
  unfold Oper.wp execOp
  simp only [ho, resolve, invoke, builtin, Sem.run_bind, Sem.run_pure, Result.andThen_ok, List.map_toArray, List.map_cons, List.map_nil, hs, hx, hr]
  exact hK v' w' h2 h3

theorem step_append_arr_w {w : World} {ops : Array Oper} {o : Oper} {a : Act} {K : Act → World → Prop} {Q : Exit → Act → World → Prop} {E : Prop} (hgd : o.guard = none) (s x : Operand) (t : TypeId)
    (ho : o.op = .call { callee := .builtin .append, args := #[s, x], argTypes := #[t, t] }) (e : TypeId) (z : Value) (bytes : Nat) (ht : P.underlying t = some (.slice e)) (hinfo : (P.info? e).map (fun i => (i.zero, i.size, i.bytes)) = some (some z, 1, bytes)) (hz1 : z.cells.size = 1)
    (B : Nat) (v : Value) (cs news : List Value) (hs : a.eval s = v) (h : Arr B w v cs) (g m c : Nat) (hx : a.eval x = .slice (some ⟨g, 0, none⟩) m c) (hm : m = news.length) (hnews : ∀ j u, news[j]? = some u → w.cell? ⟨g, j, none⟩ = some u) (h1 : ∀ u ∈ news, u.oneCell' = true) (hn : 0 < news.length)
    (hB : B ≤ w.heap.size) (hl : cs.length + news.length ≤ 140737488355328) (hb : (cs.length + news.length) * bytes ≤ 140737488355328)
    (hK : ∀ v' w', Arr B w' v' (cs ++ news) → Below B w w' → K (a.put o.dst v') w') :
    if Region.wanted o (yielded ops a.tmps) = true then Oper.wp P o a w K Q else E := by
  have hw : Region.wanted o (yielded ops a.tmps) = true := by simp [Region.wanted, hgd]
  rw [if_pos hw]
  exact wp_append_arr_w s x t ho e z bytes ht hinfo hz1 B v cs news hs h g m c hx hm hnews h1 hn hB hl hb hK

end
end Go.Proofs.YtojnagonhihknaaGreatDoor
set_option linter.unusedVariables false
namespace Go.Proofs.YtojnagonhihknaaGreatDoor
open Go.ChangeShapes Go.WideShapes Go.ChangeAt Go.RowKit

attribute [local go_sem] bv_u8

set_option maxHeartbeats 2000000 in
set_option maxRecDepth 100000 in
theorem rraw_any (s : ByteArray) (w : World) (hs : s.size ≤ 140737488355328) :
    Calls Tryz.prog 42 #[.string s] w fun e w' => e = .returned (.tuple #[rawS (rawL s.data.toList), rawN (rawL s.data.toList)]) ∧ Below w.heap.size w w' := by
  have hl : s.data.toList.length = s.size := Array.length_toList
  have HL := Lib.hid hl
  by_cases hodd : s.size % 2 = 1
  · have t1 : (((s.size : Int) % 2) == 0) = false := by rw [beq_eq_false_iff_ne]; omega
    have hr := raw_odd (s.size / 2) s.data.toList (by omega)
    rw [hr]
    clear hl hr
    go_enter Tryz.func42, Tryz.ntmps42
    go_wp2
    go_ret2
    exact ⟨rfl, Below.refl _ _⟩
  · obtain ⟨h, hh⟩ : ∃ h, s.size = 2 * h := ⟨s.size / 2, by omega⟩
    have t3 : (((s.size : Int) % 2) != 0) = false := by simp; omega
    have hh5 : h ≤ 70368744177664 := by omega
    have HH := Lib.hid hh
    clear hl hh
    go_enter Tryz.func42, Tryz.ntmps42
    go_wp2
    clear t3 hodd
    go_loopw [4, 5] (fun v iv wr => ∃ (i : Nat) (out : List UInt8), i % 2 = 0 ∧ i ≤ s.size ∧ iv = .int .i64 i ∧ Arr w.heap.size wr v (bys out) ∧ out.length ≤ s.size ∧ Hid (2 * out.length = i) ∧ Hid (rawL s.data.toList = (rawL (s.data.toList.drop i)).map (out ++ ·)) ∧ Below w.heap.size w wr) (fun _ iv _ => s.size - (intOf iv).toNat)
    case atStart => exact ⟨0, [], rfl, Nat.zero_le _, rfl, Arr.nil _ _, Nat.zero_le _, Lib.hid rfl, Lib.hid (by simp), Below.refl _ _⟩
    case round =>
      obtain ⟨i, out, hi2, hi, rfl, harr, hol, HO, HR, hbel⟩ := hrel
      have hsz := hbel.size
      obtain ⟨p0, q0, hv⟩ := harr.form
      rw [bys_len] at hv
      subst hv
      have HA := Lib.hid harr
      have HB := Lib.hid hbel
      by_cases hlt : i < s.size
      · have hlt1 : i + 1 < s.size := by have := HH.out; omega
        have h01 : (0 : Int) ≤ i := by omega
        have h02 : (i : Int) < s.size := by omega
        have h03 : (0 : Int) ≤ i + 1 := by omega
        have h04 : (i : Int) + 1 < s.size := by omega
        obtain ⟨a, ha⟩ : ∃ b, s[i] = b := ⟨_, rfl⟩
        obtain ⟨b, hb⟩ : ∃ b, s[i + 1] = b := ⟨_, rfl⟩
        have g1 : s.data.toList[i]? = some a := by rw [← ha]; exact Lib.data_getElem? s i hlt
        have g2 : s.data.toList[i + 1]? = some b := by rw [← hb]; exact Lib.data_getElem? s (i + 1) hlt1
        have G1 := Lib.hid g1
        have G2 := Lib.hid g2
        have a1 := dv_ge a
        have b1 := dv_ge b
        have a2 := dv_lt a
        have b2 := dv_lt b
        have hpv := pair_val a b
        obtain ⟨da, hda⟩ : ∃ d, dv a = d := ⟨_, rfl⟩
        obtain ⟨db, hdb⟩ : ∃ d, dv b = d := ⟨_, rfl⟩
        have hia : ∀ wx : World, Calls Tryz.prog 78 #[.int .u8 (bv a)] wx fun e w' => e = .returned (.int .i64 da) ∧ w' = wx := fun wx => by rw [← hda]; exact digit_any a wx
        have hib : ∀ wx : World, Calls Tryz.prog 78 #[.int .u8 (bv b)] wx fun e w' => e = .returned (.int .i64 db) ∧ w' = wx := fun wx => by rw [← hdb]; exact digit_any b wx
        rw [hda] at a1 a2 hpv
        rw [hdb] at b1 b2 hpv
        have HIA := Lib.hid hia
        have HIB := Lib.hid hib
        have HDA := Lib.hid hda
        have HDB := Lib.hid hdb
        have HI2 := Lib.hid hi2
        have HOL := Lib.hid hol
        clear hia hib hda hdb g1 g2 harr hbel hi2 hi
        obtain ⟨w0, rfl⟩ : ∃ w0, w0 = wr := ⟨wr, rfl⟩
        by_cases hx : da < 0
        · clear hpv
          go_wp2_with fail
          refine (HIA.out _).mono ?_
          rintro e w1 ⟨rfl, rfl⟩
          go_wp2
          go_ret2
          rw [raw_bad HR.out G1.out G2.out (.inl (by rw [HDA.out]; exact hx))]
          exact ⟨rfl, HB.out⟩
        · by_cases hy : db < 0
          · clear hpv
            go_wp2_with fail
            refine (HIA.out _).mono ?_
            rintro e w1 ⟨rfl, rfl⟩
            go_wp2_with fail
            refine (HIB.out _).mono ?_
            rintro e w1 ⟨rfl, rfl⟩
            go_wp2
            go_ret2
            rw [raw_bad HR.out G1.out G2.out (.inr (by rw [HDB.out]; exact hy))]
            exact ⟨rfl, HB.out⟩
          · have hpv' := hpv (by omega) (by omega)
            have q1 : IntKind.i64.wrap (da * 16) = da * 16 := by rw [IntKind.wrap_i64]; omega
            have q2 : IntKind.i64.wrap (da * 16 + db) = da * 16 + db := by rw [IntKind.wrap_i64]; omega
            have q3 : IntKind.i64.wrap ((i : Int) + 1) = (i : Int) + 1 := by rw [IntKind.wrap_i64]; omega
            have q4 : ((i : Int) + 1).toNat = i + 1 := by omega
            clear hpv
            go_wp2_with fail
            refine (HIA.out _).mono ?_
            rintro e w1 ⟨rfl, rfl⟩
            go_wp2_with fail
            refine (HIB.out _).mono ?_
            rintro e w1 ⟨rfl, rfl⟩
            go_wp2
            go_region_law (first
              | (refine step_append_arr_w rfl (.tmp 29) (.tmp 42) 144 rfl 5 (.int .u8 0) 1 Tryz.underlying144 Tryz.infoByte rfl w.heap.size (.slice p0 out.length q0) _ [.int .u8 (bv (pairB a b))] (by simp [Act.eval]) (by exact (HA.out.alloc _).drew) w1.heap.size 1 1 (by simp [Act.eval]) rfl (by intro j u' hj; rw [cell_drew]; exact news_new j u' hj) one1 (Nat.zero_lt_succ _) (by show _ ≤ (w1.alloc _).heap.size; rw [sizeAl]; omega) (by have := HO.out; rw [bys_len]; show _ + 1 ≤ _; omega) (by have := HO.out; rw [bys_len, Nat.mul_one]; show _ + 1 ≤ _; omega) ?_; intro v4 w4 harr4 hb4; obtain ⟨a4, c4, h4⟩ := harr4.form; have HA4 := Lib.hid harr4; have HB4 := Lib.hid hb4; have H4 := Lib.hid h4; clear harr4 hb4 h4)
              | (go_simp; with_reducible refine (HIA.out _).mono ?_; rintro e w7 ⟨rfl, rfl⟩)
              | (go_simp; with_reducible refine (HIB.out _).mono ?_; rintro e w7 ⟨rfl, rfl⟩))
            all_goals go_wp2
            all_goals refine ⟨⟨i + 2, out ++ [pairB a b], by have := HI2.out; omega, by omega, by go_num, by rw [bys_app]; exact HA4.out, by have := HO.out; simp; omega, Lib.hid (by have := HO.out; simp; omega), Lib.hid (raw_go HR.out G1.out G2.out (by rw [HDA.out]; omega) (by rw [HDB.out]; omega)), (HB.out.alloc hsz _).drew.trans (by exact HB4.out)⟩, by simp [intOf]; omega⟩
      · have hie : i = s.size := by omega
        have hst := arr_string (P := Tryz.prog) harr 144 9 5 Tryz.underlying144 Tryz.underlying5 Tryz.underlying9
        have hre := raw_end HR.out (by rw [HL.out, hie]; exact Nat.le_refl _)
        have HRE := Lib.hid hre
        clear harr hbel hie hre
        go_wp2
        go_ret2
        rw [HRE.out]
        exact ⟨rfl, HB.out⟩

set_option maxHeartbeats 1000000 in
theorem rrightD_any (s : ByteArray) (w : World) (hs : s.size ≤ 140737488355328) :
    Calls Tryz.prog 19 #[.string s] w fun e w' => e = .returned (.bool (rightL s.data.toList)) ∧ Below w.heap.size w w' := by
  have hl : s.data.toList.length = s.size := Array.length_toList
  have hr := rraw_any s w hs
  obtain ⟨o, ho⟩ : ∃ o, rawL s.data.toList = o := ⟨_, rfl⟩
  have e1 : rightL s.data.toList = (decide (s.size = 64) && o.isSome) := by rw [rightL, hl, ho]
  rw [e1]
  rw [ho] at hr
  have HR := Lib.hid hr
  clear hr hl e1 ho
  by_cases h64 : s.size = 64
  · have t1 : ((s.size : Int) == 64) = true := by rw [beq_iff_eq]; omega
    go_enter Tryz.func19, Tryz.ntmps19
    go_wp2_with fail
    refine HR.out.mono ?_
    rintro e w1 ⟨rfl, hb⟩
    cases o with
    | none =>
      simp only [rawS, rawN]
      go_wp2
      go_ret
      exact ⟨by simp [h64], hb⟩
    | some m =>
      simp only [rawS, rawN]
      go_wp2
      go_ret
      exact ⟨by simp [h64], hb⟩
  · have t1 : ((s.size : Int) == 64) = false := by rw [beq_eq_false_iff_ne]; omega
    go_enter Tryz.func19, Tryz.ntmps19
    go_wp2_with fail
    refine HR.out.mono ?_
    rintro e w1 ⟨rfl, hb⟩
    cases o with
    | none =>
      simp only [rawS, rawN]
      go_wp2
      go_ret
      exact ⟨by simp [h64], hb⟩
    | some m =>
      simp only [rawS, rawN]
      go_wp2
      go_ret
      exact ⟨by simp [h64], hb⟩
end Go.Proofs.YtojnagonhihknaaGreatDoor
