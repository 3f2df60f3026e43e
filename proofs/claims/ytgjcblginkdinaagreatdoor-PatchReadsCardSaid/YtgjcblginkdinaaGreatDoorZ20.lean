/- The contract of the document's item: a list. The contract of the program's Read. The contract of the document's Read. -/
import Derived.Test.YtgjcblginkdinaaGreatDoorZ18
import Derived.Test.YtgjcblginkdinaaGreatDoorZ19
set_option linter.unusedVariables false
namespace Go.Proofs.YtgjcblginkdinaaGreatDoor
open Go.ChangeShapes Go.WideShapes Go.ChangeAt Go.RowKit

def ItemC (d : Nat) : Prop := ∀ (s : ByteArray) (wz : World), s.size ≤ 100000 → Calls Tryz.prog 85 #[.string s, .int .i64 (d : Nat)] wz (ItemP d s.data.toList wz)

def strLen : Value → Nat | .string r => r.size | _ => 0

theorem two_off' {w wr : World} {x1 x2 x3 y1 y2 y3 : Value} {ty : TypeId} (h : Off (· = w.heap.size + 1) ((w.alloc (.cells #[x1, x2, x3] ty)).alloc (.cells #[y1, y2, y3] ty)) wr) :
    (wr.cell? ⟨w.heap.size, 0, none⟩ = some x1 ∧ wr.cell? ⟨w.heap.size, 1, none⟩ = some x2 ∧ wr.cell? ⟨w.heap.size, 2, none⟩ = some x3) ∧ (wr.frozen? ⟨w.heap.size, 0, none⟩ = false ∧ wr.frozen? ⟨w.heap.size, 1, none⟩ = false ∧ wr.frozen? ⟨w.heap.size, 2, none⟩ = false) ∧ w.heap.size + 1 < wr.heap.size ∧ Below w.heap.size w wr := by
  have hlt : w.heap.size < ((w.alloc (.cells #[x1, x2, x3] ty)).alloc (.cells #[y1, y2, y3] ty)).heap.size := by simp; omega
  have hb : ((w.alloc (.cells #[x1, x2, x3] ty)).alloc (.cells #[y1, y2, y3] ty)).heap[w.heap.size]? = (w.alloc (.cells #[x1, x2, x3] ty)).heap[w.heap.size]? := Below.heap_alloc _ _ _ (by simp)
  have hc : ∀ j, wr.cell? ⟨w.heap.size, j, none⟩ = #[x1, x2, x3][j]? := fun j => (h.cell (p := ⟨w.heap.size, j, none⟩) hlt (by show ¬ w.heap.size = _; omega)).trans ((World.cell?_of_block (a := ⟨w.heap.size, j, none⟩) hb).trans (World.cell?_alloc_at _ _ _ _ rfl))
  have hf : ∀ j, wr.frozen? ⟨w.heap.size, j, none⟩ = false := fun j => (h.frozen (p := ⟨w.heap.size, j, none⟩) hlt (by show ¬ w.heap.size = _; omega)).trans ((World.frozen?_of_block (a := ⟨w.heap.size, j, none⟩) hb).trans (World.frozen?_alloc_at _ _ _ _ rfl))
  refine ⟨⟨hc 0, hc 1, hc 2⟩, ⟨hf 0, hf 1, hf 2⟩, Nat.lt_of_lt_of_le (by simp) h.size, ?_⟩
  exact (((Below.refl _ _).alloc (Nat.le_refl _) _).alloc (by simp) _).trans (h.below (fun i hi => by omega) (by simp; omega))

set_option maxHeartbeats 4000000 in
set_option maxRecDepth 100000 in
theorem item_list (s : ByteArray) (d : Nat) (w : World) (L1 : List UInt8) (hs : s.size ≤ 100000) (hd : d ≤ 8) (hL : s.data.toList = 40 :: L1) (hrec : d < 8 → ItemC (d + 1)) :
    Calls Tryz.prog 85 #[.string s, .int .i64 (d : Nat)] w (ItemP d (40 :: L1) w) := by
  have hne : 0 < s.size := by
    have := congrArg List.length hL
    rw [ba_len, List.length_cons] at this
    omega
  have e2 : (s.toList == []) = false := by
    have := toList_ne (t := s) (by omega)
    simpa using this
  have e3 : s.toList.isEmpty = false := by
    have := toList_ne (t := s) (by omega)
    simpa using this
  obtain ⟨b0, hb0⟩ : ∃ b, s[0] = b := ⟨_, rfl⟩
  have hb40 : b0 = 40 := by
    have := drop_at s 0 hne
    rw [List.drop_zero, hL, hb0] at this
    injection this with h _
    exact h.symm
  have hq40 : ((b0.toNat : Int) == 40) = true := by rw [hb40]; rfl
  have i0 : (0 : Int) < s.size := by omega
  have hext : (s.extract 1 s.size).data.toList = L1 := by
    rw [extract_list, hL, List.drop_one, List.tail_cons, List.take_of_length_le]
    have := congrArg List.length hL
    rw [ba_len, List.length_cons] at this
    omega
  have HREC := Lib.hid hrec
  have HEXT := Lib.hid hext
  clear hrec hext hb40
  by_cases hd8 : d = 8
  · subst hd8
    have hno : ∀ T R, ¬ IsF 8 (40 :: L1) T R := fun T R => isF_deep T R
    have HNO := Lib.hid hno
    clear hno hL
    go_enter Tryz.func85, Tryz.ntmps85
    go_wp2_with fail
    exact bodyPost_ret (v := .tuple #[fz, .string ⟨#[]⟩, .bool false]) (by simp [results, Tryz.results85, go_sem]) rfl ⟨(Below.refl _ _).alloc (Nat.le_refl _) _, .inr ⟨rfl, HNO.out⟩⟩
  · have hd7 : ¬ (8 : Int) ≤ d := by omega
    have HD8 := Lib.hid hd8
    have i1 : (1 : Int) ≤ s.size := by omega
    have HLL := Lib.hid hL
    clear hd8 hL
    go_enter Tryz.func85, Tryz.ntmps85
    go_wp2_with fail
    go_loopw [0] (fun sv wr => ∃ (rs : ByteArray) (es : List FE) (v : Value), sv = .string rs ∧ rs.size ≤ 100000 ∧ Items d L1 (es.map FE.tm) rs.data.toList ∧ Made (w.heap.size + 2) wr v es ∧ wr.cell? ⟨w.heap.size + 1, 0, none⟩ = some (.bool true) ∧ wr.cell? ⟨w.heap.size + 1, 1, none⟩ = some (.string ⟨#[]⟩) ∧ wr.cell? ⟨w.heap.size + 1, 2, none⟩ = some v ∧ wr.frozen? ⟨w.heap.size + 1, 2, none⟩ = false ∧
      Off (· = w.heap.size + 1) ((w.alloc (.cells #[.bool false, .string ⟨#[]⟩, .slice none 0 0] 61)).alloc (.cells #[.bool true, .string ⟨#[]⟩, .slice none 0 0] 61)) wr) (fun sv _ => strLen sv)
    case atStart => 
      refine ⟨s.extract 1 s.size, [], .slice none 0 0, rfl, ?_, ?_, Made.nil _ _, ?_, ?_, ?_, ?_, Off.refl _ _⟩
      · rw [← ba_len, extract_list, List.length_take, List.length_drop, ba_len]; omega
      · rw [HEXT.out]; exact Items.start (by have := HD8.out; omega)
      · exact (World.cell?_alloc_at _ _ _ _ (by simp)).trans rfl
      · exact (World.cell?_alloc_at _ _ _ _ (by simp)).trans rfl
      · exact (World.cell?_alloc_at _ _ _ _ (by simp)).trans rfl
      · exact World.frozen?_alloc_at _ _ _ _ (by simp)
    case round =>
      obtain ⟨rs, es, v, rfl, hrs, hit, hmd, f1, f2, f3, f4, hoff⟩ := hrel
      obtain ⟨⟨z1, z2, z3⟩, ⟨zf0, zf1, zf2⟩, zl, zb⟩ := two_off' hoff
      obtain ⟨a0, c0, hv⟩ := hmd.row.form
      obtain ⟨n, hn⟩ : ∃ n, n = es.length := ⟨_, rfl⟩
      rw [← hn] at hv
      subst hv
      have HIT := Lib.hid hit
      have HM := Lib.hid hmd
      have HO := Lib.hid hoff
      have HN := Lib.hid hn
      have HZB := Lib.hid zb
      clear hit hmd hoff hn zb
      by_cases hemp : rs.size = 0
      · have hrs0 : rs = ⟨#[]⟩ := size0 hemp
        subst hrs0
        have hno := HIT.out.fail (fun R e => by cases e) (fun T R => isF_none (fun c r e => by cases e) T R)
        have HNO := Lib.hid hno
        clear hno hemp
        go_wp2_with fail
        refine bodyPost_ret (v := .tuple #[fz, .string ⟨#[]⟩, .bool false]) (by simp [results, Tryz.results85, go_sem, z1, z2, z3]) rfl ⟨?_, .inr ⟨rfl, HNO.out⟩⟩
        exact ((HZB.out.setCell (p := ⟨w.heap.size, 0, none⟩) (Nat.le_refl _) _).setCell (p := ⟨w.heap.size, 1, none⟩) (Nat.le_refl _) _).setCell (p := ⟨w.heap.size, 2, none⟩) (Nat.le_refl _) _
      · have hpos : 0 < rs.size := by omega
        have r2 : (rs.toList == []) = false := by
          have := toList_ne hemp
          simpa using this
        have r3 : rs.toList.isEmpty = false := by
          have := toList_ne hemp
          simpa using this
        obtain ⟨b, hb⟩ : ∃ b, rs[0] = b := ⟨_, rfl⟩
        have hrl : rs.data.toList = b :: rs.data.toList.drop 1 := by
          have := drop_at rs 0 hpos
          rw [List.drop_zero, hb] at this
          exact this
        have i2 : (0 : Int) < rs.size := by omega
        have i3 : (1 : Int) ≤ rs.size := by omega
        have HRL := Lib.hid hrl
        clear hemp hrl
        by_cases h41 : b = 41
        · have q41 : ((b.toNat : Int) != 41) = false := by rw [bne_eq_false_iff_eq, h41]; rfl
          have hfin : IsF d (40 :: L1) (.mk true noText (es.map FE.tm)) (rs.data.toList.drop 1) := by
            have := HIT.out
            rw [HRL.out, h41] at this
            exact this.done
          have hsl : SlL (fun i => w.heap.size + 2 ≤ i) wr (.slice a0 n c0) (es.map FE.tm) := HM.out.sl fun i h => h
          have hnl : n = (es.map FE.tm).length := by rw [List.length_map]; exact HN.out
          have hrx : (rs.extract 1 rs.size).data.toList = rs.data.toList.drop 1 := by
            rw [extract_list, List.take_of_length_le (by rw [List.length_drop, ba_len]; exact Nat.le_refl _)]
          have HFIN := Lib.hid hfin
          have HSL := Lib.hid hsl
          have HNL := Lib.hid hnl
          have HRX := Lib.hid hrx
          have zf0' : wr.drew.frozen? ⟨w.heap.size, 0, none⟩ = false := zf0
          clear hfin hsl hnl hrx h41
          go_wp2_with fail
          go_region
          all_goals go_wp2_with fail
          all_goals refine bodyPost_ret (v := .tuple #[fv true noText (.slice a0 n c0), .string (rs.extract 1 rs.size), .bool true]) (by simp [results, Tryz.results85, go_sem, z1, z2, z3]) rfl ⟨?_, .inl ⟨true, noText, es.map FE.tm, a0, c0, rs.extract 1 rs.size, rs.data.toList.drop 1, by rw [← HNL.out], HFIN.out, HRX.out, by decide, ?_⟩⟩
          · exact (((HZB.out.setCell (p := ⟨w.heap.size, 0, none⟩) (Nat.le_refl _) _).setCell (p := ⟨w.heap.size, 1, none⟩) (Nat.le_refl _) _).setCell (p := ⟨w.heap.size, 2, none⟩) (Nat.le_refl _) _).drew
          · have hfo : Off (fun i => i = w.heap.size) wr (((wr.setCell ⟨w.heap.size, 0, none⟩ (.bool true)).setCell ⟨w.heap.size, 1, none⟩ (.string ⟨#[]⟩)).setCell ⟨w.heap.size, 2, none⟩ (.slice a0 n c0)).drew :=
              ((((Off.refl (fun i => i = w.heap.size) wr).setCell (p := ⟨w.heap.size, 0, none⟩) (.inr rfl) _).setCell (p := ⟨w.heap.size, 1, none⟩) (.inr rfl) _).setCell (p := ⟨w.heap.size, 2, none⟩) (.inr rfl) _).drew
            have := (HSL.out.off hfo fun i hi h => by omega).mono (Z' := fun i => w.heap.size ≤ i) fun i _ hi => by omega
            rw [← HNL.out]
            exact this
        · have q41 : ((b.toNat : Int) != 41) = true := by
            rw [bne_iff_ne]
            intro e
            exact h41 (UInt8.toNat.inj (by show b.toNat = 41; omega))
          go_wp2_with fail
          refine (HREC.out (by have := HD8.out; omega) rs _ hrs).mono ?_
          rintro e w3 ⟨hb3, hcase⟩
          have g1 : w3.cell? ⟨w.heap.size + 1, 0, none⟩ = some (.bool true) := (hb3.cell (p := ⟨w.heap.size + 1, 0, none⟩) zl).trans f1
          have g2 : w3.cell? ⟨w.heap.size + 1, 1, none⟩ = some (.string ⟨#[]⟩) := (hb3.cell (p := ⟨w.heap.size + 1, 1, none⟩) zl).trans f2
          have g3 : w3.cell? ⟨w.heap.size + 1, 2, none⟩ = some (.slice a0 n c0) := (hb3.cell (p := ⟨w.heap.size + 1, 2, none⟩) zl).trans f3
          have g4 : w3.frozen? ⟨w.heap.size + 1, 2, none⟩ = false := (hb3.frozen (p := ⟨w.heap.size + 1, 2, none⟩) zl).trans f4
          have hm3 : Made (w.heap.size + 2) w3 (.slice a0 n c0) es := HM.out.below hb3
          have ho3 : Off (· = w.heap.size + 1) ((w.alloc (.cells #[.bool false, .string ⟨#[]⟩, .slice none 0 0] 61)).alloc (.cells #[.bool true, .string ⟨#[]⟩, .slice none 0 0] 61)) w3 := HO.out.trans (Off.of_below hb3)
          have HWL := Lib.hid zl
          have hzs := hb3.size
          clear z1 z2 z3 zf0 zf1 zf2 zl f1 f2 f3 f4 hb3
          obtain ⟨⟨z1, z2, z3⟩, ⟨zf0, zf1, zf2⟩, zl, zb⟩ := two_off' ho3
          have HM3 := Lib.hid hm3
          have HO3 := Lib.hid ho3
          have HZB3 := Lib.hid zb
          have HZS := Lib.hid hzs
          have zl2 : w.heap.size < w3.heap.size := by omega
          clear hm3 ho3 zb hzs
          rcases hcase with ⟨l1, t1, xs1, a1, c1, rs3, R3, rfl, hF3, hR3, hts3, hsl3⟩ | ⟨rfl, hno⟩
          · have HF3 := Lib.hid hF3
            have HR3 := Lib.hid hR3
            have HSL3 := Lib.hid hsl3
            obtain ⟨m1, hm1⟩ : ∃ m, m = xs1.length := ⟨_, rfl⟩
            have HM1 := Lib.hid hm1
            rw [← hm1]
            clear hF3 hR3 hsl3 hm1
            have hrow : Row 3 (w.heap.size + 2) w3 (.slice a0 n c0) n (fcells es) := by
              have := HM3.out.row
              rw [← HN.out] at this
              exact this
            have HROW := Lib.hid hrow
            have hsrc : Src Tryz.prog 3 59 (.slice (some ⟨w3.heap.size + 1, 0, none⟩) 1 1) 1 [.bool l1, .string t1, .slice a1 m1 c1] ((w3.alloc (.cells #[.bool l1, .string t1, .slice a1 m1 c1] 61)).alloc (.cells #[.bool l1, .string t1, .slice a1 m1 c1] 61)) := by
              have := src_new (P := Tryz.prog) (w := w3.alloc (.cells #[.bool l1, .string t1, .slice a1 m1 c1] 61)) (k := 3) Tryz.underlying59 [.bool l1, .string t1, .slice a1 m1 c1] 1 61 1 rfl (by intro u hu; simp only [List.mem_cons, List.not_mem_nil, or_false] at hu; rcases hu with rfl | rfl | rfl <;> rfl)
              simpa using this
            have HSRC := Lib.hid hsrc
            have hes : n ≤ 100000 := by
              have h2 := congrArg List.length HIT.out.eq
              have h3 := Tm.length_le_bytess (es.map FE.tm)
              have h4 := congrArg List.length HLL.out
              rw [List.length_map, ← HN.out] at h3
              rw [List.length_append] at h2
              rw [ba_len, List.length_cons] at h4
              omega
            have hal : ∀ o1 o2, Below w3.heap.size w3 ((w3.alloc o1).alloc o2) := fun o1 o2 => ((Below.refl _ _).alloc (Nat.le_refl _) _).alloc (by simp) _
            have hown : ∀ b, (Value.slice a0 n c0).ownBlock = some b → w.heap.size + 2 ≤ b ∧ b < wr.heap.size := HM.out.row.lt
            have HAL := Lib.hid hal
            have HOWN := Lib.hid hown
            clear hrow hsrc hal hown
            go_wp2_with (at_builtin; refine wpList_append_row rfl (.tmp 44) (.tmp 46) 59 59 rfl 3 61 (.agg #[.bool false, .string ByteArray.empty, .slice none 0 0]) 48 Tryz.underlying59 Tryz.infoForm rfl (w.heap.size + 2) (.slice a0 n c0) n (fcells es) (by simp [Act.eval]) (by exact (HROW.out.alloc _).alloc _) (.slice (some ⟨w3.heap.size + 1, 0, none⟩) 1 1) (by simp [Act.eval]) 1 [.bool l1, .string t1, .slice a1 m1 c1] (by exact HSRC.out) (by simp; omega) (by omega) (by decide) ?_; intro v6 w6 hr6 ho6 hw6; obtain ⟨a6, c6, hv6⟩ := hr6.form; subst hv6; have hno6 : ¬ (Value.slice a0 n c0).ownBlock = some (w.heap.size + 1) := (fun e => by have := (HOWN.out _ e).1; omega); have hlt6 : w.heap.size + 1 < ((w3.alloc (.cells #[.bool l1, .string t1, .slice a1 m1 c1] 61)).alloc (.cells #[.bool l1, .string t1, .slice a1 m1 c1] 61)).heap.size := (by simp; omega); have k3 := (ho6.cell (p := ⟨w.heap.size + 1, 2, none⟩) hlt6 hno6).trans (((HAL.out _ _).cell (p := ⟨w.heap.size + 1, 2, none⟩) zl).trans g3); have k4 := (ho6.frozen (p := ⟨w.heap.size + 1, 2, none⟩) hlt6 hno6).trans (((HAL.out _ _).frozen (p := ⟨w.heap.size + 1, 2, none⟩) zl).trans g4); have k1 := (ho6.cell (p := ⟨w.heap.size + 1, 0, none⟩) hlt6 hno6).trans (((HAL.out _ _).cell (p := ⟨w.heap.size + 1, 0, none⟩) zl).trans g1); have k2 := (ho6.cell (p := ⟨w.heap.size + 1, 1, none⟩) hlt6 hno6).trans (((HAL.out _ _).cell (p := ⟨w.heap.size + 1, 1, none⟩) zl).trans g2); have HR6 := Lib.hid hr6; have HO6 := Lib.hid ho6; have HW6 := Lib.hid hw6; clear hr6 ho6 hw6 hno6 hlt6)
            have hsl : SlL (fun i => w.heap.size + 2 ≤ i ∧ (Value.slice a0 n c0).ownBlock ≠ some i) w3 (.slice a1 m1 c1) xs1 := by
              have := HSL3.out
              rw [← HM1.out] at this
              refine this.mono fun i _ hi => ⟨?_, fun e => ?_⟩
              · have h1 : wr.heap.size ≤ i := hi
                have h2 := HWL.out
                omega
              · have h1 : wr.heap.size ≤ i := hi
                have h2 := (HOWN.out i e).2
                omega
            have hmade : Made (w.heap.size + 2) w6 (.slice a6 (n + 1) c6) (es ++ [(l1, t1, xs1, .slice a1 m1 c1)]) := by
              refine (HM3.out.below (HAL.out _ _)).push (hsl.keep (HAL.out _ _)) hts3 ?_ HO6.out HW6.out
              have := HR6.out
              rw [HN.out] at this
              rw [HN.out]
              exact this
            have hoff6 : Off (· = w.heap.size + 1) ((w.alloc (.cells #[.bool false, .string ⟨#[]⟩, .slice none 0 0] 61)).alloc (.cells #[.bool true, .string ⟨#[]⟩, .slice none 0 0] 61)) w6 := by
              refine ((HO3.out.alloc _).alloc _).trans' HO6.out fun i hi e => ?_
              have h1 := (HOWN.out i e).1
              have h2 : i < w.heap.size + 1 + 1 := by simpa using hi
              omega
            refine ⟨⟨rs3, es ++ [(l1, t1, xs1, .slice a1 m1 c1)], .slice a6 (n + 1) c6, rfl, ?_, ?_, ?_, ?_, ?_, ?_, ?_, ?_⟩, ?_⟩
            · have h1 := fm_len HF3.out
              rw [← HR3.out, ba_len, ba_len] at h1
              omega
            · rw [List.map_append, HR3.out]
              exact HIT.out.next HF3.out
            · exact hmade.off ((Off.refl (· = w.heap.size + 1) w6).setCell (p := ⟨w.heap.size + 1, 2, none⟩) (.inr rfl) _) (fun i hi => by omega)
            · exact (World.cell?_setCell_other _ _ _ _ (fun e => by injection e with _ e; cases e)).trans k1
            · exact (World.cell?_setCell_other _ _ _ _ (fun e => by injection e with _ e; cases e)).trans k2
            · exact World.cell?_setCell_same _ _ _ k3
            · rw [World.frozen?_setCell]; exact k4
            · exact hoff6.setCell (.inr rfl) _
            · have h1 := fm_len HF3.out
              rw [← HR3.out, ba_len, ba_len] at h1
              exact h1
          · have hnf := HIT.out.fail (fun R e => h41 (by rw [HRL.out] at e; injection e)) hno
            have HNF := Lib.hid hnf
            clear hnf hno
            go_wp2_with fail
            refine bodyPost_ret (v := .tuple #[fz, .string ⟨#[]⟩, .bool false]) (by simp [results, Tryz.results85, go_sem, z1, z2, z3, zl2]) rfl ⟨?_, .inr ⟨rfl, HNF.out⟩⟩
            exact (((HZB3.out.setCell (p := ⟨w.heap.size, 0, none⟩) (Nat.le_refl _) _).setCell (p := ⟨w.heap.size, 1, none⟩) (Nat.le_refl _) _).setCell (p := ⟨w.heap.size, 2, none⟩) (Nat.le_refl _) _).alloc (by simp [World.setCell]; omega) _

theorem item_step (s : ByteArray) (d : Nat) (w : World) (hs : s.size ≤ 100000) (hd : d ≤ 8) (hrec : d < 8 → ItemC (d + 1)) : Calls Tryz.prog 85 #[.string s, .int .i64 (d : Nat)] w (ItemP d s.data.toList w) := by
  by_cases h0 : s.size = 0
  · obtain rfl : s = noText := size0 h0
    exact item_none d w
  · by_cases h40 : ∃ r, s.data.toList = 40 :: r
    · obtain ⟨L1, hL⟩ := h40
      rw [hL]
      exact item_list s d w L1 hs hd hL hrec
    · exact item_text s d w hs hd (by omega) fun r e => h40 ⟨r, e⟩

theorem item_any : ∀ (k d : Nat), d + k = 8 → ItemC d := by
  intro k
  induction k with
  | zero =>
    intro d h s wz hs
    exact item_step s d wz hs (by omega) fun h8 => by omega
  | succ k ih =>
    intro d h s wz hs
    exact item_step s d wz hs (by omega) fun _ => ih (d + 1) (by omega)
end Go.Proofs.YtgjcblginkdinaaGreatDoor
set_option linter.unusedVariables false
namespace Go.Proofs.YtgjcblginkdinaaGreatDoor
open Go.ChangeShapes Go.WideShapes Go.ChangeAt Go.RowKit

abbrev errV (k : Int) : Value := .iface 47 (.int .i64 k)

def ReadT (s : ByteArray) (w : World) (e : Ending) (w' : World) : Prop :=
  Below w.heap.size w w' ∧
    ((65536 < s.size ∧ e = .returned (.tuple #[fz, errV 2])) ∨
     (s.size ≤ 65536 ∧ (∀ T, ¬ IsF 0 s.data.toList T []) ∧ e = .returned (.tuple #[fz, errV 5])) ∨
     (s.size ≤ 65536 ∧ ∃ l t xs a c, e = .returned (.tuple #[fv l t (.slice a xs.length c), .nilIface]) ∧ IsF 0 s.data.toList (.mk l t xs) [] ∧ t.size ≤ 140737488355328 ∧ SlL (fun i => w.heap.size ≤ i) w' (.slice a xs.length c) xs))

theorem two_off {w wr : World} {x1 x2 x3 : Value} {o : Obj} {ty : TypeId} (h : Off (· = w.heap.size + 1) ((w.alloc (.cells #[x1, x2, x3] ty)).alloc o) wr) :
    (wr.cell? ⟨w.heap.size, 0, none⟩ = some x1 ∧ wr.cell? ⟨w.heap.size, 1, none⟩ = some x2 ∧ wr.cell? ⟨w.heap.size, 2, none⟩ = some x3) ∧ (∀ j, wr.frozen? ⟨w.heap.size, j, none⟩ = false) ∧ w.heap.size + 1 < wr.heap.size ∧ Below w.heap.size w wr := by
  have hlt : w.heap.size < ((w.alloc (.cells #[x1, x2, x3] ty)).alloc o).heap.size := by simp; omega
  have hb : ((w.alloc (.cells #[x1, x2, x3] ty)).alloc o).heap[w.heap.size]? = (w.alloc (.cells #[x1, x2, x3] ty)).heap[w.heap.size]? := Below.heap_alloc _ _ _ (by simp)
  have hc : ∀ j, wr.cell? ⟨w.heap.size, j, none⟩ = #[x1, x2, x3][j]? := fun j => (h.cell (p := ⟨w.heap.size, j, none⟩) hlt (by show ¬ w.heap.size = _; omega)).trans ((World.cell?_of_block (a := ⟨w.heap.size, j, none⟩) hb).trans (World.cell?_alloc_at _ _ _ _ rfl))
  refine ⟨⟨hc 0, hc 1, hc 2⟩, fun j => (h.frozen (p := ⟨w.heap.size, j, none⟩) hlt (by show ¬ w.heap.size = _; omega)).trans ((World.frozen?_of_block (a := ⟨w.heap.size, j, none⟩) hb).trans (World.frozen?_alloc_at _ _ _ _ rfl)), Nat.lt_of_lt_of_le (by simp) h.size, ?_⟩
  exact (((Below.refl _ _).alloc (Nat.le_refl _) _).alloc (by simp) _).trans (h.below (fun i hi => by omega) (by simp; omega))

theorem set3_below {w w3 : World} (h : Below w.heap.size w w3) (u0 u1 u2 : Value) : Below w.heap.size w (((w3.setCell ⟨w.heap.size, 0, none⟩ u0).setCell ⟨w.heap.size, 1, none⟩ u1).setCell ⟨w.heap.size, 2, none⟩ u2) :=
  ((h.setCell (p := ⟨w.heap.size, 0, none⟩) (Nat.le_refl _) _).setCell (p := ⟨w.heap.size, 1, none⟩) (Nat.le_refl _) _).setCell (p := ⟨w.heap.size, 2, none⟩) (Nat.le_refl _) _
theorem set3_below_al {w w3 : World} (h : Below w.heap.size w w3) (u0 u1 u2 : Value) (o : Obj) : Below w.heap.size w ((((w3.setCell ⟨w.heap.size, 0, none⟩ u0).setCell ⟨w.heap.size, 1, none⟩ u1).setCell ⟨w.heap.size, 2, none⟩ u2).alloc o) :=
  (set3_below h u0 u1 u2).alloc (set3_below h u0 u1 u2).size o
theorem set3_sl {Z : Nat → Prop} {w w3 : World} {v : Value} {xs : List Tm} (h : SlL Z w3 v xs) (hz : ∀ i, Z i → w.heap.size < i) (u0 u1 u2 : Value) (o : Obj) : SlL (fun i => w.heap.size ≤ i) ((((w3.setCell ⟨w.heap.size, 0, none⟩ u0).setCell ⟨w.heap.size, 1, none⟩ u1).setCell ⟨w.heap.size, 2, none⟩ u2).alloc o) v xs := by
  have hfo : Off (fun i => i = w.heap.size) w3 (((w3.setCell ⟨w.heap.size, 0, none⟩ u0).setCell ⟨w.heap.size, 1, none⟩ u1).setCell ⟨w.heap.size, 2, none⟩ u2) :=
    (((Off.refl (fun i => i = w.heap.size) w3).setCell (p := ⟨w.heap.size, 0, none⟩) (.inr rfl) _).setCell (p := ⟨w.heap.size, 1, none⟩) (.inr rfl) _).setCell (p := ⟨w.heap.size, 2, none⟩) (.inr rfl) _
  exact ((h.off hfo fun i hi e => by have := hz i hi; omega).alloc o).mono fun i _ hi => by have := hz i hi; omega

set_option maxHeartbeats 4000000 in
set_option maxRecDepth 100000 in
theorem read_any (s : ByteArray) (w : World) (hs : s.size ≤ 140737488355328) :
    Calls Tryz.prog 38 #[.string s] w (ReadT s w) := by
  by_cases hbig : 65536 < s.size
  · have hb : (65536 : Int) < s.size := by omega
    go_enter Tryz.func38, Tryz.ntmps38
    go_wp2_with fail
    exact bodyPost_ret (v := .tuple #[fz, errV 2]) (by simp [results, Tryz.results38, go_sem]) rfl ⟨(Below.refl _ _).alloc (Nat.le_refl _) _, .inl ⟨hbig, rfl⟩⟩
  · have hb : ¬ (65536 : Int) < s.size := by omega
    have hform := rdform_any s (by omega) 8 0 (by omega)
    have HF := Lib.hid hform
    have HBIG := Lib.hid hbig
    clear hform hbig
    go_enter Tryz.func38, Tryz.ntmps38
    go_wp2_with fail
    have hrd : Rd (w.heap.size + 1) ((w.alloc (.cells #[.bool false, .string ⟨#[]⟩, .slice none 0 0] 61)).alloc (.cells #[.string s, .int .i64 0] 125)) s 0 :=
      ⟨(World.cell?_alloc_at _ _ _ _ (by simp)).trans rfl, (World.cell?_alloc_at _ _ _ _ (by simp)).trans rfl, World.frozen?_alloc_at _ _ _ _ (by simp)⟩
    refine (HF.out (w.heap.size + 1) 0 _ hrd (Nat.zero_le _)).mono ?_
    rintro e w3 ⟨hoff, hcase⟩
    obtain ⟨⟨z1, z2, z3⟩, zf, zl, zb⟩ := two_off hoff
    have zf0 := zf 0
    have zf1 := zf 1
    have zf2 := zf 2
    have zl2 : w.heap.size < w3.heap.size := by omega
    have HZB := Lib.hid zb
    rw [List.drop_zero] at hcase
    clear hrd hoff zf zb
    rcases hcase with ⟨l1, t1, xs1, a1, c1, q3, R3, rfl, hF3, hq3, hR3, hrd3, hts3, hsl3⟩ | ⟨rfl, hno⟩
    · obtain ⟨y1, y2, y3⟩ := hrd3
      have HF3 := Lib.hid hF3
      have HR3 := Lib.hid hR3
      have HSL3 := Lib.hid hsl3
      obtain ⟨m1, hm1⟩ : ∃ m, m = xs1.length := ⟨_, rfl⟩
      have HM1 := Lib.hid hm1
      rw [← hm1]
      clear hF3 hR3 hsl3 hm1 y1 y3
      by_cases hend : q3 < s.size
      · have hno : ∀ T, ¬ IsF 0 s.data.toList T [] := fun T hT => by
          have := (HF3.out.det hT).2
          have e := congrArg List.length HR3.out
          rw [this, List.length_drop, ba_len, List.length_nil] at e
          omega
        have HNO := Lib.hid hno
        have hbb : (q3 : Int) < s.size := by omega
        clear hno
        go_wp2_with fail
        refine bodyPost_ret (v := .tuple #[fz, errV 5]) (by simp [results, Tryz.results38, go_sem, z1, z2, z3, zl2]) rfl ⟨?_, .inr (.inl ⟨by have := HBIG.out; omega, HNO.out, rfl⟩)⟩
        exact set3_below_al HZB.out _ _ _ _
      · have hbb : ¬ (q3 : Int) < s.size := by omega
        have hfin : IsF 0 s.data.toList (.mk l1 t1 xs1) [] := by
          have h := HF3.out
          have e : R3 = [] := by rw [← HR3.out]; exact List.drop_eq_nil_of_le (by rw [ba_len]; omega)
          rw [e] at h
          exact h
        have HFIN := Lib.hid hfin
        clear hfin
        go_wp2_with fail
        refine bodyPost_ret (v := .tuple #[fv l1 t1 (.slice a1 m1 c1), .nilIface]) (by simp [results, Tryz.results38, go_sem, z1, z2, z3, zl2]) rfl ⟨?_, .inr (.inr ⟨by have := HBIG.out; omega, l1, t1, xs1, a1, c1, by rw [← HM1.out], HFIN.out, hts3, ?_⟩)⟩
        · exact set3_below_al HZB.out _ _ _ _
        · have := HSL3.out
          rw [← HM1.out]
          rw [← HM1.out] at this
          exact set3_sl this (fun i hi => by have h : ((w.alloc (.cells #[.bool false, .string ⟨#[]⟩, .slice none 0 0] 61)).alloc (.cells #[.string s, .int .i64 0] 125)).heap.size ≤ i := hi; simp at h; omega) _ _ _ _
    · have HNO := Lib.hid hno
      clear hno
      go_wp2_with fail
      refine bodyPost_ret (v := .tuple #[fz, errV 5]) (by simp [results, Tryz.results38, go_sem, z1, z2, z3, zl2]) rfl ⟨?_, .inr (.inl ⟨by have := HBIG.out; omega, fun T => HNO.out T [], rfl⟩)⟩
      first | exact set3_below_al HZB.out _ _ _ _ | exact set3_below HZB.out _ _ _
end Go.Proofs.YtgjcblginkdinaaGreatDoor
set_option linter.unusedVariables false
namespace Go.Proofs.YtgjcblginkdinaaGreatDoor
open Go.ChangeShapes Go.WideShapes Go.ChangeAt Go.RowKit

def ReadR (s : ByteArray) (w : World) (e : Ending) (w' : World) : Prop :=
  Below w.heap.size w w' ∧
    (((∀ T, ¬ IsF 0 s.data.toList T []) ∧ e = .returned (.tuple #[fz, .int .i64 5])) ∨
     (∃ l t xs a c, e = .returned (.tuple #[fv l t (.slice a xs.length c), .int .i64 0]) ∧ IsF 0 s.data.toList (.mk l t xs) [] ∧ t.size ≤ 140737488355328 ∧ SlL (fun i => w.heap.size ≤ i) w' (.slice a xs.length c) xs))

set_option maxHeartbeats 4000000 in
set_option maxRecDepth 100000 in
theorem rread_any (s : ByteArray) (w : World) (hs : s.size ≤ 65536) :
    Calls Tryz.prog 42 #[.string s] w (ReadR s w) := by
  have hb : ¬ (65536 : Int) < s.size := by omega
  have hitem := item_any 8 0 (by omega) s (w.alloc (.cells #[.bool false, .string ⟨#[]⟩, .slice none 0 0] 61)) (by omega)
  have HI := Lib.hid hitem
  clear hitem
  go_enter Tryz.func42, Tryz.ntmps42
  go_wp2_with fail
  refine HI.out.mono ?_
  rintro e w3 ⟨hb3, hcase⟩
  have ho3 : Off (fun _ => False) (w.alloc (.cells #[.bool false, .string ⟨#[]⟩, .slice none 0 0] 61)) w3 := Off.of_below hb3
  obtain ⟨⟨z1, z2, z3⟩, zf, zl⟩ := cells3_off ho3 (fun h => h)
  have zf0 := zf 0
  have zf1 := zf 1
  have zf2 := zf 2
  have HZB := Lib.hid (((Below.refl w.heap.size w).alloc (Nat.le_refl _) (.cells #[.bool false, .string ⟨#[]⟩, .slice none 0 0] 61)).trans (hb3.mono (by simp)))
  clear hb3 ho3 zf
  rcases hcase with ⟨l1, t1, xs1, a1, c1, rs3, R3, rfl, hF3, hR3, hts3, hsl3⟩ | ⟨rfl, hno⟩
  · obtain ⟨m1, hm1⟩ : ∃ m, m = xs1.length := ⟨_, rfl⟩
    have HM1 := Lib.hid hm1
    have HF3 := Lib.hid hF3
    have HR3 := Lib.hid hR3
    have HSL3 := Lib.hid hsl3
    rw [← hm1]
    clear hm1 hF3 hR3 hsl3
    by_cases hemp : rs3.size = 0
    · obtain rfl : rs3 = noText := size0 hemp
      have hfin : IsF 0 s.data.toList (.mk l1 t1 xs1) [] := by
        have h := HF3.out
        rw [← HR3.out] at h
        exact h
      have HFIN := Lib.hid hfin
      clear hfin hemp
      go_wp2_with fail
      refine bodyPost_ret (v := .tuple #[fv l1 t1 (.slice a1 m1 c1), .int .i64 0]) (by simp [results, Tryz.results42, go_sem, z1, z2, z3, zl]) rfl ⟨set3_below_al HZB.out _ _ _ _, .inr ⟨l1, t1, xs1, a1, c1, by rw [← HM1.out], HFIN.out, hts3, ?_⟩⟩
      have := HSL3.out
      rw [← HM1.out]
      rw [← HM1.out] at this
      exact set3_sl this (fun i hi => by have h : (w.alloc (.cells #[.bool false, .string ⟨#[]⟩, .slice none 0 0] 61)).heap.size ≤ i := hi; simp at h; omega) _ _ _ _
    · have hno : ∀ T, ¬ IsF 0 s.data.toList T [] := fun T hT => by
        have := (HF3.out.det hT).2
        rw [← HR3.out] at this
        have e := congrArg List.length this
        rw [ba_len, List.length_nil] at e
        exact hemp e
      have HNO := Lib.hid hno
      have r2 : (rs3.toList == []) = false := by
        have := toList_ne hemp
        simpa using this
      have r3 : rs3.toList.isEmpty = false := by
        have := toList_ne hemp
        simpa using this
      clear hno hemp
      go_wp2_with fail
      refine bodyPost_ret (v := .tuple #[fz, .int .i64 5]) (by simp [results, Tryz.results42, go_sem, z1, z2, z3, zl]) rfl ⟨set3_below_al HZB.out _ _ _ _, .inl ⟨HNO.out, rfl⟩⟩
  · have HNO := Lib.hid hno
    clear hno
    go_wp2_with fail
    refine bodyPost_ret (v := .tuple #[fz, .int .i64 5]) (by simp [results, Tryz.results42, go_sem, z1, z2, z3, zl]) rfl ⟨set3_below_al HZB.out _ _ _ _, .inl ⟨fun T => HNO.out T [], rfl⟩⟩
end Go.Proofs.YtgjcblginkdinaaGreatDoor
