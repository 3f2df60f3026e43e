/- append to slices of one-cell elements, as far as a machine's memory goes. No function of the program is named here. The contracts of the document's Raw and Right. The contracts of the checker's lines and op, of rising and of sound. The contracts of rising, of the checker's op and of sound. -/
import Derived.Deep.RegionWith
import Derived.Lib.IndexLaws
import Derived.Laws.Cover1
import Derived.Sort.Walk0
import Derived.Test.YtgjcblginkdinaaGreatDoorShelf
import Derived.Test.YtgjcblginkdinaaGreatDoorV16
import Derived.Test.YtgjcblginkdinaaGreatDoorV17
import Derived.Test.YtgjcblginkdinaaGreatDoorV4
set_option linter.unusedVariables false
namespace Go.Proofs.YtgjcblginkdinaaGreatDoor
open Go.ChangeShapes Go.WideShapes Go.ChangeAt Go.RowKit
section
variable {P : Program}

theorem run_append_arr_w {B : Nat} {w : World} {v : Value} {cs news : List Value} (t ty e : TypeId) (z : Value) (bytes : Nat) (ht : P.underlying t = some (.slice e)) (hinfo : (P.info? e).map (fun i => (i.zero, i.size, i.bytes)) = some (some z, 1, bytes)) (hz1 : z.cells.size = 1)
    (h : Arr B w v cs) (g c : Nat) (hnews : ∀ j u, news[j]? = some u → w.cell? ⟨g, j, none⟩ = some u) (h1 : ∀ u ∈ news, u.oneCell' = true) (hn : 0 < news.length) (hB : B ≤ w.heap.size) (hl : cs.length + news.length ≤ 140737488355328) (hb : (cs.length + news.length) * bytes ≤ 140737488355328) :
    ∃ v' w', (Builtin.append_ #[t, t] ty #[v, .slice (some ⟨g, 0, none⟩) news.length c]).run P w = .ok v' w' ∧ Arr B w' v' (cs ++ news) ∧ Below B w w' := by
  obtain ⟨i, hi, hzz⟩ := Option.map_eq_some_iff.1 hinfo
  simp only [Prod.mk.injEq] at hzz
  obtain ⟨hz, hsz, hby⟩ := hzz
  have hsrc : Src P i.size t (.slice (some ⟨g, 0, none⟩) news.length c) news.length news w := by
    rw [hsz]
    exact Src.ofSlice w ht ⟨g, 0, none⟩ news.length c news (by omega) (fun j u hu => by rw [Addr.add_mid, Nat.zero_add]; exact hnews j u hu) h1
  have grow : ∀ (base : Option Addr) (sCap : Nat), (Builtin.firstCells i.size cs.length (.slice base cs.length sCap)).run P w.drew = .ok cs.toArray w.drew → sCap < cs.length + news.length →
      ∃ v' w', (Builtin.append_ #[t, t] ty #[.slice base cs.length sCap, .slice (some ⟨g, 0, none⟩) news.length c]).run P w = .ok v' w' ∧ Arr B w' v' (cs ++ news) ∧ Below B w w' := by
    intro base sCap hold hg
    have hfit : Builtin.nextslicecap (cs.length + news.length) sCap * i.bytes ≤ 281474976710656 := growslice_fits hg (by
      rw [hby]
      exact hb)
    have hr := run_append_grow_src (P := P) w t t ty e i z ht hi hz base cs.length sCap cs hold (.slice (some ⟨g, 0, none⟩) news.length c) news.length news hsrc hg (by omega) hfit
    have hge := grownCap_ge w (cs.length + news.length) sCap e
    have hcm : grownCap w (cs.length + news.length) sCap e ≤ maxLen := grownCap_le_maxLen w _ sCap e (by unfold maxLen; omega)
    refine ⟨_, _, hr, ?_, ?_⟩
    · have := arr_new (B := B) (w := w.drew) (e := e) (cs := cs ++ news) (cap := grownCap w (cs.length + news.length) sCap e) (xs := (cs ++ news).toArray ++ Builtin.zeroCells z.cells (grownCap w (cs.length + news.length) sCap e - (cs.length + news.length))) (fr := (0, 0)) hB
        (by rw [List.length_append]; exact hge) hcm (by rw [Array.size_append, List.size_toArray, List.length_append, size_zeroCells, hz1]; omega) (.inl rfl) (fun j u hu => by
          rw [Array.getElem?_append, if_pos (by rw [List.size_toArray]; exact (List.getElem?_eq_some_iff.1 hu).1)]
          simpa using hu)
      rw [List.length_append] at this
      exact this
    · exact ((Below.refl B w).drew).alloc hB _
  rcases h with ⟨rfl, rfl⟩ | ⟨b, cap, rfl, h2, h3, h4, h5, h6, h7⟩
  · exact grow none 0 (by simpa using run_firstCells_none w.drew i.size 0 0 0) (by omega)
  · by_cases hroom : cs.length + news.length ≤ cap
    · have hr := run_append_room_src (P := P) w t t ty e i ht hi b 0 cs.length cap _ news.length news hsrc hroom
        (fun j hj => by rw [hsz, Nat.zero_add, Nat.mul_one]; exact (h6 _ (by omega)).1) (fun j hj => by rw [hsz, Nat.zero_add, Nat.mul_one]; exact (h6 _ (by omega)).2)
      rw [hsz, Nat.zero_add, Nat.mul_one] at hr
      refine ⟨_, _, hr, .inr ⟨b, cap, by rw [List.length_append], h2, ?_, by rw [List.length_append]; exact hroom, h5, fun j hj => ?_, fun j u hu => ?_⟩, ?_⟩
      · have : ∀ (vs : List Value) (o : Nat) (x : World), (x.setCells b o vs).heap.size = x.heap.size := fun vs => by
          induction vs with
          | nil => intros; rfl
          | cons a r ih => intro o x; rw [World.setCells, ih]; simp [World.setCell]
        rw [this]; exact h3
      · exact ⟨World.isSome_setCells b news cs.length w _ (h6 j hj).1, by rw [World.frozen?_setCells]; exact (h6 j hj).2⟩
      · have hjl : j < (cs ++ news).length := (List.getElem?_eq_some_iff.1 hu).1
        rw [List.length_append] at hjl
        by_cases e1 : j < cs.length
        · rw [List.getElem?_append_left e1] at hu
          rw [World.cell?_setCells_out b news cs.length w ⟨b, j, none⟩ (fun _ _ => .inl e1)]
          exact h7 j u hu
        · rw [List.getElem?_append_right (by omega)] at hu
          have hin := World.cell?_setCells_in b news cs.length w (fun i hi => (h6 _ (by omega)).1) (j - cs.length) (by omega)
          rw [show cs.length + (j - cs.length) = j by omega] at hin
          rw [hin, ← hu, List.getElem?_eq_getElem (by omega)]
      · have : ∀ (vs : List Value) (o : Nat) (x : World), Below B w x → Below B w (x.setCells b o vs) := fun vs => by
          induction vs with
          | nil => intro o x hx; exact hx
          | cons a r ih => intro o x hx; exact ih (o + 1) _ (hx.setCell (p := ⟨b, o, none⟩) h2 a)
        exact this news cs.length w (Below.refl B w)
    · exact grow (some ⟨b, 0, none⟩) cap (run_firstCells_some w.drew i.size cs.length ⟨b, 0, none⟩ cs.length cap cs (by rw [hsz]; omega) (fun j u hu => by rw [Addr.add_mid, Nat.zero_add]; exact h7 j u hu)) (by omega)

theorem wp_append_arr_w {w : World} {o : Oper} {a : Act} {K : Act → World → Prop} {Q : Exit → Act → World → Prop} (s x : Operand) (t : TypeId)
    (ho : o.op = .call { callee := .builtin .append, args := #[s, x], argTypes := #[t, t] }) (e : TypeId) (z : Value) (bytes : Nat) (ht : P.underlying t = some (.slice e)) (hinfo : (P.info? e).map (fun i => (i.zero, i.size, i.bytes)) = some (some z, 1, bytes)) (hz1 : z.cells.size = 1)
    (B : Nat) (v : Value) (cs news : List Value) (hs : a.eval s = v) (h : Arr B w v cs) (g m c : Nat) (hx : a.eval x = .slice (some ⟨g, 0, none⟩) m c) (hm : m = news.length) (hnews : ∀ j u, news[j]? = some u → w.cell? ⟨g, j, none⟩ = some u) (h1 : ∀ u ∈ news, u.oneCell' = true) (hn : 0 < news.length)
    (hB : B ≤ w.heap.size) (hl : cs.length + news.length ≤ 140737488355328) (hb : (cs.length + news.length) * bytes ≤ 140737488355328)
    (hK : ∀ v' w', Arr B w' v' (cs ++ news) → Below B w w' → K (a.put o.dst v') w') : o.wp P a w K Q := by
  subst hm
  obtain ⟨v', w', hr, h2, h3⟩ := run_append_arr_w (P := P) t o.type e z bytes ht hinfo hz1 h g c hnews h1 hn hB hl hb
  unfold Oper.wp execOp
  simp only [ho, resolve, invoke, builtin, Sem.run_bind, Sem.run_pure, Result.andThen_ok, List.map_toArray, List.map_cons, List.map_nil, hs, hx, hr]
  exact hK v' w' h2 h3

theorem step_append_arr_w {w : World} {ops : Array Oper} {o : Oper} {a : Act} {K : Act → World → Prop} {Q : Exit → Act → World → Prop} {E : Prop} (hgd : o.guard = none) (s x : Operand) (t : TypeId)
    (ho : o.op = .call { callee := .builtin .append, args := #[s, x], argTypes := #[t, t] }) (e : TypeId) (z : Value) (bytes : Nat) (ht : P.underlying t = some (.slice e)) (hinfo : (P.info? e).map (fun i => (i.zero, i.size, i.bytes)) = some (some z, 1, bytes)) (hz1 : z.cells.size = 1)
    (B : Nat) (v : Value) (cs news : List Value) (hs : a.eval s = v) (h : Arr B w v cs) (g m c : Nat) (hx : a.eval x = .slice (some ⟨g, 0, none⟩) m c) (hm : m = news.length) (hnews : ∀ j u, news[j]? = some u → w.cell? ⟨g, j, none⟩ = some u) (h1 : ∀ u ∈ news, u.oneCell' = true) (hn : 0 < news.length)
    (hB : B ≤ w.heap.size) (hl : cs.length + news.length ≤ 140737488355328) (hb : (cs.length + news.length) * bytes ≤ 140737488355328)
    (hK : ∀ v' w', Arr B w' v' (cs ++ news) → Below B w w' → K (a.put o.dst v') w') :
    if Region.wanted o (yielded ops a.tmps) = true then Oper.wp P o a w K Q else E := by
  have hw : Region.wanted o (yielded ops a.tmps) = true := by simp [Region.wanted, hgd]
  rw [if_pos hw]
  exact wp_append_arr_w s x t ho e z bytes ht hinfo hz1 B v cs news hs h g m c hx hm hnews h1 hn hB hl hb hK

end
end Go.Proofs.YtgjcblginkdinaaGreatDoor
set_option linter.unusedVariables false
namespace Go.Proofs.YtgjcblginkdinaaGreatDoor
open Go.ChangeShapes Go.WideShapes Go.ChangeAt Go.RowKit

attribute [local go_sem] bv_u8

set_option maxHeartbeats 2000000 in
set_option maxRecDepth 100000 in
theorem rraw_any (s : ByteArray) (w : World) (hs : s.size ≤ 140737488355328) :
    Calls Tryz.prog 105 #[.string s] w fun e w' => e = .returned (.tuple #[rawS (rawL s.data.toList), rawN (rawL s.data.toList)]) ∧ Below w.heap.size w w' := by
  have hl : s.data.toList.length = s.size := Array.length_toList
  have HL := Lib.hid hl
  by_cases hodd : s.size % 2 = 1
  · have t1 : (((s.size : Int) % 2) == 0) = false := by rw [beq_eq_false_iff_ne]; omega
    have hr := raw_odd (s.size / 2) s.data.toList (by omega)
    rw [hr]
    clear hl hr
    go_enter Tryz.func105, Tryz.ntmps105
    go_wp2
    go_ret2
    exact ⟨rfl, Below.refl _ _⟩
  · obtain ⟨h, hh⟩ : ∃ h, s.size = 2 * h := ⟨s.size / 2, by omega⟩
    have t3 : (((s.size : Int) % 2) != 0) = false := by simp; omega
    have hh5 : h ≤ 70368744177664 := by omega
    have HH := Lib.hid hh
    clear hl hh
    go_enter Tryz.func105, Tryz.ntmps105
    go_wp2
    clear t3 hodd
    go_loopw [4, 5] (fun v iv wr => ∃ (i : Nat) (out : List UInt8), i % 2 = 0 ∧ i ≤ s.size ∧ iv = .int .i64 i ∧ Arr w.heap.size wr v (bys out) ∧ out.length ≤ s.size ∧ Hid (2 * out.length = i) ∧ Hid (rawL s.data.toList = (rawL (s.data.toList.drop i)).map (out ++ ·)) ∧ Below w.heap.size w wr) (fun _ iv _ => s.size - (intOf iv).toNat)
    case atStart => exact ⟨0, [], rfl, Nat.zero_le _, rfl, Arr.nil _ _, Nat.zero_le _, Lib.hid rfl, Lib.hid (by simp), Below.refl _ _⟩
    case round =>
      obtain ⟨i, out, hi2, hi, rfl, harr, hol, HO, HR, hbel⟩ := hrel
      have hsz := hbel.size
      obtain ⟨p0, q0, hv⟩ := harr.form
      rw [bys_len] at hv
      subst hv
      have HA := Lib.hid harr
      have HB := Lib.hid hbel
      by_cases hlt : i < s.size
      · have hlt1 : i + 1 < s.size := by have := HH.out; omega
        have h01 : (0 : Int) ≤ i := by omega
        have h02 : (i : Int) < s.size := by omega
        have h03 : (0 : Int) ≤ i + 1 := by omega
        have h04 : (i : Int) + 1 < s.size := by omega
        obtain ⟨a, ha⟩ : ∃ b, s[i] = b := ⟨_, rfl⟩
        obtain ⟨b, hb⟩ : ∃ b, s[i + 1] = b := ⟨_, rfl⟩
        have g1 : s.data.toList[i]? = some a := by rw [← ha]; exact Lib.data_getElem? s i hlt
        have g2 : s.data.toList[i + 1]? = some b := by rw [← hb]; exact Lib.data_getElem? s (i + 1) hlt1
        have G1 := Lib.hid g1
        have G2 := Lib.hid g2
        have a1 := dv_ge a
        have b1 := dv_ge b
        have a2 := dv_lt a
        have b2 := dv_lt b
        have hpv := pair_val a b
        obtain ⟨da, hda⟩ : ∃ d, dv a = d := ⟨_, rfl⟩
        obtain ⟨db, hdb⟩ : ∃ d, dv b = d := ⟨_, rfl⟩
        have hia : ∀ wx : World, Calls Tryz.prog 130 #[.int .u8 (bv a)] wx fun e w' => e = .returned (.int .i64 da) ∧ w' = wx := fun wx => by rw [← hda]; exact digit_any a wx
        have hib : ∀ wx : World, Calls Tryz.prog 130 #[.int .u8 (bv b)] wx fun e w' => e = .returned (.int .i64 db) ∧ w' = wx := fun wx => by rw [← hdb]; exact digit_any b wx
        rw [hda] at a1 a2 hpv
        rw [hdb] at b1 b2 hpv
        have HIA := Lib.hid hia
        have HIB := Lib.hid hib
        have HDA := Lib.hid hda
        have HDB := Lib.hid hdb
        have HI2 := Lib.hid hi2
        have HOL := Lib.hid hol
        clear hia hib hda hdb g1 g2 harr hbel hi2 hi
        obtain ⟨w0, rfl⟩ : ∃ w0, w0 = wr := ⟨wr, rfl⟩
        by_cases hx : da < 0
        · clear hpv
          go_wp2_with fail
          refine (HIA.out _).mono ?_
          rintro e w1 ⟨rfl, rfl⟩
          go_wp2
          go_ret2
          rw [raw_bad HR.out G1.out G2.out (.inl (by rw [HDA.out]; exact hx))]
          exact ⟨rfl, HB.out⟩
        · by_cases hy : db < 0
          · clear hpv
            go_wp2_with fail
            refine (HIA.out _).mono ?_
            rintro e w1 ⟨rfl, rfl⟩
            go_wp2_with fail
            refine (HIB.out _).mono ?_
            rintro e w1 ⟨rfl, rfl⟩
            go_wp2
            go_ret2
            rw [raw_bad HR.out G1.out G2.out (.inr (by rw [HDB.out]; exact hy))]
            exact ⟨rfl, HB.out⟩
          · have hpv' := hpv (by omega) (by omega)
            have q1 : IntKind.i64.wrap (da * 16) = da * 16 := by rw [IntKind.wrap_i64]; omega
            have q2 : IntKind.i64.wrap (da * 16 + db) = da * 16 + db := by rw [IntKind.wrap_i64]; omega
            have q3 : IntKind.i64.wrap ((i : Int) + 1) = (i : Int) + 1 := by rw [IntKind.wrap_i64]; omega
            have q4 : ((i : Int) + 1).toNat = i + 1 := by omega
            clear hpv
            go_wp2_with fail
            refine (HIA.out _).mono ?_
            rintro e w1 ⟨rfl, rfl⟩
            go_wp2_with fail
            refine (HIB.out _).mono ?_
            rintro e w1 ⟨rfl, rfl⟩
            go_wp2
            go_region_law (first
              | (refine step_append_arr_w rfl (.tmp 29) (.tmp 42) 101 rfl 5 (.int .u8 0) 1 Tryz.underlying101 Tryz.infoByte rfl w.heap.size (.slice p0 out.length q0) _ [.int .u8 (bv (pairB a b))] (by simp [Act.eval]) (by exact (HA.out.alloc _).drew) w1.heap.size 1 1 (by simp [Act.eval]) rfl (by intro j u' hj; rw [cell_drew]; exact news_new j u' hj) one1 (Nat.zero_lt_succ _) (by show _ ≤ (w1.alloc _).heap.size; rw [sizeAl]; omega) (by have := HO.out; rw [bys_len]; show _ + 1 ≤ _; omega) (by have := HO.out; rw [bys_len, Nat.mul_one]; show _ + 1 ≤ _; omega) ?_; intro v4 w4 harr4 hb4; obtain ⟨a4, c4, h4⟩ := harr4.form; have HA4 := Lib.hid harr4; have HB4 := Lib.hid hb4; have H4 := Lib.hid h4; clear harr4 hb4 h4)
              | (go_simp; with_reducible refine (HIA.out _).mono ?_; rintro e w7 ⟨rfl, rfl⟩)
              | (go_simp; with_reducible refine (HIB.out _).mono ?_; rintro e w7 ⟨rfl, rfl⟩))
            all_goals go_wp2
            all_goals refine ⟨⟨i + 2, out ++ [pairB a b], by have := HI2.out; omega, by omega, by go_num, by rw [bys_app]; exact HA4.out, by have := HO.out; simp; omega, Lib.hid (by have := HO.out; simp; omega), Lib.hid (raw_go HR.out G1.out G2.out (by rw [HDA.out]; omega) (by rw [HDB.out]; omega)), (HB.out.alloc hsz _).drew.trans (by exact HB4.out)⟩, by simp [intOf]; omega⟩
      · have hie : i = s.size := by omega
        have hst := arr_string (P := Tryz.prog) harr 101 9 5 Tryz.underlying101 Tryz.underlying5 Tryz.underlying9
        have hre := raw_end HR.out (by rw [HL.out, hie]; exact Nat.le_refl _)
        have HRE := Lib.hid hre
        clear harr hbel hie hre
        go_wp2
        go_ret2
        rw [HRE.out]
        exact ⟨rfl, HB.out⟩

set_option maxHeartbeats 1000000 in
theorem rrightD_any (s : ByteArray) (w : World) (hs : s.size ≤ 140737488355328) :
    Calls Tryz.prog 66 #[.string s] w fun e w' => e = .returned (.bool (rightL s.data.toList)) ∧ Below w.heap.size w w' := by
  have hl : s.data.toList.length = s.size := Array.length_toList
  have hr := rraw_any s w hs
  obtain ⟨o, ho⟩ : ∃ o, rawL s.data.toList = o := ⟨_, rfl⟩
  have e1 : rightL s.data.toList = (decide (s.size = 64) && o.isSome) := by rw [rightL, hl, ho]
  rw [e1]
  rw [ho] at hr
  have HR := Lib.hid hr
  clear hr hl e1 ho
  by_cases h64 : s.size = 64
  · have t1 : ((s.size : Int) == 64) = true := by rw [beq_iff_eq]; omega
    go_enter Tryz.func66, Tryz.ntmps66
    go_wp2_with fail
    refine HR.out.mono ?_
    rintro e w1 ⟨rfl, hb⟩
    cases o with
    | none =>
      simp only [rawS, rawN]
      go_wp2
      go_ret
      exact ⟨by simp [h64], hb⟩
    | some m =>
      simp only [rawS, rawN]
      go_wp2
      go_ret
      exact ⟨by simp [h64], hb⟩
  · have t1 : ((s.size : Int) == 64) = false := by rw [beq_eq_false_iff_ne]; omega
    go_enter Tryz.func66, Tryz.ntmps66
    go_wp2_with fail
    refine HR.out.mono ?_
    rintro e w1 ⟨rfl, hb⟩
    cases o with
    | none =>
      simp only [rawS, rawN]
      go_wp2
      go_ret
      exact ⟨by simp [h64], hb⟩
    | some m =>
      simp only [rawS, rawN]
      go_wp2
      go_ret
      exact ⟨by simp [h64], hb⟩
end Go.Proofs.YtgjcblginkdinaaGreatDoor
set_option linter.unusedVariables false
namespace Go.Proofs.YtgjcblginkdinaaGreatDoor
open Go.ChangeShapes Go.WideShapes Go.ChangeAt Go.RowKit

theorem contains_ten (s : ByteArray) : decide (0 ≤ Lib.indexByte s.data.toList 10) = s.data.toList.contains 10 := by
  have h := Lib.indexByte_ge s.data.toList 10
  by_cases hc : 0 ≤ Lib.indexByte s.data.toList 10
  · rw [decide_eq_true hc]
    obtain ⟨o, ho⟩ : ∃ o : Nat, Lib.indexByte s.data.toList 10 = o := ⟨(Lib.indexByte s.data.toList 10).toNat, by omega⟩
    have := List.mem_of_getElem? (Lib.indexByte_some ho).1
    exact (List.contains_iff_mem.2 this).symm
  · rw [decide_eq_false hc]
    have h1 := Lib.indexByte_none (l := s.data.toList) (c := 10) (by omega)
    symm
    rw [Bool.eq_false_iff]
    intro hm
    obtain ⟨k, hk⟩ := List.mem_iff_getElem?.1 (List.contains_iff_mem.1 hm)
    exact h1 k hk

theorem all_step {α : Type} {f : α → Bool} {l : List α} {k : Nat} {x : α} (h : (l.take k).all f = true) (hx : l[k]? = some x) (hf : f x = true) : (l.take (k + 1)).all f = true := by
  rw [take_snoc hx, List.all_append, h]; simp [hf]
theorem all_end {α : Type} {f : α → Bool} {l : List α} {k : Nat} (h : (l.take k).all f = true) (hk : l.length ≤ k) : l.all f = true := by
  rwa [List.take_of_length_le hk] at h
theorem all_no {α : Type} {f : α → Bool} {l : List α} {k : Nat} {x : α} (hx : l[k]? = some x) (hf : f x = false) : l.all f = false := by
  rw [List.all_eq_false]
  exact ⟨x, List.mem_of_getElem? hx, by rw [hf]; simp⟩

set_option maxHeartbeats 2000000 in
set_option maxRecDepth 100000 in
theorem plines_any (deps made : Nat) (xs : Lb) (v : Value) (w : World) (hm : made ≤ 300) (hr : Reads w v xs) (hs : ∀ x ∈ xs, x.size ≤ 140737488355328) :
    Calls Tryz.prog 98 #[ckV deps made, v] w fun e w' => e = .returned (.bool (decide (xs.length ≠ 0) && decide (xs.length + made ≤ 300) && xs.all lineB)) ∧ Below w.heap.size w w' := by
  obtain ⟨a, c, rfl, hn⟩ := hr.form
  obtain ⟨n, hnn⟩ : ∃ n, n = xs.length := ⟨_, rfl⟩
  have hb0 : ∀ o, Below w.heap.size w (w.alloc o) := fun o => (Below.refl _ _).alloc (Nat.le_refl _) _
  rw [← hnn] at hr hn ⊢
  have HN := Lib.hid hnn
  have HR := Lib.hid hr
  have HS := Lib.hid hs
  have HB0 := Lib.hid hb0
  clear hnn hr hs hb0
  by_cases h0 : n = 0
  · subst h0
    go_enter Tryz.func98, Tryz.ntmps98
    go_wp2_with fail
    all_goals go_ret
    all_goals exact ⟨rfl, HB0.out _⟩
  · have e1 : ((n : Int) == 0) = false := by simp [h0]
    have e3 : IntKind.i64.wrap (300 - (made : Int)) = 300 - (made : Int) := IntWalk.i64_in _ (by omega)
    by_cases h3 : n + made ≤ 300
    · have e2 : ¬ (300 - (made : Int) < n) := by omega
      go_enter Tryz.func98, Tryz.ntmps98
      go_wp2_with fail
      go_loopw [20] (fun i wr => ∃ k : Nat, k ≤ n ∧ i = .int .i64 k ∧ Below (w.heap.size + 1) (w.alloc (.cells #[.int .i64 (deps : Nat), .int .i64 (made : Nat)] 105)) wr ∧ Hid ((xs.take k).all lineB = true)) (fun i _ => n - (intOf i).toNat)
      case atStart => exact ⟨0, Nat.zero_le _, rfl, Below.refl _ _, Lib.hid (by simp)⟩
      case round =>
        obtain ⟨k, hk, rfl, hb, HA⟩ := hrel
        have hbb : Below w.heap.size w wr := (HB0.out _).trans (hb.mono (Nat.le_succ _))
        have HB := Lib.hid hb
        have HBB := Lib.hid hbb
        clear hb hbb
        by_cases hlt : k < n
        · obtain ⟨x, hx⟩ : ∃ x, xs[k]? = some x := ⟨xs[k]'(by rw [← HN.out]; exact hlt), by simp⟩
          obtain ⟨b, o, rfl, hnl, hcl⟩ := HR.out.at hx
          clear hnl
          have hcell := ((hcl.below HBB.out).2 k x hx)
          have hsx := HS.out x (List.mem_of_getElem? hx)
          have HX := Lib.hid hx
          clear hx hcl
          by_cases g1 : 500 < x.size
          · have g1' : (500 : Int) < x.size := by omega
            go_wp2_with fail
            all_goals go_ret
            all_goals refine ⟨ret_bool ?_, HBB.out⟩
            all_goals (rw [all_no HX.out (by simp [lineB]; omega)]; simp)
          · have g1' : ¬ (500 : Int) < x.size := by omega
            have c1 := Tryz.strings_Contains_one x 10 wr
            rw [contains_ten] at c1
            have c2 := marker_any x wr (by omega)
            have hlb : lineB x = (!x.data.toList.contains 10 && !mk x.data.toList) := by unfold lineB; rw [decide_eq_true (by omega : x.size ≤ 500), Bool.true_and]
            obtain ⟨p, hp⟩ : ∃ p, p = x.data.toList.contains 10 := ⟨_, rfl⟩
            obtain ⟨q, hq⟩ : ∃ q, q = mk x.data.toList := ⟨_, rfl⟩
            rw [← hp] at c1 hlb
            rw [← hq] at c2 hlb
            have C1 := Lib.hid c1
            have C2 := Lib.hid c2
            have HLB := Lib.hid hlb
            clear c1 c2 hp hq hlb
            cases p with
            | true =>
              go_wp2_with (first | (go_at_call 127; refine C1.out.mono ?_; rintro e w2 ⟨rfl, rfl⟩) | (go_at_call 128; refine C2.out.mono ?_; rintro e w2 ⟨rfl, rfl⟩))
              all_goals go_ret
              all_goals refine ⟨ret_bool ?_, HBB.out⟩
              all_goals (rw [all_no HX.out (by rw [HLB.out]; rfl)]; simp)
            | false =>
              cases q with
              | true =>
                go_wp2_with (first | (go_at_call 127; refine C1.out.mono ?_; rintro e w2 ⟨rfl, rfl⟩) | (go_at_call 128; refine C2.out.mono ?_; rintro e w2 ⟨rfl, rfl⟩))
                all_goals go_ret
                all_goals refine ⟨ret_bool ?_, HBB.out⟩
                all_goals (rw [all_no HX.out (by rw [HLB.out]; rfl)]; simp)
              | false =>
                go_wp2_with (first | (go_at_call 127; refine C1.out.mono ?_; rintro e w2 ⟨rfl, rfl⟩) | (go_at_call 128; refine C2.out.mono ?_; rintro e w2 ⟨rfl, rfl⟩))
                exact ⟨⟨k + 1, by omega, by go_num, HB.out, Lib.hid (all_step HA.out HX.out (by rw [HLB.out]; rfl))⟩, by simp [intOf]; omega⟩
        · go_wp2
          go_ret
          refine ⟨ret_bool ?_, HBB.out⟩
          rw [all_end HA.out (by rw [← HN.out]; omega)]
          simp [h0, h3]
    · have e2 : (300 - (made : Int) < n) := by omega
      go_enter Tryz.func98, Tryz.ntmps98
      go_wp2_with fail
      all_goals go_ret
      all_goals exact ⟨ret_bool (by simp [h3]), HB0.out _⟩
end Go.Proofs.YtgjcblginkdinaaGreatDoor
set_option linter.unusedVariables false
namespace Go.Proofs.YtgjcblginkdinaaGreatDoor
open Go.ChangeShapes Go.WideShapes Go.ChangeAt Go.RowKit

theorem right_all (s : ByteArray) (w : World) :
    Calls Tryz.prog 97 #[.string s] w fun e w' => e = .returned (.bool (rightL s.data.toList)) ∧ Below w.heap.size w w' := by
  by_cases h64 : s.size = 64
  · exact right_any s w (by omega)
  · have t1 : ((s.size : Int) == 64) = false := by rw [beq_eq_false_iff_ne]; omega
    have hl : s.data.toList.length = s.size := Array.length_toList
    have e1 : rightL s.data.toList = false := by rw [rightL, hl]; simp [h64]
    rw [e1]
    clear hl e1
    go_enter Tryz.func97, Tryz.ntmps97
    go_wp2
    go_ret
    exact ⟨rfl, Below.refl _ _⟩

theorem le_iff (x y : ByteArray) : (Op.bytesLess x.toList y.toList || x.toList == y.toList) = true ↔ x.data.toList ≤ y.data.toList := by
  rw [Go.Proofs.bytesLess_eq, ByteArray.toList_eq, ByteArray.toList_eq]
  simp only [Bool.or_eq_true, decide_eq_true_eq, beq_iff_eq]
  constructor
  · rintro (h | h)
    · exact List.le_of_lt h
    · rw [h]; exact List.le_refl _
  · intro h
    by_cases e : x.data.toList < y.data.toList
    · exact .inl e
    · exact .inr (List.le_antisymm h (List.not_lt.1 e))

theorem ris_no {d : Lb} {k : Nat} {x : ByteArray} (hx : d[k]? = some x) (h : ¬ (rightL x.data.toList = true ∧ ∀ i y, k = i + 1 → d[i]? = some y → ¬ x.data.toList ≤ y.data.toList)) : risB d = false := by
  rw [Bool.eq_false_iff]
  intro hb
  exact h ((risB_iff.1 hb).2 k (List.getElem?_eq_some_iff.1 hx).1 x hx)
theorem ris_step {d : Lb} {k : Nat} {x : ByteArray} (h : Ris d k) (hx : d[k]? = some x) (h1 : rightL x.data.toList = true) (h2 : ∀ i y, k = i + 1 → d[i]? = some y → ¬ x.data.toList ≤ y.data.toList) : Ris d (k + 1) := by
  intro j hj z hz
  by_cases e : j = k
  · subst e
    rw [hx] at hz
    injection hz with hz
    subst hz
    exact ⟨h1, h2⟩
  · exact h j (by omega) z hz

set_option maxHeartbeats 2000000 in
set_option maxRecDepth 100000 in
theorem prising_any (d : Lb) (v : Value) (w : World) (hr : Reads w v d) :
    Calls Tryz.prog 57 #[v] w fun e w' => e = .returned (.bool (risB d)) ∧ Below w.heap.size w w' := by
  obtain ⟨a, c, rfl, hn⟩ := hr.form
  obtain ⟨n, hnn⟩ : ∃ n, n = d.length := ⟨_, rfl⟩
  rw [← hnn] at hr hn ⊢
  have HN := Lib.hid hnn
  have HR := Lib.hid hr
  clear hnn hr
  by_cases h64 : 64 < n
  · have e1 : (64 : Int) < n := by omega
    go_enter Tryz.func57, Tryz.ntmps57
    go_wp2_with fail
    go_ret
    refine ⟨ret_bool ?_, Below.refl _ _⟩
    symm
    rw [Bool.eq_false_iff]
    intro hb
    have := (risB_iff.1 hb).1
    have := HN.out
    omega
  · have e1 : ¬ (64 : Int) < n := by omega
    go_enter Tryz.func57, Tryz.ntmps57
    go_wp2_with fail
    go_loopw [10] (fun i wr => ∃ k : Nat, k ≤ n ∧ i = .int .i64 k ∧ Below w.heap.size w wr ∧ Hid (Ris d k)) (fun i _ => n - (intOf i).toNat)
    case atStart => exact ⟨0, Nat.zero_le _, rfl, Below.refl _ _, Lib.hid (fun j hj => absurd hj (Nat.not_lt_zero _))⟩
    case round =>
      obtain ⟨k, hk, rfl, hb, HA⟩ := hrel
      have HB := Lib.hid hb
      clear hb
      by_cases hlt : k < n
      · obtain ⟨x, hx⟩ : ∃ x, d[k]? = some x := ⟨d[k]'(by rw [← HN.out]; exact hlt), by simp⟩
        obtain ⟨b, o, rfl, hnl, hcl⟩ := HR.out.at hx
        clear hnl
        have hcell := (hcl.below HB.out).2 k x hx
        have hcr := right_all x wr
        obtain ⟨r, hrr⟩ : ∃ r, r = rightL x.data.toList := ⟨_, rfl⟩
        rw [← hrr] at hcr
        have HX := Lib.hid hx
        have HCL := Lib.hid hcl
        have HRR := Lib.hid hrr
        have HCR := Lib.hid hcr
        clear hx hcl hrr hcr
        cases r with
        | false =>
          go_wp2_with (go_at_call 97; refine HCR.out.mono ?_; rintro e w2 ⟨rfl, hb2⟩; have HB2 := Lib.hid (HB.out.trans (hb2.mono HB.out.size)); clear hb2)
          all_goals go_ret
          all_goals refine ⟨ret_bool ?_, HB2.out⟩
          all_goals (rw [ris_no HX.out (fun h => by rw [← HRR.out] at h; cases h.1)])
        | true =>
          by_cases hk0 : k = 0
          · have p1 : ¬ (0 : Int) < (k : Int) := by omega
            have HK0 := Lib.hid hk0
            clear hk0
            go_wp2_with (go_at_call 97; refine HCR.out.mono ?_; rintro e w2 ⟨rfl, hb2⟩; have HB2 := Lib.hid (HB.out.trans (hb2.mono HB.out.size)); clear hb2)
            exact ⟨⟨k + 1, by omega, by go_num, HB2.out, Lib.hid (ris_step HA.out HX.out HRR.out.symm (fun i y e => by have := HK0.out; omega))⟩, by simp [intOf]; omega⟩
          · obtain ⟨j, hj⟩ : ∃ j, k = j + 1 := ⟨k - 1, by omega⟩
            obtain ⟨y, hy⟩ : ∃ y, d[j]? = some y := ⟨d[j]'(by rw [← HN.out]; omega), by simp⟩
            have hcy := (HCL.out.below HB.out).2 j y hy
            obtain ⟨q, hq⟩ : ∃ q, (Op.bytesLess x.toList y.toList || x.toList == y.toList) = q := ⟨_, rfl⟩
            have p1 : (0 : Int) < (k : Int) := by omega
            have p2 : IntKind.i64.wrap ((k : Int) - 1) = (j : Int) := by rw [show (k : Int) - 1 = (j : Int) by omega]; exact IntWalk.i64_in _ (by omega)
            have p3 : (j : Int) < n := by omega
            have hle := le_iff x y
            rw [hq] at hle
            have HLE := Lib.hid hle
            have HY := Lib.hid hy
            have HJ := Lib.hid hj
            clear hy hj hk0 hle
            cases q with
            | true =>
              go_wp2_with (go_at_call 97; refine HCR.out.mono ?_; rintro e w2 ⟨rfl, hb2⟩; have hcy2 := (hb2.cell (p := ⟨b, o + j, none⟩) (cell_lt hcy)).trans hcy; have HB2 := Lib.hid (HB.out.trans (hb2.mono HB.out.size)); clear hb2)
              all_goals go_ret
              all_goals refine ⟨ret_bool ?_, HB2.out⟩
              all_goals (rw [ris_no HX.out (fun h => h.2 j y HJ.out HY.out (HLE.out.1 trivial))])
            | false =>
              go_wp2_with (go_at_call 97; refine HCR.out.mono ?_; rintro e w2 ⟨rfl, hb2⟩; have hcy2 := (hb2.cell (p := ⟨b, o + j, none⟩) (cell_lt hcy)).trans hcy; have HB2 := Lib.hid (HB.out.trans (hb2.mono HB.out.size)); clear hb2)
              refine ⟨⟨k + 1, by omega, by go_num, HB2.out, Lib.hid (ris_step HA.out HX.out HRR.out.symm (fun i z e hz hle => ?_))⟩, by simp [intOf]; omega⟩
              have e1 : i = j := by have := HJ.out; omega
              subst e1
              rw [HY.out] at hz
              injection hz with hz
              subst hz
              exact Bool.false_ne_true (HLE.out.2 hle)
      · have hke : n ≤ k := by omega
        have hrs : risB d = true := risB_iff.2 ⟨by rw [← HN.out]; omega, fun j hj x hx => HA.out j (by have := HN.out; omega) x hx⟩
        have HRS := Lib.hid hrs
        clear hrs hke
        go_wp2
        go_ret
        exact ⟨ret_bool HRS.out.symm, HB.out⟩
end Go.Proofs.YtgjcblginkdinaaGreatDoor
