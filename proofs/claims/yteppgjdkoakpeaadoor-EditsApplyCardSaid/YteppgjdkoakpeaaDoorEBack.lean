/- The contract of Back. -/
import Derived.Test.YteppgjdkoakpeaaDoorEApply
import Derived.Test.YteppgjdkoakpeaaDoorBackMath
set_option linter.unusedVariables false
namespace Go.Proofs.YteppgjdkoakpeaaDoor
open Go.ChangeShapes Go.WideShapes Go.ChangeAt Go.RowKit

/-- The hunks ps and their lines are the call's own. -/
structure OwnQ (base : Nat) (w : World) (hv : Value) (ps : List (Hk × Value)) : Prop where
  row : w.ownsRow base 26 3 hv ps.length (hcells ps)
  puts : ∀ p ∈ ps, w.ownsRow base 9 1 p.2 p.1.put.length (p.1.put.map .string)

theorem OwnQ.nil (base : Nat) (w : World) : OwnQ base w (.slice none 0 0) [] := ⟨World.ownsRow_nil _ _ _ _, by simp⟩
theorem OwnQ.grown {base : Nat} {w w' : World} {hv : Value} {ps : List (Hk × Value)} (h : OwnQ base w hv ps) (hg : w.grownBy w' none) : OwnQ base w' hv ps := by
  have hne : ∀ v : Value, v.ownBlock = none ∨ v.ownBlock ≠ none := fun v => by cases v.ownBlock <;> simp
  exact ⟨h.row.kept hg (hne _), fun p hp => (h.puts p hp).kept hg (hne _)⟩
theorem OwnQ.push {base : Nat} {w w' : World} {hv hv' : Value} {ps : List (Hk × Value)} {k : Hk} {pv : Value} (h : OwnQ base w hv ps) (hp : w.ownsRow base 9 1 pv k.put.length (k.put.map .string))
    (hown : w'.ownsRow base 26 3 hv' (ps.length + 1) (hcells ps ++ [.int .i64 k.at_, .int .i64 k.cut, pv])) (hg : w.grownBy w' hv.ownBlock) : OwnQ base w' hv' (ps ++ [(k, pv)]) := by
  refine ⟨by rw [hcells_append, hcells_one, List.length_append]; exact hown, fun q hq => ?_⟩
  rcases List.mem_append.1 hq with hq | hq
  · exact (h.puts q hq).kept hg (own_ne (h.puts q hq) h.row (by decide))
  · have : q = (k, pv) := by simpa using hq
    subst this
    exact hp.kept hg (own_ne hp h.row (by decide))
theorem OwnQ.reads {base : Nat} {w : World} {hv : Value} {ps : List (Hk × Value)} (h : OwnQ base w hv ps) : HReads w hv (ps.map (·.1)) := by
  refine ⟨ps, rfl, ?_⟩
  by_cases e : ps = []
  · subst e
    rcases h.row.2 with ⟨rfl, _⟩ | ⟨g, cap, cur, rfl, _⟩
    · exact .inl ⟨rfl, _, _, rfl⟩
    · exact .inl ⟨rfl, _, _, rfl⟩
  · right
    have hr := h.row
    rcases hr.2 with ⟨rfl, h0⟩ | ⟨g, cap, cur, rfl, hb, hg, hnc, hm, hs, ht⟩
    · exact absurd (List.length_eq_zero_iff.1 h0) e
    · refine ⟨e, g, 0, cap, rfl, hnc, by unfold maxLen at hm; omega, (Array.getElem?_eq_some_iff.1 hg).1, fun j p hp => ?_⟩
      have hj : j < ps.length := (List.getElem?_eq_some_iff.1 hp).1
      obtain ⟨c1, c2, c3⟩ := hcells_at hp
      rw [Nat.zero_add, hr.cellAt _ (by omega), hr.cellAt _ (by omega), hr.cellAt _ (by omega)]
      exact ⟨c1, c2, c3, own_sl (h.puts p (List.mem_of_getElem? hp))⟩

theorem own_form {w : World} {base : Nat} {e : TypeId} {size n : Nat} {v : Value} {xs : List Value} (h : w.ownsRow base e size v n xs) : ∃ a l c, v = .slice a l c := by
  rcases h.2 with ⟨rfl, _⟩ | ⟨g, cap, cur, rfl, _⟩
  · exact ⟨_, _, _, rfl⟩
  · exact ⟨_, _, _, rfl⟩

theorem bk_next (a : Ls) {hs : List Hk} {m : Nat} {k : Hk} (hk : hs[m]? = some k) : bk a (hs.take (m + 1)) = backStep a (bk a (hs.take m)) k := by
  rw [List.take_add_one, hk, Option.toList_some, bk_snoc]

set_option maxHeartbeats 400000 in
theorem eback_no (v v' : Value) (w : World) (a : Ls) (hs : List Hk) (ha : Sl w v a) (hh : HReads w v' hs) (h3 : a.length ≤ 1000000) (hr : rightL hs a.length = false) :
    Calls Tryd.prog 7 #[v, v'] w fun e w' => e = .returned (.tuple #[.slice none 0 0, errHunk]) ∧ Below w.heap.size w w' := by
  have hc := eright_any hs v' w a.length hh h3
  rw [hr] at hc
  obtain ⟨aa, ca, rfl⟩ := ha.form
  have HC := Lib.hid hc
  clear hc
  go_enter Tryd.func7, Tryd.ntmps7
  go_wp2_with fail
  refine HC.out.mono ?_
  rintro e w1 ⟨rfl, hb⟩
  go_wp2
  go_ret2
  exact ⟨rfl, hb⟩

set_option maxRecDepth 100000 in
set_option maxHeartbeats 4000000 in
theorem eback_yes (v v' : Value) (w : World) (a : Ls) (ps : List (Hk × Value)) (hs : List Hk) (ha : Sl w v a) (hps : hs = ps.map (·.1)) (hh : HReads w v' hs) (h3 : a.length ≤ 1000000) (hr : rightL hs a.length = true) (ht : PTame hs)
    (hv : ∃ ao c, v' = .slice ao ps.length c ∧ (ps ≠ [] → ∃ b o, ao = some ⟨b, o, none⟩ ∧ HCells w b o ps)) :
    Calls Tryd.prog 7 #[v, v'] w fun e w' => ∃ u, e = .returned (.tuple #[u, .nilIface]) ∧ HReads w' u (backL a hs) ∧ Below w.heap.size w w' := by
  have hc := eright_any hs v' w a.length hh h3
  have hbi := back_inv hr
  rw [hr] at hc
  obtain ⟨aa, ca, rfl⟩ := ha.form
  obtain ⟨ao, c, rfl, hcs⟩ := hv
  obtain ⟨al, hal⟩ : ∃ n, n = a.length := ⟨_, rfl⟩
  obtain ⟨L, hL⟩ : ∃ n, n = ps.length := ⟨_, rfl⟩
  have hlt0 := ht.1
  have hbl := back_length a hs
  rw [hps, List.length_map, ← hL] at hlt0
  rw [← hal] at h3 hr hc ha ⊢
  rw [← hL] at hc ⊢
  have hac : al ≤ ca ∧ ca ≤ 9223372036854775807 := by
    rcases ha with ⟨e, _⟩ | ⟨_, _, e, k1, k2, _⟩
    · simp only [Value.slice.injEq] at e; omega
    · simp only [Value.slice.injEq] at e; omega
  obtain ⟨ac1, ac2⟩ := hac
  have HC := Lib.hid hc
  have HA := Lib.hid ha
  have HR := Lib.hid hr
  have HT := Lib.hid ht
  have HPS := Lib.hid hps
  have HCS := Lib.hid hcs
  have HAL := Lib.hid hal
  have HL := Lib.hid hL
  have HBI := Lib.hid hbi
  clear hc ha hr ht hps hcs hal hL hh hbi hbl
  go_enter Tryd.func7, Tryd.ntmps7
  go_wp2_with fail
  refine HC.out.mono ?_
  rintro e w1 ⟨rfl, hb1⟩
  have HB1 := Lib.hid hb1
  have hsz1 := hb1.size
  clear hb1
  go_wp2
  go_loopw [6, 7, 19] (fun ov mv iv wr => ∃ (m : Nat) (q : Int) (qs : List (Hk × Value)), m ≤ L ∧ iv = .int .i64 m ∧ mv = .int .i64 q ∧ (-1000000 ≤ q ∧ q ≤ 1000000 * m) ∧ qs.length = m ∧ bk a (hs.take m) = (qs.map (·.1), q) ∧ OwnQ w.heap.size wr ov qs ∧ Below w.heap.size w wr) (fun _ _ iv _ => L - (intOf iv).toNat)
  case atStart => exact ⟨0, 0, [], by omega, rfl, rfl, by omega, rfl, rfl, OwnQ.nil _ _, HB1.out⟩
  case round =>
    obtain ⟨m, q, qs, hm, rfl, rfl, ⟨hq1, hq2⟩, hql, hbk, hown, hbel⟩ := hrel
    have HBK := Lib.hid hbk
    have HBEL := Lib.hid hbel
    have HQL := Lib.hid hql
    have hsz := hbel.size
    have HOWN := Lib.hid hown
    clear hbk hown hbel hql
    by_cases hlt : m < L
    · obtain ⟨p, hp⟩ : ∃ p, ps[m]? = some p := ⟨ps[m]'(by rw [← HL.out]; exact hlt), by simp⟩
      have hk : hs[m]? = some p.1 := by rw [HPS.out, List.getElem?_map, hp]; rfl
      obtain ⟨r1, r2, r3, r4, r5, r6⟩ := right_at a (by omega) HR.out hk
      obtain ⟨T, hT⟩ : ∃ T : Nat, p.1.at_ = (T : Int) := ⟨p.1.at_.toNat, by omega⟩
      obtain ⟨C, hC⟩ : ∃ C : Nat, p.1.cut = (C : Int) := ⟨p.1.cut.toNat, by omega⟩
      have hnext := bk_next a hk
      rw [HBK.out] at hnext
      have hb2 := HBI.out (m + 1) (by rw [HPS.out, List.length_map, ← HL.out]; omega)
      have hbd : -1000000 ≤ q + ((p.1.put.length : Int) - C) := by
        have h1 := hb2.len
        have h2 := hb2.da
        rw [hnext] at h1
        unfold backStep at h1
        simp only at h1
        rw [hC] at h1
        rw [← HAL.out] at h2
        omega
      have hpu := HT.out.2 p.1 (List.mem_of_getElem? hk)
      obtain ⟨b, of, rfl, hcc⟩ := HCS.out (by rintro rfl; simp at hp)
      obtain ⟨c1, c2, c3, c4⟩ := hcc.2 m p hp
      rw [hT] at c1 r3 r5
      rw [hC] at c2 r5
      obtain ⟨pa, pc, ea⟩ := c4.form
      rw [ea] at c3
      obtain ⟨U, hU⟩ : ∃ U, U = p.1.put.length := ⟨_, rfl⟩
      rw [← hU] at c3 hpu hbd
      have d1 := (HBEL.out.cell (p := ⟨b, of + m * 3, none⟩) hcc.1).trans c1
      have d2 := (HBEL.out.cell (p := ⟨b, of + m * 3 + 1, none⟩) hcc.1).trans c2
      have d3 := (HBEL.out.cell (p := ⟨b, of + m * 3 + 2, none⟩) hcc.1).trans c3
      have HTT := Lib.hid hT
      have HCC := Lib.hid hC
      have HU := Lib.hid hU
      have HNX := Lib.hid hnext
      clear hk hT hC hU c1 c2 c3 c4 r1 r2 r6 hcc hp ea hnext hb2
      have h0 : (0 : Int) ≤ m := by omega
      have h1 : (m : Int) < L := by omega
      have t1 : T + C ≤ al := by omega
      have s0 : (0 : Int) ≤ T := by omega
      have s1 : (T : Int) ≤ (T : Int) + C := by omega
      have s2 : (T : Int) + C ≤ ca := by omega
      obtain ⟨g0, g1, g2⟩ := box_cells wr (.int .i64 T) (.int .i64 C) (.slice pa U pc) 26
      have hbx : Below w.heap.size w (wr.alloc (.cells #[.int .i64 T, .int .i64 C, .slice pa U pc] 26)) := HBEL.out.alloc hsz _
      have hox := HOWN.out.grown (World.grownBy_alloc wr (.cells #[.int .i64 T, .int .i64 C, .slice pa U pc] 26) none)
      have hnb : some wr.heap.size ≠ u6.ownBlock := by
        intro e
        have := HOWN.out.row.lt wr.heap.size e.symm
        omega
      have HBX := Lib.hid hbx
      have HOX := Lib.hid hox
      have HNB := Lib.hid hnb
      have hszx : w.heap.size ≤ (wr.alloc (.cells #[.int .i64 T, .int .i64 C, .slice pa U pc] 26)).heap.size := by rw [World.size_alloc]; omega
      have HSZX := Lib.hid hszx
      clear hbx hox hnb hszx
      by_cases hcd : ca = T
      · subst hcd
        go_wp2_with (first
          | (at_builtin; refine wpList_app_sl rfl _ _ rfl w.heap.size _ (.slice none 0 0) 0 [] rfl (by exact World.ownsRow_nil _ _ _ _) _ _ _ rfl ((a.drop ca).take (ca + C - ca)) (sl_sub (HA.out.below HBX.out) (by omega) (by omega) (by intro h; first | rfl | exact absurd h (by assumption) | simp [h]) (by intro h; first | exact absurd rfl h | rfl | simp [h]) (by omega) (by first | rfl | omega)) (by rw [List.length_take]; omega) HSZX.out ?_; intro v2 w2 hown2 hgr2 hb2 hat2; have k0 := hgr2.cell g0 (by simp [Value.ownBlock]); have k1 := hgr2.cell g1 (by simp [Value.ownBlock]); have k2 := hgr2.cell g2 (by simp [Value.ownBlock]); obtain ⟨va2, vn2, vc2, ev2⟩ := own_form hown2; have HG2 := Lib.hid hgr2; have HO2 := Lib.hid hown2; have HB2 := Lib.hid hb2; have hq2o := HOX.out.grown hgr2; have HQ2 := Lib.hid hq2o; subst ev2; clear hgr2 hown2 hb2 hq2o hat2)
          | (at_builtin; refine wpList_push_lies rfl _ _ 23 rfl w.heap.size 26 (.agg #[.int .i64 0, .int .i64 0, .slice none 0 0]) 3 40 Tryd.underlying23 Tryd.infoHunk rfl (by decide) w2 _ _ _ rfl (by exact HQ2.out.row) [.int .i64 ((ca : Int) + q), .int .i64 (U : Int), .slice va2 vn2 vc2] 1 _ _ rfl _ rfl rfl rfl (by simp [Value.oneCell']) (by have := HQL.out; omega) (by have := HQL.out; omega) (Nat.le_trans HSZX.out HB2.out.size) ?_; intro g cap w3 hown3 hgr hat; have k3 := hgr.cell ((World.cell?_alloc_lt _ _ _ (cell_lt k1)).trans k1) HNB.out; have k4 := hgr.cell ((World.cell?_alloc_lt _ _ _ (cell_lt k2)).trans k2) HNB.out; have HO3 := Lib.hid hown3; have HG3 := Lib.hid hgr; clear hown3 hgr hat))
        have hfin := (HQ2.out.grown (World.grownBy_alloc _ _ none)).push (k := ⟨(ca : Int) + q, (U : Int), (a.drop ca).take (ca + C - ca)⟩) (by have := HO2.out.alloc; simpa using this _) HO3.out HG3.out
        refine ⟨⟨m + 1, q + ((U : Int) - C), _, by omega, by go_num, by go_num, ⟨hbd, by omega⟩, by rw [List.length_append, HQL.out]; rfl, ?_, hfin, (HBX.out.trans HB2.out).trans (((Below.refl _ _).alloc (Nat.le_trans HSZX.out HB2.out.size) _).grown HG3.out (by rw [World.size_alloc]; have := Nat.le_trans HSZX.out HB2.out.size; omega) (fun k hk => (HOWN.out.row.lt k hk).1))⟩, by simp [intOf]; omega⟩
        rw [HNX.out]
        unfold backStep
        rw [HTT.out, HCC.out, ← HU.out, List.map_append, List.map_singleton]
        simp only [Int.toNat_natCast]
        rw [show ca + C - ca = C by omega]
      · skip
        go_wp2_with (first
          | (at_builtin; refine wpList_app_sl rfl _ _ rfl w.heap.size _ (.slice none 0 0) 0 [] rfl (by exact World.ownsRow_nil _ _ _ _) _ _ _ rfl ((a.drop T).take (T + C - T)) (sl_sub (HA.out.below HBX.out) (by omega) (by omega) (by intro h; first | rfl | exact absurd h (by assumption) | simp [h]) (by intro h; first | exact absurd rfl h | rfl | simp [h]) (by omega) (by first | rfl | omega)) (by rw [List.length_take]; omega) HSZX.out ?_; intro v2 w2 hown2 hgr2 hb2 hat2; have k0 := hgr2.cell g0 (by simp [Value.ownBlock]); have k1 := hgr2.cell g1 (by simp [Value.ownBlock]); have k2 := hgr2.cell g2 (by simp [Value.ownBlock]); obtain ⟨va2, vn2, vc2, ev2⟩ := own_form hown2; have HG2 := Lib.hid hgr2; have HO2 := Lib.hid hown2; have HB2 := Lib.hid hb2; have hq2o := HOX.out.grown hgr2; have HQ2 := Lib.hid hq2o; subst ev2; clear hgr2 hown2 hb2 hq2o hat2)
          | (at_builtin; refine wpList_push_lies rfl _ _ 23 rfl w.heap.size 26 (.agg #[.int .i64 0, .int .i64 0, .slice none 0 0]) 3 40 Tryd.underlying23 Tryd.infoHunk rfl (by decide) w2 _ _ _ rfl (by exact HQ2.out.row) [.int .i64 ((T : Int) + q), .int .i64 (U : Int), .slice va2 vn2 vc2] 1 _ _ rfl _ rfl rfl rfl (by simp [Value.oneCell']) (by have := HQL.out; omega) (by have := HQL.out; omega) (Nat.le_trans HSZX.out HB2.out.size) ?_; intro g cap w3 hown3 hgr hat; have k3 := hgr.cell ((World.cell?_alloc_lt _ _ _ (cell_lt k1)).trans k1) HNB.out; have k4 := hgr.cell ((World.cell?_alloc_lt _ _ _ (cell_lt k2)).trans k2) HNB.out; have HO3 := Lib.hid hown3; have HG3 := Lib.hid hgr; clear hown3 hgr hat))
        have hfin := (HQ2.out.grown (World.grownBy_alloc _ _ none)).push (k := ⟨(T : Int) + q, (U : Int), (a.drop T).take (T + C - T)⟩) (by have := HO2.out.alloc; simpa using this _) HO3.out HG3.out
        refine ⟨⟨m + 1, q + ((U : Int) - C), _, by omega, by go_num, by go_num, ⟨hbd, by omega⟩, by rw [List.length_append, HQL.out]; rfl, ?_, hfin, (HBX.out.trans HB2.out).trans (((Below.refl _ _).alloc (Nat.le_trans HSZX.out HB2.out.size) _).grown HG3.out (by rw [World.size_alloc]; have := Nat.le_trans HSZX.out HB2.out.size; omega) (fun k hk => (HOWN.out.row.lt k hk).1))⟩, by simp [intOf]; omega⟩
        rw [HNX.out]
        unfold backStep
        rw [HTT.out, HCC.out, ← HU.out, List.map_append, List.map_singleton]
        simp only [Int.toNat_natCast]
        rw [show T + C - T = C by omega]
    · have hml : m = L := by omega
      have HML := Lib.hid hml
      clear hml
      go_wp2
      go_ret2
      refine ⟨_, rfl, ?_, HBEL.out⟩
      have hfin : backL a hs = qs.map (·.1) := by
        have hp := HBK.out
        rw [List.take_of_length_le (by rw [HPS.out, List.length_map, ← HL.out]; have := HML.out; omega)] at hp
        unfold backL
        rw [hp]
      rw [hfin]
      exact HOWN.out.reads

theorem eback_any (v v' : Value) (w : World) (a : Ls) (hs : List Hk) (ha : Sl w v a) (hh : HReads w v' hs) (h3 : a.length ≤ 1000000) (ht : PTame hs) :
    Calls Tryd.prog 7 #[v, v'] w fun e w' => (∃ u, e = .returned (.tuple #[u, if rightL hs a.length then .nilIface else errHunk]) ∧ HReads w' u (if rightL hs a.length then backL a hs else [])) ∧ Below w.heap.size w w' := by
  cases hr : rightL hs a.length with
  | false => exact (eback_no v v' w a hs ha hh h3 hr).mono fun e w' ⟨h1, h2⟩ => ⟨⟨_, h1, [], rfl, .inl ⟨rfl, _, _, rfl⟩⟩, h2⟩
  | true =>
    have hh' := hh
    obtain ⟨ps, hps, h⟩ := hh
    refine (eback_yes v v' w a ps hs ha hps.symm hh' h3 hr ht ?_).mono fun e w' ⟨u, h1, h2, h3⟩ => ⟨⟨u, h1, h2⟩, h3⟩
    rcases h with ⟨rfl, a, c, rfl⟩ | ⟨hn, b, o, c, rfl, h1, h2, h3⟩
    · exact ⟨a, c, rfl, fun h => absurd rfl h⟩
    · exact ⟨_, c, rfl, fun _ => ⟨b, o, rfl, h3⟩⟩
end Go.Proofs.YteppgjdkoakpeaaDoor
