/- The contract of the reference's Back. -/
import Derived.Test.YteppgjdkoakpeaaDoorEBack
import Derived.Deep.OwnRows
import Derived.Deep.AppendLies
import Derived.Deep.RegionLaw
import Derived.BigRegion
set_option linter.unusedVariables false
namespace Go.Proofs.YteppgjdkoakpeaaDoor
open Go.ChangeShapes Go.WideShapes Go.ChangeAt Go.RowKit

/-- What lies in the hunk that is made. -/
def boxF (P U : Int) (pv : Value) (i : Nat) : Value := if i = 0 then .int .i64 P else if i = 1 then .int .i64 U else pv

theorem own_base {w : World} {B B' size n : Nat} {e : TypeId} {v : Value} {xs : List Value} (h : w.ownsRow B e size v n xs) (hb : B' ≤ B) : w.ownsRow B' e size v n xs := by
  refine ⟨h.1, ?_⟩
  rcases h.2 with h | ⟨g, cap, cur, hv, hg, r⟩
  · exact .inl h
  · exact .inr ⟨g, cap, cur, hv, by omega, r⟩

theorem row_own_ne {w : World} {b t n base e size k : Nat} {f : Nat → Value} {v : Value} {xs : List Value} (h : w.rowIs b t n f) (h' : w.ownsRow base e size v k xs) (hne : t ≠ e) : some b ≠ v.ownBlock := by
  intro eq
  obtain ⟨c, hb, _, _⟩ := h
  rcases h'.2 with ⟨rfl, _⟩ | ⟨g, cap, cur, rfl, _, hg, _⟩
  · simp [Value.ownBlock] at eq
  · simp [Value.ownBlock] at eq
    subst eq
    rw [hb] at hg
    simp only [Option.some.injEq, Obj.cells.injEq] at hg
    exact hne hg.2.1

/-- While one hunk is made. -/
structure Making (w0 wr : World) (P U : Int) (pv : Value) (a : Ls) (T t : Nat) : Prop where
  box : wr.rowIs w0.heap.size 26 3 (boxF P U pv)
  own : wr.ownsRow w0.heap.size 9 1 pv ((a.drop T).take (t - T)).length (((a.drop T).take (t - T)).map .string)
  bel : Below w0.heap.size w0 wr

theorem Making.drewN {w0 wr : World} {P U : Int} {pv : Value} {a : Ls} {T t n : Nat} (h : Making w0 wr P U pv a T t) : Making w0 (wr.drewN n) P U pv a T t := ⟨h.box, h.own, Below.drewN h.bel⟩

theorem OwnQ.below {base : Nat} {w w' : World} {hv : Value} {ps : List (Hk × Value)} (h : OwnQ base w hv ps) (hb : Below w.heap.size w w') : OwnQ base w' hv ps :=
  h.grown ⟨hb.os, hb.tape, hb.output, hb.size, fun k hk _ => hb.block k hk⟩

theorem Making.cells {w0 wr : World} {P U : Int} {pv : Value} {a : Ls} {T t : Nat} (h : Making w0 wr P U pv a T t) : wr.cell? ⟨w0.heap.size, 0, none⟩ = some (.int .i64 P) ∧ wr.cell? ⟨w0.heap.size, 1, none⟩ = some (.int .i64 U) ∧ wr.cell? ⟨w0.heap.size, 2, none⟩ = some pv ∧
    (∀ o, (wr.alloc o).cell? ⟨w0.heap.size, 2, none⟩ = some pv) ∧ w0.heap.size < wr.heap.size := by
  have c2 := h.box.cell (show 2 < 3 by omega)
  exact ⟨h.box.cell (show 0 < 3 by omega), h.box.cell (show 1 < 3 by omega), c2, fun o => (World.cell?_alloc_lt _ _ _ h.box.lt).trans c2, h.box.lt⟩

theorem Making.still {w0 wr w5 : World} {P U : Int} {pv : Value} {a : Ls} {T t : Nat} {o : Obj} (h : Making w0 wr P U pv a T t) (hg : (wr.alloc o).drew.grownBy w5 pv.ownBlock) : w5.cell? ⟨w0.heap.size, 2, none⟩ = some pv ∧ w5.frozen? ⟨w0.heap.size, 2, none⟩ = false := by
  have hne := row_own_ne h.box h.own (by decide)
  have hb : w5.heap[w0.heap.size]? = (wr.alloc o).drew.heap[w0.heap.size]? := hg.block _ (by rw [size_ad]; have := h.box.lt; omega) hne
  have hr : w5.rowIs w0.heap.size 26 3 (boxF P U pv) := ((h.box.alloc o).drew).of_block hb
  exact ⟨hr.cell (show 2 < 3 by omega), hr.frozen 2⟩

theorem Making.put {w0 wr w5 : World} {P U : Int} {pv : Value} {a : Ls} {T t : Nat} {o : Obj} {x : ByteArray} {g cap n m : Nat} (h : Making w0 wr P U pv a T t) (hg : (wr.alloc o).drew.grownBy w5 pv.ownBlock) (hx : a[t]? = some x) (ht : T ≤ t)
    (hn : n = ((a.drop T).take (t - T)).length + 1) (hm : m = n)
    (hown : w5.ownsRow w0.heap.size 9 1 (.slice (some ⟨g, 0, none⟩) m cap) n (((a.drop T).take (t - T)).map .string ++ [.string x])) :
    Making w0 (w5.setCell ⟨w0.heap.size, 2, none⟩ (.slice (some ⟨g, 0, none⟩) m cap)) P U (.slice (some ⟨g, 0, none⟩) m cap) a T (t + 1) := by
  subst hm
  have hne := row_own_ne h.box h.own (by decide)
  have hb : w5.heap[w0.heap.size]? = (wr.alloc o).drew.heap[w0.heap.size]? := hg.block _ (by rw [size_ad]; have := h.box.lt; omega) hne
  have hr : w5.rowIs w0.heap.size 26 3 (boxF P U pv) := ((h.box.alloc o).drew).of_block hb
  have hlt := h.box.lt
  have e : (a.drop T).take (t + 1 - T) = (a.drop T).take (t - T) ++ [x] := take_more ht hx
  have hne2 := row_own_ne hr hown (by decide)
  refine ⟨(hr.set 2 _).congr fun i hi => ?_, ?_, ?_⟩
  · unfold boxF
    by_cases h2 : i = 2
    · subst h2; simp
    · rw [if_neg h2]
      by_cases h0 : i = 0
      · simp [h0]
      · have : i = 1 := by omega
        simp [this]
  · rw [e, List.length_append, List.length_singleton, List.map_append, ← hn]
    have hs : w5.grownBy (w5.setCell ⟨w0.heap.size, 2, none⟩ (.slice (some ⟨g, 0, none⟩) m cap)) (some w0.heap.size) := ⟨rfl, rfl, rfl, by simp [World.setCell], fun k _ hk => Below.heap_setCell _ _ _ _ (fun e => hk (by rw [e]))⟩
    exact hown.kept hs (.inr (fun e => hne2 e.symm))
  · refine (((h.bel.alloc (by omega) o).drew).grown hg (by rw [size_ad]; omega) (fun k hk => (h.own.lt k hk).1)).setCell (Nat.le_refl _) _

set_option maxHeartbeats 400000 in
theorem rback_no (v v' : Value) (w : World) (a : Ls) (hs : List Hk) (ha : Sl w v a) (hh : HReads w v' hs) (h3 : a.length ≤ 1000000) (hr : rightL hs a.length = false) :
    Calls Tryd.prog 8 #[v, v'] w fun e w' => e = .returned (.tuple #[.slice none 0 0, .int .i64 3]) ∧ Below w.heap.size w w' := by
  have hc := rright_any hs v' w a.length hh h3
  rw [hr] at hc
  obtain ⟨aa, ca, rfl⟩ := ha.form
  have HC := Lib.hid hc
  clear hc
  go_enter Tryd.func8, Tryd.ntmps8
  go_wp2_with fail
  refine HC.out.mono ?_
  rintro e w1 ⟨rfl, hb⟩
  go_wp2
  go_ret2
  exact ⟨rfl, hb⟩

set_option maxRecDepth 100000 in
set_option maxHeartbeats 8000000 in
theorem rback_yes (v v' : Value) (w : World) (a : Ls) (ps : List (Hk × Value)) (hs : List Hk) (ha : Sl w v a) (hps : hs = ps.map (·.1)) (hh : HReads w v' hs) (h3 : a.length ≤ 1000000) (hr : rightL hs a.length = true) (ht : PTame hs)
    (hv : ∃ ao c, v' = .slice ao ps.length c ∧ (ps ≠ [] → ∃ b o, ao = some ⟨b, o, none⟩ ∧ HCells w b o ps)) :
    Calls Tryd.prog 8 #[v, v'] w fun e w' => ∃ u, e = .returned (.tuple #[u, .int .i64 0]) ∧ HReads w' u (backL a hs) ∧ Below w.heap.size w w' := by
  have hc := rright_any hs v' w a.length hh h3
  have hbi := back_inv hr
  rw [hr] at hc
  obtain ⟨aa, ca, rfl⟩ := ha.form
  obtain ⟨ao, c, rfl, hcs⟩ := hv
  obtain ⟨al, hal⟩ : ∃ n, n = a.length := ⟨_, rfl⟩
  obtain ⟨L, hL⟩ : ∃ n, n = ps.length := ⟨_, rfl⟩
  have hlt0 := ht.1
  rw [hps, List.length_map, ← hL] at hlt0
  rw [← hal] at h3 hr hc ha ⊢
  rw [← hL] at hc ⊢
  have HC := Lib.hid hc
  have HA := Lib.hid ha
  have HR := Lib.hid hr
  have HT := Lib.hid ht
  have HPS := Lib.hid hps
  have HCS := Lib.hid hcs
  have HAL := Lib.hid hal
  have HL := Lib.hid hL
  have HBI := Lib.hid hbi
  clear hc ha hr ht hps hcs hal hL hh hbi
  go_enter Tryd.func8, Tryd.ntmps8
  go_wp2_with fail
  refine HC.out.mono ?_
  rintro e w1 ⟨rfl, hb1⟩
  have HB1 := Lib.hid hb1
  have hsz1 := hb1.size
  clear hb1
  go_wp2
  go_loopw [6, 7, 8] (fun ov mv iv wr => ∃ (m : Nat) (q : Int) (qs : List (Hk × Value)), m ≤ L ∧ iv = .int .i64 m ∧ mv = .int .i64 q ∧ (-1000000 ≤ q ∧ q ≤ 1000000 * m) ∧ qs.length = m ∧ bk a (hs.take m) = (qs.map (·.1), q) ∧ OwnQ w.heap.size wr ov qs ∧ Below w.heap.size w wr) (fun _ _ iv _ => L - (intOf iv).toNat)
  case atStart => exact ⟨0, 0, [], by omega, rfl, rfl, by omega, rfl, rfl, OwnQ.nil _ _, HB1.out⟩
  case round =>
    obtain ⟨m, q, qs, hm, rfl, rfl, ⟨hq1, hq2⟩, hql, hbk, hown, hbel⟩ := hrel
    have HBK := Lib.hid hbk
    have HBEL := Lib.hid hbel
    have HQL := Lib.hid hql
    have hsz := hbel.size
    have HOWN := Lib.hid hown
    clear hbk hown hbel hql
    by_cases hlt : m < L
    · obtain ⟨p, hp⟩ : ∃ p, ps[m]? = some p := ⟨ps[m]'(by rw [← HL.out]; exact hlt), by simp⟩
      have hk : hs[m]? = some p.1 := by rw [HPS.out, List.getElem?_map, hp]; rfl
      obtain ⟨r1, r2, r3, r4, r5, r6⟩ := right_at a (by omega) HR.out hk
      obtain ⟨T, hT⟩ : ∃ T : Nat, p.1.at_ = (T : Int) := ⟨p.1.at_.toNat, by omega⟩
      obtain ⟨C, hC⟩ : ∃ C : Nat, p.1.cut = (C : Int) := ⟨p.1.cut.toNat, by omega⟩
      have hnext := bk_next a hk
      rw [HBK.out] at hnext
      have hb2 := HBI.out (m + 1) (by rw [HPS.out, List.length_map, ← HL.out]; omega)
      have hbd : -1000000 ≤ q + ((p.1.put.length : Int) - C) := by
        have h1 := hb2.len
        have h2 := hb2.da
        rw [hnext] at h1
        unfold backStep at h1
        simp only at h1
        rw [hC] at h1
        rw [← HAL.out] at h2
        omega
      have hpu := HT.out.2 p.1 (List.mem_of_getElem? hk)
      obtain ⟨b, of, rfl, hcc⟩ := HCS.out (by rintro rfl; simp at hp)
      obtain ⟨c1, c2, c3, c4⟩ := hcc.2 m p hp
      rw [hT] at c1 r3 r5
      rw [hC] at c2 r5
      obtain ⟨pa, pc, ea⟩ := c4.form
      rw [ea] at c3
      obtain ⟨U, hU⟩ : ∃ U, U = p.1.put.length := ⟨_, rfl⟩
      rw [← hU] at c3 hpu hbd
      have dd : ∀ wz, Below w.heap.size w wz → wz.cell? ⟨b, of + m * 3, none⟩ = some (.int .i64 T) ∧ wz.cell? ⟨b, of + m * 3 + 1, none⟩ = some (.int .i64 C) ∧ wz.cell? ⟨b, of + m * 3 + 2, none⟩ = some (.slice pa U pc) :=
        fun wz h => ⟨(h.cell (p := ⟨b, of + m * 3, none⟩) hcc.1).trans c1, (h.cell (p := ⟨b, of + m * 3 + 1, none⟩) hcc.1).trans c2, (h.cell (p := ⟨b, of + m * 3 + 2, none⟩) hcc.1).trans c3⟩
      have DD := Lib.hid dd
      have HTT := Lib.hid hT
      have HCC := Lib.hid hC
      have HU := Lib.hid hU
      have HNX := Lib.hid hnext
      clear hk hT hC hU c1 c2 c3 c4 r1 r2 r6 hcc hp ea hnext hb2 dd
      obtain ⟨d1, d2, d3⟩ := DD.out _ HBEL.out
      have dA1 : ∀ ob, (wr.alloc ob).cell? ⟨b, of + m * 3, none⟩ = some (.int .i64 T) := fun ob => (DD.out _ (HBEL.out.alloc hsz ob)).1
      have dA3 : ∀ ob, (wr.alloc ob).cell? ⟨b, of + m * 3 + 2, none⟩ = some (.slice pa U pc) := fun ob => (DD.out _ (HBEL.out.alloc hsz ob)).2.2
      have h0 : (0 : Int) ≤ m := by omega
      have h1 : (m : Int) < L := by omega
      have t1 : T + C ≤ al := by omega
      go_wp2
      go_region
      obtain ⟨w0, rfl⟩ : ∃ w0, w0 = wr := ⟨wr, rfl⟩
      obtain ⟨si, hsi, hsz0, hsz1', hsby⟩ := info_parts Tryd.infoStr
      have HSI := Lib.hid hsi
      have HSZ := Lib.hid hsz0
      have HSZ1 := Lib.hid hsz1'
      have HSBY := Lib.hid hsby
      have hPb : -1000000 ≤ (T : Int) + q ∧ (T : Int) + q ≤ 100000000000 := by omega
      obtain ⟨P, hP⟩ : ∃ P, P = (T : Int) + q := ⟨_, rfl⟩
      rw [← hP] at hPb ⊢
      have HP := Lib.hid hP
      clear hsi hsz0 hsz1' hsby hP
      go_wp2_with fail
      clear dA1 dA3 d1 d2 d3
      go_loopw [10] (fun tv wq => ∃ (t : Nat) (pv : Value), tv = .int .i64 t ∧ T ≤ t ∧ t ≤ T + C ∧ Making w0 wq P U pv a T t) (fun tv _ => T + C - (intOf tv).toNat)
      case atStart =>
        refine ⟨T, .slice none 0 0, rfl, Nat.le_refl _, by omega, ?_, by simpa using World.ownsRow_nil _ _ _ _, ((Below.refl _ _).alloc (Nat.le_refl _) _).drew⟩
        exact ((World.rowIs_alloc w0 _ _ _ (fun i hi => by
          have h3 : i = 0 ∨ i = 1 ∨ i = 2 := by simp at hi; omega
          rcases h3 with rfl | rfl | rfl <;> rfl)).drew)
      case round =>
        obtain ⟨t, pv, rfl, ht1, ht2, hmk⟩ := hrel
        have HMK := Lib.hid hmk
        obtain ⟨b0, b1, b2, b3, b4⟩ := hmk.cells
        obtain ⟨pva, pvl, pvc, epv⟩ := own_form hmk.own
        subst epv
        have hbq := HBEL.out.trans (hmk.bel.mono hsz)
        obtain ⟨q1, q2, q3⟩ := DD.out _ hbq
        have hszq := hbq.size
        have HBQ := Lib.hid hbq
        have hll : ((a.drop T).take (t - T)).length ≤ 1000000 := by rw [List.length_take, List.length_drop, ← HAL.out]; omega
        obtain ⟨n, hn⟩ : ∃ n, n = ((a.drop T).take (t - T)).length := ⟨_, rfl⟩
        rw [← hn] at hll
        have hown := hmk.own
        rw [← hn] at hown
        have HOW := Lib.hid hown
        have HN := Lib.hid hn
        have hfz := hmk.box.frozen 2
        clear hmk hbq hown hn
        by_cases htt : t < T + C
        · obtain ⟨x, hx⟩ : ∃ x, a[t]? = some x := ⟨a[t]'(by rw [← HAL.out]; omega), by simp⟩
          obtain ⟨-, -, -, ba, oa, rfl, hca⟩ := HA.out.some (by rintro rfl; simp at hx)
          have cx := (HBQ.out.cell (p := ⟨ba, oa + t, none⟩) hca.1).trans (hca.2 t x hx)
          have HX := Lib.hid hx
          clear hx hca
          have j0 : (0 : Int) ≤ t := by omega
          have j1 : (t : Int) < al := by omega
          have j2 : (t : Int) < (T : Int) + C := by omega
          go_wp2
          go_quiet (fail)
          have HMZ := Lib.hid (HMK.out.drewN (n := nq))
          have HBZ := Lib.hid (Below.drewN (n := nq) HBQ.out)
          have HOZ := Lib.hid (own_drewN (m := nq) HOW.out)
          have cz : (wr.drewN nq).cell? ⟨ba, oa + t, none⟩ = some (.string x) := cx
          obtain ⟨z0, z1, z2, z3, z4⟩ := HMZ.out.cells
          have zf := HMZ.out.box.frozen 2
          clear b0 b1 b2 b3 b4 cx hfz q1 q2 q3 HMK HBQ HOW hszq
          generalize wr.drewN nq = wz at *
          have hszz := HBZ.out.size
          go_wp2
          go_region_law (refine step_append_lies _ rfl (.tmp 57) (.tmp 62) 22 rfl w0.heap.size 9 si (.string ByteArray.empty) 1 16 Tryd.underlying22 HSI.out HSZ.out HSZ1.out HSBY.out rfl (by decide) (.slice pva pvl pvc) n _ (by simp [Act.eval]) (by exact (HOZ.out.alloc _).drew) ⟨wz.heap.size, 0, none⟩ 1 1 [.string x] (by simp [Act.eval]) rfl (by intro j u' hj; show (wz.alloc (.cells #[.string x] 9)).cell? _ = _; rw [show (⟨wz.heap.size, 0, none⟩ : Addr).add j = ⟨wz.heap.size, j, none⟩ by unfold Addr.add; split <;> simp_all, World.cell?_alloc_at _ _ _ _ rfl]; simpa using hj) (by simp [Value.oneCell']) (by decide) (by unfold maxLen; omega) (by omega) (by show _ ≤ (wz.alloc _).heap.size; simp; omega) (wz.heap.size + 1) (by show (wz.alloc _).heap.size = _; simp) ?_; intro g' cap' w5 hown5 hgr5 hat5 hlt5; obtain ⟨s1, s2⟩ := HMZ.out.still hgr5; have HOW5 := Lib.hid hown5; have HG5 := Lib.hid hgr5; clear hown5 hgr5 hat5)
          all_goals go_wp2
          all_goals have hput := HMZ.out.put HG5.out HX.out ht1 (by rw [HN.out]) rfl HOW5.out
          all_goals exact ⟨⟨t + 1, _, by go_num, by omega, by omega, hput⟩, by simp [intOf]; omega⟩
        · have ett : t = T + C := by omega
          have HE := Lib.hid ett
          have htt' : T + C ≤ t := by omega
          clear ett
          go_wp2
          go_quiet (fail)
          have HMZ := Lib.hid (HMK.out.drewN (n := nq))
          have HBZ := Lib.hid (Below.drewN (n := nq) HBQ.out)
          have HOZ := Lib.hid (own_drewN (m := nq) HOW.out)
          obtain ⟨z0, z1, z2, z3, z4⟩ := HMZ.out.cells
          clear b0 b1 b2 b3 b4 hfz q1 q2 q3 HMK HBQ HOW hszq
          generalize wr.drewN nq = wz at *
          have hszz := HBZ.out.size
          have HQZ := Lib.hid (HOWN.out.below HMZ.out.bel)
          go_wp2_with (at_builtin; refine wpList_push_lies rfl _ _ 23 rfl w.heap.size 26 (.agg #[.int .i64 0, .int .i64 0, .slice none 0 0]) 3 40 Tryd.underlying23 Tryd.infoHunk rfl (by decide) wz _ _ _ rfl (by exact HQZ.out.row) [.int .i64 P, .int .i64 (U : Int), .slice pva pvl pvc] 1 _ _ rfl _ rfl rfl rfl (by simp [Value.oneCell']) (by have := HQL.out; omega) (by have := HQL.out; omega) hszz ?_; intro g cap w3 hown3 hgr hat; have hb3 := ((HBZ.out.alloc hszz _).grown hgr (by rw [World.size_alloc]; omega) (fun k hk => (HQZ.out.row.lt k hk).1)); obtain ⟨y1, y2, y3⟩ := DD.out _ hb3; have HB3 := Lib.hid hb3; have HO3 := Lib.hid hown3; have HG3 := Lib.hid hgr; clear hb3 hown3 hgr hat)
          go_quiet (fail)
          go_wp2
          have hfin := (HQZ.out.grown (World.grownBy_alloc _ _ none)).push (k := ⟨P, (U : Int), (a.drop T).take (t - T)⟩) (by have := (own_base HOZ.out hsz).alloc; rw [← HN.out]; exact this _) HO3.out HG3.out
          refine ⟨⟨m + 1, q + ((U : Int) - C), _, by omega, by go_num, by go_num, ⟨hbd, by omega⟩, by rw [List.length_append, HQL.out]; rfl, ?_, hfin.grown ⟨rfl, rfl, rfl, Nat.le_refl _, fun _ _ _ => rfl⟩, Below.drewN HB3.out⟩, by simp [intOf]; omega⟩
          rw [HNX.out]
          unfold backStep
          rw [HTT.out, HCC.out, ← HU.out, List.map_append, List.map_singleton]
          simp only [Int.toNat_natCast]
          rw [HP.out, show t - T = C by have := HE.out; omega]
    · have hml : m = L := by omega
      have HML := Lib.hid hml
      clear hml
      go_wp2
      go_ret2
      refine ⟨_, rfl, ?_, HBEL.out⟩
      have hfin : backL a hs = qs.map (·.1) := by
        have hp := HBK.out
        rw [List.take_of_length_le (by rw [HPS.out, List.length_map, ← HL.out]; have := HML.out; omega)] at hp
        unfold backL
        rw [hp]
      rw [hfin]
      exact HOWN.out.reads

theorem rback_any (v v' : Value) (w : World) (a : Ls) (hs : List Hk) (ha : Sl w v a) (hh : HReads w v' hs) (h3 : a.length ≤ 1000000) (ht : PTame hs) :
    Calls Tryd.prog 8 #[v, v'] w fun e w' => (∃ u, e = .returned (.tuple #[u, .int .i64 (if rightL hs a.length then 0 else 3)]) ∧ HReads w' u (if rightL hs a.length then backL a hs else [])) ∧ Below w.heap.size w w' := by
  cases hr : rightL hs a.length with
  | false => exact (rback_no v v' w a hs ha hh h3 hr).mono fun e w' ⟨h1, h2⟩ => ⟨⟨_, h1, [], rfl, .inl ⟨rfl, _, _, rfl⟩⟩, h2⟩
  | true =>
    have hh' := hh
    obtain ⟨ps, hps, h⟩ := hh
    refine (rback_yes v v' w a ps hs ha hps.symm hh' h3 hr ht ?_).mono fun e w' ⟨u, h1, h2, h3⟩ => ⟨⟨u, h1, h2⟩, h3⟩
    rcases h with ⟨rfl, a, c, rfl⟩ | ⟨hn, b, o, c, rfl, h1, h2, h3⟩
    · exact ⟨a, c, rfl, fun h => absurd rfl h⟩
    · exact ⟨_, c, rfl, fun _ => ⟨b, o, rfl, h3⟩⟩
end Go.Proofs.YteppgjdkoakpeaaDoor
