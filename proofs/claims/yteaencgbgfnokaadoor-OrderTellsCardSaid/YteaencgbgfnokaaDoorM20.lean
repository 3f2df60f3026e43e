/- The contract of past. -/
import Derived.Deep.LoopGhost
import Derived.Test.YteaencgbgfnokaaDoorM18
set_option linter.unusedVariables false
namespace Go.Proofs.YteaencgbgfnokaaDoor
open Go.ChangeShapes Go.WideShapes Go.ChangeAt Go.RowKit

theorem infoB6 : (Tryd.prog.info? 4).map (fun i => (i.zero, i.size, i.bytes)) = some (some (.bool false), 1, 1) := by kernel_rfl
abbrev bvs (l : List Bool) : List Value := l.map Value.bool
theorem bvs_len (l : List Bool) : (bvs l).length = l.length := by simp
theorem bvs_at {l : List Bool} {j : Nat} (h : j < l.length) : (bvs l)[j]? = some (.bool (l.getD j false)) := by
  simp [bvs, List.getD_eq_getElem?_getD, h]
theorem bvs_set (l : List Bool) (j : Nat) (b : Bool) : (bvs l).set j (.bool b) = bvs (l.set j b) := by simp [bvs, List.map_set]
theorem made_bool {w : World} {n : Nat} (hn : n ≤ 1000000) {B : Nat} (hB : B ≤ w.heap.size) : Row 1 B (w.alloc (.cells (madeCells #[.bool false] n) 4)) (.slice (some ⟨w.heap.size, 0, none⟩) n n) n (bvs (List.replicate n false)) :=
  row_new hB (by simp) (Nat.le_refl _) (by unfold maxLen; omega) (by simp [size_madeCells]) (.inl rfl) (fun j u hu => by
    have hj : j < n := by have := (List.getElem?_eq_some_iff.1 hu).1; simpa using this
    rw [bvs, List.map_replicate, List.getElem?_replicate, if_pos hj] at hu
    cases hu
    simp [madeCells, hj, Nat.mod_one])
theorem seen_iff {seen : List Bool} {u : Nat} : SeenB seen (u : Int) ↔ seen.getD u false = true := by
  constructor
  · rintro ⟨v, e, h⟩
    obtain rfl : v = u := by omega
    exact h
  · exact fun h => ⟨u, rfl, h⟩

theorem Row.some6 {B n : Nat} {w : World} {v : Value} {cs : List Value} (h : Row 1 B w v n cs) (hp : v.ownBlock ≠ none) : ∃ b cap, v = .slice (some ⟨b, 0, none⟩) n cap ∧ B ≤ b ∧ b < w.heap.size ∧ n ≤ cap ∧ cap ≤ maxLen ∧
    (∀ j, j < cap * 1 → (w.cell? ⟨b, j, none⟩).isSome = true ∧ w.frozen? ⟨b, j, none⟩ = false) ∧ ∀ j u, cs[j]? = some u → w.cell? ⟨b, j, none⟩ = some u := by
  obtain ⟨h0, ⟨rfl, rfl⟩ | h⟩ := h
  · exact absurd rfl hp
  · exact h
def PastP (n : Nat) (need : Int → List Int) (a : Nat) (w : World) (e : Ending) (w' : World) : Prop :=
  ∃ sb sc, ∃ seen : List Bool, e = .returned (.slice (some ⟨sb, 0, none⟩) n sc) ∧ seen.length = n ∧ (∀ d : Nat, seen.getD d false = true ↔ PastK need (a : Int) (d : Int)) ∧ Row 1 w.heap.size w' (.slice (some ⟨sb, 0, none⟩) n sc) n (bvs seen) ∧ Below w.heap.size w w'
set_option maxHeartbeats 2000000 in
set_option maxRecDepth 100000 in
theorem past_any (ns : Lb) (n a : Nat) (need : Int → List Int) (nv gv : Value) (w : World) (hw : Web w nv gv ns ((List.range n).map fun u : Nat => need (u : Int))) (hns : ns.length = n) (hn : n ≤ 60) (ha : a < n) (hM : ∀ u : Nat, (need (u : Int)).length ≤ 400) (hR : ∀ u : Nat, u < n → ∀ d ∈ need (u : Int), d = -1 ∨ ∃ v : Nat, v < n ∧ d = (v : Int)) :
    Calls Tryd.prog 30 #[.agg #[nv, gv], .int .i64 (a : Nat)] w (PastP n need a w) := by
  obtain ⟨gb, gs, gc, hgv, hgc, hgm, hgr⟩ := hw.rows
  obtain ⟨na, nc, hnv, hnl⟩ := hw.names.form
  rw [hns] at hgv hgc hnv
  subst hgv; subst hnv
  have HG := Lib.hid hgr
  have hgl := hgr.lt
  have HM := Lib.hid hM
  have HR := Lib.hid hR
  obtain ⟨w1, hw1⟩ : ∃ w1, w1 = w.alloc (.cells #[.slice na n nc, .slice (some ⟨gb, 0, none⟩) n gc] 47) := ⟨_, rfl⟩
  have s1 : w1.heap.size = w.heap.size + 1 := by rw [hw1]; simp
  obtain ⟨w2, hw2⟩ : ∃ w2, w2 = w1.alloc (.cells (madeCells #[.bool false] n) 4) := ⟨_, rfl⟩
  have s2 : w2.heap.size = w.heap.size + 2 := by rw [hw2]; simp [s1]
  obtain ⟨w3, hw3⟩ : ∃ w3, w3 = w2.alloc (.cells #[.int .i64 (a : Int)] 3) := ⟨_, rfl⟩
  have s3 : w3.heap.size = w.heap.size + 3 := by rw [hw3]; simp [s2]
  have hrs : Row 1 w.heap.size w3 (.slice (some ⟨w.heap.size + 1, 0, none⟩) n n) n (bvs (List.replicate n false)) := by
    have := made_bool (w := w1) (n := n) (by omega) (B := w.heap.size) (by omega)
    rw [← hw2, s1] at this
    rw [hw3]
    exact this.alloc _
  have hrl : Row 1 (w.heap.size + 2) w3 (.slice (some ⟨w.heap.size + 2, 0, none⟩) 1 1) 1 (iv [(a : Int)]) := by
    have := row_new (k := 1) (B := w.heap.size + 2) (w := w2) (e := 3) (n := 1) (cs := iv [(a : Int)]) (cap := 1) (xs := #[.int .i64 (a : Int)]) (fr := (0, 0)) (by omega) (by simp) (Nat.le_refl _) (by unfold maxLen; omega) (by simp) (.inl rfl) (fun j u hu => by simpa using hu)
    rw [← hw3, s2] at this
    exact this
  have hb13 : Below w1.heap.size w1 w3 := by
    rw [hw3, hw2]
    exact ((Below.refl _ _).alloc (Nat.le_refl _) _).alloc (by simp) _
  have hbw : Below w.heap.size w w1 := by rw [hw1]; exact (Below.refl _ _).alloc (Nat.le_refl _) _
  have e0 : w3.cell? ⟨w.heap.size, 1, none⟩ = some (.slice (some ⟨gb, 0, none⟩) n gc) := (hb13.cell (p := ⟨w.heap.size, 1, none⟩) (by rw [s1]; show w.heap.size < _; omega)).trans (by rw [hw1, World.cell?_alloc_at _ _ _ _ rfl]; rfl)
  have hb3 : Below w.heap.size w w3 := hbw.trans (hb13.mono (by omega))
  have LC : ∀ W, Off (fun i => i = w.heap.size + 1 ∨ w.heap.size + 2 ≤ i) w3 W → W.cell? ⟨w.heap.size, 1, none⟩ = some (.slice (some ⟨gb, 0, none⟩) n gc) ∧ Below w.heap.size w W := fun W ho =>
    ⟨(ho.cell (p := ⟨w.heap.size, 1, none⟩) (by rw [s3]; show w.heap.size < _; omega) (by show ¬ (w.heap.size = _ ∨ _ ≤ w.heap.size); omega)).trans e0, hb3.trans (ho.below (B := w.heap.size) (fun i hi => by omega) (by omega))⟩
  have HLC := Lib.hid LC
  have HRS := Lib.hid hrs
  have HRL := Lib.hid hrl
  have HS3 := Lib.hid s3
  have HW3 : Hid (w3 = ((w.alloc (.cells #[.slice na n nc, .slice (some ⟨gb, 0, none⟩) n gc] 47)).alloc (.cells (madeCells #[.bool false] n) 4)).alloc (.cells #[.int .i64 (a : Int)] 3)) := Lib.hid (by rw [hw3, hw2, hw1])
  have mk1 := run_make_row' (P := Tryd.prog) 66 4 (.bool false) 1 Tryd.underlying66 infoB6 rfl .i64 .i64 n (by omega) (by omega)
  clear hw hgr hM hR hns hnl hw1 hw2 hw3 s1 s2 s3 hrs hrl hb13 hbw e0 hb3 LC
  go_enter Tryd.func30, Tryd.ntmps30
  go_wp2_with fail
  rw [← HW3.out]
  go_loopg [6] (2 * n + 1) (fun g lv wr => ∃ (seen : List Bool) (left : List Int), Hid (PastO need n (a : Int) seen left) ∧ 2 * unseen seen + left.length ≤ g ∧ g ≤ 2 * n + 1 ∧ Hid (Row 1 (w.heap.size + 2) wr lv left.length (iv left)) ∧ Hid (lv.ownBlock ≠ none) ∧ Hid (Row 1 w.heap.size wr (.slice (some ⟨w.heap.size + 1, 0, none⟩) n n) n (bvs seen)) ∧ Hid (Off (fun i => i = w.heap.size + 1 ∨ w.heap.size + 2 ≤ i) w3 wr))
  case atStart =>
    refine ⟨List.replicate n false, [(a : Int)], Lib.hid (past_begin need ha), ?_, Nat.le_refl _, HRL, Lib.hid (by simp [Value.ownBlock]), HRS, Lib.hid (Off.refl _ _)⟩
    have := unseen_le (List.replicate n false)
    simp at this ⊢
    omega
  case round =>
    obtain ⟨seen, left, HPO, hg1, hg2, HRW, HOW, HSE, HOF⟩ := hrel
    obtain ⟨N, hN⟩ : ∃ N, N = left.length := ⟨_, rfl⟩
    rw [← hN] at HRW hg1
    obtain ⟨lb, lc, rfl, hlb, hlbw, hlc, hlcm, _, _⟩ := HRW.out.some6 HOW.out
    obtain ⟨hcb, hbw⟩ := HLC.out wr HOF.out
    rcases eq_nil_or_snoc left with rfl | ⟨l, i, rfl⟩
    · have HEND := Lib.hid (fun d : Nat => seen_iff.symm.trans (past_end HPO.out (d : Int)))
      obtain rfl : N = 0 := by simpa using hN
      clear hcb hN
      go_wp2_with fail
      go_ret
      exact ⟨_, _, seen, rfl, HPO.out.len, HEND.out, HSE.out, hbw⟩
    · obtain ⟨u, hu, rfl⟩ := HPO.out.left_lt i (by simp)
      obtain ⟨q, hq⟩ : ∃ q, q = l.length := ⟨_, rfl⟩
      have hlen : (l ++ [(u : Int)]).length = q + 1 := by rw [hq]; simp
      rw [hlen] at hN
      subst hN
      obtain ⟨hcq, _⟩ := HRW.out.cellF (j := q) (u := .int .i64 (u : Int)) (by rw [hq]; simp [iv])
      have hfr : Row 1 (w.heap.size + 2) wr (.slice (some ⟨lb, 0, none⟩) q lc) q (iv l) := by
        have := HRW.out.front (m := q) (by omega)
        rw [iv_take] at this
        rw [hq, List.take_left] at this
        rw [hq]
        exact this
      have HFR := Lib.hid hfr
      have HPI := Lib.hid (past_pop HPO.out)
      obtain ⟨vi, hvi, _, hvr⟩ := HG.out.each u (need (u : Int)) (by simp [hu])
      obtain ⟨L, hL⟩ : ∃ L, L = (need (u : Int)).length := ⟨_, rfl⟩
      rw [← hL] at hvr
      have hLM : L ≤ 400 := by rw [hL]; exact HM.out u
      obtain ⟨va, vc, hve, hLc, hcm⟩ := hvr.form'
      subst hve
      have hci : wr.cell? ⟨gb, u, none⟩ = some (.slice va L vc) := (hbw.cell (p := ⟨gb, u, none⟩) hgl).trans hvi
      have HVR := Lib.hid hvr
      have HLL := Lib.hid hL
      have HQ := Lib.hid hq
      have hqc : ¬ lc = 0 := by omega
      obtain ⟨c0, hc0⟩ : ∃ c0, c0 = 2 * unseen seen + q := ⟨_, rfl⟩
      have hlcm2 := hlcm
      unfold maxLen at hlcm2
      clear hlen hfr hvi hvr hL hq
      go_wp2_with fail
      obtain ⟨w0, hw0⟩ : ∃ w0, w0 = wr := ⟨wr, rfl⟩
      clear hw0
      go_loopw [6, 36] (fun lv jv wi => ∃ (j : Nat) (seen2 : List Bool) (left2 : List Int), jv = .int .i64 (j : Nat) ∧ j ≤ L ∧ Hid (PastI need n (a : Int) seen2 left2 (u : Int) j) ∧ 2 * unseen seen2 + left2.length ≤ c0 ∧ Hid (Row 1 (w.heap.size + 2) wi lv left2.length (iv left2)) ∧ Hid (lv.ownBlock ≠ none) ∧ Hid (Row 1 w.heap.size wi (.slice (some ⟨w.heap.size + 1, 0, none⟩) n n) n (bvs seen2)) ∧ Hid (Off (fun i => i = w.heap.size + 1 ∨ w.heap.size + 2 ≤ i) w3 wi)) (fun _ jv _ => L - (intOf jv).toNat)
      case atStart => exact ⟨0, seen, l, rfl, Nat.zero_le _, HPI, by rw [← HQ.out]; omega, by rw [← HQ.out]; exact HFR, Lib.hid (by simp [Value.ownBlock]), HSE, HOF⟩
      case round =>
        obtain ⟨j, seen2, left2, rfl, hjL, HPJ, hg3, HRJ, HOJ, HSJ, HFJ⟩ := hrel
        obtain ⟨m, hm⟩ : ∃ m, m = left2.length := ⟨_, rfl⟩
        rw [← hm] at HRJ hg3
        obtain ⟨b2, c2, rfl, hb2, hb2w, hc2, hc2m, _, _⟩ := HRJ.out.some6 HOJ.out
        obtain ⟨hcb2, hbw2⟩ := HLC.out wr HFJ.out
        have HMM := Lib.hid hm
        clear hm
        by_cases hlt2 : j < L
        · obtain ⟨y, hy⟩ : ∃ y, (need (u : Int))[j]? = some y := ⟨_, List.getElem?_eq_getElem (by rw [← HLL.out]; exact hlt2)⟩
          obtain ⟨b0, c0', hve0, _, hb0l, _, _, _, hx7⟩ := HVR.out.pos (by omega)
          injection hve0 with hve1 _ hve2
          subst hve1; subst hve2
          have hcy : wr.cell? ⟨b0, j, none⟩ = some (.int .i64 y) := (hbw2.cell (p := ⟨b0, j, none⟩) hb0l).trans (hx7 j _ (by simp [iv, hy]))
          have hyr := HR.out u hu y (List.mem_of_getElem? hy)
          have HY := Lib.hid hy
          clear hy hx7
          by_cases hy1 : y = -1
          · subst hy1
            have HP4 := Lib.hid (past_seen HPJ.out HY.out (fun h => absurd h (by decide)))
            clear hyr
            go_wp2_with fail
            exact ⟨⟨j + 1, seen2, left2, by go_num, by omega, HP4, by rw [← HMM.out]; exact hg3, by rw [← HMM.out]; exact HRJ, HOJ, HSJ, HFJ⟩, by simp [intOf]; omega⟩
          · obtain ⟨d, hd, rfl⟩ := hyr.resolve_left hy1
            have e1 : ((d : Int) == (-1 : Int)) = false := by rw [beq_eq_false_iff_ne]; omega
            have hsl : seen2.length = n := HPJ.out.len
            obtain ⟨hcs, hfs, _, _, _, _⟩ := HSJ.out.cellF (j := d) (bvs_at (by rw [hsl]; exact hd))
            obtain ⟨sd, hsd⟩ : ∃ sd, sd = seen2.getD d false := ⟨_, rfl⟩
            rw [← hsd] at hcs
            have HSD := Lib.hid hsd
            clear hsd hyr
            cases sd with
            | true =>
              have HP4 := Lib.hid (past_seen HPJ.out HY.out (fun _ => seen_iff.2 HSD.out.symm))
              clear hsl
              go_wp2_with fail
              exact ⟨⟨j + 1, seen2, left2, by go_num, by omega, HP4, by rw [← HMM.out]; exact hg3, by rw [← HMM.out]; exact HRJ, HOJ, HSJ, HFJ⟩, by simp [intOf]; omega⟩
            | false =>
              have HP4 := Lib.hid (past_push HPJ.out HY.out hd)
              have hun := unseen_set (seen := seen2) (by rw [hsl]; exact hd) HSD.out.symm
              obtain ⟨w5, hw5⟩ : ∃ w5, w5 = wr.setCell ⟨w.heap.size + 1, d, none⟩ (.bool true) := ⟨_, rfl⟩
              have ho5 : Off (fun i => i = w.heap.size + 1) wr w5 := by rw [hw5]; exact (Off.refl (fun i => i = w.heap.size + 1) wr).setCell (p := ⟨w.heap.size + 1, d, none⟩) (.inr rfl) _
              have hse5 : Row 1 w.heap.size w5 (.slice (some ⟨w.heap.size + 1, 0, none⟩) n n) n (bvs (seen2.set d true)) := by
                have := HSJ.out.put (j := d) (by rw [bvs_len, hsl]; exact hd) (.bool true)
                rw [bvs_set] at this
                rw [hw5]; exact this
              have hrj5 := HRJ.out.off ho5 (fun k hk e => by have hk : b2 = k := Option.some.inj hk; omega)
              have hof5 := HFJ.out.trans (ho5.mono fun i hi => .inl hi)
              have HS5 := Lib.hid hse5
              have HO5 := Lib.hid hof5
              have HRA := Lib.hid (hrj5.alloc (.cells #[.int .i64 (d : Int)] 3))
              have hsrc : Src Tryd.prog 1 71 (.slice (some ⟨w5.heap.size, 0, none⟩) 1 1) 1 [.int .i64 (d : Int)] (w5.alloc (.cells #[.int .i64 (d : Int)] 3)) := src_new Tryd.underlying71 [.int .i64 (d : Int)] 1 3 1 rfl one6
              have HSRC := Lib.hid hsrc
              have hs5 := ho5.size
              have hszw : w.heap.size + 2 ≤ (w5.alloc (.cells #[.int .i64 (d : Int)] 3)).heap.size := by simp; omega
              have HSRC' := hw5 ▸ HSRC
              have HRA' := hw5 ▸ HRA
              have hszw' := hw5 ▸ hszw
              have hm121 : m ≤ 200 := by omega
              have hsz5 : w5.heap.size = wr.heap.size := by rw [hw5]; simp [World.setCell]
              rw [← hw5] at HSRC' HRA' hszw'
              clear hsl hsrc hse5 hof5 hrj5 ho5
              subst hw5
              go_wp2_with (at_builtin; refine wpList_append_row rfl (.tmp 52) (.tmp 54) 71 71 rfl 1 3 (.int .i64 0) 8 Tryd.underlying71 infoI6 rfl (w.heap.size + 2) (.slice (some ⟨b2, 0, none⟩) m c2) m (iv left2) (by simp [Act.eval]) HRA.out (.slice (some ⟨(wr.setCell ⟨w.heap.size + 1, d, none⟩ (.bool true)).heap.size, 0, none⟩) 1 1) (by simp [Act.eval]) 1 [.int .i64 (d : Int)] HSRC.out hszw (by omega) (by decide) ?_; intro v6 w6 hr6 ho6 hw6; obtain ⟨a6, c6, hv6⟩ := hr6.form; subst hv6; have HR6 := Lib.hid hr6; have HO6 := Lib.hid ho6; have HW6 := Lib.hid hw6; clear hr6 ho6 hw6)
              have hoa : Off (fun k => (Value.slice (some ⟨b2, 0, none⟩) m c2).ownBlock = some k) (wr.setCell ⟨w.heap.size + 1, d, none⟩ (.bool true)) w6 := ((Off.refl _ _).alloc _).trans HO6.out
              have hse6 := HS5.out.off hoa (fun k hk e => by have hk : w.heap.size + 1 = k := Option.some.inj hk; have e : b2 = k := Option.some.inj e; omega)
              have hof6 := HO5.out.trans (hoa.mono fun k hk => .inr (by have hk : b2 = k := Option.some.inj hk; omega))
              have ho6 : (Value.slice a6 (m + 1) c6).ownBlock ≠ none := by
                rcases HW6.out with h | h
                · rw [h]; exact Option.some_ne_none _
                · rw [h]; exact Option.some_ne_none _
              have hll : (left2 ++ [(d : Int)]).length = m + 1 := by rw [List.length_append, List.length_singleton, ← HMM.out]
              have hr6 : Row 1 (w.heap.size + 2) w6 (.slice a6 (m + 1) c6) (left2 ++ [(d : Int)]).length (iv (left2 ++ [(d : Int)])) := by
                rw [hll]
                have : iv (left2 ++ [(d : Int)]) = iv left2 ++ [.int .i64 (d : Int)] := by simp [iv]
                rw [this]
                exact HR6.out
              exact ⟨⟨j + 1, seen2.set d true, left2 ++ [(d : Int)], by go_num, by omega, HP4, by rw [hll]; omega, Lib.hid hr6, Lib.hid ho6, Lib.hid hse6, Lib.hid hof6⟩, by simp [intOf]; omega⟩
        · have hje : j = L := by omega
          have HPO2 : Hid (PastO need n (a : Int) seen2 left2) := Lib.hid (past_done (by rw [← HLL.out, ← hje]; exact HPJ.out))
          clear hcb2 hbw2
          go_wp2_with fail
          go_roundg c0
          case measure => omega
          case rel => exact ⟨seen2, left2, HPO2, by rw [← HMM.out]; exact hg3, by omega, by rw [← HMM.out]; exact HRJ, HOJ, HSJ, HFJ⟩
end Go.Proofs.YteaencgbgfnokaaDoor
