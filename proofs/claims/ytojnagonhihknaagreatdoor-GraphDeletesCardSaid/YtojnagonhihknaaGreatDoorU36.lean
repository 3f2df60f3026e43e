/- The contract of users.  -/
import Derived.Deep.OwnRows
import Derived.Deep.CutRange
import Derived.Test.YtojnagonhihknaaGreatDoorU15
import Derived.Test.YtojnagonhihknaaGreatDoorU35
set_option linter.unusedVariables false
namespace Go.Proofs.YtojnagonhihknaaGreatDoor
open Go.ChangeShapes Go.WideShapes Go.ChangeAt Go.RowKit

theorem infoI6 : (Tryz.prog.info? 3).map (fun i => (i.zero, i.size, i.bytes)) = some (some (.int .i64 0), 1, 8) := by kernel_rfl
theorem infoL6 : (Tryz.prog.info? 55).map (fun i => (i.zero, i.size, i.bytes)) = some (some (.slice none 0 0), 1, 24) := by kernel_rfl
theorem one6 {k : IntKind} {x : Int} : ∀ u ∈ [Value.int k x], u.oneCell' = true := by
  intro u hu
  rw [List.mem_singleton] at hu
  rw [hu]; rfl
def waitsL (need : Int → List Int) (n i : Nat) : List Int := (List.range n).map fun u : Nat => if u < i then ((need (u : Int)).length : Int) else 0
theorem waitsL_len (need : Int → List Int) (n i : Nat) : (waitsL need n i).length = n := by simp [waitsL]
theorem waitsL_zero (need : Int → List Int) (n : Nat) : waitsL need n 0 = List.replicate n 0 := by
  apply List.ext_getElem?
  intro u
  rw [List.getElem?_replicate]
  by_cases h : u < n
  · simp [waitsL, h]
  · rw [if_neg h, List.getElem?_eq_none (by rw [waitsL_len]; omega)]
theorem waitsL_step {need : Int → List Int} {n i : Nat} (h : i < n) : (waitsL need n i).set i ((need (i : Int)).length : Int) = waitsL need n (i + 1) := by
  apply List.ext_getElem?
  intro u
  by_cases hu : u < n
  · by_cases e : i = u
    · subst e
      rw [List.getElem?_set_self (by rw [waitsL_len]; exact h)]
      simp [waitsL, h]
    · rw [List.getElem?_set_ne e]
      have : u < i + 1 ↔ u < i := by omega
      simp [waitsL, hu, this]
  · rw [List.getElem?_eq_none (by rw [List.length_set, waitsL_len]; omega), List.getElem?_eq_none (by rw [waitsL_len]; omega)]
def UsersA (n B : Nat) (nv gv : Value) (w : World) (wv uv : Value) (W : World) : Prop :=
  ∃ wb ub, wv = .slice (some ⟨wb, 0, none⟩) n n ∧ uv = .slice (some ⟨ub, 0, none⟩) n n ∧ wb ≠ ub ∧ B < wb ∧ B < ub ∧ wb < B + 3 ∧ ub < B + 3 ∧ W.heap.size = B + 3 ∧ Hid (Row 1 B W wv n (iv (List.replicate n 0))) ∧ Hid (Grid ub (B + 3) W (List.replicate n [])) ∧
    W.cell? ⟨B, 0, none⟩ = some nv ∧ W.cell? ⟨B, 1, none⟩ = some gv ∧ Hid (Below B w W)
theorem made_int {w : World} {n : Nat} (hn : n ≤ 1000000) {B : Nat} (hB : B ≤ w.heap.size) : Row 1 B (w.alloc (.cells (madeCells #[.int .i64 0] n) 3)) (.slice (some ⟨w.heap.size, 0, none⟩) n n) n (iv (List.replicate n 0)) :=
  row_new hB (by simp) (Nat.le_refl _) (by unfold maxLen; omega) (by simp [size_madeCells]) (.inl rfl) (fun j u hu => by
    have hj : j < n := by have := (List.getElem?_eq_some_iff.1 hu).1; simpa using this
    rw [iv, List.map_replicate, List.getElem?_replicate, if_pos hj] at hu
    cases hu
    simp [madeCells, hj, Nat.mod_one])
theorem made_nil {w : World} {n : Nat} : ∀ j, j < n → (w.alloc (.cells (madeCells #[.slice none 0 0] n) 55)).cell? ⟨w.heap.size, j, none⟩ = some (.slice none 0 0) ∧ (w.alloc (.cells (madeCells #[.slice none 0 0] n) 55)).frozen? ⟨w.heap.size, j, none⟩ = false := fun j hj => by
  constructor
  · rw [World.cell?_alloc_at _ _ _ _ rfl]
    simp [madeCells, hj, Nat.mod_one]
  · rw [World.frozen?_alloc_mark]
    simp
theorem usersA_1 (n : Nat) (hn : n ≤ 61) (nv gv : Value) (w : World) : UsersA n w.heap.size nv gv w (.slice (some ⟨w.heap.size + 1, 0, none⟩) n n) (.slice (some ⟨w.heap.size + 1 + 1, 0, none⟩) n n) ((((w.alloc (.cells #[nv, gv] 148)).alloc (.cells (madeCells #[.int .i64 0] n) 3)).alloc (.cells (madeCells #[.slice none 0 0] n) 55)).drew) := by
  obtain ⟨w1, h1⟩ : ∃ w1, w1 = w.alloc (.cells #[nv, gv] 148) := ⟨_, rfl⟩
  obtain ⟨w2, h2⟩ : ∃ w2, w2 = w1.alloc (.cells (madeCells #[.int .i64 0] n) 3) := ⟨_, rfl⟩
  have s1 : w1.heap.size = w.heap.size + 1 := by rw [h1]; simp
  have s2 : w2.heap.size = w.heap.size + 2 := by rw [h2]; simp [s1]
  rw [← h1, ← h2]
  have hr := made_int (w := w1) (n := n) (by omega) (B := w.heap.size) (by omega)
  rw [← h2, s1] at hr
  have hg := made_nil (w := w2) (n := n)
  rw [s2] at hg
  have hb1 : Below w.heap.size w w1 := by rw [h1]; exact (Below.refl _ _).alloc (Nat.le_refl _) _
  have hb2 : Below w1.heap.size w1 w2 := by rw [h2]; exact (Below.refl _ _).alloc (Nat.le_refl _) _
  have hb3 : Below w2.heap.size w2 (w2.alloc (.cells (madeCells #[.slice none 0 0] n) 55)) := (Below.refl _ _).alloc (Nat.le_refl _) _
  have hc : ∀ j v, w1.cell? ⟨w.heap.size, j, none⟩ = some v → ((w2.alloc (.cells (madeCells #[.slice none 0 0] n) 55)).drew).cell? ⟨w.heap.size, j, none⟩ = some v := fun j v hv =>
    (hb3.cell (p := ⟨w.heap.size, j, none⟩) (by rw [s2]; show w.heap.size < _; omega)).trans ((hb2.cell (p := ⟨w.heap.size, j, none⟩) (by rw [s1]; show w.heap.size < _; omega)).trans hv)
  refine ⟨_, _, rfl, rfl, by omega, by omega, by omega, by omega, by omega, by show (w2.alloc _).heap.size = _; simp [s2], Lib.hid ((hr.alloc _).drew), Lib.hid ?_, hc 0 _ (by rw [h1, World.cell?_alloc_at _ _ _ _ rfl]; rfl), hc 1 _ (by rw [h1, World.cell?_alloc_at _ _ _ _ rfl]; rfl), Lib.hid ?_⟩
  · exact grid_new (by show _ < (w2.alloc _).heap.size; simp [s2]) (by omega) hg
  · exact (hb1.trans ((hb2.trans (hb3.mono (by omega))).mono (by omega))).drew
theorem usersA_2 (n : Nat) (hn : n ≤ 61) (nv gv : Value) (w : World) : UsersA n w.heap.size nv gv w (.slice (some ⟨w.heap.size + 1 + 1, 0, none⟩) n n) (.slice (some ⟨w.heap.size + 1, 0, none⟩) n n) ((((w.alloc (.cells #[nv, gv] 148)).alloc (.cells (madeCells #[.slice none 0 0] n) 55)).alloc (.cells (madeCells #[.int .i64 0] n) 3)).drew) := by
  obtain ⟨w1, h1⟩ : ∃ w1, w1 = w.alloc (.cells #[nv, gv] 148) := ⟨_, rfl⟩
  obtain ⟨w2, h2⟩ : ∃ w2, w2 = w1.alloc (.cells (madeCells #[.slice none 0 0] n) 55) := ⟨_, rfl⟩
  have s1 : w1.heap.size = w.heap.size + 1 := by rw [h1]; simp
  have s2 : w2.heap.size = w.heap.size + 2 := by rw [h2]; simp [s1]
  rw [← h1, ← h2]
  have hr := made_int (w := w2) (n := n) (by omega) (B := w.heap.size) (by omega)
  rw [s2] at hr
  have hg := made_nil (w := w1) (n := n)
  rw [← h2, s1] at hg
  have hb1 : Below w.heap.size w w1 := by rw [h1]; exact (Below.refl _ _).alloc (Nat.le_refl _) _
  have hb2 : Below w1.heap.size w1 w2 := by rw [h2]; exact (Below.refl _ _).alloc (Nat.le_refl _) _
  have hb3 : Below w2.heap.size w2 (w2.alloc (.cells (madeCells #[.int .i64 0] n) 3)) := (Below.refl _ _).alloc (Nat.le_refl _) _
  have hc : ∀ j v, w1.cell? ⟨w.heap.size, j, none⟩ = some v → ((w2.alloc (.cells (madeCells #[.int .i64 0] n) 3)).drew).cell? ⟨w.heap.size, j, none⟩ = some v := fun j v hv =>
    (hb3.cell (p := ⟨w.heap.size, j, none⟩) (by rw [s2]; show w.heap.size < _; omega)).trans ((hb2.cell (p := ⟨w.heap.size, j, none⟩) (by rw [s1]; show w.heap.size < _; omega)).trans hv)
  refine ⟨_, _, rfl, rfl, by omega, by omega, by omega, by omega, by omega, by show (w2.alloc _).heap.size = _; simp [s2], Lib.hid hr.drew, Lib.hid ?_, hc 0 _ (by rw [h1, World.cell?_alloc_at _ _ _ _ rfl]; rfl), hc 1 _ (by rw [h1, World.cell?_alloc_at _ _ _ _ rfl]; rfl), Lib.hid ?_⟩
  · have hg2 : Grid (w.heap.size + 1) (w.heap.size + 3) w2 (List.replicate n []) := grid_new (by omega) (by omega) hg
    have := hg2.below hb3
    exact ⟨this.lt, this.bs, this.each, this.apart⟩
  · exact (hb1.trans ((hb2.trans (hb3.mono (by omega))).mono (by omega))).drew
set_option maxHeartbeats 1000000 in
set_option maxRecDepth 100000 in
theorem users_any (ns : Lb) (n : Nat) (need : Int → List Int) (nv gv : Value) (w : World) (hw : Web w nv gv ns ((List.range n).map fun u : Nat => need (u : Int))) (hns : ns.length = n) (hn : n ≤ 61) (hM : ∀ u : Nat, (need (u : Int)).length ≤ 401) (hR : ∀ u : Nat, u < n → ∀ d ∈ need (u : Int), d = -1 ∨ ∃ v : Nat, v < n ∧ d = (v : Int)) :
    Calls Tryz.prog 108 #[.agg #[nv, gv]] w fun e w' => ∃ wb ub wc uc s, e = .returned (.tuple #[.slice (some ⟨wb, 0, none⟩) n wc, .slice (some ⟨ub, 0, none⟩) n uc]) ∧ wb ≠ ub ∧ wb < s ∧ w.heap.size ≤ wb ∧ w.heap.size ≤ ub ∧ Row 1 w.heap.size w' (.slice (some ⟨wb, 0, none⟩) n wc) n (iv (waitsL need n n)) ∧ Grid ub s w' (gridU need n n 0) ∧ Below w.heap.size w w' := by
  obtain ⟨gb, gs, gc, hgv, hgc, hgm, hgr⟩ := hw.rows
  obtain ⟨na, nc, hnv, _⟩ := hw.names.form
  rw [hns] at hgv hgc hnv
  subst hgv; subst hnv
  have HG := Lib.hid hgr
  have hgl := hgr.lt
  have HM := Lib.hid hM
  have HR := Lib.hid hR
  have mk1 := run_make_row' (P := Tryz.prog) 55 3 (.int .i64 0) 8 Tryz.underlying55 infoI6 rfl .i64 .i64 n (by omega) (by omega)
  have mk2 := run_make_row' (P := Tryz.prog) 146 55 (.slice none 0 0) 24 Tryz.underlying146 infoL6 rfl .i64 .i64 n (by omega) (by omega)
  have MK1 := Lib.hid mk1
  have MK2 := Lib.hid mk2
  clear hw hgr hM hR hns
  go_enter Tryz.func108, Tryz.ntmps108
  go_wp2_with fail
  go_cut [4, 5] from 10 to 17 (fun wv uv W => UsersA n w.heap.size (.slice na n nc) (.slice (some ⟨gb, 0, none⟩) n gc) w wv uv W)
  case first =>
    have U1 := Lib.hid (usersA_1 n hn (.slice na n nc) (.slice (some ⟨gb, 0, none⟩) n gc) w)
    have U2 := Lib.hid (usersA_2 n hn (.slice na n nc) (.slice (some ⟨gb, 0, none⟩) n gc) w)
    go_region
    · go_wp2_with fail
      go_meet
      exact U1.out
    · go_wp2_with fail
      go_meet
      exact U2.out
  case rest =>
    obtain ⟨wb, ub, rfl, rfl, hne, h1, h2, h3, h4, hsz, HW, HG2, hb0, hb1, HBW⟩ := hcut
    obtain ⟨S0, hS0⟩ : ∃ S0, S0 = w.heap.size + 3 := ⟨_, rfl⟩
    rw [← hS0] at HG2 h3 h4 hsz
    clear mk1 mk2
    go_wp2_with fail
    go_loopw [21] (fun jv wr => ∃ i : Nat, jv = .int .i64 (i : Nat) ∧ i ≤ n ∧ Hid (Row 1 w.heap.size wr (.slice (some ⟨wb, 0, none⟩) n n) n (iv (waitsL need n i))) ∧ Hid (Grid ub S0 wr (gridU need n i 0)) ∧ Hid (Below w.heap.size w wr) ∧ S0 ≤ wr.heap.size) (fun jv _ => n - (intOf jv).toNat)
    case atStart => exact ⟨0, rfl, Nat.zero_le _, Lib.hid (by rw [waitsL_zero]; exact HW.out), Lib.hid (by rw [gridU_begin]; exact HG2.out), HBW, by omega⟩
    case round =>
      obtain ⟨i, rfl, hin, HWI, HGI, HB, hszr⟩ := hrel
      by_cases hlt : i < n
      · obtain ⟨vi, hvi, _, hvr⟩ := HG.out.each i (need (i : Int)) (by simp [hlt])
        obtain ⟨L, hL⟩ : ∃ L, L = (need (i : Int)).length := ⟨_, rfl⟩
        rw [← hL] at hvr
        have hLM : L ≤ 401 := by rw [hL]; exact HM.out i
        obtain ⟨va, vc, hve, hLc, hcm⟩ := hvr.form'
        subst hve
        have hci : wr.cell? ⟨gb, i, none⟩ = some (.slice va L vc) := (HB.out.cell (p := ⟨gb, i, none⟩) hgl).trans hvi
        obtain ⟨x0, hx0⟩ : ∃ x0, (iv (waitsL need n i))[i]? = some x0 := ⟨_, List.getElem?_eq_getElem (by rw [iv_len, waitsL_len]; exact hlt)⟩
        obtain ⟨hcw, hfw, _, _, _, _⟩ := HWI.out.cellF hx0
        have HVR := Lib.hid hvr
        have HLL := Lib.hid hL
        have hr2 : Row 1 w.heap.size (wr.setCell ⟨wb, i, none⟩ (.int .i64 L)) (.slice (some ⟨wb, 0, none⟩) n n) n (iv (waitsL need n (i + 1))) := by
          have := HWI.out.put (j := i) (by rw [iv_len, waitsL_len]; exact hlt) (.int .i64 L)
          rw [iv_set] at this
          rw [← waitsL_step hlt, ← hL]
          exact this
        have ho2 : Off (fun k => k = wb) wr (wr.setCell ⟨wb, i, none⟩ (.int .i64 L)) := (Off.refl (fun k => k = wb) wr).setCell (p := ⟨wb, i, none⟩) (.inr rfl) _
        have HR2 := Lib.hid hr2
        have HG3 := Lib.hid (HGI.out.off ho2 (fun e => hne e.symm) (fun k hk _ e => by omega))
        have HB2 := Lib.hid (HB.out.trans (ho2.below (B := w.heap.size) (fun k hk => by omega) (by have := HB.out.size; omega)))
        have hs2 : S0 ≤ (wr.setCell ⟨wb, i, none⟩ (.int .i64 L)).heap.size := by have := ho2.size; omega
        clear hvi hvr hx0 hr2 ho2 hL
        go_wp2_with fail
        obtain ⟨w0, rfl⟩ : ∃ w0, w0 = wr := ⟨wr, rfl⟩
        go_loopw [33] (fun jv wi => ∃ j : Nat, jv = .int .i64 (j : Nat) ∧ j ≤ L ∧ Hid (Row 1 w.heap.size wi (.slice (some ⟨wb, 0, none⟩) n n) n (iv (waitsL need n (i + 1)))) ∧ Hid (Grid ub S0 wi (gridU need n i j)) ∧ Hid (Below w.heap.size w wi) ∧ S0 ≤ wi.heap.size) (fun jv _ => L - (intOf jv).toNat)
        case atStart => exact ⟨0, rfl, Nat.zero_le _, HR2, HG3, HB2, hs2⟩
        case round =>
          obtain ⟨j, rfl, hjL, HWJ, HGJ, HBJ, hszj⟩ := hrel
          by_cases hlt2 : j < L
          · obtain ⟨y, hy⟩ : ∃ y, (need (i : Int))[j]? = some y := ⟨_, List.getElem?_eq_getElem (by rw [← HLL.out]; exact hlt2)⟩
            obtain ⟨b0, c0, hve0, _, hb0l, _, _, _, hx7⟩ := HVR.out.pos (by omega)
            injection hve0 with hve1 _ hve2
            subst hve1; subst hve2
            have hcy : wr.cell? ⟨b0, j, none⟩ = some (.int .i64 y) := (HBJ.out.cell (p := ⟨b0, j, none⟩) hb0l).trans (hx7 j _ (by simp [iv, hy]))
            have hyr := HR.out i hlt y (List.mem_of_getElem? hy)
            have HY := Lib.hid hy
            clear hy hx7
            by_cases hy1 : y = -1
            · subst hy1
              have HG4 := Lib.hid (show Grid ub S0 wr (gridU need n i (j + 1)) by rw [gridU_skip HY.out]; exact HGJ.out)
              clear hyr
              go_wp2_with fail
              exact ⟨⟨j + 1, by go_num, by omega, HWJ, HG4, HBJ, hszj⟩, by simp [intOf]; omega⟩
            · obtain ⟨d, hd, rfl⟩ := hyr.resolve_left hy1
              have e1 : ((d : Int) == (-1 : Int)) = false := by rw [beq_eq_false_iff_ne]; omega
              obtain ⟨gv, hgv, hgf, hgrr⟩ := HGJ.out.each d _ (gridU_at hd)
              obtain ⟨m, hm⟩ : ∃ m, m = (useM need i j (d : Int)).length := ⟨_, rfl⟩
              have hml := useM_len need 401 HM.out (d : Int) i j
              rw [← hm] at hgrr hml
              have hm6 : m ≤ 100000 := by
                have : i * 401 ≤ 61 * 401 := Nat.mul_le_mul_right 401 (by omega)
                omega
              obtain ⟨ga, gc2, hge⟩ := hgrr.form
              subst hge
              have hul := HGJ.out.lt
              have hsrc : Src Tryz.prog 1 55 (.slice (some ⟨wr.heap.size, 0, none⟩) 1 1) 1 [.int .i64 (i : Int)] (wr.alloc (.cells #[.int .i64 (i : Int)] 3)) := src_new Tryz.underlying55 [.int .i64 (i : Int)] 1 3 1 rfl one6
              have HSRC := Lib.hid hsrc
              have HGR := Lib.hid hgrr
              have HRA := Lib.hid (hgrr.alloc (.cells #[.int .i64 (i : Int)] 3))
              have hszw : S0 ≤ (wr.alloc (.cells #[.int .i64 (i : Int)] 3)).heap.size := by simp; omega
              have hnu : ¬ (Value.slice ga m gc2).ownBlock = some ub := fun e => by have := (hgrr.lt ub e).1; have := HGJ.out.bs; omega
              have hula : ub < (wr.alloc (.cells #[.int .i64 (i : Int)] 3)).heap.size := by simp; omega
              have HGV := Lib.hid hgv
              have hgva : (wr.alloc (.cells #[.int .i64 (i : Int)] 3)).cell? ⟨ub, d, none⟩ = some (.slice ga m gc2) := (((Below.refl _ wr).alloc (Nat.le_refl _) _).cell (p := ⟨ub, d, none⟩) hul).trans hgv
              have hgfa : (wr.alloc (.cells #[.int .i64 (i : Int)] 3)).frozen? ⟨ub, d, none⟩ = false := (((Below.refl _ wr).alloc (Nat.le_refl _) _).frozen (p := ⟨ub, d, none⟩) hul).trans hgf
              have HGA := Lib.hid hgva
              have HFA := Lib.hid hgfa
              have HMM := Lib.hid hm
              clear hsrc hgrr hyr hml hm hgva hgfa
              go_wp2_with (at_builtin; refine wpList_append_row rfl (.tmp 44) (.tmp 46) 55 55 rfl 1 3 (.int .i64 0) 8 Tryz.underlying55 infoI6 rfl S0 (.slice ga m gc2) m (iv (useM need i j (d : Int))) (by simp [Act.eval]) HRA.out (.slice (some ⟨wr.heap.size, 0, none⟩) 1 1) (by simp [Act.eval]) 1 [.int .i64 (i : Int)] HSRC.out hszw (by omega) (by decide) ?_; intro v6 w6 hr6 ho6 hw6; obtain ⟨a6, c6, hv6⟩ := hr6.form; subst hv6; have k6 := (ho6.cell (p := ⟨ub, d, none⟩) hula hnu).trans HGA.out; have f6 := (ho6.frozen (p := ⟨ub, d, none⟩) hula hnu).trans HFA.out; have HR6 := Lib.hid hr6; have HO6 := Lib.hid ho6; have HW6 := Lib.hid hw6; clear hr6 ho6 hw6)
              have hoa : Off (fun k => (Value.slice ga m gc2).ownBlock = some k) wr w6 := ((Off.refl _ wr).alloc _).trans HO6.out
              have hlen : m + 1 = (useM need i j (d : Int)).length + 1 := by rw [HMM.out]
              have hr6' := HR6.out
              rw [hlen] at hr6'
              have hgp := HGJ.out.push (x := (i : Int)) (gridU_at hd) HGV.out hoa hr6' (by
                rw [← hlen]
                rcases HW6.out with h | h
                · exact .inl h
                · exact .inr ⟨_, h, by simp⟩)
              rw [← gridU_put hd HY.out, ← hlen] at hgp
              have hpo := HGJ.out.pushed (v' := .slice a6 (m + 1) c6) (gridU_at hd) HGV.out hoa
              have hrw := HWJ.out.off hpo (fun k hk hz => by have hk : wb = k := Option.some.inj hk; omega)
              have hbb := HBJ.out.trans (hpo.below (B := w.heap.size) (fun k hk => by omega) (by have := HBJ.out.size; omega))
              exact ⟨⟨j + 1, by go_num, by omega, Lib.hid hrw, Lib.hid hgp, Lib.hid hbb, by have := hpo.size; omega⟩, by simp [intOf]; omega⟩
          · have hje : j = L := by omega
            have HG5 := Lib.hid (show Grid ub S0 wr (gridU need n (i + 1) 0) by rw [← gridU_end, ← HLL.out, ← hje]; exact HGJ.out)
            go_wp2_with fail
            exact ⟨⟨i + 1, by go_num, by omega, HWJ, HG5, HBJ, hszj⟩, by simp [intOf]; omega⟩
      · have hie : i = n := by omega
        subst hie
        go_wp2_with fail
        go_ret2
        exact ⟨wb, ub, _, _, S0, rfl, hne, h3, by omega, by omega, HWI.out, HGI.out, HB.out⟩
end Go.Proofs.YtojnagonhihknaaGreatDoor
/- The mathematics that line's loops want. -/
set_option linter.unusedVariables false
namespace Go.Proofs.YtojnagonhihknaaGreatDoor
open Go.ChangeShapes Go.WideShapes Go.ChangeAt Go.RowKit

def readyL (need : Int → List Int) (i : Nat) : List Int := ((List.range i).filter fun u : Nat => (need (u : Int)).length == 0).map fun u : Nat => (u : Int)
theorem readyL_step (need : Int → List Int) (i : Nat) : readyL need (i + 1) = if (need (i : Int)).length = 0 then readyL need i ++ [(i : Int)] else readyL need i := by
  unfold readyL
  rw [List.range_succ, List.filter_append, List.map_append]
  by_cases h : (need (i : Int)).length = 0
  · simp [h]
  · have : ((need (i : Int)).length == 0) = false := by simpa using h
    simp [this, h]
theorem readyL_len (need : Int → List Int) (i : Nat) : (readyL need i).length ≤ i := by
  unfold readyL
  rw [List.length_map]
  exact Nat.le_trans (List.length_filter_le _ _) (by simp)
theorem readyL_heap (need : Int → List Int) (i : Nat) : Heap (readyL need i) (readyL need i).length := by
  have hp : (readyL need i).Pairwise (· < ·) := by
    unfold readyL
    rw [List.pairwise_map]
    refine (List.Pairwise.filter _ List.pairwise_lt_range).imp ?_
    intro a b h
    omega
  refine rising_heap (fun a b hab hb => ?_)
  have h := List.pairwise_iff_getElem.1 hp a b (by omega) hb hab
  rw [List.getD_eq_getElem?_getD, List.getD_eq_getElem?_getD, List.getElem?_eq_getElem (by omega), List.getElem?_eq_getElem hb]
  exact Int.le_of_lt h
theorem readyL_ready (need : Int → List Int) (n : Nat) : Readied need n [] (readyL need n) := by
  constructor
  · intro u hu
    have hc : canB need [] u = ((need (u : Int)).length == 0) := by
      unfold canB
      rw [wait_begin]
      simp
    rw [hc]
    have hnd : (readyL need n).Nodup := by
      unfold readyL
      rw [List.nodup_iff_pairwise_ne, List.pairwise_map]
      refine (List.Pairwise.filter _ List.pairwise_lt_range).imp ?_
      intro a b h
      omega
    by_cases h : (need (u : Int)).length = 0
    · have hm : (u : Int) ∈ readyL need n := by
        unfold readyL
        exact List.mem_map.2 ⟨u, List.mem_filter.2 ⟨List.mem_range.2 hu, by simpa using h⟩, rfl⟩
      rw [if_pos (by simpa using h)]
      have h1 := List.nodup_iff_count.1 hnd (u : Int)
      have h2 := List.count_pos_iff.2 hm
      omega
    · rw [if_neg (by simpa using h)]
      refine List.count_eq_zero.2 (fun hm => ?_)
      unfold readyL at hm
      obtain ⟨v, hv, e⟩ := List.mem_map.1 hm
      obtain rfl : v = u := by omega
      exact h (by simpa using (List.mem_filter.1 hv).2)
  · intro x hx
    unfold readyL at hx
    obtain ⟨v, hv, rfl⟩ := List.mem_map.1 hx
    exact ⟨v, List.mem_range.1 (List.mem_filter.1 hv).1, rfl⟩
theorem ready_len {need : Int → List Int} {n : Nat} {told r : List Int} (h : Readied need n told r) : r.length ≤ n := by
  refine nodup_len (List.nodup_iff_count.2 fun x => ?_) h.2
  by_cases hx : x ∈ r
  · obtain ⟨u, hu, rfl⟩ := h.2 x hx
    rw [h.1 u hu]
    split <;> omega
  · rw [List.count_eq_zero.2 hx]; omega
def outV (ns : Lb) (told : List Int) : List Value := told.map fun u => Value.string (ns.getD u.toNat ByteArray.empty)
theorem outV_snoc (ns : Lb) (told : List Int) (u : Nat) : outV ns (told ++ [(u : Int)]) = outV ns told ++ [.string (ns.getD u ByteArray.empty)] := by simp [outV]
def slLen : Value → Nat
  | .slice _ l _ => l
  | _ => 0
theorem waitsL_full (need : Int → List Int) {n u : Nat} (h : u < n) : (waitsL need n n).getD u 0 = (waitK need [] (u : Int) : Nat) := by
  rw [wait_begin, List.getD_eq_getElem?_getD]
  simp [waitsL, h]
theorem lowered_at {n : Nat} {W0 us W r1 r : List Int} {j v : Nat} (h : Lowered n W0 us j W r1 r) (hj : j < us.length) (hv : v < n) (e : us[j] = (v : Int)) (hb : ((us.count (v : Int) : Nat) : Int) ≤ W0.getD v 0) : 0 < W.getD v 0 ∧ W.getD v 0 ≤ W0.getD v 0 := by
  have h1 := (h.2 v hv).1
  have hc2 := take_count hj (v : Int)
  have hm : (us.take (j + 1)).count (v : Int) ≤ us.count (v : Int) := count_take_le
  rw [e, if_pos rfl] at hc2
  omega
theorem wait_le (need : Int → List Int) (told : List Int) (u : Int) : waitK need told u ≤ (need u).length := List.countP_le_length
end Go.Proofs.YtojnagonhihknaaGreatDoor
