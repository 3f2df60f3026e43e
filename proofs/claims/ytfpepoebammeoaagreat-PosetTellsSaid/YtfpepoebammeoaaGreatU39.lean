/- Of package poset: reaches. -/
import Derived.Test.YtfpepoebammeoaaGreatU34
import Derived.Test.YtfpepoebammeoaaGreatU38
import Derived.Test.YtfpepoebammeoaaGreatU6
set_option linter.unusedVariables false
set_option linter.unusedSimpArgs false
namespace Go.Proofs.YtfpepoebammeoaaGreat
open Go.ChangeShapes Go.WideShapes Go.ChangeAt Go.RowKit Go.Shelf
attribute [local go_sem] Oper.semAt_some

theorem max_three {P : Program} (ts : Array TypeId) (t : TypeId) (x y z : Int) (w : World) : (Builtin.max_ ts t #[.int .i64 x, .int .i64 y, .int .i64 z]).run P w = .ok (.int .i64 (max x (max y z))) w := by
  simp [Builtin.max_, Builtin.max2]
  repeat' split
  all_goals first | omega | (simp; omega)
theorem min_three {P : Program} (ts : Array TypeId) (t : TypeId) (x y z : Int) (w : World) : (Builtin.min_ ts t #[.int .i64 x, .int .i64 y, .int .i64 z]).run P w = .ok (.int .i64 (min x (min y z))) w := by
  simp [Builtin.min_, Builtin.min2]
  repeat' split
  all_goals first | omega | (simp; omega)
theorem put_pair {B b sz i : Nat} {w : World} {f g : Nat → Int} {x y : Int} (h : Row 2 B w (.slice (some ⟨b, 0, none⟩) sz sz) sz (rcv f g sz)) (hi : i < sz) : Row 2 B ((w.setCell ⟨b, i * 2, none⟩ (.int .i64 x)).setCell ⟨b, i * 2 + 1, none⟩ (.int .i64 y)) (.slice (some ⟨b, 0, none⟩) sz sz) sz (rcv (updI f i x) (updI g i y) sz) := by
  have h1 := h.put (j := i * 2) (by rw [rcv_len]; omega) (.int .i64 x)
  rw [rcv_set1 hi] at h1
  have h2 := h1.put (j := i * 2 + 1) (by rw [rcv_len]; omega) (.int .i64 y)
  rw [rcv_set2 hi] at h2
  exact h2
theorem off_pair {Z : Nat → Prop} {a w : World} {b i : Nat} {u v : Value} (h : Off Z a w) (hb : Z b) : Off Z a ((w.setCell ⟨b, i * 2, none⟩ u).setCell ⟨b, i * 2 + 1, none⟩ v) := (h.setCell (p := ⟨b, i * 2, none⟩) (.inr hb) u).setCell (p := ⟨b, i * 2 + 1, none⟩) (.inr hb) v
def rcL (oo : Nat → Int) (zs : List (Int × Int)) (m : Int) (pre : List (IXL zs)) : Nat → Int := pre.foldl (fun g x => onS oo g ((zs[x.1]'x.2).1.toNat, (zs[x.1]'x.2).2.toNat)) fun _ => m
theorem rcL_snoc (oo : Nat → Int) (zs : List (Int × Int)) (m : Int) (pre : List (IXL zs)) (x : IXL zs) : rcL oo zs m (pre ++ [x]) = onS oo (rcL oo zs m pre) ((zs[x.1]'x.2).1.toNat, (zs[x.1]'x.2).2.toNat) := by simp [rcL]
theorem rcL_all (oo : Nat → Int) (m : Int) (E : EdN) : rcL oo (toI E) m (ixl (toI E) (toI E).length) = onA oo m E := by
  have h1 : rcL oo (toI E) m (ixl (toI E) (toI E).length) = ((ixl (toI E) (toI E).length).map fun x => (toI E)[x.1]'x.2).foldl (fun g e => onS oo g (e.1.toNat, e.2.toNat)) fun _ => m := by
    unfold rcL
    rw [List.foldl_map]
  rw [h1, ixl_map _ _ (Nat.le_refl _), Nat.sub_self, List.drop_zero]
  unfold onA toI
  rw [← List.map_reverse, List.foldl_map]
  rfl
def RcC (p9 p5 rb nb sz : Nat) (rv ov : Value) (f g ob oo : Nat → Int) (W : World) : Prop :=
  (W.cell? ⟨p9, 0, none⟩ = some rv ∧ W.cell? ⟨p5, 0, none⟩ = some ov) ∧ Row 2 rb W rv sz (rcv f g sz) ∧ Row 2 nb W ov sz (rcv ob oo sz)
theorem RcC.kept {p9 p5 rb nb sz : Nat} {rv ov : Value} {f g ob oo : Nat → Int} {W W' : World} {row : Option Nat} (h : RcC p9 p5 rb nb sz rv ov f g ob oo W) (hg : W.grownBy W' row) (hr : ∀ r, row = some r → ∃ o : Obj, W.heap[r]? = some o ∧ o.isCells = false) : RcC p9 p5 rb nb sz rv ov f g ob oo W' := by
  obtain ⟨⟨a0, a1⟩, h1, h2⟩ := h
  exact ⟨⟨cell_kept a0 hg hr, cell_kept a1 hg hr⟩, h1.kept hg hr, h2.kept hg hr⟩
theorem RcC.below {p9 p5 rb nb sz : Nat} {rv ov : Value} {f g ob oo : Nat → Int} {W W' : World} (h : RcC p9 p5 rb nb sz rv ov f g ob oo W) (hb : Below W.heap.size W W') : RcC p9 p5 rb nb sz rv ov f g ob oo W' := by
  obtain ⟨⟨a0, a1⟩, h1, h2⟩ := h
  exact ⟨⟨(hb.cell (p := ⟨p9, 0, none⟩) (cell_lt a0)).trans a0, (hb.cell (p := ⟨p5, 0, none⟩) (cell_lt a1)).trans a1⟩, h1.below hb, h2.below hb⟩
set_option maxHeartbeats 8000000 in
set_option maxRecDepth 100000 in
theorem reaches_any (D m sz : Nat) (ta : Option Addr) (tc : Nat) (ev lv : Value) (E : EdN) (L : List Int) (w : World) (hlv : RI w lv (L.map fun x => (D : Int) + x)) (hre : RE w ev (toI E)) (hlen : L.length = m) (hin : ∀ x ∈ L, 0 ≤ x ∧ x < (m : Int)) (hnd : L.Nodup) (hsz : sz = D + m) (hm : m ≤ 100000) (hD : D ≤ 200000) (hE : ∀ e ∈ E, e.1 < sz ∧ e.2 < sz) (hEl : E.length ≤ 100000) :
    Calls Tryz.prog 64 #[.agg #[.slice ta m tc, .int .i64 (D : Int), ev], lv] w fun e w' => ∃ rv, e = .returned rv ∧ Row 2 w.heap.size w' rv sz (rcv (bkA (ownB D L L.length) E) (onA (ownO D L L.length) m E) sz) ∧ Below w.heap.size w w' := by
  obtain ⟨la, lc, hlvf⟩ := hlv.form
  rw [List.length_map, hlen] at hlvf
  subst hlvf
  obtain ⟨ea, ec, hevf⟩ := hre.form
  obtain ⟨K, hK⟩ : ∃ K, K = E.length := ⟨_, rfl⟩
  have hKI : (toI E).length = K := by rw [hK]; simp [toI]
  rw [hKI] at hevf
  subst hevf
  have mk1 := make_reach sz (by omega)
  have HSZA := Lib.hid (fun W => size_any ta m tc D (.slice ea K ec) W (by omega) (by omega))
  rw [← hsz] at HSZA
  obtain ⟨S, hS⟩ : ∃ S, S = w.heap.size := ⟨_, rfl⟩
  obtain ⟨bx, hbx⟩ : ∃ bx : Obj, bx = .cells #[.slice ta m tc, .int .i64 (D : Int), .slice ea K ec] 59 := ⟨_, rfl⟩
  rw [← hbx] at HSZA
  have hsz9 : sz ≤ 300000 := by omega
  have HLV := Lib.hid hlv
  have HRE := Lib.hid hre
  have HIN := Lib.hid hin
  have HND := Lib.hid hnd
  have HLN := Lib.hid hlen
  have HSZ := Lib.hid hsz
  have HEB := Lib.hid hE
  have HKL := Lib.hid hK
  have HKI := Lib.hid hKI
  have HBX := Lib.hid hbx
  have HS := Lib.hid hS
  have hmx : Tryz.prog.follows .mixedOrders = true := by kernel_rfl
  have hK9 : K ≤ 100000 := by rw [hK]; exact hEl
  clear hlv hre hin hnd hlen hsz hE hK hKI hEl
  refine (callsIn_wide (n := 6)).1 ?_
  refine callsIn_of_wp_marks Tryz.func64 rfl trivial ?_ rfl
  simp only [Tryz.ntmps64, List.size_toArray, List.length_cons, List.length_nil, Nat.reduceAdd, Nat.reduceSub, Array.replicate_succ, Array.replicate_zero, List.push_toArray, List.append_toArray, List.nil_append, List.cons_append]
  gi_wp2_with fail
  rw [← HBX.out]
  refine ⟨trivial, (callsIn_wide.2 (HSZA.out _)).mono ?_⟩
  rintro e w2 ⟨rfl, rfl⟩
  clear hbx
  gi_wp2_with fail
  rw [← hS]
  clear hS
  obtain ⟨W1, hW1⟩ : ∃ W1, W1 = ((((w.alloc bx).alloc bx).alloc (.cells (madeCells #[.int .i64 0, .int .i64 0] (sz * 2)) 92)).alloc (.cells #[.slice (some ⟨S + 1 + 1, 0, none⟩) sz sz] 86)) := ⟨_, rfl⟩
  obtain ⟨nb, hnb⟩ : ∃ nb, nb = S + 1 + 1 := ⟨_, rfl⟩
  obtain ⟨p5, hp5⟩ : ∃ p5, p5 = S + 1 + 1 + 1 := ⟨_, rfl⟩
  have hs1 : W1.heap.size = S + 4 := by rw [hW1, HS.out]; simp
  have hB1 : Below w.heap.size w W1 := by rw [hW1]; exact ((((Below.refl _ _).alloc (Nat.le_refl _) _).alloc (by simp) _).alloc (by simp; omega) _).alloc (by simp; omega) _
  have cb : ∀ j, W1.cell? ⟨S, j, none⟩ = (#[.slice ta m tc, .int .i64 (D : Int), .slice ea K ec] : Array Value)[j]? := fun j => by
    rw [hW1, HBX.out, HS.out, World.cell?_alloc_past _ _ _ (by simp only [World.size_alloc]; omega), World.cell?_alloc_past _ _ _ (by simp only [World.size_alloc]; omega), World.cell?_alloc_past _ _ _ (by simp only [World.size_alloc]; omega), World.cell?_alloc_at _ _ _ _ rfl]
  have cb0 : W1.cell? ⟨S, 0, none⟩ = some (.slice ta m tc) := cb 0
  have cb1 : W1.cell? ⟨S, 1, none⟩ = some (.int .i64 (D : Int)) := cb 1
  have cb2 : W1.cell? ⟨S, 2, none⟩ = some (.slice ea K ec) := cb 2
  have c5 : W1.cell? ⟨p5, 0, none⟩ = some (.slice (some ⟨nb, 0, none⟩) sz sz) := by
    rw [hW1, hp5, hnb, World.cell?_alloc_at _ _ _ _ (by simp only [World.size_alloc]; rw [HS.out])]; rfl
  have hrow : Row 2 nb W1 (.slice (some ⟨nb, 0, none⟩) sz sz) sz (rcv (upC (-1) 0) (upC (m : Int) 0) sz) := by
    rw [hW1, hnb, rcv_ext (f' := fun _ => 0) (g' := fun _ => 0) (fun i _ => by simp [upC])]
    have h := made_reach (w := (w.alloc bx).alloc bx) (n := sz) (B := S + 1 + 1) (by omega) (by rw [HS.out]; simp) 92
    rw [World.size_alloc, World.size_alloc, ← HS.out] at h
    exact h.alloc _
  rw [← hW1]
  rw [← hp5]
  rw [← hnb]
  have HNB := Lib.hid hnb
  have HP5 := Lib.hid hp5
  have HS1 := Lib.hid hs1
  have HB1 := Lib.hid hB1
  have HROW1 := Lib.hid hrow
  have HCB := Lib.hid (And.intro cb0 (And.intro cb1 (And.intro cb2 c5)))
  clear hW1 hnb hp5 hs1 hB1 cb cb0 cb1 cb2 c5 hrow mk1
  have hmm : (0 : Int) ≤ (m : Int) := by omega
  gi_loopw [19] (fun jv wr => ∃ j : Nat, jv = .int .i64 (j : Nat) ∧ j ≤ sz ∧ Hid (Row 2 nb wr (.slice (some ⟨nb, 0, none⟩) sz sz) sz (rcv (upC (-1) j) (upC (m : Int) j) sz)) ∧ Hid (Off (fun i => i = nb) W1 wr)) (fun jv _ => sz - (intOf jv).toNat)
  case atStart => exact ⟨0, rfl, Nat.zero_le _, HROW1, Lib.hid (Off.refl _ _)⟩
  case round =>
    obtain ⟨j, rfl, hj, HO, HOF⟩ := hrel
    have hs1 := HS1.out
    have hnb := HNB.out
    have hp5 := HP5.out
    have c5 := (HOF.out.cell (p := ⟨p5, 0, none⟩) (by show p5 < _; omega) (by show ¬ p5 = nb; omega)).trans HCB.out.2.2.2
    clear hs1 hnb hp5
    by_cases hlj : j < sz
    · have hjI : (j : Int) < (sz : Int) := by omega
      obtain ⟨ca, fa, _⟩ := HO.out.cellK (rcv_at (upC (-1) j) (upC (m : Int) j) hlj).1
      obtain ⟨cb, fb, _⟩ := HO.out.cellK (rcv_at (upC (-1) j) (upC (m : Int) j) hlj).2
      have hp := put_pair (x := -1) (y := (m : Int)) HO.out hlj
      rw [rcv_ext (f' := upC (-1) (j + 1)) (g' := upC (m : Int) (j + 1)) (fun i _ => by
        unfold updI upC
        by_cases e : i = j
        · rw [if_pos e, if_pos e, if_pos (by omega), if_pos (by omega)]; exact ⟨rfl, rfl⟩
        · rw [if_neg e, if_neg e]
          by_cases e2 : i < j
          · rw [if_pos e2, if_pos e2, if_pos (by omega), if_pos (by omega)]; exact ⟨rfl, rfl⟩
          · rw [if_neg e2, if_neg e2, if_neg (by omega), if_neg (by omega)]; exact ⟨rfl, rfl⟩)] at hp
      have HP := Lib.hid hp
      have HOF9 := Lib.hid (off_pair (i := j) (u := .int .i64 (-1)) (v := .int .i64 (m : Int)) HOF.out (rfl : (fun i => i = nb) nb))
      clear hp
      gi_wp2_with fail
      exact ⟨⟨j + 1, by go_num, by omega, HP, HOF9⟩, by simp [intOf]; omega⟩
    · have hje : sz = j := by omega
      have HN0 := Lib.hid (show Row 2 nb wr (.slice (some ⟨nb, 0, none⟩) sz sz) sz (rcv (ownB D L 0) (ownO D L 0) sz) by
        have h := HO.out
        rw [rcv_ext (f' := ownB D L 0) (g' := ownO D L 0) (fun i hi => by
          obtain ⟨a, b⟩ := own_zero D L i
          rw [a, b, HLN.out]
          unfold upC
          rw [if_pos (by omega), if_pos (by omega)]
          exact ⟨rfl, rfl⟩)] at h
        exact h)
      subst hje
      clear HO
      gi_wp2_with fail
      gi_loopw [31] (fun jv wr => ∃ j : Nat, jv = .int .i64 (j : Nat) ∧ j ≤ m ∧ Hid (Row 2 nb wr (.slice (some ⟨nb, 0, none⟩) sz sz) sz (rcv (ownB D L j) (ownO D L j) sz)) ∧ Hid (Off (fun i => i = nb) W1 wr)) (fun jv _ => m - (intOf jv).toNat)
      case atStart => exact ⟨0, rfl, Nat.zero_le _, HN0, HOF⟩
      case round =>
        obtain ⟨j, rfl, hj, HO, HOF⟩ := hrel
        have hs1 := HS1.out
        have hnb := HNB.out
        have hp5 := HP5.out
        have hSS := HS.out
        have hwsz := HOF.out.size
        have c5 := (HOF.out.cell (p := ⟨p5, 0, none⟩) (by show p5 < _; omega) (by show ¬ p5 = nb; omega)).trans HCB.out.2.2.2
        have cb0 := (HOF.out.cell (p := ⟨S, 0, none⟩) (by show S < _; omega) (by show ¬ S = nb; omega)).trans HCB.out.1
        have cb1 := (HOF.out.cell (p := ⟨S, 1, none⟩) (by show S < _; omega) (by show ¬ S = nb; omega)).trans HCB.out.2.1
        have cb2 := (HOF.out.cell (p := ⟨S, 2, none⟩) (by show S < _; omega) (by show ¬ S = nb; omega)).trans HCB.out.2.2.1
        have hBwr : Below w.heap.size w wr := HB1.out.trans (HOF.out.below (fun i hi => by rw [hi]; omega) HB1.out.size)
        clear hs1 hnb hp5 hwsz hSS
        by_cases hlj : j < m
        · obtain ⟨i, hi⟩ : ∃ i, L[j]? = some i := ⟨L[j]'(by rw [HLN.out]; exact hlj), by simp⟩
          have hin := HIN.out i (List.mem_of_getElem? hi)
          obtain ⟨i0, rfl⟩ : ∃ i0 : Nat, i = (i0 : Int) := ⟨i.toNat, by omega⟩
          have HOW := Lib.hid (fun y => own_step (D := D) HND.out hi y)
          have hLj : (L.map fun x => (D : Int) + x)[j]? = some ((D + i0 : Nat) : Int) := by rw [List.getElem?_map, hi]; simp
          obtain ⟨d, hd⟩ : ∃ d, d = D + i0 := ⟨_, rfl⟩
          rw [← hd] at hLj HOW
          have hds : d < sz := by have := HSZ.out; omega
          have hdI : (d : Int) < (sz : Int) := by omega
          obtain ⟨vb, vo, rfl, hvb, hvc1, hvc2, cl⟩ := HLV.out.at hLj
          have cl := (hBwr.cell (p := ⟨vb, _, none⟩) hvb).trans cl
          obtain ⟨ca, fa, _⟩ := HO.out.cellK (rcv_at (ownB D L j) (ownO D L j) hds).1
          obtain ⟨cb, fb, _⟩ := HO.out.cellK (rcv_at (ownB D L j) (ownO D L j) hds).2
          have hp := put_pair (x := (j : Int)) (y := (j : Int)) HO.out hds
          rw [rcv_ext (f' := ownB D L (j + 1)) (g' := ownO D L (j + 1)) (fun i _ => by
            obtain ⟨a, b⟩ := HOW.out i
            rw [a, b]
            exact ⟨rfl, rfl⟩)] at hp
          have HP := Lib.hid hp
          have HOF9 := Lib.hid (off_pair (i := d) (u := .int .i64 (j : Int)) (v := .int .i64 (j : Int)) HOF.out (rfl : (fun i => i = nb) nb))
          unfold maxLen at hvc2
          clear hp hi hin hLj hd hBwr cb0 cb1 cb2
          gi_wp2_with fail
          exact ⟨⟨j + 1, by go_num, by omega, HP, HOF9⟩, by simp [intOf]; omega⟩
        · have hje : m = j := by omega
          have HOWN := Lib.hid (show Row 2 nb wr (.slice (some ⟨nb, 0, none⟩) sz sz) sz (rcv (ownB D L m) (ownO D L m) sz) by rw [hje]; exact HO.out)
          have HBW := Lib.hid hBwr
          subst hje
          clear HO hBwr
          obtain ⟨wy, rfl⟩ : ∃ wy, wy = wr := ⟨wr, rfl⟩
          have hSw : S < wy.heap.size := by have := HOF.out.size; have := HS1.out; omega
          have hnbw : nb + 1 < wy.heap.size := by have := HOF.out.size; have := HS1.out; have := HNB.out; omega
          have hp5n : p5 = nb + 1 := by have := HNB.out; have := HP5.out; omega
          obtain ⟨Wa, hWa⟩ : ∃ Wa, Wa = wy.alloc (.cells #[.int .i64 (-1), .int .i64 (m : Int)] 92) := ⟨_, rfl⟩
          have hBa : Below wy.heap.size wy Wa := by rw [hWa]; exact (Below.refl _ _).alloc (Nat.le_refl _) _
          have hBb : Below wy.heap.size wy (Wa.alloc bx) := hBa.alloc hBa.size _
          have HRP := Lib.hid (repeat_any wy.heap.size (-1) (m : Int) sz (Wa.alloc bx) (by
            rw [World.cell?_alloc_past _ _ _ (by rw [hWa]; simp), hWa, World.cell?_alloc_at _ _ _ _ rfl]; rfl) (by
            rw [World.cell?_alloc_past _ _ _ (by rw [hWa]; simp), hWa, World.cell?_alloc_at _ _ _ _ rfl]; rfl) (by omega))
          have HWA := Lib.hid hWa
          have HBB := Lib.hid hBb
          have HBXY := Lib.hid (And.intro cb0 (And.intro cb1 (And.intro cb2 c5)))
          have hwas : (Wa.alloc bx).heap.size = wy.heap.size + 2 := by rw [hWa]; simp
          have HWAS := Lib.hid hwas
          have HPN := Lib.hid hp5n
          have HNBW := Lib.hid hnbw
          clear hWa hBa hBb hwas hp5n hnbw hj
          gi_wp2_with fail
          rw [← HWA.out]
          refine ⟨trivial, (callsIn_wide.2 (HSZA.out _)).mono ?_⟩
          rintro e w6 ⟨rfl, rfl⟩
          gi_wp2_with fail
          refine ⟨trivial, (callsIn_wide.2 HRP.out).mono ?_⟩
          rintro e w7 ⟨rfl, hrow7, hb7⟩
          obtain ⟨rb, hrb⟩ : ∃ rb, rb = (Wa.alloc bx).heap.size := ⟨_, rfl⟩
          rw [← hrb] at hrow7 hb7
          have hrb2 : rb = wy.heap.size + 2 := by rw [hrb]; exact HWAS.out
          have hBy7 : Below wy.heap.size wy w7 := HBB.out.trans (hb7.mono (by omega))
          obtain ⟨p9, hp9⟩ : ∃ p9, p9 = w7.heap.size := ⟨_, rfl⟩
          obtain ⟨W8, hW8⟩ : ∃ W8, W8 = w7.alloc (.cells #[.slice (some ⟨rb, 0, none⟩) sz sz] 86) := ⟨_, rfl⟩
          have hBy8 : Below wy.heap.size wy W8 := by rw [hW8]; exact hBy7.alloc hBy7.size _
          have c9 : W8.cell? ⟨p9, 0, none⟩ = some (.slice (some ⟨rb, 0, none⟩) sz sz) := by rw [hW8, hp9, World.cell?_alloc_at _ _ _ _ rfl]; rfl
          have hrow8 : Row 2 rb W8 (.slice (some ⟨rb, 0, none⟩) sz sz) sz (rcv (bkA (ownB D L m) (E.take 0)) (fun _ => (m : Int)) sz) := by
            have h := hrow7.alloc (.cells #[.slice (some ⟨rb, 0, none⟩) sz sz] 86)
            rw [← hW8] at h
            exact h
          have hrbp9 : rb < p9 := by rw [hp9]; exact (hrow7.lt rb rfl).2
          have hp98 : W8.heap.size = p9 + 1 := by rw [hW8, hp9]; simp
          have y0 := (hBy8.cell (p := ⟨S, 0, none⟩) hSw).trans HBXY.out.1
          have y1 := (hBy8.cell (p := ⟨S, 1, none⟩) hSw).trans HBXY.out.2.1
          have y2 := (hBy8.cell (p := ⟨S, 2, none⟩) hSw).trans HBXY.out.2.2.1
          have y5 := (hBy8.cell (p := ⟨p5, 0, none⟩) (by show p5 < _; have := HPN.out; have := HNBW.out; omega)).trans HBXY.out.2.2.2
          have HROW8 := Lib.hid hrow8
          have HOWN8 := Lib.hid (HOWN.out.below hBy8)
          have HB8 := Lib.hid (HBW.out.trans (hBy8.mono HBW.out.size))
          have HY := Lib.hid (And.intro y0 (And.intro y1 (And.intro y2 (And.intro y5 c9))))
          have HRB := Lib.hid (show nb + 1 < rb ∧ rb < p9 ∧ p9 + 1 = W8.heap.size ∧ S < nb ∧ p5 = nb + 1 ∧ w.heap.size = S from ⟨by have := HNBW.out; omega, hrbp9, hp98.symm, by have := HNB.out; omega, HPN.out, HS.out.symm⟩)
          have yw2 := (hBy7.cell (p := ⟨S, 2, none⟩) hSw).trans HBXY.out.2.2.1
          have hSw7 : S < w7.heap.size := Nat.lt_of_lt_of_le hSw hBy7.size
          clear hrow7 hb7 hrb2 hBy7 hBy8 hrow8 hrbp9 hp98 y0 y1 y2 y5 c9 hSw cb0 cb1 cb2 c5
          rw [← hrb]
          clear hrb
          gi_wp2_with fail
          rw [← hp9, ← hW8]
          clear hp9 hW8
          gi_loopw [53] (fun jv wr => ∃ j : Nat, jv = .int .i64 (j : Nat) ∧ j ≤ K ∧ Hid (Row 2 rb wr (.slice (some ⟨rb, 0, none⟩) sz sz) sz (rcv (bkA (ownB D L m) (E.take j)) (fun _ => (m : Int)) sz)) ∧ Hid (Off (fun i => i = rb) W8 wr)) (fun jv _ => K - (intOf jv).toNat)
          case atStart => exact ⟨0, rfl, Nat.zero_le _, HROW8, Lib.hid (Off.refl _ _)⟩
          case round =>
            obtain ⟨j, rfl, hj, HO, HOF⟩ := hrel
            obtain ⟨k1, k2, k3, k4, k5, k6⟩ := HRB.out
            have hszr := HOF.out.size
            have x9 := (HOF.out.cell (p := ⟨p9, 0, none⟩) (by show p9 < _; omega) (by show ¬ p9 = rb; omega)).trans HY.out.2.2.2.2
            have x5 := (HOF.out.cell (p := ⟨p5, 0, none⟩) (by show p5 < _; omega) (by show ¬ p5 = rb; omega)).trans HY.out.2.2.2.1
            have x2 := (HOF.out.cell (p := ⟨S, 2, none⟩) (by show S < _; omega) (by show ¬ S = rb; omega)).trans HY.out.2.2.1
            have hOwn := HOWN8.out.off HOF.out (fun i hi e => by
              have e2 : nb = i := by simpa [Value.ownBlock] using hi
              omega)
            have hBwr : Below w.heap.size w wr := HB8.out.trans (HOF.out.below (fun i hi => by rw [hi]; omega) HB8.out.size)
            by_cases hlj : j < K
            · obtain ⟨e, he⟩ : ∃ e, E[j]? = some e := ⟨E[j]'(by rw [← HKL.out]; exact hlj), by simp⟩
              have heb := HEB.out e (List.mem_of_getElem? he)
              have HBK := Lib.hid (bkA_take (ob := ownB D L m) he)
              have heI : (toI E)[j]? = some ((e.1 : Int), (e.2 : Int)) := by simp [toI, he]
              obtain ⟨x, y⟩ := e
              obtain ⟨vb, vo, rfl, hvb, hvc1, hvc2, d0, d1⟩ := HRE.out.at heI
              have d0 := (hBwr.cell (p := ⟨vb, _, none⟩) hvb).trans d0
              have d1 := (hBwr.cell (p := ⟨vb, _, none⟩) hvb).trans d1
              simp only at d0 d1 heb
              obtain ⟨hx, hy⟩ := heb
              have hxI : (x : Int) < (sz : Int) := by omega
              have hyI : (y : Int) < (sz : Int) := by omega
              obtain ⟨v1, hv1⟩ : ∃ v1, v1 = bkA (ownB D L m) (E.take j) y := ⟨_, rfl⟩
              obtain ⟨v2, hv2⟩ : ∃ v2, v2 = bkA (ownB D L m) (E.take j) x := ⟨_, rfl⟩
              obtain ⟨v3, hv3⟩ : ∃ v3, v3 = ownB D L m x := ⟨_, rfl⟩
              obtain ⟨g1, gf, _⟩ := HO.out.cellK (rcv_at (bkA (ownB D L m) (E.take j)) (fun _ => (m : Int)) hy).1
              obtain ⟨g2, _⟩ := HO.out.cellK (rcv_at (bkA (ownB D L m) (E.take j)) (fun _ => (m : Int)) hx).1
              obtain ⟨g3, _⟩ := hOwn.cellK (rcv_at (ownB D L m) (ownO D L m) hx).1
              rw [← hv1] at g1
              rw [← hv2] at g2
              rw [← hv3] at g3
              obtain ⟨z, hz⟩ : ∃ z, z = wr.heap.size := ⟨_, rfl⟩
              obtain ⟨wz, hwz⟩ : ∃ wz, wz = wr.alloc (.cells #[.int .i64 (x : Int), .int .i64 (y : Int)] 36) := ⟨_, rfl⟩
              have hbz : Below wr.heap.size wr wz := by rw [hwz]; exact (Below.refl _ _).alloc (Nat.le_refl _) _
              have z0 : wz.cell? ⟨z, 0, none⟩ = some (.int .i64 (x : Int)) := by rw [hwz, hz, World.cell?_alloc_at _ _ _ _ rfl]; rfl
              have z1 : wz.cell? ⟨z, 1, none⟩ = some (.int .i64 (y : Int)) := by rw [hwz, hz, World.cell?_alloc_at _ _ _ _ rfl]; rfl
              have u9 := (hbz.cell (p := ⟨p9, 0, none⟩) (by show p9 < _; omega)).trans x9
              have u5 := (hbz.cell (p := ⟨p5, 0, none⟩) (by show p5 < _; omega)).trans x5
              have u1 := (hbz.cell (p := ⟨rb, y * 2, none⟩) (by show rb < _; omega)).trans g1
              have u2 := (hbz.cell (p := ⟨rb, x * 2, none⟩) (by show rb < _; omega)).trans g2
              have u3 := (hbz.cell (p := ⟨nb, x * 2, none⟩) (by show nb < _; omega)).trans g3
              have uf := (hbz.frozen (p := ⟨rb, y * 2, none⟩) (by show rb < _; omega)).trans gf
              have HST : Hid (wz.drew.cell? ⟨p9, 0, none⟩ = some (.slice (some ⟨rb, 0, none⟩) sz sz) ∧ wz.drew.cell? ⟨p5, 0, none⟩ = some (.slice (some ⟨nb, 0, none⟩) sz sz) ∧ wz.drew.cell? ⟨z, 0, none⟩ = some (.int .i64 (x : Int)) ∧ wz.drew.cell? ⟨z, 1, none⟩ = some (.int .i64 (y : Int)) ∧ wz.drew.cell? ⟨rb, y * 2, none⟩ = some (.int .i64 v1) ∧ wz.drew.cell? ⟨rb, x * 2, none⟩ = some (.int .i64 v2) ∧ wz.drew.cell? ⟨nb, x * 2, none⟩ = some (.int .i64 v3) ∧ wz.drew.frozen? ⟨rb, y * 2, none⟩ = false) := Lib.hid ⟨u9, u5, z0, z1, u1, u2, u3, uf⟩
              have hput := (HO.out.below hbz).put (j := y * 2) (by rw [rcv_len]; omega) (.int .i64 (max v1 (max v2 v3)))
              rw [rcv_set1 hy, show updI (bkA (ownB D L m) (E.take j)) y (max v1 (max v2 v3)) = bkA (ownB D L m) (E.take (j + 1)) by rw [HBK.out, hv1, hv2, hv3]; unfold bkS; rw [Int.max_assoc]] at hput
              have HPUT := Lib.hid hput
              have HOF9 := Lib.hid ((HOF.out.trans (Off.of_below hbz)).setCell (p := ⟨rb, y * 2, none⟩) (.inr rfl) (.int .i64 (max v1 (max v2 v3))))
              have HWZ := Lib.hid hwz
              unfold maxLen at hvc2
              clear hput hv1 hv2 hv3 hbz hwz z0 z1 u9 u5 u1 u2 u3 uf g1 g2 g3 gf x9 x5 hOwn hBwr he heI k5 k6
              have hmx3 := fun (ts : Array TypeId) (t : TypeId) (w : World) => max_three (P := Tryz.prog) ts t v1 v2 v3 w
              gi_wp2_with fail
              rw [← hz, ← HWZ.out]
              clear hz
              refine wpIn_region_til (S := (fun W => W.cell? ⟨p9, 0, none⟩ = some (.slice (some ⟨rb, 0, none⟩) sz sz) ∧ W.cell? ⟨p5, 0, none⟩ = some (.slice (some ⟨nb, 0, none⟩) sz sz) ∧ W.cell? ⟨z, 0, none⟩ = some (.int .i64 (x : Int)) ∧ W.cell? ⟨z, 1, none⟩ = some (.int .i64 (y : Int)) ∧ W.cell? ⟨rb, y * 2, none⟩ = some (.int .i64 v1) ∧ W.cell? ⟨rb, x * 2, none⟩ = some (.int .i64 v2) ∧ W.cell? ⟨nb, x * 2, none⟩ = some (.int .i64 v3) ∧ W.frozen? ⟨rb, y * 2, none⟩ = false)) 24 hmx (by kernel_rfl) ?_ (fun hHeld => ?_)
              · exact HST.out
              refine tkT 0 ⟨some 57, .load 86 (.tmp 9), 86, "board.go:105", #[], none⟩ ?_
              try simp only [Act.put, List.setIfInBounds_toArray, List.set_cons_zero, List.set_cons_succ]
              refine tkT 1 ⟨some 58, .indexAddr 36 (.tmp 11) (.const (Value.int IntKind.i64 1)), 0, "board.go:105", #[], none⟩ ?_
              try simp only [Act.put, List.setIfInBounds_toArray, List.set_cons_zero, List.set_cons_succ]
              refine tkT 2 ⟨some 59, .load 3 (.tmp 58), 3, "board.go:105", #[⟨1, .data⟩], none⟩ ?_
              try simp only [Act.put, List.setIfInBounds_toArray, List.set_cons_zero, List.set_cons_succ]
              refine tkT 3 ⟨some 60, .load 86 (.tmp 9), 86, "board.go:105", #[], none⟩ ?_
              try simp only [Act.put, List.setIfInBounds_toArray, List.set_cons_zero, List.set_cons_succ]
              refine tkT 4 ⟨some 61, .indexAddr 36 (.tmp 11) (.const (Value.int IntKind.i64 1)), 0, "board.go:105", #[], none⟩ ?_
              try simp only [Act.put, List.setIfInBounds_toArray, List.set_cons_zero, List.set_cons_succ]
              refine tkT 5 ⟨some 62, .load 3 (.tmp 61), 3, "board.go:105", #[⟨4, .data⟩], none⟩ ?_
              try simp only [Act.put, List.setIfInBounds_toArray, List.set_cons_zero, List.set_cons_succ]
              refine tkT 6 ⟨some 63, .indexAddr 86 (.tmp 60) (.tmp 62), 0, "board.go:105", #[⟨3, .data⟩, ⟨5, .data⟩], none⟩ ?_
              try simp only [Act.put, List.setIfInBounds_toArray, List.set_cons_zero, List.set_cons_succ]
              refine tkT 7 ⟨some 64, .fieldAddr 92 (.tmp 63) 0, 0, "board.go:105", #[⟨6, .data⟩], none⟩ ?_
              try simp only [Act.put, List.setIfInBounds_toArray, List.set_cons_zero, List.set_cons_succ]
              refine tkT 8 ⟨some 65, .load 3 (.tmp 64), 3, "board.go:105", #[⟨7, .data⟩], none⟩ ?_
              try simp only [Act.put, List.setIfInBounds_toArray, List.set_cons_zero, List.set_cons_succ]
              refine tkT 9 ⟨some 66, .load 86 (.tmp 9), 86, "board.go:105", #[], none⟩ ?_
              try simp only [Act.put, List.setIfInBounds_toArray, List.set_cons_zero, List.set_cons_succ]
              refine tkT 10 ⟨some 67, .indexAddr 36 (.tmp 11) (.const (Value.int IntKind.i64 0)), 0, "board.go:105", #[], none⟩ ?_
              try simp only [Act.put, List.setIfInBounds_toArray, List.set_cons_zero, List.set_cons_succ]
              refine tkT 11 ⟨some 68, .load 3 (.tmp 67), 3, "board.go:105", #[⟨10, .data⟩], none⟩ ?_
              try simp only [Act.put, List.setIfInBounds_toArray, List.set_cons_zero, List.set_cons_succ]
              refine tkT 12 ⟨some 69, .indexAddr 86 (.tmp 66) (.tmp 68), 0, "board.go:105", #[⟨9, .data⟩, ⟨11, .data⟩], none⟩ ?_
              try simp only [Act.put, List.setIfInBounds_toArray, List.set_cons_zero, List.set_cons_succ]
              refine tkT 13 ⟨some 70, .fieldAddr 92 (.tmp 69) 0, 0, "board.go:105", #[⟨12, .data⟩], none⟩ ?_
              try simp only [Act.put, List.setIfInBounds_toArray, List.set_cons_zero, List.set_cons_succ]
              refine tkT 14 ⟨some 71, .load 3 (.tmp 70), 3, "board.go:105", #[⟨13, .data⟩], none⟩ ?_
              try simp only [Act.put, List.setIfInBounds_toArray, List.set_cons_zero, List.set_cons_succ]
              refine tkT 15 ⟨some 72, .load 86 (.tmp 5), 86, "board.go:105", #[], none⟩ ?_
              try simp only [Act.put, List.setIfInBounds_toArray, List.set_cons_zero, List.set_cons_succ]
              refine tkT 16 ⟨some 73, .indexAddr 36 (.tmp 11) (.const (Value.int IntKind.i64 0)), 0, "board.go:105", #[], none⟩ ?_
              try simp only [Act.put, List.setIfInBounds_toArray, List.set_cons_zero, List.set_cons_succ]
              refine tkT 17 ⟨some 74, .load 3 (.tmp 73), 3, "board.go:105", #[⟨16, .data⟩], none⟩ ?_
              try simp only [Act.put, List.setIfInBounds_toArray, List.set_cons_zero, List.set_cons_succ]
              refine tkT 18 ⟨some 75, .indexAddr 86 (.tmp 72) (.tmp 74), 0, "board.go:105", #[⟨15, .data⟩, ⟨17, .data⟩], none⟩ ?_
              try simp only [Act.put, List.setIfInBounds_toArray, List.set_cons_zero, List.set_cons_succ]
              refine tkT 19 ⟨some 76, .fieldAddr 92 (.tmp 75) 0, 0, "board.go:105", #[⟨18, .data⟩], none⟩ ?_
              try simp only [Act.put, List.setIfInBounds_toArray, List.set_cons_zero, List.set_cons_succ]
              refine tkT 20 ⟨some 77, .load 3 (.tmp 76), 3, "board.go:105", #[⟨19, .data⟩], none⟩ ?_
              try simp only [Act.put, List.setIfInBounds_toArray, List.set_cons_zero, List.set_cons_succ]
              refine tkT 21 ⟨some 78, .call { callee := Callee.builtin Builtin.max, args := #[.tmp 65, .tmp 71, .tmp 77], argTypes := #[3, 3, 3] }, 3, "board.go:105", #[⟨8, .data⟩, ⟨14, .data⟩, ⟨20, .data⟩], none⟩ ?_
              try simp only [Act.put, List.setIfInBounds_toArray, List.set_cons_zero, List.set_cons_succ]
              refine til_one (i := 22) (o := ⟨some 79, .indexAddr 86 (.tmp 57) (.tmp 59), 0, "board.go:105", #[⟨0, .data⟩, ⟨2, .data⟩, ⟨0, .phase⟩, ⟨1, .phase⟩, ⟨2, .phase⟩, ⟨3, .phase⟩, ⟨4, .phase⟩, ⟨5, .phase⟩, ⟨6, .phase⟩, ⟨7, .phase⟩, ⟨8, .phase⟩, ⟨9, .phase⟩, ⟨10, .phase⟩, ⟨11, .phase⟩, ⟨12, .phase⟩, ⟨13, .phase⟩, ⟨14, .phase⟩, ⟨15, .phase⟩, ⟨16, .phase⟩, ⟨17, .phase⟩, ⟨18, .phase⟩, ⟨19, .phase⟩, ⟨20, .phase⟩, ⟨21, .phase⟩], none⟩) (by kernel_rfl) rfl (fun KK hK => ?_)
              go_simp
              refine hK.out _ _ ?_ (fun hHeld => ?_)
              · exact HST.out
              clear hK KK
              try simp only [Act.put, List.setIfInBounds_toArray, List.set_cons_zero, List.set_cons_succ]
              refine tkT 23 ⟨some 80, .fieldAddr 92 (.tmp 79) 0, 0, "board.go:105", #[⟨22, .data⟩, ⟨0, .phase⟩, ⟨1, .phase⟩, ⟨2, .phase⟩, ⟨3, .phase⟩, ⟨4, .phase⟩, ⟨5, .phase⟩, ⟨6, .phase⟩, ⟨7, .phase⟩, ⟨8, .phase⟩, ⟨9, .phase⟩, ⟨10, .phase⟩, ⟨11, .phase⟩, ⟨12, .phase⟩, ⟨13, .phase⟩, ⟨14, .phase⟩, ⟨15, .phase⟩, ⟨16, .phase⟩, ⟨17, .phase⟩, ⟨18, .phase⟩, ⟨19, .phase⟩, ⟨20, .phase⟩, ⟨21, .phase⟩], none⟩ ?_
              try simp only [Act.put, List.setIfInBounds_toArray, List.set_cons_zero, List.set_cons_succ]
              refine til_last (o := ⟨none, .store 3 (.tmp 80) (.tmp 78), 0, "board.go:105", #[⟨23, .data⟩, ⟨21, .data⟩, ⟨0, .phase⟩, ⟨1, .phase⟩, ⟨2, .phase⟩, ⟨3, .phase⟩, ⟨4, .phase⟩, ⟨5, .phase⟩, ⟨6, .phase⟩, ⟨7, .phase⟩, ⟨8, .phase⟩, ⟨9, .phase⟩, ⟨10, .phase⟩, ⟨11, .phase⟩, ⟨12, .phase⟩, ⟨13, .phase⟩, ⟨14, .phase⟩, ⟨15, .phase⟩, ⟨16, .phase⟩, ⟨17, .phase⟩, ⟨18, .phase⟩, ⟨19, .phase⟩, ⟨20, .phase⟩, ⟨21, .phase⟩], none⟩) (by kernel_rfl) rfl (by kernel_rfl) (fun KK hK => ?_)
              go_simp
              obtain ⟨_, _, _, _, q1, _, _, qf⟩ := hHeld
              go_simp
              refine hK.out _ _ ?_
              clear hK KK
              try simp only [Act.put, List.setIfInBounds_toArray, List.set_cons_zero, List.set_cons_succ]
              unfold normQ
              dsimp only
              gi_wp2_with fail
              exact ⟨⟨j + 1, by go_num, by omega, Lib.hid HPUT.out.drew, Lib.hid HOF9.out.drew⟩, by simp [intOf]; omega⟩
            · have hje : K = j := by omega
              have hall : E.take j = E := List.take_of_length_le (by rw [← HKL.out]; omega)
              have HROW := Lib.hid (show Row 2 rb wr (.slice (some ⟨rb, 0, none⟩) sz sz) sz (rcv (bkA (ownB D L m) E) (fun _ => (m : Int)) sz) by
                have h := HO.out
                rw [hall] at h
                exact h)
              have HOWN9 := Lib.hid hOwn
              have HBW9 := Lib.hid hBwr
              have HX := Lib.hid (And.intro x9 x5)
              obtain ⟨Bs, hBs⟩ : ∃ Bs, Bs = wr.heap.size := ⟨_, rfl⟩
              have hbsz : p9 < Bs := by omega
              obtain ⟨wq, rfl⟩ : ∃ wq, wq = wr := ⟨wr, rfl⟩
              subst hje
              clear HO hall hOwn hBwr k5 k6
              gi_wp2_with fail
              refine ⟨trivial, (callsIn_wide.2 (backwardE_in _ _ _ _)).mono ?_⟩
              rintro e w9 ⟨rfl, rfl⟩
              gi_wp2_with fail
              obtain ⟨W0, hW0⟩ : ∃ W0, W0 = wq.alloc (.cells #[.slice ea K ec] 22) := ⟨_, rfl⟩
              rw [← hBs]
              rw [← hW0]
              have hB0 : Below wq.heap.size wq W0 := by rw [hW0]; exact (Below.refl _ _).alloc (Nat.le_refl _) _
              have hs0 : W0.heap.size = Bs + 1 := by rw [hW0, hBs]; simp
              have cBs : W0.cell? ⟨Bs, 0, none⟩ = some (.slice ea K ec) := by rw [hW0, hBs, World.cell?_alloc_at _ _ _ _ rfl]; rfl
              have x9 := (hB0.cell (p := ⟨p9, 0, none⟩) (by show p9 < _; omega)).trans HX.out.1
              have x5 := (hB0.cell (p := ⟨p5, 0, none⟩) (by show p5 < _; have := HRB.out; omega)).trans HX.out.2
              have HRC := Lib.hid (show RcC p9 p5 rb nb sz (.slice (some ⟨rb, 0, none⟩) sz sz) (.slice (some ⟨nb, 0, none⟩) sz sz) (bkA (ownB D L m) E) (fun _ => (m : Int)) (ownB D L m) (ownO D L m) W0 from ⟨⟨x9, x5⟩, HROW.out.below hB0, HOWN9.out.below hB0⟩)
              have HBW0 := Lib.hid (HBW9.out.trans (hB0.mono HBW9.out.size))
              have HCB := Lib.hid cBs
              have HS0 := Lib.hid hs0
              have HBSZ := Lib.hid hbsz
              have hEv : ∀ (j : Nat) e, (toI E)[j]? = some e → ∃ b o, ea = some ⟨b, o, none⟩ ∧ b < w.heap.size ∧ W0.cell? ⟨b, o + j * 2, none⟩ = some (.int .i64 e.1) ∧ W0.cell? ⟨b, o + j * 2 + 1, none⟩ = some (.int .i64 e.2) := fun j e he => by
                obtain ⟨b, o, e1, hb, _, _, c0, c1⟩ := HRE.out.at he
                exact ⟨b, o, e1, hb, (HBW0.out.cell (p := ⟨b, _, none⟩) hb).trans c0, (HBW0.out.cell (p := ⟨b, _, none⟩) hb).trans c1⟩
              have HEV := Lib.hid hEv
              clear hW0 hB0 hs0 cBs x9 x5 hbsz hBs hEv
              refine wpIn_rangeFunc_ownH rfl (by omega) (gf := 113) (lb := #[.pointer (some ⟨Bs, 0, none⟩)]) rfl trivial (enters_of Tryz.func113 (by kernel_rfl) rfl)
                (backE_stops Fence.wide _ trivial rfl (by omega) Bs w.heap.size ea K ec (toI E) HKI.out.symm (by rw [HKI.out]; omega) W0 HBW0.out.size HCB.out HEV.out) (fun h k => Off.trans h k) (fun W l o o' hl ho _ _ => by
                  have hg := grownBy_putObj' W l o'
                  exact ⟨hg.os, hg.tape, hg.output, hg.size, fun i hi hz => hg.block i hi (fun e => hz (by injection e with e; have := HBW0.out.size; have := HS0.out; omega))⟩) (Below.refl _ _) (fun _ => rfl)
                (fun pre W => RcC p9 p5 rb nb sz (.slice (some ⟨rb, 0, none⟩) sz sz) (.slice (some ⟨nb, 0, none⟩) sz sz) (bkA (ownB D L m) E) (rcL (ownO D L m) (toI E) (m : Int) pre) (ownB D L m) (ownO D L m) W ∧ Below w.heap.size w W)
                (fun _ _ _ => False)
                (OwnFrom.and (Own.from (fun pre X Y row hs hg hr => hs.kept hg hr) _) (ownFrom_below (Nat.le_refl _) (by have := HBW0.out.size; omega)))
                (fun _ _ _ _ _ hs _ _ => hs)
                ⟨HRC.out, HBW0.out⟩
                (fun x a' W => ∃ Bx, (W.cell? ⟨Bx, 0, none⟩ = some (.int .i64 ((toI E)[x.1]'x.2).1) ∧ W.cell? ⟨Bx, 1, none⟩ = some (.int .i64 ((toI E)[x.1]'x.2).2)) ∧ a' = { tmps := #[.agg #[.slice ta m tc, .int .i64 (D : Int), .slice ea K ec], .slice la m lc, .pointer (some ⟨S, 0, none⟩), undef, .slice none 0 0, .pointer (some ⟨p5, 0, none⟩), u6, u7, u8, .pointer (some ⟨p9, 0, none⟩), undef, u11, undef, .pointer (some ⟨Bx, 0, none⟩), .agg #[.slice ta m tc, .int .i64 (D : Int), .slice ea K ec], .int .i64 (sz : Int), .slice (some ⟨nb, 0, none⟩) sz sz, .slice (some ⟨nb, 0, none⟩) sz sz, .int .i64 (sz : Int), .int .i64 (sz : Int), .bool false, u21, u22, u23, u24, u25, u26, u27, u28, .slice la m lc, .int .i64 (m : Int), .int .i64 (m : Int), .bool false, u33, u34, u35, u36, u37, u38, u39, u40, u41, u42, .slice la m lc, .int .i64 (m : Int), .agg #[.int .i64 (-1), .int .i64 (m : Int)], .slice (some ⟨wy.heap.size, 0, none⟩) 1 1, .agg #[.slice ta m tc, .int .i64 (D : Int), .slice ea K ec], .int .i64 (sz : Int), .slice (some ⟨rb, 0, none⟩) sz sz, .pointer (some ⟨S, 2, none⟩), .slice ea K ec, .int .i64 (K : Int), .int .i64 (K : Int), .bool false, u55, u56, u57, u58, u59, u60, u61, u62, u63, u64, u65, u66, u67, u68, u69, u70, u71, u72, u73, u74, u75, u76, u77, u78, u79, u80, u81, .pointer (some ⟨S, 2, none⟩), .slice ea K ec, .func (.func 113) #[] #[.pointer (some ⟨Bs, 0, none⟩)], .int .i64 (x.1 : Nat), .agg #[.int .i64 ((toI E)[x.1]'x.2).1, .int .i64 ((toI E)[x.1]'x.2).2], undef, undef, undef, undef, undef, undef, undef, undef, undef, undef, undef, undef, undef, undef, undef, undef, undef, undef, undef, undef, undef, undef, undef, undef, undef], defers := [] })
                (fun x a' _ X Y row hs hg hr => by
                  obtain ⟨Bx, ⟨c0, c1⟩, h3⟩ := hs
                  have hr' : ∀ r, row = some r → ∃ o : Obj, X.heap[r]? = some o ∧ o.isCells = false := fun r e => (hr r e).2
                  exact ⟨Bx, ⟨cell_kept c0 hg hr', cell_kept c1 hg hr'⟩, h3⟩)
                ?assign ?body ?done ?stop
              case assign =>
                rintro l pre x W K0 ⟨hA1, hB1⟩ hK
                have HK := Lib.hid hK
                have HA1 := Lib.hid hA1
                have HBB1 := Lib.hid hB1
                clear hK hA1 hB1
                gi_wp2_with fail
                refine HK.out _ _ ((KeepsOthers.alloc _ _).from _) ((Off.refl _ W).alloc _) ⟨HA1.out.below ((Below.refl _ W).alloc (Nat.le_refl _) _), HBB1.out.alloc HBB1.out.size _⟩ ⟨W.heap.size, ⟨?_, ?_⟩, rfl⟩
                all_goals exact World.cell?_alloc_at _ _ _ _ rfl
              case body =>
                rintro l pre x' a' W hl ⟨r, hlr⟩ ⟨hA1, hB1⟩ ⟨z, ⟨z0, z1⟩, rfl⟩ hplt
                have hsn := rcL_snoc (ownO D L m) (toI E) (m : Int) pre x'
                obtain ⟨e, he⟩ : ∃ e, e = (toI E)[x'.1]'x'.2 := ⟨_, rfl⟩
                have hem : e ∈ toI E := by rw [he]; exact List.getElem_mem _
                rw [← he] at z0 z1 hsn
                rw [← he]
                obtain ⟨⟨x, y⟩, hxy, hee⟩ := List.mem_map.1 hem
                subst hee
                have heb := HEB.out _ hxy
                simp only [Int.toNat_natCast] at z0 z1 hsn heb
                dsimp only
                obtain ⟨hx, hy⟩ := heb
                have hxI : (x : Int) < (sz : Int) := by omega
                have hyI : (y : Int) < (sz : Int) := by omega
                obtain ⟨G, hG⟩ : ∃ G, G = rcL (ownO D L m) (toI E) (m : Int) pre := ⟨_, rfl⟩
                rw [← hG] at hA1 hsn
                obtain ⟨⟨x9, x5⟩, hRow, hOwn⟩ := hA1
                obtain ⟨v1, hv1⟩ : ∃ v1, v1 = G x := ⟨_, rfl⟩
                obtain ⟨v2, hv2⟩ : ∃ v2, v2 = G y := ⟨_, rfl⟩
                obtain ⟨v3, hv3⟩ : ∃ v3, v3 = ownO D L m y := ⟨_, rfl⟩
                obtain ⟨g1, gf, _, hrbw, _⟩ := hRow.cellK (rcv_at (bkA (ownB D L m) E) G hx).2
                obtain ⟨g2, _⟩ := hRow.cellK (rcv_at (bkA (ownB D L m) E) G hy).2
                obtain ⟨g3, _⟩ := hOwn.cellK (rcv_at (ownB D L m) (ownO D L m) hy).2
                rw [← hv1] at g1
                rw [← hv2] at g2
                rw [← hv3] at g3
                have HST : Hid (W.drew.cell? ⟨p9, 0, none⟩ = some (.slice (some ⟨rb, 0, none⟩) sz sz) ∧ W.drew.cell? ⟨p5, 0, none⟩ = some (.slice (some ⟨nb, 0, none⟩) sz sz) ∧ W.drew.cell? ⟨z, 0, none⟩ = some (.int .i64 (x : Int)) ∧ W.drew.cell? ⟨z, 1, none⟩ = some (.int .i64 (y : Int)) ∧ W.drew.cell? ⟨rb, x * 2 + 1, none⟩ = some (.int .i64 v1) ∧ W.drew.cell? ⟨rb, y * 2 + 1, none⟩ = some (.int .i64 v2) ∧ W.drew.cell? ⟨nb, y * 2 + 1, none⟩ = some (.int .i64 v3) ∧ W.drew.frozen? ⟨rb, x * 2 + 1, none⟩ = false) := Lib.hid ⟨x9, x5, z0, z1, g1, g2, g3, gf⟩
                have hput := hRow.put (j := x * 2 + 1) (by rw [rcv_len]; omega) (.int .i64 (min v1 (min v2 v3)))
                rw [rcv_set2 hx, show updI G x (min v1 (min v2 v3)) = rcL (ownO D L m) (toI E) (m : Int) (pre ++ [x']) by rw [hsn, hv1, hv2, hv3]; unfold onS; rw [Int.min_assoc]] at hput
                have HPUT := Lib.hid hput
                have HCC := Lib.hid (And.intro x9 (And.intro x5 hOwn))
                have HBW := Lib.hid hB1
                have HRBW := Lib.hid hrbw
                have HHE := Lib.hid he
                have HGG := Lib.hid hG
                have hmn3 := fun (ts : Array TypeId) (t : TypeId) (w : World) => min_three (P := Tryz.prog) ts t v1 v2 v3 w
                clear hput hv1 hv2 hv3 g1 g2 g3 gf x9 x5 hOwn hRow hsn hem hxy hB1 z0 z1 he hG hrbw
                gi_wp2_with fail
                refine wpIn_region_til (S := (fun W => W.cell? ⟨p9, 0, none⟩ = some (.slice (some ⟨rb, 0, none⟩) sz sz) ∧ W.cell? ⟨p5, 0, none⟩ = some (.slice (some ⟨nb, 0, none⟩) sz sz) ∧ W.cell? ⟨z, 0, none⟩ = some (.int .i64 (x : Int)) ∧ W.cell? ⟨z, 1, none⟩ = some (.int .i64 (y : Int)) ∧ W.cell? ⟨rb, x * 2 + 1, none⟩ = some (.int .i64 v1) ∧ W.cell? ⟨rb, y * 2 + 1, none⟩ = some (.int .i64 v2) ∧ W.cell? ⟨nb, y * 2 + 1, none⟩ = some (.int .i64 v3) ∧ W.frozen? ⟨rb, x * 2 + 1, none⟩ = false)) 24 hmx (by kernel_rfl) ?_ (fun hHeld => ?_)
                · exact HST.out
                refine tkT 0 ⟨some 87, .load 86 (.tmp 9), 86, "board.go:108", #[], none⟩ ?_
                try simp only [Act.put, List.setIfInBounds_toArray, List.set_cons_zero, List.set_cons_succ]
                refine tkT 1 ⟨some 88, .indexAddr 36 (.tmp 13) (.const (Value.int IntKind.i64 0)), 0, "board.go:108", #[], none⟩ ?_
                try simp only [Act.put, List.setIfInBounds_toArray, List.set_cons_zero, List.set_cons_succ]
                refine tkT 2 ⟨some 89, .load 3 (.tmp 88), 3, "board.go:108", #[⟨1, .data⟩], none⟩ ?_
                try simp only [Act.put, List.setIfInBounds_toArray, List.set_cons_zero, List.set_cons_succ]
                refine tkT 3 ⟨some 90, .load 86 (.tmp 9), 86, "board.go:108", #[], none⟩ ?_
                try simp only [Act.put, List.setIfInBounds_toArray, List.set_cons_zero, List.set_cons_succ]
                refine tkT 4 ⟨some 91, .indexAddr 36 (.tmp 13) (.const (Value.int IntKind.i64 0)), 0, "board.go:108", #[], none⟩ ?_
                try simp only [Act.put, List.setIfInBounds_toArray, List.set_cons_zero, List.set_cons_succ]
                refine tkT 5 ⟨some 92, .load 3 (.tmp 91), 3, "board.go:108", #[⟨4, .data⟩], none⟩ ?_
                try simp only [Act.put, List.setIfInBounds_toArray, List.set_cons_zero, List.set_cons_succ]
                refine tkT 6 ⟨some 93, .indexAddr 86 (.tmp 90) (.tmp 92), 0, "board.go:108", #[⟨3, .data⟩, ⟨5, .data⟩], none⟩ ?_
                try simp only [Act.put, List.setIfInBounds_toArray, List.set_cons_zero, List.set_cons_succ]
                refine tkT 7 ⟨some 94, .fieldAddr 92 (.tmp 93) 1, 0, "board.go:108", #[⟨6, .data⟩], none⟩ ?_
                try simp only [Act.put, List.setIfInBounds_toArray, List.set_cons_zero, List.set_cons_succ]
                refine tkT 8 ⟨some 95, .load 3 (.tmp 94), 3, "board.go:108", #[⟨7, .data⟩], none⟩ ?_
                try simp only [Act.put, List.setIfInBounds_toArray, List.set_cons_zero, List.set_cons_succ]
                refine tkT 9 ⟨some 96, .load 86 (.tmp 9), 86, "board.go:108", #[], none⟩ ?_
                try simp only [Act.put, List.setIfInBounds_toArray, List.set_cons_zero, List.set_cons_succ]
                refine tkT 10 ⟨some 97, .indexAddr 36 (.tmp 13) (.const (Value.int IntKind.i64 1)), 0, "board.go:108", #[], none⟩ ?_
                try simp only [Act.put, List.setIfInBounds_toArray, List.set_cons_zero, List.set_cons_succ]
                refine tkT 11 ⟨some 98, .load 3 (.tmp 97), 3, "board.go:108", #[⟨10, .data⟩], none⟩ ?_
                try simp only [Act.put, List.setIfInBounds_toArray, List.set_cons_zero, List.set_cons_succ]
                refine tkT 12 ⟨some 99, .indexAddr 86 (.tmp 96) (.tmp 98), 0, "board.go:108", #[⟨9, .data⟩, ⟨11, .data⟩], none⟩ ?_
                try simp only [Act.put, List.setIfInBounds_toArray, List.set_cons_zero, List.set_cons_succ]
                refine tkT 13 ⟨some 100, .fieldAddr 92 (.tmp 99) 1, 0, "board.go:108", #[⟨12, .data⟩], none⟩ ?_
                try simp only [Act.put, List.setIfInBounds_toArray, List.set_cons_zero, List.set_cons_succ]
                refine tkT 14 ⟨some 101, .load 3 (.tmp 100), 3, "board.go:108", #[⟨13, .data⟩], none⟩ ?_
                try simp only [Act.put, List.setIfInBounds_toArray, List.set_cons_zero, List.set_cons_succ]
                refine tkT 15 ⟨some 102, .load 86 (.tmp 5), 86, "board.go:108", #[], none⟩ ?_
                try simp only [Act.put, List.setIfInBounds_toArray, List.set_cons_zero, List.set_cons_succ]
                refine tkT 16 ⟨some 103, .indexAddr 36 (.tmp 13) (.const (Value.int IntKind.i64 1)), 0, "board.go:108", #[], none⟩ ?_
                try simp only [Act.put, List.setIfInBounds_toArray, List.set_cons_zero, List.set_cons_succ]
                refine tkT 17 ⟨some 104, .load 3 (.tmp 103), 3, "board.go:108", #[⟨16, .data⟩], none⟩ ?_
                try simp only [Act.put, List.setIfInBounds_toArray, List.set_cons_zero, List.set_cons_succ]
                refine tkT 18 ⟨some 105, .indexAddr 86 (.tmp 102) (.tmp 104), 0, "board.go:108", #[⟨15, .data⟩, ⟨17, .data⟩], none⟩ ?_
                try simp only [Act.put, List.setIfInBounds_toArray, List.set_cons_zero, List.set_cons_succ]
                refine tkT 19 ⟨some 106, .fieldAddr 92 (.tmp 105) 1, 0, "board.go:108", #[⟨18, .data⟩], none⟩ ?_
                try simp only [Act.put, List.setIfInBounds_toArray, List.set_cons_zero, List.set_cons_succ]
                refine tkT 20 ⟨some 107, .load 3 (.tmp 106), 3, "board.go:108", #[⟨19, .data⟩], none⟩ ?_
                try simp only [Act.put, List.setIfInBounds_toArray, List.set_cons_zero, List.set_cons_succ]
                refine tkT 21 ⟨some 108, .call { callee := Callee.builtin Builtin.min, args := #[.tmp 95, .tmp 101, .tmp 107], argTypes := #[3, 3, 3] }, 3, "board.go:108", #[⟨8, .data⟩, ⟨14, .data⟩, ⟨20, .data⟩], none⟩ ?_
                try simp only [Act.put, List.setIfInBounds_toArray, List.set_cons_zero, List.set_cons_succ]
                refine til_one (i := 22) (o := ⟨some 109, .indexAddr 86 (.tmp 87) (.tmp 89), 0, "board.go:108", #[⟨0, .data⟩, ⟨2, .data⟩, ⟨0, .phase⟩, ⟨1, .phase⟩, ⟨2, .phase⟩, ⟨3, .phase⟩, ⟨4, .phase⟩, ⟨5, .phase⟩, ⟨6, .phase⟩, ⟨7, .phase⟩, ⟨8, .phase⟩, ⟨9, .phase⟩, ⟨10, .phase⟩, ⟨11, .phase⟩, ⟨12, .phase⟩, ⟨13, .phase⟩, ⟨14, .phase⟩, ⟨15, .phase⟩, ⟨16, .phase⟩, ⟨17, .phase⟩, ⟨18, .phase⟩, ⟨19, .phase⟩, ⟨20, .phase⟩, ⟨21, .phase⟩], none⟩) (by kernel_rfl) rfl (fun KK hK => ?_)
                go_simp
                refine hK.out _ _ ?_ (fun hHeld => ?_)
                · exact HST.out
                clear hK KK
                try simp only [Act.put, List.setIfInBounds_toArray, List.set_cons_zero, List.set_cons_succ]
                refine tkT 23 ⟨some 110, .fieldAddr 92 (.tmp 109) 1, 0, "board.go:108", #[⟨22, .data⟩, ⟨0, .phase⟩, ⟨1, .phase⟩, ⟨2, .phase⟩, ⟨3, .phase⟩, ⟨4, .phase⟩, ⟨5, .phase⟩, ⟨6, .phase⟩, ⟨7, .phase⟩, ⟨8, .phase⟩, ⟨9, .phase⟩, ⟨10, .phase⟩, ⟨11, .phase⟩, ⟨12, .phase⟩, ⟨13, .phase⟩, ⟨14, .phase⟩, ⟨15, .phase⟩, ⟨16, .phase⟩, ⟨17, .phase⟩, ⟨18, .phase⟩, ⟨19, .phase⟩, ⟨20, .phase⟩, ⟨21, .phase⟩], none⟩ ?_
                try simp only [Act.put, List.setIfInBounds_toArray, List.set_cons_zero, List.set_cons_succ]
                refine til_last (o := ⟨none, .store 3 (.tmp 110) (.tmp 108), 0, "board.go:108", #[⟨23, .data⟩, ⟨21, .data⟩, ⟨0, .phase⟩, ⟨1, .phase⟩, ⟨2, .phase⟩, ⟨3, .phase⟩, ⟨4, .phase⟩, ⟨5, .phase⟩, ⟨6, .phase⟩, ⟨7, .phase⟩, ⟨8, .phase⟩, ⟨9, .phase⟩, ⟨10, .phase⟩, ⟨11, .phase⟩, ⟨12, .phase⟩, ⟨13, .phase⟩, ⟨14, .phase⟩, ⟨15, .phase⟩, ⟨16, .phase⟩, ⟨17, .phase⟩, ⟨18, .phase⟩, ⟨19, .phase⟩, ⟨20, .phase⟩, ⟨21, .phase⟩], none⟩) (by kernel_rfl) rfl (by kernel_rfl) (fun KK hK => ?_)
                go_simp
                obtain ⟨_, _, _, _, q1, _, _, qf⟩ := hHeld
                go_simp
                refine hK.out _ _ ?_
                clear hK KK
                try simp only [Act.put, List.setIfInBounds_toArray, List.set_cons_zero, List.set_cons_succ]
                unfold normQ
                dsimp only
                gi_wp2_with fail
                obtain ⟨k1, k2, k3, k4, k5, k6⟩ := HRB.out
                have hO2 : Off (fun i => i = rb) W (World.drew (W.setCell ⟨rb, x * 2 + 1, none⟩ (.int .i64 (min v1 (min v2 v3))))) := ((Off.refl (fun i => i = rb) W).setCell (p := ⟨rb, x * 2 + 1, none⟩) (.inr rfl) _).drew
                have hb9 := HBSZ.out
                have hrw := HRBW.out
                refine ⟨?_, ?_, ?_⟩
                · have h9 := KeepsOthers.setCell W ⟨rb, x * 2 + 1, none⟩ (.int .i64 (min v1 (min v2 v3)))
                  exact KeepsOthers.from (⟨h9.1, h9.2⟩ : KeepsOthers W (World.drew (W.setCell ⟨rb, x * 2 + 1, none⟩ (.int .i64 (min v1 (min v2 v3)))))) _
                · exact hO2.mono (fun i hi => by rw [hi]; exact ⟨by omega, by omega⟩)
                · dsimp only
                  refine ⟨⟨⟨(hO2.cell (p := ⟨p9, 0, none⟩) (cell_lt HCC.out.1) (by show ¬ p9 = rb; omega)).trans HCC.out.1, (hO2.cell (p := ⟨p5, 0, none⟩) (cell_lt HCC.out.2.1) (by show ¬ p5 = rb; omega)).trans HCC.out.2.1⟩, HPUT.out.drew, HCC.out.2.2.off hO2 (fun i hi e => by
                    have e2 : nb = i := by simpa [Value.ownBlock] using hi
                    omega)⟩, HBW.out.trans (hO2.below (fun i hi => by rw [hi]; omega) HBW.out.size)⟩
              case done =>
                rintro D9 ys W hD9 rfl ⟨hA1, hB⟩ hK
                have hg := grownBy_putObj' W D9 (.deferred none)
                have hkp := hA1.kept hg (fun r e => by injection e with e; subst e; exact ⟨_, hK, rfl⟩)
                have hOD : Off (fun i => i = D9) W (W.putObj D9 (.deferred none)) := ⟨hg.os, hg.tape, hg.output, hg.size, fun i hi hz => hg.block i hi (fun e => hz (by injection e))⟩
                rw [rcL_all] at hkp
                have hww : w.heap.size ≤ rb := by have := HRB.out; omega
                have HR9 := Lib.hid (hkp.2.1.mono hww)
                have HB9 := Lib.hid (hB.trans (hOD.below (fun i hi => by rw [hi]; have := HBW0.out.size; omega) hB.size))
                have x9 := hA1.1.1
                have HKR := Lib.hid hK
                clear hA1 hB hg hkp hOD hww hK
                gi_wp2_with fail
                refine ⟨by simp, .inl ⟨_, _, rfl, run_takeDeferred HKR.out, ?_⟩⟩
                refine ⟨_, results_tmp rfl _ _ _, ?_⟩
                refine ⟨_, rfl, ?_, HB9.out⟩
                rw [HLN.out]
                exact HR9.out
              case stop =>
                rintro D9 c pre W _ _ h _
                exact h.elim
end Go.Proofs.YtfpepoebammeoaaGreat
