/- The contract of a web's knots. -/
import Derived.Deep.OwnRows
import Derived.Deep.CutRange
import Derived.Deep.RegionHeld3
import Derived.Deep.MidRow
import Derived.Test.YtfpepoebammeoaaGreatU6
import Derived.Test.YtfpepoebammeoaaGreatU8
set_option linter.unusedVariables false
set_option linter.unusedSimpArgs false
namespace Go.Proofs.YtfpepoebammeoaaGreat
open Go.ChangeShapes Go.WideShapes Go.ChangeAt Go.RowKit

theorem step_store_mid {P : Program} {ops : Array Oper} {op : Oper} {a : Act} {w : World} {K : Act → World → Prop} {Q : Exit → Act → World → Prop} {E : Prop} (hgd : op.guard = none) (ty : TypeId) (x y : Operand) (ho : op.op = .store ty x y)
    (b o : Nat) (cells : Array Value) (hx : a.eval x = .pointer (some ⟨b, o, none⟩)) (hy : a.eval y = .agg cells)
    (ht : w.there b o cells.size) (hi : (P.info? ty).map (·.size) = some cells.size) (h1 : cells.all (·.oneCell') = true)
    (h : K (a.put op.dst undef) (w.setCells b o cells.toList)) : if Region.wanted op (yielded ops a.tmps) = true then Oper.wp P op a w K Q else E := by
  have hw : Region.wanted op (yielded ops a.tmps) = true := by simp [Region.wanted, hgd]
  rw [if_pos hw]
  exact wp_store_mid ty x y ho b o cells hx hy ht hi h1 h
theorem bkv_zero (m : Nat) : bkv (fun _ => 0) m = iv (List.replicate m 0) := by
  apply List.ext_getElem?
  intro u
  by_cases hu : u < m
  · rw [bkv_at _ hu]
    simp [iv, hu]
  · rw [List.getElem?_eq_none (by rw [bkv_len]; omega), List.getElem?_eq_none (by simp; omega)]
theorem made_intk {w : World} {n : Nat} (hn : n ≤ 1000000) {B : Nat} (hB : B ≤ w.heap.size) (t : TypeId) : Row 1 B (w.alloc (.cells (madeCells #[.int .i64 0] n) t)) (.slice (some ⟨w.heap.size, 0, none⟩) n n) n (iv (List.replicate n 0)) :=
  row_new hB (by simp) (Nat.le_refl _) (by unfold maxLen; omega) (by simp [size_madeCells]) (.inl rfl) (fun j u hu => by
    have hj : j < n := by have := (List.getElem?_eq_some_iff.1 hu).1; simpa using this
    rw [iv, List.map_replicate, List.getElem?_replicate, if_pos hj] at hu
    cases hu
    simp [madeCells, hj, Nat.mod_one])
structure KS (w : World) (m : Nat) (fv hv : Value) (ob ol op : Option Nat) (W : World) : Prop where
  bl : Below w.heap.size w W
  sz : w.heap.size < W.heap.size
  c0 : W.cell? ⟨w.heap.size, 0, none⟩ = some fv
  c1 : W.cell? ⟨w.heap.size, 1, none⟩ = some hv
  pb : ∀ b, ob = some b → w.heap.size < b ∧ b < W.heap.size ∧ Row 1 w.heap.size W (.slice (some ⟨b, 0, none⟩) m m) m (bkv (fun _ => 0) m)
  pl : ∀ b, ol = some b → w.heap.size < b ∧ b < W.heap.size ∧ Row 1 w.heap.size W (.slice (some ⟨b, 0, none⟩) m m) m (bkv (fun _ => 0) m)
  pp : ∀ p, op = some p → w.heap.size < p ∧ p < W.heap.size ∧ ∀ j, j < 6 → (∃ u, W.cell? ⟨p, j, none⟩ = some u) ∧ W.frozen? ⟨p, j, none⟩ = false
  nbl : ∀ b l, ob = some b → ol = some l → b ≠ l
  nbp : ∀ b p, ob = some b → op = some p → b ≠ p
  nlp : ∀ l p, ol = some l → op = some p → l ≠ p
section
variable {w W W' : World} {m : Nat} {fv hv : Value} {ob ol op : Option Nat}
theorem KS.grow (h : KS w m fv hv ob ol op W) (hb : Below W.heap.size W W') : KS w m fv hv ob ol op W' :=
  ⟨h.bl.trans (hb.mono (Nat.le_of_lt h.sz)), Nat.lt_of_lt_of_le h.sz hb.size, (hb.cell (p := ⟨w.heap.size, 0, none⟩) h.sz).trans h.c0, (hb.cell (p := ⟨w.heap.size, 1, none⟩) h.sz).trans h.c1,
    fun b e => by obtain ⟨x, y, z⟩ := h.pb b e; exact ⟨x, Nat.lt_of_lt_of_le y hb.size, z.below hb⟩,
    fun b e => by obtain ⟨x, y, z⟩ := h.pl b e; exact ⟨x, Nat.lt_of_lt_of_le y hb.size, z.below hb⟩,
    fun p e => by
      obtain ⟨x, y, z⟩ := h.pp p e
      refine ⟨x, Nat.lt_of_lt_of_le y hb.size, fun j hj => ?_⟩
      obtain ⟨⟨u, hu⟩, hf⟩ := z j hj
      exact ⟨⟨u, (hb.cell (p := ⟨p, j, none⟩) y).trans hu⟩, (hb.frozen (p := ⟨p, j, none⟩) y).trans hf⟩,
    h.nbl, h.nbp, h.nlp⟩
theorem KS.mkb (h : KS w m fv hv none ol op W) (hm : m ≤ 1000000) (t : TypeId) : KS w m fv hv (some W.heap.size) ol op (W.alloc (.cells (madeCells #[.int .i64 0] m) t)) := by
  have hg := h.grow ((Below.refl _ W).alloc (Nat.le_refl _) (.cells (madeCells #[.int .i64 0] m) t))
  have hs := h.sz
  refine ⟨hg.bl, hg.sz, hg.c0, hg.c1, fun b e => ?_, hg.pl, hg.pp, fun b l e e2 => ?_, fun b p e e2 => ?_, hg.nlp⟩
  · obtain rfl := Option.some.inj e
    refine ⟨hs, by simp, ?_⟩
    rw [bkv_zero]
    exact made_intk hm (by omega) t
  · obtain rfl := Option.some.inj e
    have := (h.pl l e2).2.1
    omega
  · obtain rfl := Option.some.inj e
    have := (h.pp p e2).2.1
    omega
theorem KS.mkl (h : KS w m fv hv ob none op W) (hm : m ≤ 1000000) (t : TypeId) : KS w m fv hv ob (some W.heap.size) op (W.alloc (.cells (madeCells #[.int .i64 0] m) t)) := by
  have hg := h.grow ((Below.refl _ W).alloc (Nat.le_refl _) (.cells (madeCells #[.int .i64 0] m) t))
  have hs := h.sz
  refine ⟨hg.bl, hg.sz, hg.c0, hg.c1, hg.pb, fun b e => ?_, hg.pp, fun b l e e2 => ?_, hg.nbp, fun b p e e2 => ?_⟩
  · obtain rfl := Option.some.inj e
    refine ⟨hs, by simp, ?_⟩
    rw [bkv_zero]
    exact made_intk hm (by omega) t
  · obtain rfl := Option.some.inj e2
    have := (h.pb b e).2.1
    omega
  · obtain rfl := Option.some.inj e
    have := (h.pp p e2).2.1
    omega
theorem KS.mkp (h : KS w m fv hv ob ol none W) (t : TypeId) : KS w m fv hv ob ol (some W.heap.size) (W.alloc (.cells #[.slice none 0 0, .slice none 0 0, .slice none 0 0, .slice none 0 0, .slice none 0 0, .slice none 0 0] t)) := by
  have hg := h.grow ((Below.refl _ W).alloc (Nat.le_refl _) (.cells #[.slice none 0 0, .slice none 0 0, .slice none 0 0, .slice none 0 0, .slice none 0 0, .slice none 0 0] t))
  have hs := h.sz
  refine ⟨hg.bl, hg.sz, hg.c0, hg.c1, hg.pb, hg.pl, fun p e => ?_, hg.nbl, fun b p e e2 => ?_, fun b p e e2 => ?_⟩
  · obtain rfl := Option.some.inj e
    refine ⟨hs, by simp, fun j hj => ⟨⟨.slice none 0 0, ?_⟩, ?_⟩⟩
    · rw [World.cell?_alloc_at _ _ _ _ rfl]
      have : j = 0 ∨ j = 1 ∨ j = 2 ∨ j = 3 ∨ j = 4 ∨ j = 5 := by omega
      rcases this with rfl | rfl | rfl | rfl | rfl | rfl <;> rfl
    · rw [World.frozen?_alloc_mark]; simp
  · obtain rfl := Option.some.inj e2
    have := (h.pb b e).2.1
    omega
  · obtain rfl := Option.some.inj e2
    have := (h.pl b e).2.1
    omega
theorem KS.there {p : Nat} (h : KS w m fv hv ob ol op W) (e : op = some p) : World.there W p 0 6 := fun j hj => by
  obtain ⟨_, _, z⟩ := h.pp p e
  obtain ⟨⟨u, hu⟩, hf⟩ := z j hj
  rw [Nat.zero_add]
  exact ⟨by rw [hu]; rfl, hf⟩
theorem KS.keep {p : Nat} (h : KS w m fv hv ob ol op W) (e : op = some p) (v0 v1 v2 v3 v4 v5 : Value) : (W.setCells p 0 [v0, v1, v2, v3, v4, v5]).cell? ⟨w.heap.size, 0, none⟩ = some fv ∧ (W.setCells p 0 [v0, v1, v2, v3, v4, v5]).cell? ⟨w.heap.size, 1, none⟩ = some hv := by
  have hp := (h.pp p e).1
  have hh := heap_setCells [v0, v1, v2, v3, v4, v5] p 0 W
  have hb : (W.setCells p 0 [v0, v1, v2, v3, v4, v5]).heap[w.heap.size]? = W.heap[w.heap.size]? := hh.2.1 _ (by omega)
  exact ⟨(World.cell?_of_block (w := W) (a := ⟨w.heap.size, 0, none⟩) hb).trans h.c0, (World.cell?_of_block (w := W) (a := ⟨w.heap.size, 1, none⟩) hb).trans h.c1⟩
def KnA (w : World) (m : Nat) (fv hv tv : Value) (W : World) : Prop := ∃ S p bb lb, tv = .pointer (some ⟨p, 0, none⟩) ∧ Hid (HuntM w S p bb lb m fv hv (.slice none 0 0) (.slice none 0 0) [] (fun _ => 0) (fun _ => 0) [] W) ∧ W.cell? ⟨w.heap.size, 0, none⟩ = some fv ∧ W.cell? ⟨w.heap.size, 1, none⟩ = some hv
theorem KS.done {p bb lb : Nat} (h : KS w m fv hv ob ol op W) (e1 : op = some p) (e2 : ob = some bb) (e3 : ol = some lb) : KnA w m fv hv (.pointer (some ⟨p, 0, none⟩)) (W.setCells p 0 [fv, hv, .slice none 0 0, .slice (some ⟨bb, 0, none⟩) m m, .slice none 0 0, .slice (some ⟨lb, 0, none⟩) m m]) := by
  obtain ⟨pp1, pp2, _⟩ := h.pp p e1
  obtain ⟨b1, b2, b3⟩ := h.pb bb e2
  obtain ⟨l1, l2, l3⟩ := h.pl lb e3
  have n1 := h.nbl bb lb e2 e3
  have n2 := h.nbp bb p e2 e1
  have n3 := h.nlp lb p e3 e1
  have hh := heap_setCells [fv, hv, .slice none 0 0, .slice (some ⟨bb, 0, none⟩) m m, .slice none 0 0, .slice (some ⟨lb, 0, none⟩) m m] p 0 W
  have hth := h.there e1
  have hcl : ∀ (j : Nat) v, [fv, hv, .slice none 0 0, .slice (some ⟨bb, 0, none⟩) m m, .slice none 0 0, .slice (some ⟨lb, 0, none⟩) m m][j]? = some v → (W.setCells p 0 [fv, hv, .slice none 0 0, .slice (some ⟨bb, 0, none⟩) m m, .slice none 0 0, .slice (some ⟨lb, 0, none⟩) m m]).cell? ⟨p, j, none⟩ = some v := fun j v hjv => by
    obtain ⟨hj, e⟩ := List.getElem?_eq_some_iff.1 hjv
    have := World.cell?_setCells_in p _ 0 W (fun j hj => (hth j (by simpa using hj)).1) j hj
    rw [Nat.zero_add] at this
    rw [this, e]
  have hfz : ∀ j, j < 6 → (W.setCells p 0 [fv, hv, .slice none 0 0, .slice (some ⟨bb, 0, none⟩) m m, .slice none 0 0, .slice (some ⟨lb, 0, none⟩) m m]).frozen? ⟨p, j, none⟩ = false := fun j hj => by
    have := (hth j hj).2
    rw [Nat.zero_add] at this
    rw [World.frozen?_setCells]
    exact this
  have hk := h.keep e1 fv hv (.slice none 0 0) (.slice (some ⟨bb, 0, none⟩) m m) (.slice none 0 0) (.slice (some ⟨lb, 0, none⟩) m m)
  generalize W.setCells p 0 [fv, hv, .slice none 0 0, .slice (some ⟨bb, 0, none⟩) m m, .slice none 0 0, .slice (some ⟨lb, 0, none⟩) m m] = W9 at *
  have ho : Off (fun i => i = p) W W9 := ⟨hh.2.2.1, hh.2.2.2.1, hh.2.2.2.2, Nat.le_of_eq hh.1.symm, fun i _ hi => hh.2.1 i hi⟩
  refine ⟨W9.heap.size, p, bb, lb, rfl, Lib.hid ⟨?_, hcl 0 _ rfl, hcl 1 _ rfl, hcl 2 _ rfl, hcl 3 _ rfl, hcl 4 _ rfl, hcl 5 _ rfl, ?_, Row.nil _ _ _, Row.nil _ _ _, fun h => absurd rfl h, ?_, ?_, fun s hs => (by cases hs), by omega, by omega, by omega, n1, n2, n3, by omega, Nat.le_refl _⟩, hk.1, hk.2⟩
  · exact h.bl.trans (ho.below (B := w.heap.size) (fun i hi => by omega) h.bl.size)
  · exact hfz
  · exact b3.off ho (fun b hb e => n2 (by have : bb = b := Option.some.inj hb; omega))
  · exact l3.off ho (fun b hb e => n3 (by have : lb = b := Option.some.inj hb; omega))
end

set_option maxHeartbeats 2000000 in
set_option maxRecDepth 100000 in
theorem knots_any {w : World} {m E : Nat} {fv hv : Value} {F : Nat → Nat} {H : List Nat} (hweb : WebK w fv hv m E F H) (hm : m ≤ 1000000) (hE : E ≤ 1000000) :
    Calls Tryz.prog 48 #[.agg #[fv, hv]] w fun e W' => ∃ lv, ∃ ls : Nat → Nat, e = .returned lv ∧ Row 1 w.heap.size W' lv m (bkv ls m) ∧ (∀ v, v < m → LeastK (fun a b => b ∈ adjK m F H a) v (ls v)) ∧ Below w.heap.size w W' := by
  obtain ⟨fb, fc, hfv, _⟩ := hweb.f
  obtain ⟨hb, hc, hhv, _⟩ := hweb.h
  subst hfv; subst hhv
  have HWB := Lib.hid hweb
  have mk1 := run_make_row' (P := Tryz.prog) 23 3 (.int .i64 0) 8 Tryz.underlying23 infoIk rfl .i64 .i64 m (by omega) (by omega)
  have SZ := Lib.hid (fun W => ksize_any (some ⟨fb, 0, none⟩) m fc (.slice (some ⟨hb, 0, none⟩) E hc) W hm)
  have HKS : Hid (KS w m (.slice (some ⟨fb, 0, none⟩) (m + 1) fc) (.slice (some ⟨hb, 0, none⟩) E hc) none none none (w.alloc (.cells #[.slice (some ⟨fb, 0, none⟩) (m + 1) fc, .slice (some ⟨hb, 0, none⟩) E hc] 71)).drew) := Lib.hid ⟨((Below.refl _ _).alloc (Nat.le_refl _) _).drew, by show w.heap.size < (w.alloc _).heap.size; simp, by show (w.alloc _).cell? _ = _; rw [World.cell?_alloc_at _ _ _ _ rfl]; rfl, by show (w.alloc _).cell? _ = _; rw [World.cell?_alloc_at _ _ _ _ rfl]; rfl, fun b e => (by cases e), fun b e => (by cases e), fun b e => (by cases e), fun b l e => (by cases e), fun b l e => (by cases e), fun b l e => (by cases e)⟩
  clear hweb
  go_enter Tryz.func48, Tryz.ntmps48
  go_wp2_with fail
  go_cut [3] from 5 to 12 (fun tv W => KnA w m (.slice (some ⟨fb, 0, none⟩) (m + 1) fc) (.slice (some ⟨hb, 0, none⟩) E hc) tv W)
  case first =>
    refine wp_region_held_drew (S := (fun W => W.cell? ⟨w.heap.size, 0, none⟩ = some (.slice (some ⟨fb, 0, none⟩) (m + 1) fc) ∧ W.cell? ⟨w.heap.size, 1, none⟩ = some (.slice (some ⟨hb, 0, none⟩) E hc))) (by kernel_rfl) ?_ (fun hHeld => ?_)
    · exact ⟨HKS.out.c0, HKS.out.c1⟩
    refine tkH 0 ⟨some 5, .load 71 (.tmp 1), 71, "hunt.go:31", #[], none⟩ ?_
    try simp only [Act.put, List.setIfInBounds_toArray, List.set_cons_zero, List.set_cons_succ]
    refine tkH 1 ⟨some 6, .load 71 (.tmp 1), 71, "hunt.go:31", #[], none⟩ ?_
    try simp only [Act.put, List.setIfInBounds_toArray, List.set_cons_zero, List.set_cons_succ]
    refine tkH 4 ⟨some 9, .load 71 (.tmp 1), 71, "hunt.go:31", #[], none⟩ ?_
    try simp only [Act.put, List.setIfInBounds_toArray, List.set_cons_zero, List.set_cons_succ]
    refine wpAnyH_ready (rs := [2, 8]) (by kernel_rfl) (by simp) ?_
    refine AllReadyH.cons (o := ⟨some 7, .call { callee := Callee.value (Operand.func 72), args := #[.tmp 6], argTypes := #[71] }, 3, "hunt.go:31", #[⟨1, .data⟩], none⟩) rfl (fun KK hK => ?_) (AllReadyH.cons (o := ⟨some 3, .alloc 97, 0, "hunt.go:31", #[], none⟩) rfl (fun KK hK => ?_) AllReadyH.nil)
    · go_simp
      go_at_call 72
      refine (SZ.out _).mono ?_
      rintro e w2 ⟨rfl, rfl⟩
      have HKS := Lib.hid (HKS.out.grow ((Below.refl _ _).alloc (Nat.le_refl _) (.cells #[.slice (some ⟨fb, 0, none⟩) (m + 1) fc, .slice (some ⟨hb, 0, none⟩) E hc] 71)))
      refine hK.out _ _ ?_ (fun hHeld => ?_)
      · exact ⟨HKS.out.c0, HKS.out.c1⟩
      clear hK KK
      try simp only [Act.put, List.setIfInBounds_toArray, List.set_cons_zero, List.set_cons_succ]
      refine wpAnyH_ready (rs := [3, 5, 8]) (by kernel_rfl) (by simp) ?_
      refine AllReadyH.cons (o := ⟨some 8, .makeSlice 23 (.tmp 7) (.tmp 7), 23, "hunt.go:31", #[⟨2, .data⟩, ⟨2, .data⟩], none⟩) rfl (fun KK hK => ?_) (AllReadyH.cons (o := ⟨some 10, .call { callee := Callee.value (Operand.func 72), args := #[.tmp 9], argTypes := #[71] }, 3, "hunt.go:31", #[⟨4, .data⟩, ⟨2, .chain⟩], none⟩) rfl (fun KK hK => ?_) (AllReadyH.cons (o := ⟨some 3, .alloc 97, 0, "hunt.go:31", #[], none⟩) rfl (fun KK hK => ?_) AllReadyH.nil))
      · go_simp
        have HKS := Lib.hid (HKS.out.mkb hm 3)
        refine hK.out _ _ ?_ (fun hHeld => ?_)
        · exact ⟨HKS.out.c0, HKS.out.c1⟩
        clear hK KK
        try simp only [Act.put, List.setIfInBounds_toArray, List.set_cons_zero, List.set_cons_succ]
        refine wpAnyH_ready (rs := [5, 8]) (by kernel_rfl) (by simp) ?_
        refine AllReadyH.cons (o := ⟨some 10, .call { callee := Callee.value (Operand.func 72), args := #[.tmp 9], argTypes := #[71] }, 3, "hunt.go:31", #[⟨4, .data⟩, ⟨2, .chain⟩], none⟩) rfl (fun KK hK => ?_) (AllReadyH.cons (o := ⟨some 3, .alloc 97, 0, "hunt.go:31", #[], none⟩) rfl (fun KK hK => ?_) AllReadyH.nil)
        · go_simp
          go_at_call 72
          refine (SZ.out _).mono ?_
          rintro e w2 ⟨rfl, rfl⟩
          have HKS := Lib.hid (HKS.out.grow ((Below.refl _ _).alloc (Nat.le_refl _) (.cells #[.slice (some ⟨fb, 0, none⟩) (m + 1) fc, .slice (some ⟨hb, 0, none⟩) E hc] 71)))
          refine hK.out _ _ ?_ (fun hHeld => ?_)
          · exact ⟨HKS.out.c0, HKS.out.c1⟩
          clear hK KK
          try simp only [Act.put, List.setIfInBounds_toArray, List.set_cons_zero, List.set_cons_succ]
          refine wpAnyH_ready (rs := [6, 8]) (by kernel_rfl) (by simp) ?_
          refine AllReadyH.cons (o := ⟨some 11, .makeSlice 23 (.tmp 10) (.tmp 10), 23, "hunt.go:31", #[⟨5, .data⟩, ⟨5, .data⟩], none⟩) rfl (fun KK hK => ?_) (AllReadyH.cons (o := ⟨some 3, .alloc 97, 0, "hunt.go:31", #[], none⟩) rfl (fun KK hK => ?_) AllReadyH.nil)
          · go_simp
            have HKS := Lib.hid (HKS.out.mkl hm 3)
            refine hK.out _ _ ?_ (fun hHeld => ?_)
            · exact ⟨HKS.out.c0, HKS.out.c1⟩
            clear hK KK
            try simp only [Act.put, List.setIfInBounds_toArray, List.set_cons_zero, List.set_cons_succ]
            refine tkH 7 ⟨some 12, .build 97 #[(0, .tmp 5), (2, .tmp 8), (4, .tmp 11)], 97, "hunt.go:31", #[⟨0, .data⟩, ⟨3, .data⟩, ⟨6, .data⟩], none⟩ ?_
            try simp only [Act.put, List.setIfInBounds_toArray, List.set_cons_zero, List.set_cons_succ]
            refine wpAnyH_ready (rs := [8]) (by kernel_rfl) (by simp) ?_
            refine AllReadyH.cons (o := ⟨some 3, .alloc 97, 0, "hunt.go:31", #[], none⟩) rfl (fun KK hK => ?_) AllReadyH.nil
            go_simp
            have HKS := Lib.hid (HKS.out.mkp 97)
            refine hK.out _ _ ?_ (fun hHeld => ?_)
            · exact ⟨HKS.out.c0, HKS.out.c1⟩
            clear hK KK
            try simp only [Act.put, List.setIfInBounds_toArray, List.set_cons_zero, List.set_cons_succ]
            refine wpAnyH_ready (rs := [9]) (by kernel_rfl) (by simp) ?_
            refine AllReadyH.cons (o := ⟨none, .store 97 (.tmp 3) (.tmp 12), 0, "hunt.go:31", #[⟨8, .data⟩, ⟨7, .data⟩, ⟨5, .chain⟩, ⟨0, .phase⟩, ⟨1, .phase⟩, ⟨2, .phase⟩, ⟨3, .phase⟩, ⟨4, .phase⟩, ⟨5, .phase⟩, ⟨6, .phase⟩, ⟨7, .phase⟩, ⟨8, .phase⟩], none⟩) rfl (fun KK hK => ?_) AllReadyH.nil
            refine step_store_mid rfl 97 (.tmp 3) (.tmp 12) rfl _ 0 #[.slice (some ⟨fb, 0, none⟩) (m + 1) fc, .slice (some ⟨hb, 0, none⟩) E hc, .slice none 0 0, .slice (some ⟨_, 0, none⟩) m m, .slice none 0 0, .slice (some ⟨_, 0, none⟩) m m] rfl rfl (HKS.out.there (by simp)) (by kernel_rfl) (by simp [Value.oneCell']) ?_
            refine hK.out _ _ ?_ (fun hHeld => ?_)
            · exact HKS.out.keep (by simp) _ _ _ _ _ _
            clear hK KK
            try simp only [Act.put, List.setIfInBounds_toArray, List.set_cons_zero, List.set_cons_succ]
            refine wpAnyH_done (by kernel_rfl) ?_ _
            go_wp2_with fail
            go_meet
            exact HKS.out.done (by simp) (by simp) (by simp)
          · go_simp
            have HKS := Lib.hid (HKS.out.mkp 97)
            refine hK.out _ _ ?_ (fun hHeld => ?_)
            · exact ⟨HKS.out.c0, HKS.out.c1⟩
            clear hK KK
            try simp only [Act.put, List.setIfInBounds_toArray, List.set_cons_zero, List.set_cons_succ]
            refine wpAnyH_ready (rs := [6]) (by kernel_rfl) (by simp) ?_
            refine AllReadyH.cons (o := ⟨some 11, .makeSlice 23 (.tmp 10) (.tmp 10), 23, "hunt.go:31", #[⟨5, .data⟩, ⟨5, .data⟩], none⟩) rfl (fun KK hK => ?_) AllReadyH.nil
            go_simp
            have HKS := Lib.hid (HKS.out.mkl hm 3)
            refine hK.out _ _ ?_ (fun hHeld => ?_)
            · exact ⟨HKS.out.c0, HKS.out.c1⟩
            clear hK KK
            try simp only [Act.put, List.setIfInBounds_toArray, List.set_cons_zero, List.set_cons_succ]
            refine tkH 7 ⟨some 12, .build 97 #[(0, .tmp 5), (2, .tmp 8), (4, .tmp 11)], 97, "hunt.go:31", #[⟨0, .data⟩, ⟨3, .data⟩, ⟨6, .data⟩], none⟩ ?_
            try simp only [Act.put, List.setIfInBounds_toArray, List.set_cons_zero, List.set_cons_succ]
            refine wpAnyH_ready (rs := [9]) (by kernel_rfl) (by simp) ?_
            refine AllReadyH.cons (o := ⟨none, .store 97 (.tmp 3) (.tmp 12), 0, "hunt.go:31", #[⟨8, .data⟩, ⟨7, .data⟩, ⟨5, .chain⟩, ⟨0, .phase⟩, ⟨1, .phase⟩, ⟨2, .phase⟩, ⟨3, .phase⟩, ⟨4, .phase⟩, ⟨5, .phase⟩, ⟨6, .phase⟩, ⟨7, .phase⟩, ⟨8, .phase⟩], none⟩) rfl (fun KK hK => ?_) AllReadyH.nil
            refine step_store_mid rfl 97 (.tmp 3) (.tmp 12) rfl _ 0 #[.slice (some ⟨fb, 0, none⟩) (m + 1) fc, .slice (some ⟨hb, 0, none⟩) E hc, .slice none 0 0, .slice (some ⟨_, 0, none⟩) m m, .slice none 0 0, .slice (some ⟨_, 0, none⟩) m m] rfl rfl (HKS.out.there (by simp)) (by kernel_rfl) (by simp [Value.oneCell']) ?_
            refine hK.out _ _ ?_ (fun hHeld => ?_)
            · exact HKS.out.keep (by simp) _ _ _ _ _ _
            clear hK KK
            try simp only [Act.put, List.setIfInBounds_toArray, List.set_cons_zero, List.set_cons_succ]
            refine wpAnyH_done (by kernel_rfl) ?_ _
            go_wp2_with fail
            go_meet
            exact HKS.out.done (by simp) (by simp) (by simp)
        · go_simp
          have HKS := Lib.hid (HKS.out.mkp 97)
          refine hK.out _ _ ?_ (fun hHeld => ?_)
          · exact ⟨HKS.out.c0, HKS.out.c1⟩
          clear hK KK
          try simp only [Act.put, List.setIfInBounds_toArray, List.set_cons_zero, List.set_cons_succ]
          refine wpAnyH_ready (rs := [5]) (by kernel_rfl) (by simp) ?_
          refine AllReadyH.cons (o := ⟨some 10, .call { callee := Callee.value (Operand.func 72), args := #[.tmp 9], argTypes := #[71] }, 3, "hunt.go:31", #[⟨4, .data⟩, ⟨2, .chain⟩], none⟩) rfl (fun KK hK => ?_) AllReadyH.nil
          go_simp
          go_at_call 72
          refine (SZ.out _).mono ?_
          rintro e w2 ⟨rfl, rfl⟩
          have HKS := Lib.hid (HKS.out.grow ((Below.refl _ _).alloc (Nat.le_refl _) (.cells #[.slice (some ⟨fb, 0, none⟩) (m + 1) fc, .slice (some ⟨hb, 0, none⟩) E hc] 71)))
          refine hK.out _ _ ?_ (fun hHeld => ?_)
          · exact ⟨HKS.out.c0, HKS.out.c1⟩
          clear hK KK
          try simp only [Act.put, List.setIfInBounds_toArray, List.set_cons_zero, List.set_cons_succ]
          refine wpAnyH_ready (rs := [6]) (by kernel_rfl) (by simp) ?_
          refine AllReadyH.cons (o := ⟨some 11, .makeSlice 23 (.tmp 10) (.tmp 10), 23, "hunt.go:31", #[⟨5, .data⟩, ⟨5, .data⟩], none⟩) rfl (fun KK hK => ?_) AllReadyH.nil
          go_simp
          have HKS := Lib.hid (HKS.out.mkl hm 3)
          refine hK.out _ _ ?_ (fun hHeld => ?_)
          · exact ⟨HKS.out.c0, HKS.out.c1⟩
          clear hK KK
          try simp only [Act.put, List.setIfInBounds_toArray, List.set_cons_zero, List.set_cons_succ]
          refine tkH 7 ⟨some 12, .build 97 #[(0, .tmp 5), (2, .tmp 8), (4, .tmp 11)], 97, "hunt.go:31", #[⟨0, .data⟩, ⟨3, .data⟩, ⟨6, .data⟩], none⟩ ?_
          try simp only [Act.put, List.setIfInBounds_toArray, List.set_cons_zero, List.set_cons_succ]
          refine wpAnyH_ready (rs := [9]) (by kernel_rfl) (by simp) ?_
          refine AllReadyH.cons (o := ⟨none, .store 97 (.tmp 3) (.tmp 12), 0, "hunt.go:31", #[⟨8, .data⟩, ⟨7, .data⟩, ⟨5, .chain⟩, ⟨0, .phase⟩, ⟨1, .phase⟩, ⟨2, .phase⟩, ⟨3, .phase⟩, ⟨4, .phase⟩, ⟨5, .phase⟩, ⟨6, .phase⟩, ⟨7, .phase⟩, ⟨8, .phase⟩], none⟩) rfl (fun KK hK => ?_) AllReadyH.nil
          refine step_store_mid rfl 97 (.tmp 3) (.tmp 12) rfl _ 0 #[.slice (some ⟨fb, 0, none⟩) (m + 1) fc, .slice (some ⟨hb, 0, none⟩) E hc, .slice none 0 0, .slice (some ⟨_, 0, none⟩) m m, .slice none 0 0, .slice (some ⟨_, 0, none⟩) m m] rfl rfl (HKS.out.there (by simp)) (by kernel_rfl) (by simp [Value.oneCell']) ?_
          refine hK.out _ _ ?_ (fun hHeld => ?_)
          · exact HKS.out.keep (by simp) _ _ _ _ _ _
          clear hK KK
          try simp only [Act.put, List.setIfInBounds_toArray, List.set_cons_zero, List.set_cons_succ]
          refine wpAnyH_done (by kernel_rfl) ?_ _
          go_wp2_with fail
          go_meet
          exact HKS.out.done (by simp) (by simp) (by simp)
      · go_simp
        go_at_call 72
        refine (SZ.out _).mono ?_
        rintro e w2 ⟨rfl, rfl⟩
        have HKS := Lib.hid (HKS.out.grow ((Below.refl _ _).alloc (Nat.le_refl _) (.cells #[.slice (some ⟨fb, 0, none⟩) (m + 1) fc, .slice (some ⟨hb, 0, none⟩) E hc] 71)))
        refine hK.out _ _ ?_ (fun hHeld => ?_)
        · exact ⟨HKS.out.c0, HKS.out.c1⟩
        clear hK KK
        try simp only [Act.put, List.setIfInBounds_toArray, List.set_cons_zero, List.set_cons_succ]
        refine wpAnyH_ready (rs := [3, 6, 8]) (by kernel_rfl) (by simp) ?_
        refine AllReadyH.cons (o := ⟨some 8, .makeSlice 23 (.tmp 7) (.tmp 7), 23, "hunt.go:31", #[⟨2, .data⟩, ⟨2, .data⟩], none⟩) rfl (fun KK hK => ?_) (AllReadyH.cons (o := ⟨some 11, .makeSlice 23 (.tmp 10) (.tmp 10), 23, "hunt.go:31", #[⟨5, .data⟩, ⟨5, .data⟩], none⟩) rfl (fun KK hK => ?_) (AllReadyH.cons (o := ⟨some 3, .alloc 97, 0, "hunt.go:31", #[], none⟩) rfl (fun KK hK => ?_) AllReadyH.nil))
        · go_simp
          have HKS := Lib.hid (HKS.out.mkb hm 3)
          refine hK.out _ _ ?_ (fun hHeld => ?_)
          · exact ⟨HKS.out.c0, HKS.out.c1⟩
          clear hK KK
          try simp only [Act.put, List.setIfInBounds_toArray, List.set_cons_zero, List.set_cons_succ]
          refine wpAnyH_ready (rs := [6, 8]) (by kernel_rfl) (by simp) ?_
          refine AllReadyH.cons (o := ⟨some 11, .makeSlice 23 (.tmp 10) (.tmp 10), 23, "hunt.go:31", #[⟨5, .data⟩, ⟨5, .data⟩], none⟩) rfl (fun KK hK => ?_) (AllReadyH.cons (o := ⟨some 3, .alloc 97, 0, "hunt.go:31", #[], none⟩) rfl (fun KK hK => ?_) AllReadyH.nil)
          · go_simp
            have HKS := Lib.hid (HKS.out.mkl hm 3)
            refine hK.out _ _ ?_ (fun hHeld => ?_)
            · exact ⟨HKS.out.c0, HKS.out.c1⟩
            clear hK KK
            try simp only [Act.put, List.setIfInBounds_toArray, List.set_cons_zero, List.set_cons_succ]
            refine tkH 7 ⟨some 12, .build 97 #[(0, .tmp 5), (2, .tmp 8), (4, .tmp 11)], 97, "hunt.go:31", #[⟨0, .data⟩, ⟨3, .data⟩, ⟨6, .data⟩], none⟩ ?_
            try simp only [Act.put, List.setIfInBounds_toArray, List.set_cons_zero, List.set_cons_succ]
            refine wpAnyH_ready (rs := [8]) (by kernel_rfl) (by simp) ?_
            refine AllReadyH.cons (o := ⟨some 3, .alloc 97, 0, "hunt.go:31", #[], none⟩) rfl (fun KK hK => ?_) AllReadyH.nil
            go_simp
            have HKS := Lib.hid (HKS.out.mkp 97)
            refine hK.out _ _ ?_ (fun hHeld => ?_)
            · exact ⟨HKS.out.c0, HKS.out.c1⟩
            clear hK KK
            try simp only [Act.put, List.setIfInBounds_toArray, List.set_cons_zero, List.set_cons_succ]
            refine wpAnyH_ready (rs := [9]) (by kernel_rfl) (by simp) ?_
            refine AllReadyH.cons (o := ⟨none, .store 97 (.tmp 3) (.tmp 12), 0, "hunt.go:31", #[⟨8, .data⟩, ⟨7, .data⟩, ⟨5, .chain⟩, ⟨0, .phase⟩, ⟨1, .phase⟩, ⟨2, .phase⟩, ⟨3, .phase⟩, ⟨4, .phase⟩, ⟨5, .phase⟩, ⟨6, .phase⟩, ⟨7, .phase⟩, ⟨8, .phase⟩], none⟩) rfl (fun KK hK => ?_) AllReadyH.nil
            refine step_store_mid rfl 97 (.tmp 3) (.tmp 12) rfl _ 0 #[.slice (some ⟨fb, 0, none⟩) (m + 1) fc, .slice (some ⟨hb, 0, none⟩) E hc, .slice none 0 0, .slice (some ⟨_, 0, none⟩) m m, .slice none 0 0, .slice (some ⟨_, 0, none⟩) m m] rfl rfl (HKS.out.there (by simp)) (by kernel_rfl) (by simp [Value.oneCell']) ?_
            refine hK.out _ _ ?_ (fun hHeld => ?_)
            · exact HKS.out.keep (by simp) _ _ _ _ _ _
            clear hK KK
            try simp only [Act.put, List.setIfInBounds_toArray, List.set_cons_zero, List.set_cons_succ]
            refine wpAnyH_done (by kernel_rfl) ?_ _
            go_wp2_with fail
            go_meet
            exact HKS.out.done (by simp) (by simp) (by simp)
          · go_simp
            have HKS := Lib.hid (HKS.out.mkp 97)
            refine hK.out _ _ ?_ (fun hHeld => ?_)
            · exact ⟨HKS.out.c0, HKS.out.c1⟩
            clear hK KK
            try simp only [Act.put, List.setIfInBounds_toArray, List.set_cons_zero, List.set_cons_succ]
            refine wpAnyH_ready (rs := [6]) (by kernel_rfl) (by simp) ?_
            refine AllReadyH.cons (o := ⟨some 11, .makeSlice 23 (.tmp 10) (.tmp 10), 23, "hunt.go:31", #[⟨5, .data⟩, ⟨5, .data⟩], none⟩) rfl (fun KK hK => ?_) AllReadyH.nil
            go_simp
            have HKS := Lib.hid (HKS.out.mkl hm 3)
            refine hK.out _ _ ?_ (fun hHeld => ?_)
            · exact ⟨HKS.out.c0, HKS.out.c1⟩
            clear hK KK
            try simp only [Act.put, List.setIfInBounds_toArray, List.set_cons_zero, List.set_cons_succ]
            refine tkH 7 ⟨some 12, .build 97 #[(0, .tmp 5), (2, .tmp 8), (4, .tmp 11)], 97, "hunt.go:31", #[⟨0, .data⟩, ⟨3, .data⟩, ⟨6, .data⟩], none⟩ ?_
            try simp only [Act.put, List.setIfInBounds_toArray, List.set_cons_zero, List.set_cons_succ]
            refine wpAnyH_ready (rs := [9]) (by kernel_rfl) (by simp) ?_
            refine AllReadyH.cons (o := ⟨none, .store 97 (.tmp 3) (.tmp 12), 0, "hunt.go:31", #[⟨8, .data⟩, ⟨7, .data⟩, ⟨5, .chain⟩, ⟨0, .phase⟩, ⟨1, .phase⟩, ⟨2, .phase⟩, ⟨3, .phase⟩, ⟨4, .phase⟩, ⟨5, .phase⟩, ⟨6, .phase⟩, ⟨7, .phase⟩, ⟨8, .phase⟩], none⟩) rfl (fun KK hK => ?_) AllReadyH.nil
            refine step_store_mid rfl 97 (.tmp 3) (.tmp 12) rfl _ 0 #[.slice (some ⟨fb, 0, none⟩) (m + 1) fc, .slice (some ⟨hb, 0, none⟩) E hc, .slice none 0 0, .slice (some ⟨_, 0, none⟩) m m, .slice none 0 0, .slice (some ⟨_, 0, none⟩) m m] rfl rfl (HKS.out.there (by simp)) (by kernel_rfl) (by simp [Value.oneCell']) ?_
            refine hK.out _ _ ?_ (fun hHeld => ?_)
            · exact HKS.out.keep (by simp) _ _ _ _ _ _
            clear hK KK
            try simp only [Act.put, List.setIfInBounds_toArray, List.set_cons_zero, List.set_cons_succ]
            refine wpAnyH_done (by kernel_rfl) ?_ _
            go_wp2_with fail
            go_meet
            exact HKS.out.done (by simp) (by simp) (by simp)
        · go_simp
          have HKS := Lib.hid (HKS.out.mkl hm 3)
          refine hK.out _ _ ?_ (fun hHeld => ?_)
          · exact ⟨HKS.out.c0, HKS.out.c1⟩
          clear hK KK
          try simp only [Act.put, List.setIfInBounds_toArray, List.set_cons_zero, List.set_cons_succ]
          refine wpAnyH_ready (rs := [3, 8]) (by kernel_rfl) (by simp) ?_
          refine AllReadyH.cons (o := ⟨some 8, .makeSlice 23 (.tmp 7) (.tmp 7), 23, "hunt.go:31", #[⟨2, .data⟩, ⟨2, .data⟩], none⟩) rfl (fun KK hK => ?_) (AllReadyH.cons (o := ⟨some 3, .alloc 97, 0, "hunt.go:31", #[], none⟩) rfl (fun KK hK => ?_) AllReadyH.nil)
          · go_simp
            have HKS := Lib.hid (HKS.out.mkb hm 3)
            refine hK.out _ _ ?_ (fun hHeld => ?_)
            · exact ⟨HKS.out.c0, HKS.out.c1⟩
            clear hK KK
            try simp only [Act.put, List.setIfInBounds_toArray, List.set_cons_zero, List.set_cons_succ]
            refine tkH 7 ⟨some 12, .build 97 #[(0, .tmp 5), (2, .tmp 8), (4, .tmp 11)], 97, "hunt.go:31", #[⟨0, .data⟩, ⟨3, .data⟩, ⟨6, .data⟩], none⟩ ?_
            try simp only [Act.put, List.setIfInBounds_toArray, List.set_cons_zero, List.set_cons_succ]
            refine wpAnyH_ready (rs := [8]) (by kernel_rfl) (by simp) ?_
            refine AllReadyH.cons (o := ⟨some 3, .alloc 97, 0, "hunt.go:31", #[], none⟩) rfl (fun KK hK => ?_) AllReadyH.nil
            go_simp
            have HKS := Lib.hid (HKS.out.mkp 97)
            refine hK.out _ _ ?_ (fun hHeld => ?_)
            · exact ⟨HKS.out.c0, HKS.out.c1⟩
            clear hK KK
            try simp only [Act.put, List.setIfInBounds_toArray, List.set_cons_zero, List.set_cons_succ]
            refine wpAnyH_ready (rs := [9]) (by kernel_rfl) (by simp) ?_
            refine AllReadyH.cons (o := ⟨none, .store 97 (.tmp 3) (.tmp 12), 0, "hunt.go:31", #[⟨8, .data⟩, ⟨7, .data⟩, ⟨5, .chain⟩, ⟨0, .phase⟩, ⟨1, .phase⟩, ⟨2, .phase⟩, ⟨3, .phase⟩, ⟨4, .phase⟩, ⟨5, .phase⟩, ⟨6, .phase⟩, ⟨7, .phase⟩, ⟨8, .phase⟩], none⟩) rfl (fun KK hK => ?_) AllReadyH.nil
            refine step_store_mid rfl 97 (.tmp 3) (.tmp 12) rfl _ 0 #[.slice (some ⟨fb, 0, none⟩) (m + 1) fc, .slice (some ⟨hb, 0, none⟩) E hc, .slice none 0 0, .slice (some ⟨_, 0, none⟩) m m, .slice none 0 0, .slice (some ⟨_, 0, none⟩) m m] rfl rfl (HKS.out.there (by simp)) (by kernel_rfl) (by simp [Value.oneCell']) ?_
            refine hK.out _ _ ?_ (fun hHeld => ?_)
            · exact HKS.out.keep (by simp) _ _ _ _ _ _
            clear hK KK
            try simp only [Act.put, List.setIfInBounds_toArray, List.set_cons_zero, List.set_cons_succ]
            refine wpAnyH_done (by kernel_rfl) ?_ _
            go_wp2_with fail
            go_meet
            exact HKS.out.done (by simp) (by simp) (by simp)
          · go_simp
            have HKS := Lib.hid (HKS.out.mkp 97)
            refine hK.out _ _ ?_ (fun hHeld => ?_)
            · exact ⟨HKS.out.c0, HKS.out.c1⟩
            clear hK KK
            try simp only [Act.put, List.setIfInBounds_toArray, List.set_cons_zero, List.set_cons_succ]
            refine wpAnyH_ready (rs := [3]) (by kernel_rfl) (by simp) ?_
            refine AllReadyH.cons (o := ⟨some 8, .makeSlice 23 (.tmp 7) (.tmp 7), 23, "hunt.go:31", #[⟨2, .data⟩, ⟨2, .data⟩], none⟩) rfl (fun KK hK => ?_) AllReadyH.nil
            go_simp
            have HKS := Lib.hid (HKS.out.mkb hm 3)
            refine hK.out _ _ ?_ (fun hHeld => ?_)
            · exact ⟨HKS.out.c0, HKS.out.c1⟩
            clear hK KK
            try simp only [Act.put, List.setIfInBounds_toArray, List.set_cons_zero, List.set_cons_succ]
            refine tkH 7 ⟨some 12, .build 97 #[(0, .tmp 5), (2, .tmp 8), (4, .tmp 11)], 97, "hunt.go:31", #[⟨0, .data⟩, ⟨3, .data⟩, ⟨6, .data⟩], none⟩ ?_
            try simp only [Act.put, List.setIfInBounds_toArray, List.set_cons_zero, List.set_cons_succ]
            refine wpAnyH_ready (rs := [9]) (by kernel_rfl) (by simp) ?_
            refine AllReadyH.cons (o := ⟨none, .store 97 (.tmp 3) (.tmp 12), 0, "hunt.go:31", #[⟨8, .data⟩, ⟨7, .data⟩, ⟨5, .chain⟩, ⟨0, .phase⟩, ⟨1, .phase⟩, ⟨2, .phase⟩, ⟨3, .phase⟩, ⟨4, .phase⟩, ⟨5, .phase⟩, ⟨6, .phase⟩, ⟨7, .phase⟩, ⟨8, .phase⟩], none⟩) rfl (fun KK hK => ?_) AllReadyH.nil
            refine step_store_mid rfl 97 (.tmp 3) (.tmp 12) rfl _ 0 #[.slice (some ⟨fb, 0, none⟩) (m + 1) fc, .slice (some ⟨hb, 0, none⟩) E hc, .slice none 0 0, .slice (some ⟨_, 0, none⟩) m m, .slice none 0 0, .slice (some ⟨_, 0, none⟩) m m] rfl rfl (HKS.out.there (by simp)) (by kernel_rfl) (by simp [Value.oneCell']) ?_
            refine hK.out _ _ ?_ (fun hHeld => ?_)
            · exact HKS.out.keep (by simp) _ _ _ _ _ _
            clear hK KK
            try simp only [Act.put, List.setIfInBounds_toArray, List.set_cons_zero, List.set_cons_succ]
            refine wpAnyH_done (by kernel_rfl) ?_ _
            go_wp2_with fail
            go_meet
            exact HKS.out.done (by simp) (by simp) (by simp)
        · go_simp
          have HKS := Lib.hid (HKS.out.mkp 97)
          refine hK.out _ _ ?_ (fun hHeld => ?_)
          · exact ⟨HKS.out.c0, HKS.out.c1⟩
          clear hK KK
          try simp only [Act.put, List.setIfInBounds_toArray, List.set_cons_zero, List.set_cons_succ]
          refine wpAnyH_ready (rs := [3, 6]) (by kernel_rfl) (by simp) ?_
          refine AllReadyH.cons (o := ⟨some 8, .makeSlice 23 (.tmp 7) (.tmp 7), 23, "hunt.go:31", #[⟨2, .data⟩, ⟨2, .data⟩], none⟩) rfl (fun KK hK => ?_) (AllReadyH.cons (o := ⟨some 11, .makeSlice 23 (.tmp 10) (.tmp 10), 23, "hunt.go:31", #[⟨5, .data⟩, ⟨5, .data⟩], none⟩) rfl (fun KK hK => ?_) AllReadyH.nil)
          · go_simp
            have HKS := Lib.hid (HKS.out.mkb hm 3)
            refine hK.out _ _ ?_ (fun hHeld => ?_)
            · exact ⟨HKS.out.c0, HKS.out.c1⟩
            clear hK KK
            try simp only [Act.put, List.setIfInBounds_toArray, List.set_cons_zero, List.set_cons_succ]
            refine wpAnyH_ready (rs := [6]) (by kernel_rfl) (by simp) ?_
            refine AllReadyH.cons (o := ⟨some 11, .makeSlice 23 (.tmp 10) (.tmp 10), 23, "hunt.go:31", #[⟨5, .data⟩, ⟨5, .data⟩], none⟩) rfl (fun KK hK => ?_) AllReadyH.nil
            go_simp
            have HKS := Lib.hid (HKS.out.mkl hm 3)
            refine hK.out _ _ ?_ (fun hHeld => ?_)
            · exact ⟨HKS.out.c0, HKS.out.c1⟩
            clear hK KK
            try simp only [Act.put, List.setIfInBounds_toArray, List.set_cons_zero, List.set_cons_succ]
            refine tkH 7 ⟨some 12, .build 97 #[(0, .tmp 5), (2, .tmp 8), (4, .tmp 11)], 97, "hunt.go:31", #[⟨0, .data⟩, ⟨3, .data⟩, ⟨6, .data⟩], none⟩ ?_
            try simp only [Act.put, List.setIfInBounds_toArray, List.set_cons_zero, List.set_cons_succ]
            refine wpAnyH_ready (rs := [9]) (by kernel_rfl) (by simp) ?_
            refine AllReadyH.cons (o := ⟨none, .store 97 (.tmp 3) (.tmp 12), 0, "hunt.go:31", #[⟨8, .data⟩, ⟨7, .data⟩, ⟨5, .chain⟩, ⟨0, .phase⟩, ⟨1, .phase⟩, ⟨2, .phase⟩, ⟨3, .phase⟩, ⟨4, .phase⟩, ⟨5, .phase⟩, ⟨6, .phase⟩, ⟨7, .phase⟩, ⟨8, .phase⟩], none⟩) rfl (fun KK hK => ?_) AllReadyH.nil
            refine step_store_mid rfl 97 (.tmp 3) (.tmp 12) rfl _ 0 #[.slice (some ⟨fb, 0, none⟩) (m + 1) fc, .slice (some ⟨hb, 0, none⟩) E hc, .slice none 0 0, .slice (some ⟨_, 0, none⟩) m m, .slice none 0 0, .slice (some ⟨_, 0, none⟩) m m] rfl rfl (HKS.out.there (by simp)) (by kernel_rfl) (by simp [Value.oneCell']) ?_
            refine hK.out _ _ ?_ (fun hHeld => ?_)
            · exact HKS.out.keep (by simp) _ _ _ _ _ _
            clear hK KK
            try simp only [Act.put, List.setIfInBounds_toArray, List.set_cons_zero, List.set_cons_succ]
            refine wpAnyH_done (by kernel_rfl) ?_ _
            go_wp2_with fail
            go_meet
            exact HKS.out.done (by simp) (by simp) (by simp)
          · go_simp
            have HKS := Lib.hid (HKS.out.mkl hm 3)
            refine hK.out _ _ ?_ (fun hHeld => ?_)
            · exact ⟨HKS.out.c0, HKS.out.c1⟩
            clear hK KK
            try simp only [Act.put, List.setIfInBounds_toArray, List.set_cons_zero, List.set_cons_succ]
            refine wpAnyH_ready (rs := [3]) (by kernel_rfl) (by simp) ?_
            refine AllReadyH.cons (o := ⟨some 8, .makeSlice 23 (.tmp 7) (.tmp 7), 23, "hunt.go:31", #[⟨2, .data⟩, ⟨2, .data⟩], none⟩) rfl (fun KK hK => ?_) AllReadyH.nil
            go_simp
            have HKS := Lib.hid (HKS.out.mkb hm 3)
            refine hK.out _ _ ?_ (fun hHeld => ?_)
            · exact ⟨HKS.out.c0, HKS.out.c1⟩
            clear hK KK
            try simp only [Act.put, List.setIfInBounds_toArray, List.set_cons_zero, List.set_cons_succ]
            refine tkH 7 ⟨some 12, .build 97 #[(0, .tmp 5), (2, .tmp 8), (4, .tmp 11)], 97, "hunt.go:31", #[⟨0, .data⟩, ⟨3, .data⟩, ⟨6, .data⟩], none⟩ ?_
            try simp only [Act.put, List.setIfInBounds_toArray, List.set_cons_zero, List.set_cons_succ]
            refine wpAnyH_ready (rs := [9]) (by kernel_rfl) (by simp) ?_
            refine AllReadyH.cons (o := ⟨none, .store 97 (.tmp 3) (.tmp 12), 0, "hunt.go:31", #[⟨8, .data⟩, ⟨7, .data⟩, ⟨5, .chain⟩, ⟨0, .phase⟩, ⟨1, .phase⟩, ⟨2, .phase⟩, ⟨3, .phase⟩, ⟨4, .phase⟩, ⟨5, .phase⟩, ⟨6, .phase⟩, ⟨7, .phase⟩, ⟨8, .phase⟩], none⟩) rfl (fun KK hK => ?_) AllReadyH.nil
            refine step_store_mid rfl 97 (.tmp 3) (.tmp 12) rfl _ 0 #[.slice (some ⟨fb, 0, none⟩) (m + 1) fc, .slice (some ⟨hb, 0, none⟩) E hc, .slice none 0 0, .slice (some ⟨_, 0, none⟩) m m, .slice none 0 0, .slice (some ⟨_, 0, none⟩) m m] rfl rfl (HKS.out.there (by simp)) (by kernel_rfl) (by simp [Value.oneCell']) ?_
            refine hK.out _ _ ?_ (fun hHeld => ?_)
            · exact HKS.out.keep (by simp) _ _ _ _ _ _
            clear hK KK
            try simp only [Act.put, List.setIfInBounds_toArray, List.set_cons_zero, List.set_cons_succ]
            refine wpAnyH_done (by kernel_rfl) ?_ _
            go_wp2_with fail
            go_meet
            exact HKS.out.done (by simp) (by simp) (by simp)
      · go_simp
        have HKS := Lib.hid (HKS.out.mkp 97)
        refine hK.out _ _ ?_ (fun hHeld => ?_)
        · exact ⟨HKS.out.c0, HKS.out.c1⟩
        clear hK KK
        try simp only [Act.put, List.setIfInBounds_toArray, List.set_cons_zero, List.set_cons_succ]
        refine wpAnyH_ready (rs := [3, 5]) (by kernel_rfl) (by simp) ?_
        refine AllReadyH.cons (o := ⟨some 8, .makeSlice 23 (.tmp 7) (.tmp 7), 23, "hunt.go:31", #[⟨2, .data⟩, ⟨2, .data⟩], none⟩) rfl (fun KK hK => ?_) (AllReadyH.cons (o := ⟨some 10, .call { callee := Callee.value (Operand.func 72), args := #[.tmp 9], argTypes := #[71] }, 3, "hunt.go:31", #[⟨4, .data⟩, ⟨2, .chain⟩], none⟩) rfl (fun KK hK => ?_) AllReadyH.nil)
        · go_simp
          have HKS := Lib.hid (HKS.out.mkb hm 3)
          refine hK.out _ _ ?_ (fun hHeld => ?_)
          · exact ⟨HKS.out.c0, HKS.out.c1⟩
          clear hK KK
          try simp only [Act.put, List.setIfInBounds_toArray, List.set_cons_zero, List.set_cons_succ]
          refine wpAnyH_ready (rs := [5]) (by kernel_rfl) (by simp) ?_
          refine AllReadyH.cons (o := ⟨some 10, .call { callee := Callee.value (Operand.func 72), args := #[.tmp 9], argTypes := #[71] }, 3, "hunt.go:31", #[⟨4, .data⟩, ⟨2, .chain⟩], none⟩) rfl (fun KK hK => ?_) AllReadyH.nil
          go_simp
          go_at_call 72
          refine (SZ.out _).mono ?_
          rintro e w2 ⟨rfl, rfl⟩
          have HKS := Lib.hid (HKS.out.grow ((Below.refl _ _).alloc (Nat.le_refl _) (.cells #[.slice (some ⟨fb, 0, none⟩) (m + 1) fc, .slice (some ⟨hb, 0, none⟩) E hc] 71)))
          refine hK.out _ _ ?_ (fun hHeld => ?_)
          · exact ⟨HKS.out.c0, HKS.out.c1⟩
          clear hK KK
          try simp only [Act.put, List.setIfInBounds_toArray, List.set_cons_zero, List.set_cons_succ]
          refine wpAnyH_ready (rs := [6]) (by kernel_rfl) (by simp) ?_
          refine AllReadyH.cons (o := ⟨some 11, .makeSlice 23 (.tmp 10) (.tmp 10), 23, "hunt.go:31", #[⟨5, .data⟩, ⟨5, .data⟩], none⟩) rfl (fun KK hK => ?_) AllReadyH.nil
          go_simp
          have HKS := Lib.hid (HKS.out.mkl hm 3)
          refine hK.out _ _ ?_ (fun hHeld => ?_)
          · exact ⟨HKS.out.c0, HKS.out.c1⟩
          clear hK KK
          try simp only [Act.put, List.setIfInBounds_toArray, List.set_cons_zero, List.set_cons_succ]
          refine tkH 7 ⟨some 12, .build 97 #[(0, .tmp 5), (2, .tmp 8), (4, .tmp 11)], 97, "hunt.go:31", #[⟨0, .data⟩, ⟨3, .data⟩, ⟨6, .data⟩], none⟩ ?_
          try simp only [Act.put, List.setIfInBounds_toArray, List.set_cons_zero, List.set_cons_succ]
          refine wpAnyH_ready (rs := [9]) (by kernel_rfl) (by simp) ?_
          refine AllReadyH.cons (o := ⟨none, .store 97 (.tmp 3) (.tmp 12), 0, "hunt.go:31", #[⟨8, .data⟩, ⟨7, .data⟩, ⟨5, .chain⟩, ⟨0, .phase⟩, ⟨1, .phase⟩, ⟨2, .phase⟩, ⟨3, .phase⟩, ⟨4, .phase⟩, ⟨5, .phase⟩, ⟨6, .phase⟩, ⟨7, .phase⟩, ⟨8, .phase⟩], none⟩) rfl (fun KK hK => ?_) AllReadyH.nil
          refine step_store_mid rfl 97 (.tmp 3) (.tmp 12) rfl _ 0 #[.slice (some ⟨fb, 0, none⟩) (m + 1) fc, .slice (some ⟨hb, 0, none⟩) E hc, .slice none 0 0, .slice (some ⟨_, 0, none⟩) m m, .slice none 0 0, .slice (some ⟨_, 0, none⟩) m m] rfl rfl (HKS.out.there (by simp)) (by kernel_rfl) (by simp [Value.oneCell']) ?_
          refine hK.out _ _ ?_ (fun hHeld => ?_)
          · exact HKS.out.keep (by simp) _ _ _ _ _ _
          clear hK KK
          try simp only [Act.put, List.setIfInBounds_toArray, List.set_cons_zero, List.set_cons_succ]
          refine wpAnyH_done (by kernel_rfl) ?_ _
          go_wp2_with fail
          go_meet
          exact HKS.out.done (by simp) (by simp) (by simp)
        · go_simp
          go_at_call 72
          refine (SZ.out _).mono ?_
          rintro e w2 ⟨rfl, rfl⟩
          have HKS := Lib.hid (HKS.out.grow ((Below.refl _ _).alloc (Nat.le_refl _) (.cells #[.slice (some ⟨fb, 0, none⟩) (m + 1) fc, .slice (some ⟨hb, 0, none⟩) E hc] 71)))
          refine hK.out _ _ ?_ (fun hHeld => ?_)
          · exact ⟨HKS.out.c0, HKS.out.c1⟩
          clear hK KK
          try simp only [Act.put, List.setIfInBounds_toArray, List.set_cons_zero, List.set_cons_succ]
          refine wpAnyH_ready (rs := [3, 6]) (by kernel_rfl) (by simp) ?_
          refine AllReadyH.cons (o := ⟨some 8, .makeSlice 23 (.tmp 7) (.tmp 7), 23, "hunt.go:31", #[⟨2, .data⟩, ⟨2, .data⟩], none⟩) rfl (fun KK hK => ?_) (AllReadyH.cons (o := ⟨some 11, .makeSlice 23 (.tmp 10) (.tmp 10), 23, "hunt.go:31", #[⟨5, .data⟩, ⟨5, .data⟩], none⟩) rfl (fun KK hK => ?_) AllReadyH.nil)
          · go_simp
            have HKS := Lib.hid (HKS.out.mkb hm 3)
            refine hK.out _ _ ?_ (fun hHeld => ?_)
            · exact ⟨HKS.out.c0, HKS.out.c1⟩
            clear hK KK
            try simp only [Act.put, List.setIfInBounds_toArray, List.set_cons_zero, List.set_cons_succ]
            refine wpAnyH_ready (rs := [6]) (by kernel_rfl) (by simp) ?_
            refine AllReadyH.cons (o := ⟨some 11, .makeSlice 23 (.tmp 10) (.tmp 10), 23, "hunt.go:31", #[⟨5, .data⟩, ⟨5, .data⟩], none⟩) rfl (fun KK hK => ?_) AllReadyH.nil
            go_simp
            have HKS := Lib.hid (HKS.out.mkl hm 3)
            refine hK.out _ _ ?_ (fun hHeld => ?_)
            · exact ⟨HKS.out.c0, HKS.out.c1⟩
            clear hK KK
            try simp only [Act.put, List.setIfInBounds_toArray, List.set_cons_zero, List.set_cons_succ]
            refine tkH 7 ⟨some 12, .build 97 #[(0, .tmp 5), (2, .tmp 8), (4, .tmp 11)], 97, "hunt.go:31", #[⟨0, .data⟩, ⟨3, .data⟩, ⟨6, .data⟩], none⟩ ?_
            try simp only [Act.put, List.setIfInBounds_toArray, List.set_cons_zero, List.set_cons_succ]
            refine wpAnyH_ready (rs := [9]) (by kernel_rfl) (by simp) ?_
            refine AllReadyH.cons (o := ⟨none, .store 97 (.tmp 3) (.tmp 12), 0, "hunt.go:31", #[⟨8, .data⟩, ⟨7, .data⟩, ⟨5, .chain⟩, ⟨0, .phase⟩, ⟨1, .phase⟩, ⟨2, .phase⟩, ⟨3, .phase⟩, ⟨4, .phase⟩, ⟨5, .phase⟩, ⟨6, .phase⟩, ⟨7, .phase⟩, ⟨8, .phase⟩], none⟩) rfl (fun KK hK => ?_) AllReadyH.nil
            refine step_store_mid rfl 97 (.tmp 3) (.tmp 12) rfl _ 0 #[.slice (some ⟨fb, 0, none⟩) (m + 1) fc, .slice (some ⟨hb, 0, none⟩) E hc, .slice none 0 0, .slice (some ⟨_, 0, none⟩) m m, .slice none 0 0, .slice (some ⟨_, 0, none⟩) m m] rfl rfl (HKS.out.there (by simp)) (by kernel_rfl) (by simp [Value.oneCell']) ?_
            refine hK.out _ _ ?_ (fun hHeld => ?_)
            · exact HKS.out.keep (by simp) _ _ _ _ _ _
            clear hK KK
            try simp only [Act.put, List.setIfInBounds_toArray, List.set_cons_zero, List.set_cons_succ]
            refine wpAnyH_done (by kernel_rfl) ?_ _
            go_wp2_with fail
            go_meet
            exact HKS.out.done (by simp) (by simp) (by simp)
          · go_simp
            have HKS := Lib.hid (HKS.out.mkl hm 3)
            refine hK.out _ _ ?_ (fun hHeld => ?_)
            · exact ⟨HKS.out.c0, HKS.out.c1⟩
            clear hK KK
            try simp only [Act.put, List.setIfInBounds_toArray, List.set_cons_zero, List.set_cons_succ]
            refine wpAnyH_ready (rs := [3]) (by kernel_rfl) (by simp) ?_
            refine AllReadyH.cons (o := ⟨some 8, .makeSlice 23 (.tmp 7) (.tmp 7), 23, "hunt.go:31", #[⟨2, .data⟩, ⟨2, .data⟩], none⟩) rfl (fun KK hK => ?_) AllReadyH.nil
            go_simp
            have HKS := Lib.hid (HKS.out.mkb hm 3)
            refine hK.out _ _ ?_ (fun hHeld => ?_)
            · exact ⟨HKS.out.c0, HKS.out.c1⟩
            clear hK KK
            try simp only [Act.put, List.setIfInBounds_toArray, List.set_cons_zero, List.set_cons_succ]
            refine tkH 7 ⟨some 12, .build 97 #[(0, .tmp 5), (2, .tmp 8), (4, .tmp 11)], 97, "hunt.go:31", #[⟨0, .data⟩, ⟨3, .data⟩, ⟨6, .data⟩], none⟩ ?_
            try simp only [Act.put, List.setIfInBounds_toArray, List.set_cons_zero, List.set_cons_succ]
            refine wpAnyH_ready (rs := [9]) (by kernel_rfl) (by simp) ?_
            refine AllReadyH.cons (o := ⟨none, .store 97 (.tmp 3) (.tmp 12), 0, "hunt.go:31", #[⟨8, .data⟩, ⟨7, .data⟩, ⟨5, .chain⟩, ⟨0, .phase⟩, ⟨1, .phase⟩, ⟨2, .phase⟩, ⟨3, .phase⟩, ⟨4, .phase⟩, ⟨5, .phase⟩, ⟨6, .phase⟩, ⟨7, .phase⟩, ⟨8, .phase⟩], none⟩) rfl (fun KK hK => ?_) AllReadyH.nil
            refine step_store_mid rfl 97 (.tmp 3) (.tmp 12) rfl _ 0 #[.slice (some ⟨fb, 0, none⟩) (m + 1) fc, .slice (some ⟨hb, 0, none⟩) E hc, .slice none 0 0, .slice (some ⟨_, 0, none⟩) m m, .slice none 0 0, .slice (some ⟨_, 0, none⟩) m m] rfl rfl (HKS.out.there (by simp)) (by kernel_rfl) (by simp [Value.oneCell']) ?_
            refine hK.out _ _ ?_ (fun hHeld => ?_)
            · exact HKS.out.keep (by simp) _ _ _ _ _ _
            clear hK KK
            try simp only [Act.put, List.setIfInBounds_toArray, List.set_cons_zero, List.set_cons_succ]
            refine wpAnyH_done (by kernel_rfl) ?_ _
            go_wp2_with fail
            go_meet
            exact HKS.out.done (by simp) (by simp) (by simp)
    · go_simp
      have HKS := Lib.hid (HKS.out.mkp 97)
      refine hK.out _ _ ?_ (fun hHeld => ?_)
      · exact ⟨HKS.out.c0, HKS.out.c1⟩
      clear hK KK
      try simp only [Act.put, List.setIfInBounds_toArray, List.set_cons_zero, List.set_cons_succ]
      refine wpAnyH_ready (rs := [2]) (by kernel_rfl) (by simp) ?_
      refine AllReadyH.cons (o := ⟨some 7, .call { callee := Callee.value (Operand.func 72), args := #[.tmp 6], argTypes := #[71] }, 3, "hunt.go:31", #[⟨1, .data⟩], none⟩) rfl (fun KK hK => ?_) AllReadyH.nil
      go_simp
      go_at_call 72
      refine (SZ.out _).mono ?_
      rintro e w2 ⟨rfl, rfl⟩
      have HKS := Lib.hid (HKS.out.grow ((Below.refl _ _).alloc (Nat.le_refl _) (.cells #[.slice (some ⟨fb, 0, none⟩) (m + 1) fc, .slice (some ⟨hb, 0, none⟩) E hc] 71)))
      refine hK.out _ _ ?_ (fun hHeld => ?_)
      · exact ⟨HKS.out.c0, HKS.out.c1⟩
      clear hK KK
      try simp only [Act.put, List.setIfInBounds_toArray, List.set_cons_zero, List.set_cons_succ]
      refine wpAnyH_ready (rs := [3, 5]) (by kernel_rfl) (by simp) ?_
      refine AllReadyH.cons (o := ⟨some 8, .makeSlice 23 (.tmp 7) (.tmp 7), 23, "hunt.go:31", #[⟨2, .data⟩, ⟨2, .data⟩], none⟩) rfl (fun KK hK => ?_) (AllReadyH.cons (o := ⟨some 10, .call { callee := Callee.value (Operand.func 72), args := #[.tmp 9], argTypes := #[71] }, 3, "hunt.go:31", #[⟨4, .data⟩, ⟨2, .chain⟩], none⟩) rfl (fun KK hK => ?_) AllReadyH.nil)
      · go_simp
        have HKS := Lib.hid (HKS.out.mkb hm 3)
        refine hK.out _ _ ?_ (fun hHeld => ?_)
        · exact ⟨HKS.out.c0, HKS.out.c1⟩
        clear hK KK
        try simp only [Act.put, List.setIfInBounds_toArray, List.set_cons_zero, List.set_cons_succ]
        refine wpAnyH_ready (rs := [5]) (by kernel_rfl) (by simp) ?_
        refine AllReadyH.cons (o := ⟨some 10, .call { callee := Callee.value (Operand.func 72), args := #[.tmp 9], argTypes := #[71] }, 3, "hunt.go:31", #[⟨4, .data⟩, ⟨2, .chain⟩], none⟩) rfl (fun KK hK => ?_) AllReadyH.nil
        go_simp
        go_at_call 72
        refine (SZ.out _).mono ?_
        rintro e w2 ⟨rfl, rfl⟩
        have HKS := Lib.hid (HKS.out.grow ((Below.refl _ _).alloc (Nat.le_refl _) (.cells #[.slice (some ⟨fb, 0, none⟩) (m + 1) fc, .slice (some ⟨hb, 0, none⟩) E hc] 71)))
        refine hK.out _ _ ?_ (fun hHeld => ?_)
        · exact ⟨HKS.out.c0, HKS.out.c1⟩
        clear hK KK
        try simp only [Act.put, List.setIfInBounds_toArray, List.set_cons_zero, List.set_cons_succ]
        refine wpAnyH_ready (rs := [6]) (by kernel_rfl) (by simp) ?_
        refine AllReadyH.cons (o := ⟨some 11, .makeSlice 23 (.tmp 10) (.tmp 10), 23, "hunt.go:31", #[⟨5, .data⟩, ⟨5, .data⟩], none⟩) rfl (fun KK hK => ?_) AllReadyH.nil
        go_simp
        have HKS := Lib.hid (HKS.out.mkl hm 3)
        refine hK.out _ _ ?_ (fun hHeld => ?_)
        · exact ⟨HKS.out.c0, HKS.out.c1⟩
        clear hK KK
        try simp only [Act.put, List.setIfInBounds_toArray, List.set_cons_zero, List.set_cons_succ]
        refine tkH 7 ⟨some 12, .build 97 #[(0, .tmp 5), (2, .tmp 8), (4, .tmp 11)], 97, "hunt.go:31", #[⟨0, .data⟩, ⟨3, .data⟩, ⟨6, .data⟩], none⟩ ?_
        try simp only [Act.put, List.setIfInBounds_toArray, List.set_cons_zero, List.set_cons_succ]
        refine wpAnyH_ready (rs := [9]) (by kernel_rfl) (by simp) ?_
        refine AllReadyH.cons (o := ⟨none, .store 97 (.tmp 3) (.tmp 12), 0, "hunt.go:31", #[⟨8, .data⟩, ⟨7, .data⟩, ⟨5, .chain⟩, ⟨0, .phase⟩, ⟨1, .phase⟩, ⟨2, .phase⟩, ⟨3, .phase⟩, ⟨4, .phase⟩, ⟨5, .phase⟩, ⟨6, .phase⟩, ⟨7, .phase⟩, ⟨8, .phase⟩], none⟩) rfl (fun KK hK => ?_) AllReadyH.nil
        refine step_store_mid rfl 97 (.tmp 3) (.tmp 12) rfl _ 0 #[.slice (some ⟨fb, 0, none⟩) (m + 1) fc, .slice (some ⟨hb, 0, none⟩) E hc, .slice none 0 0, .slice (some ⟨_, 0, none⟩) m m, .slice none 0 0, .slice (some ⟨_, 0, none⟩) m m] rfl rfl (HKS.out.there (by simp)) (by kernel_rfl) (by simp [Value.oneCell']) ?_
        refine hK.out _ _ ?_ (fun hHeld => ?_)
        · exact HKS.out.keep (by simp) _ _ _ _ _ _
        clear hK KK
        try simp only [Act.put, List.setIfInBounds_toArray, List.set_cons_zero, List.set_cons_succ]
        refine wpAnyH_done (by kernel_rfl) ?_ _
        go_wp2_with fail
        go_meet
        exact HKS.out.done (by simp) (by simp) (by simp)
      · go_simp
        go_at_call 72
        refine (SZ.out _).mono ?_
        rintro e w2 ⟨rfl, rfl⟩
        have HKS := Lib.hid (HKS.out.grow ((Below.refl _ _).alloc (Nat.le_refl _) (.cells #[.slice (some ⟨fb, 0, none⟩) (m + 1) fc, .slice (some ⟨hb, 0, none⟩) E hc] 71)))
        refine hK.out _ _ ?_ (fun hHeld => ?_)
        · exact ⟨HKS.out.c0, HKS.out.c1⟩
        clear hK KK
        try simp only [Act.put, List.setIfInBounds_toArray, List.set_cons_zero, List.set_cons_succ]
        refine wpAnyH_ready (rs := [3, 6]) (by kernel_rfl) (by simp) ?_
        refine AllReadyH.cons (o := ⟨some 8, .makeSlice 23 (.tmp 7) (.tmp 7), 23, "hunt.go:31", #[⟨2, .data⟩, ⟨2, .data⟩], none⟩) rfl (fun KK hK => ?_) (AllReadyH.cons (o := ⟨some 11, .makeSlice 23 (.tmp 10) (.tmp 10), 23, "hunt.go:31", #[⟨5, .data⟩, ⟨5, .data⟩], none⟩) rfl (fun KK hK => ?_) AllReadyH.nil)
        · go_simp
          have HKS := Lib.hid (HKS.out.mkb hm 3)
          refine hK.out _ _ ?_ (fun hHeld => ?_)
          · exact ⟨HKS.out.c0, HKS.out.c1⟩
          clear hK KK
          try simp only [Act.put, List.setIfInBounds_toArray, List.set_cons_zero, List.set_cons_succ]
          refine wpAnyH_ready (rs := [6]) (by kernel_rfl) (by simp) ?_
          refine AllReadyH.cons (o := ⟨some 11, .makeSlice 23 (.tmp 10) (.tmp 10), 23, "hunt.go:31", #[⟨5, .data⟩, ⟨5, .data⟩], none⟩) rfl (fun KK hK => ?_) AllReadyH.nil
          go_simp
          have HKS := Lib.hid (HKS.out.mkl hm 3)
          refine hK.out _ _ ?_ (fun hHeld => ?_)
          · exact ⟨HKS.out.c0, HKS.out.c1⟩
          clear hK KK
          try simp only [Act.put, List.setIfInBounds_toArray, List.set_cons_zero, List.set_cons_succ]
          refine tkH 7 ⟨some 12, .build 97 #[(0, .tmp 5), (2, .tmp 8), (4, .tmp 11)], 97, "hunt.go:31", #[⟨0, .data⟩, ⟨3, .data⟩, ⟨6, .data⟩], none⟩ ?_
          try simp only [Act.put, List.setIfInBounds_toArray, List.set_cons_zero, List.set_cons_succ]
          refine wpAnyH_ready (rs := [9]) (by kernel_rfl) (by simp) ?_
          refine AllReadyH.cons (o := ⟨none, .store 97 (.tmp 3) (.tmp 12), 0, "hunt.go:31", #[⟨8, .data⟩, ⟨7, .data⟩, ⟨5, .chain⟩, ⟨0, .phase⟩, ⟨1, .phase⟩, ⟨2, .phase⟩, ⟨3, .phase⟩, ⟨4, .phase⟩, ⟨5, .phase⟩, ⟨6, .phase⟩, ⟨7, .phase⟩, ⟨8, .phase⟩], none⟩) rfl (fun KK hK => ?_) AllReadyH.nil
          refine step_store_mid rfl 97 (.tmp 3) (.tmp 12) rfl _ 0 #[.slice (some ⟨fb, 0, none⟩) (m + 1) fc, .slice (some ⟨hb, 0, none⟩) E hc, .slice none 0 0, .slice (some ⟨_, 0, none⟩) m m, .slice none 0 0, .slice (some ⟨_, 0, none⟩) m m] rfl rfl (HKS.out.there (by simp)) (by kernel_rfl) (by simp [Value.oneCell']) ?_
          refine hK.out _ _ ?_ (fun hHeld => ?_)
          · exact HKS.out.keep (by simp) _ _ _ _ _ _
          clear hK KK
          try simp only [Act.put, List.setIfInBounds_toArray, List.set_cons_zero, List.set_cons_succ]
          refine wpAnyH_done (by kernel_rfl) ?_ _
          go_wp2_with fail
          go_meet
          exact HKS.out.done (by simp) (by simp) (by simp)
        · go_simp
          have HKS := Lib.hid (HKS.out.mkl hm 3)
          refine hK.out _ _ ?_ (fun hHeld => ?_)
          · exact ⟨HKS.out.c0, HKS.out.c1⟩
          clear hK KK
          try simp only [Act.put, List.setIfInBounds_toArray, List.set_cons_zero, List.set_cons_succ]
          refine wpAnyH_ready (rs := [3]) (by kernel_rfl) (by simp) ?_
          refine AllReadyH.cons (o := ⟨some 8, .makeSlice 23 (.tmp 7) (.tmp 7), 23, "hunt.go:31", #[⟨2, .data⟩, ⟨2, .data⟩], none⟩) rfl (fun KK hK => ?_) AllReadyH.nil
          go_simp
          have HKS := Lib.hid (HKS.out.mkb hm 3)
          refine hK.out _ _ ?_ (fun hHeld => ?_)
          · exact ⟨HKS.out.c0, HKS.out.c1⟩
          clear hK KK
          try simp only [Act.put, List.setIfInBounds_toArray, List.set_cons_zero, List.set_cons_succ]
          refine tkH 7 ⟨some 12, .build 97 #[(0, .tmp 5), (2, .tmp 8), (4, .tmp 11)], 97, "hunt.go:31", #[⟨0, .data⟩, ⟨3, .data⟩, ⟨6, .data⟩], none⟩ ?_
          try simp only [Act.put, List.setIfInBounds_toArray, List.set_cons_zero, List.set_cons_succ]
          refine wpAnyH_ready (rs := [9]) (by kernel_rfl) (by simp) ?_
          refine AllReadyH.cons (o := ⟨none, .store 97 (.tmp 3) (.tmp 12), 0, "hunt.go:31", #[⟨8, .data⟩, ⟨7, .data⟩, ⟨5, .chain⟩, ⟨0, .phase⟩, ⟨1, .phase⟩, ⟨2, .phase⟩, ⟨3, .phase⟩, ⟨4, .phase⟩, ⟨5, .phase⟩, ⟨6, .phase⟩, ⟨7, .phase⟩, ⟨8, .phase⟩], none⟩) rfl (fun KK hK => ?_) AllReadyH.nil
          refine step_store_mid rfl 97 (.tmp 3) (.tmp 12) rfl _ 0 #[.slice (some ⟨fb, 0, none⟩) (m + 1) fc, .slice (some ⟨hb, 0, none⟩) E hc, .slice none 0 0, .slice (some ⟨_, 0, none⟩) m m, .slice none 0 0, .slice (some ⟨_, 0, none⟩) m m] rfl rfl (HKS.out.there (by simp)) (by kernel_rfl) (by simp [Value.oneCell']) ?_
          refine hK.out _ _ ?_ (fun hHeld => ?_)
          · exact HKS.out.keep (by simp) _ _ _ _ _ _
          clear hK KK
          try simp only [Act.put, List.setIfInBounds_toArray, List.set_cons_zero, List.set_cons_succ]
          refine wpAnyH_done (by kernel_rfl) ?_ _
          go_wp2_with fail
          go_meet
          exact HKS.out.done (by simp) (by simp) (by simp)
  case rest =>
    obtain ⟨S, p, bb, lb, rfl, HM, hc0, hc1⟩ := hcut
    have HT0 := Lib.hid (ti_begin m (adjK m F H) (fun _ => 0))
    have hpl := HM.out.pl
    have hwz := HM.out.wq
    clear mk1 HKS
    go_wp2_with fail
    refine (SZ.out _).mono ?_
    rintro e w2 ⟨rfl, rfl⟩
    have HM2 := Lib.hid (HM.out.below ((Below.refl _ _).alloc (Nat.le_refl _) (.cells #[.slice (some ⟨fb, 0, none⟩) (m + 1) fc, .slice (some ⟨hb, 0, none⟩) E hc] 71)))
    clear hc0 hc1 HM hpl
    go_wp2_with fail
    go_loopw [15] (fun jv wr => ∃ (i : Nat) (bk ls : Nat → Nat) (ov wv : Value), jv = .int .i64 (i : Nat) ∧ i ≤ m ∧ Hid (HuntM w S p bb lb m (.slice (some ⟨fb, 0, none⟩) (m + 1) fc) (.slice (some ⟨hb, 0, none⟩) E hc) ov wv [] bk ls [] wr) ∧ Hid (TI m (adjK m F H) [] bk ls []) ∧ Hid (∀ u, u < i → bk u ≠ 0)) (fun jv _ => m - (intOf jv).toNat)
    case atStart => exact ⟨0, _, _, _, _, rfl, Nat.zero_le _, HM2, HT0, Lib.hid (fun u hu => absurd hu (Nat.not_lt_zero _))⟩
    case round =>
      obtain ⟨i, bk, ls, ov, wv, rfl, him, HI, HT, HN⟩ := hrel
      have c3 := HI.out.c3
      have c5 := HI.out.c5
      by_cases hlt : i < m
      · obtain ⟨xb, _⟩ := HI.out.rb.cellF (bkv_at bk hlt)
        obtain ⟨x, hx⟩ : ∃ x, x = bk i := ⟨_, rfl⟩
        rw [← hx] at xb
        have HX := Lib.hid hx
        clear hx
        by_cases hx0 : x = 0
        · subst hx0
          have FR := Lib.hid (fun d => from_any (HI.out.drewN (d := d)) HT.out HWB.out hm hE i hlt HX.out.symm)
          have FR0 := Lib.hid (from_any HI.out HT.out HWB.out hm hE i hlt HX.out.symm)
          clear c5
          go_wp2_with fail
          first | refine FR0.out.mono ?_ | refine (FR.out _).mono ?_
          rintro e w3 ⟨rfl, ov', wv', bk', ls', h3, t3, n3, v3⟩
          have H3 := Lib.hid h3
          have T3 := Lib.hid t3
          have N3 : Hid (∀ u, u < i + 1 → bk' u ≠ 0) := Lib.hid (fun u hu => by
            by_cases e : u = i
            · subst e; exact v3
            · exact n3 u (HN.out u (by omega)))
          clear h3 t3 n3 v3
          go_wp2_with fail
          exact ⟨⟨i + 1, bk', ls', ov', wv', by go_num, by omega, H3, T3, N3⟩, by simp [intOf]; omega⟩
        · have e0 : ((x : Int) == (0 : Int)) = false := by rw [beq_eq_false_iff_ne]; omega
          have N3 : Hid (∀ u, u < i + 1 → bk u ≠ 0) := Lib.hid (fun u hu => by
            by_cases e : u = i
            · subst e; rw [← HX.out]; exact hx0
            · exact HN.out u (by omega))
          clear c5
          go_wp2_with fail
          exact ⟨⟨i + 1, bk, ls, ov, wv, by go_num, by omega, HI, HT, N3⟩, by simp [intOf]; omega⟩
      · have hie : m = i := by omega
        have HE : Hid (∀ v, v < m → LeastK (fun a b => b ∈ adjK m F H a) v (ls v)) := Lib.hid (fun v hv => HT.out.g4 v hv (by
          rcases HT.out.g2 v hv with h | h | h
          · exact absurd h (HN.out v (by omega))
          · exact h
          · cases h))
        subst hie
        clear c3
        go_wp2_with fail
        go_ret
        exact ⟨_, ls, rfl, HI.out.rl, HE.out, HI.out.bl⟩
end Go.Proofs.YtfpepoebammeoaaGreat
