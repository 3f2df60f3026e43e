/- The contract of weave: the web of an edges' slice. -/
import Derived.Test.YtfpepoebammeoaaGreatU10
import Derived.Test.YtfpepoebammeoaaGreatU2
import Derived.Test.YtfpepoebammeoaaGreatU6
import Derived.Test.YtfpepoebammeoaaGreatU9
set_option linter.unusedVariables false
set_option linter.unusedSimpArgs false
namespace Go.Proofs.YtfpepoebammeoaaGreat
open Go.ChangeShapes Go.WideShapes Go.ChangeAt Go.RowKit

structure KV (w : World) (n1 n2 : Nat) (oa ob op : Option Nat) (W : World) : Prop where
  bl : Below w.heap.size w W
  sz : w.heap.size < W.heap.size
  th : W.there w.heap.size 0 2
  pa : ∀ b, oa = some b → w.heap.size < b ∧ b < W.heap.size ∧ Row 1 w.heap.size W (.slice (some ⟨b, 0, none⟩) n1 n1) n1 (iv (List.replicate n1 0))
  pb : ∀ b, ob = some b → w.heap.size < b ∧ b < W.heap.size ∧ Row 1 w.heap.size W (.slice (some ⟨b, 0, none⟩) n2 n2) n2 (iv (List.replicate n2 0))
  pp : ∀ p, op = some p → w.heap.size < p ∧ p < W.heap.size ∧ W.there p 0 2
  nab : ∀ b l, oa = some b → ob = some l → b ≠ l
  nap : ∀ b p, oa = some b → op = some p → b ≠ p
  nbp : ∀ l p, ob = some l → op = some p → l ≠ p
theorem there_below {w w' : World} {b n : Nat} (h : w.there b 0 n) (hb : Below w.heap.size w w') (hl : b < w.heap.size) : w'.there b 0 n := fun j hj => by
  obtain ⟨h1, h2⟩ := h j hj
  exact ⟨by rw [hb.cell (p := ⟨b, 0 + j, none⟩) hl]; exact h1, by rw [hb.frozen (p := ⟨b, 0 + j, none⟩) hl]; exact h2⟩
theorem there_off {Z : Nat → Prop} {w w' : World} {b n : Nat} (h : w.there b 0 n) (ho : Off Z w w') (hl : b < w.heap.size) (hz : ¬ Z b) : w'.there b 0 n := fun j hj => by
  obtain ⟨h1, h2⟩ := h j hj
  exact ⟨by rw [ho.cell (p := ⟨b, 0 + j, none⟩) hl hz]; exact h1, by rw [ho.frozen (p := ⟨b, 0 + j, none⟩) hl hz]; exact h2⟩
section
variable {w W W' : World} {n1 n2 : Nat} {oa ob op : Option Nat}
theorem KV.grow (h : KV w n1 n2 oa ob op W) (hb : Below W.heap.size W W') : KV w n1 n2 oa ob op W' :=
  ⟨h.bl.trans (hb.mono (Nat.le_of_lt h.sz)), Nat.lt_of_lt_of_le h.sz hb.size, there_below h.th hb h.sz,
    fun b e => by obtain ⟨x, y, z⟩ := h.pa b e; exact ⟨x, Nat.lt_of_lt_of_le y hb.size, z.below hb⟩,
    fun b e => by obtain ⟨x, y, z⟩ := h.pb b e; exact ⟨x, Nat.lt_of_lt_of_le y hb.size, z.below hb⟩,
    fun p e => by obtain ⟨x, y, z⟩ := h.pp p e; exact ⟨x, Nat.lt_of_lt_of_le y hb.size, there_below z hb y⟩, h.nab, h.nap, h.nbp⟩
theorem KV.mka (h : KV w n1 n2 none ob op W) (hm : n1 ≤ 1000000) (t : TypeId) : KV w n1 n2 (some W.heap.size) ob op (W.alloc (.cells (madeCells #[.int .i64 0] n1) t)) := by
  have hg := h.grow ((Below.refl _ W).alloc (Nat.le_refl _) (.cells (madeCells #[.int .i64 0] n1) t))
  have hs := h.sz
  refine ⟨hg.bl, hg.sz, hg.th, fun b e => ?_, hg.pb, hg.pp, fun b l e e2 => ?_, fun b p e e2 => ?_, hg.nbp⟩
  · obtain rfl := Option.some.inj e
    exact ⟨hs, by simp, made_intk hm (by omega) t⟩
  · obtain rfl := Option.some.inj e
    have := (h.pb l e2).2.1
    omega
  · obtain rfl := Option.some.inj e
    have := (h.pp p e2).2.1
    omega
theorem KV.mkb (h : KV w n1 n2 oa none op W) (hm : n2 ≤ 1000000) (t : TypeId) : KV w n1 n2 oa (some W.heap.size) op (W.alloc (.cells (madeCells #[.int .i64 0] n2) t)) := by
  have hg := h.grow ((Below.refl _ W).alloc (Nat.le_refl _) (.cells (madeCells #[.int .i64 0] n2) t))
  have hs := h.sz
  refine ⟨hg.bl, hg.sz, hg.th, hg.pa, fun b e => ?_, hg.pp, fun b l e e2 => ?_, hg.nap, fun b p e e2 => ?_⟩
  · obtain rfl := Option.some.inj e
    exact ⟨hs, by simp, made_intk hm (by omega) t⟩
  · obtain rfl := Option.some.inj e2
    have := (h.pa b e).2.1
    omega
  · obtain rfl := Option.some.inj e
    have := (h.pp p e2).2.1
    omega
theorem KV.mkp (h : KV w n1 n2 oa ob none W) (t : TypeId) : KV w n1 n2 oa ob (some W.heap.size) (W.alloc (.cells #[.slice none 0 0, .slice none 0 0] t)) := by
  have hg := h.grow ((Below.refl _ W).alloc (Nat.le_refl _) (.cells #[.slice none 0 0, .slice none 0 0] t))
  have hs := h.sz
  refine ⟨hg.bl, hg.sz, hg.th, hg.pa, hg.pb, fun p e => ?_, hg.nab, fun b p e e2 => ?_, fun b p e e2 => ?_⟩
  · obtain rfl := Option.some.inj e
    refine ⟨hs, by simp, fun j hj => ⟨?_, ?_⟩⟩
    · rw [World.cell?_alloc_at _ _ _ _ rfl]
      have : j = 0 ∨ j = 1 := by omega
      rcases this with rfl | rfl <;> rfl
    · rw [World.frozen?_alloc_mark]; simp
  · obtain rfl := Option.some.inj e2
    have := (h.pa b e).2.1
    omega
  · obtain rfl := Option.some.inj e2
    have := (h.pb b e).2.1
    omega
structure WvM (w : World) (fa hb p M E : Nat) (Fc : Nat → Nat) (hs : List Nat) (W : World) : Prop where
  bl : Below w.heap.size w W
  th : W.there w.heap.size 0 2
  c0 : W.cell? ⟨p, 0, none⟩ = some (.slice (some ⟨fa, 0, none⟩) M M)
  c1 : W.cell? ⟨p, 1, none⟩ = some (.slice (some ⟨hb, 0, none⟩) E E)
  rf : Row 1 w.heap.size W (.slice (some ⟨fa, 0, none⟩) M M) M (bkv Fc M)
  rh : Row 1 w.heap.size W (.slice (some ⟨hb, 0, none⟩) E E) E (iv (nl hs))
  n1 : w.heap.size < fa
  n2 : w.heap.size < hb
  n3 : w.heap.size < p
  nab : fa ≠ hb
  nap : fa ≠ p
  nbp : hb ≠ p
def KvA (w : World) (M E : Nat) (tv : Value) (W : World) : Prop := ∃ fa hb p, tv = .pointer (some ⟨p, 0, none⟩) ∧ Hid (WvM w fa hb p M E (fun _ => 0) (List.replicate E 0) W)
theorem KV.done {p fa hb M E : Nat} (h : KV w M E oa ob op W) (e1 : op = some p) (e2 : oa = some fa) (e3 : ob = some hb) : KvA w M E (.pointer (some ⟨p, 0, none⟩)) (W.setCells p 0 [.slice (some ⟨fa, 0, none⟩) M M, .slice (some ⟨hb, 0, none⟩) E E]) := by
  obtain ⟨pp1, pp2, hth⟩ := h.pp p e1
  obtain ⟨b1, b2, b3⟩ := h.pa fa e2
  obtain ⟨l1, l2, l3⟩ := h.pb hb e3
  have n1 := h.nab fa hb e2 e3
  have n2 := h.nap fa p e2 e1
  have n3 := h.nbp hb p e3 e1
  have hh := heap_setCells [.slice (some ⟨fa, 0, none⟩) M M, .slice (some ⟨hb, 0, none⟩) E E] p 0 W
  have hcl : ∀ (j : Nat) v, [Value.slice (some ⟨fa, 0, none⟩) M M, Value.slice (some ⟨hb, 0, none⟩) E E][j]? = some v → (W.setCells p 0 [.slice (some ⟨fa, 0, none⟩) M M, .slice (some ⟨hb, 0, none⟩) E E]).cell? ⟨p, j, none⟩ = some v := fun j v hjv => by
    obtain ⟨hj, e⟩ := List.getElem?_eq_some_iff.1 hjv
    have := World.cell?_setCells_in p _ 0 W (fun j hj => (hth j (by simpa using hj)).1) j hj
    rw [Nat.zero_add] at this
    rw [this, e]
  generalize W.setCells p 0 [.slice (some ⟨fa, 0, none⟩) M M, .slice (some ⟨hb, 0, none⟩) E E] = W9 at *
  have ho : Off (fun i => i = p) W W9 := ⟨hh.2.2.1, hh.2.2.2.1, hh.2.2.2.2, Nat.le_of_eq hh.1.symm, fun i _ hi => hh.2.1 i hi⟩
  have hz1 : bkv (fun _ => 0) M = iv (List.replicate M 0) := bkv_zero _
  have hz2 : iv (nl (List.replicate E 0)) = iv (List.replicate E 0) := by simp [nl]
  refine ⟨fa, hb, p, rfl, Lib.hid ⟨?_, there_off h.th ho h.sz (by omega), hcl 0 _ rfl, hcl 1 _ rfl, ?_, ?_, b1, l1, pp1, n1, n2, n3⟩⟩
  · exact h.bl.trans (ho.below (B := w.heap.size) (fun i hi => by omega) h.bl.size)
  · rw [hz1]
    exact b3.off ho (fun b hb e => n2 (by have : fa = b := Option.some.inj hb; omega))
  · rw [hz2]
    exact l3.off ho (fun b hb' e => n3 (by have : hb = b := Option.some.inj hb'; omega))
end
section
variable {w : World} {fa hb p M E : Nat} {Fc : Nat → Nat} {hs : List Nat} {W W' : World}
theorem WvM.below (h : WvM w fa hb p M E Fc hs W) (hB : Below W.heap.size W W') : WvM w fa hb p M E Fc hs W' := by
  have hp : p < W.heap.size := cell_lt h.c0
  have hw : w.heap.size < W.heap.size := by have := h.n3; omega
  exact ⟨h.bl.trans (hB.mono h.bl.size), there_below h.th hB hw, (hB.cell (p := ⟨p, 0, none⟩) hp).trans h.c0, (hB.cell (p := ⟨p, 1, none⟩) hp).trans h.c1, h.rf.below hB, h.rh.below hB, h.n1, h.n2, h.n3, h.nab, h.nap, h.nbp⟩
theorem WvM.putF {v x : Nat} (h : WvM w fa hb p M E Fc hs W) (hv : v < M) : WvM w fa hb p M E (upd Fc v x) hs (W.setCell ⟨fa, v, none⟩ (.int .i64 (x : Int))) := by
  have hp : p < W.heap.size := cell_lt h.c0
  have h1 := h.n1
  have h3 := h.n3
  have hab := h.nab
  have hap := h.nap
  have hr := h.rf.put (j := v) (by rw [bkv_len]; exact hv) (.int .i64 (x : Int))
  rw [bkv_set _ hv] at hr
  have ho : Off (fun i => i = fa) W (W.setCell ⟨fa, v, none⟩ (.int .i64 (x : Int))) := (Off.refl (fun i => i = fa) W).setCell (p := ⟨fa, v, none⟩) (.inr rfl) _
  exact ⟨below_store h.bl (by show _ ≤ fa; omega), there_off h.th ho (by omega) (by omega), (ho.cell (p := ⟨p, 0, none⟩) hp (by show ¬ p = fa; omega)).trans h.c0, (ho.cell (p := ⟨p, 1, none⟩) hp (by show ¬ p = fa; omega)).trans h.c1, hr, h.rh.off ho (fun b hb' e => hab (by have : hb = b := Option.some.inj hb'; omega)), h.n1, h.n2, h.n3, h.nab, h.nap, h.nbp⟩
theorem WvM.putH {q x : Nat} (h : WvM w fa hb p M E Fc hs W) (hq : q < hs.length) : WvM w fa hb p M E Fc (hs.set q x) (W.setCell ⟨hb, q, none⟩ (.int .i64 (x : Int))) := by
  have hp : p < W.heap.size := cell_lt h.c0
  have h2 := h.n2
  have h3 := h.n3
  have hab := h.nab
  have hbp := h.nbp
  have hr := h.rh.put (j := q) (by simp [nl, iv]; exact hq) (.int .i64 (x : Int))
  have hse : (iv (nl hs)).set q (.int .i64 (x : Int)) = iv (nl (hs.set q x)) := by simp [iv, nl, List.map_set]
  rw [hse] at hr
  have ho : Off (fun i => i = hb) W (W.setCell ⟨hb, q, none⟩ (.int .i64 (x : Int))) := (Off.refl (fun i => i = hb) W).setCell (p := ⟨hb, q, none⟩) (.inr rfl) _
  exact ⟨below_store h.bl (by show _ ≤ hb; omega), there_off h.th ho (by omega) (by omega), (ho.cell (p := ⟨p, 0, none⟩) hp (by show ¬ p = hb; omega)).trans h.c0, (ho.cell (p := ⟨p, 1, none⟩) hp (by show ¬ p = hb; omega)).trans h.c1, h.rf.off ho (fun b hb' e => hab (by have : fa = b := Option.some.inj hb'; omega)), hr, h.n1, h.n2, h.n3, h.nab, h.nap, h.nbp⟩
theorem WvM.congr {Fc' : Nat → Nat} (h : WvM w fa hb p M E Fc hs W) (he : ∀ v, v < M → Fc v = Fc' v) : WvM w fa hb p M E Fc' hs W := by
  have hr := h.rf
  rw [bkv_congr he] at hr
  exact ⟨h.bl, h.th, h.c0, h.c1, hr, h.rh, h.n1, h.n2, h.n3, h.nab, h.nap, h.nbp⟩
end

set_option maxHeartbeats 4000000 in
set_option maxRecDepth 100000 in
theorem weave_any {w : World} (es : List (Nat × Nat)) (m : Nat) (v : Value) (hr : RE w v (toI es)) (hl : es.length ≤ 900000) (hm : m ≤ 900000) (hlt : ∀ e ∈ es, e.1 < m ∧ e.2 < m) :
    Calls Tryz.prog 45 #[.int .i64 (m : Nat), v] w fun e W' => ∃ fv hv H, e = .returned (.agg #[fv, hv]) ∧ WebK W' fv hv m es.length (preE es) H ∧ HeadI m es es.length H ∧ Below w.heap.size w W' := by
  obtain ⟨va, vc, rfl⟩ := hr.form
  obtain ⟨E, hE⟩ : ∃ E, E = es.length := ⟨_, rfl⟩
  have hlI : (toI es).length = E := by rw [hE]; simp [toI]
  rw [hlI] at hr ⊢
  rw [← hE] at hl ⊢
  have mk1 := run_make_row' (P := Tryz.prog) 23 3 (.int .i64 0) 8 Tryz.underlying23 infoIk rfl .i64 .i64 (m + 1) (by omega) (by omega)
  have mk2 := run_make_row' (P := Tryz.prog) 23 3 (.int .i64 0) 8 Tryz.underlying23 infoIk rfl .i64 .i64 E (by omega) (by omega)
  have HKV : Hid (KV w (m + 1) E none none none (w.alloc (.cells #[.slice none 0 0, .slice none 0 0] 71)).drew) := Lib.hid ⟨((Below.refl _ _).alloc (Nat.le_refl _) _).drew, by show w.heap.size < (w.alloc _).heap.size; simp, fun j hj => by
    constructor
    · show ((w.alloc _).cell? _).isSome = true
      rw [World.cell?_alloc_at _ _ _ _ rfl]
      have : j = 0 ∨ j = 1 := by omega
      rcases this with rfl | rfl <;> rfl
    · show (w.alloc _).frozen? _ = false
      rw [World.frozen?_alloc_mark]; simp, fun b e => (by cases e), fun b e => (by cases e), fun b e => (by cases e), fun b l e => (by cases e), fun b l e => (by cases e), fun b l e => (by cases e)⟩
  have HR := Lib.hid hr
  have HLT := Lib.hid hlt
  have HE := Lib.hid hE
  have hm1 : m + 1 ≤ 1000000 := by omega
  have hE1 : E ≤ 1000000 := by omega
  obtain ⟨M, hM⟩ : ∃ M, M = m + 1 := ⟨_, rfl⟩
  have hMI : (m : Int) + 1 = (M : Int) := by omega
  have mk1' : ∀ W : World, (Instr.makeSlice 23 (.int .i64 (M : Int)) (.int .i64 (M : Int))).run Tryz.prog W = .ok (.slice (some ⟨W.heap.size, 0, none⟩) M M) (W.alloc (.cells (madeCells #[.int .i64 0] M) 3)) := by rw [hM]; exact mk1
  rw [← hM] at HKV hm1
  have HMM := Lib.hid hM
  have hwM : IntKind.i64.wrap (M : Int) = (M : Int) := by rw [IntKind.wrap_i64]; omega
  clear hr hlI hlt hE mk1 hM
  go_enter Tryz.func45, Tryz.ntmps45
  go_wp2_with fail
  go_cut [5] from 13 to 19 (fun tv W => KvA w M E tv W)
  case first =>
    refine wp_region_held_drew (S := (fun W => True)) (by kernel_rfl) ?_ (fun hHeld => ?_)
    · exact True.intro
    refine tkH 0 ⟨some 13, .move (.tmp 0), 3, "web.go:13", #[], none⟩ ?_
    try simp only [Act.put, List.setIfInBounds_toArray, List.set_cons_zero, List.set_cons_succ]
    refine tkH 1 ⟨some 14, .binOp BinOp.add 3 (.tmp 13) (.const (Value.int IntKind.i64 1)) 3, 3, "web.go:13", #[⟨0, .data⟩], none⟩ ?_
    try simp only [Act.put, List.setIfInBounds_toArray, List.set_cons_zero, List.set_cons_succ]
    refine tkH 3 ⟨some 16, .move (.tmp 1), 22, "web.go:13", #[], none⟩ ?_
    try simp only [Act.put, List.setIfInBounds_toArray, List.set_cons_zero, List.set_cons_succ]
    refine tkH 4 ⟨some 17, .call { callee := Callee.builtin Builtin.len, args := #[.tmp 16], argTypes := #[22] }, 3, "web.go:13", #[⟨3, .data⟩], none⟩ ?_
    try simp only [Act.put, List.setIfInBounds_toArray, List.set_cons_zero, List.set_cons_succ]
    refine wpAnyH_ready (rs := [2, 5, 7]) (by kernel_rfl) (by simp) ?_
    refine AllReadyH.cons (o := ⟨some 15, .makeSlice 23 (.tmp 14) (.tmp 14), 23, "web.go:13", #[⟨1, .data⟩, ⟨1, .data⟩], none⟩) rfl (fun KK hK => ?_) (AllReadyH.cons (o := ⟨some 18, .makeSlice 23 (.tmp 17) (.tmp 17), 23, "web.go:13", #[⟨4, .data⟩, ⟨4, .data⟩], none⟩) rfl (fun KK hK => ?_) (AllReadyH.cons (o := ⟨some 5, .alloc 71, 0, "web.go:13", #[], none⟩) rfl (fun KK hK => ?_) AllReadyH.nil))
    · go_simp
      have HKV := Lib.hid (HKV.out.mka hm1 3)
      refine hK.out _ _ ?_ (fun hHeld => ?_)
      · exact True.intro
      clear hK KK
      try simp only [Act.put, List.setIfInBounds_toArray, List.set_cons_zero, List.set_cons_succ]
      refine wpAnyH_ready (rs := [5, 7]) (by kernel_rfl) (by simp) ?_
      refine AllReadyH.cons (o := ⟨some 18, .makeSlice 23 (.tmp 17) (.tmp 17), 23, "web.go:13", #[⟨4, .data⟩, ⟨4, .data⟩], none⟩) rfl (fun KK hK => ?_) (AllReadyH.cons (o := ⟨some 5, .alloc 71, 0, "web.go:13", #[], none⟩) rfl (fun KK hK => ?_) AllReadyH.nil)
      · go_simp
        have HKV := Lib.hid (HKV.out.mkb hE1 3)
        refine hK.out _ _ ?_ (fun hHeld => ?_)
        · exact True.intro
        clear hK KK
        try simp only [Act.put, List.setIfInBounds_toArray, List.set_cons_zero, List.set_cons_succ]
        refine tkH 6 ⟨some 19, .build 71 #[(0, .tmp 15), (1, .tmp 18)], 71, "web.go:13", #[⟨2, .data⟩, ⟨5, .data⟩], none⟩ ?_
        try simp only [Act.put, List.setIfInBounds_toArray, List.set_cons_zero, List.set_cons_succ]
        refine wpAnyH_ready (rs := [7]) (by kernel_rfl) (by simp) ?_
        refine AllReadyH.cons (o := ⟨some 5, .alloc 71, 0, "web.go:13", #[], none⟩) rfl (fun KK hK => ?_) AllReadyH.nil
        go_simp
        have HKV := Lib.hid (HKV.out.mkp 71)
        refine hK.out _ _ ?_ (fun hHeld => ?_)
        · exact True.intro
        clear hK KK
        try simp only [Act.put, List.setIfInBounds_toArray, List.set_cons_zero, List.set_cons_succ]
        refine wpAnyH_ready (rs := [8]) (by kernel_rfl) (by simp) ?_
        refine AllReadyH.cons (o := ⟨none, .store 71 (.tmp 5) (.tmp 19), 0, "web.go:13", #[⟨7, .data⟩, ⟨6, .data⟩, ⟨0, .phase⟩, ⟨1, .phase⟩, ⟨2, .phase⟩, ⟨3, .phase⟩, ⟨4, .phase⟩, ⟨5, .phase⟩, ⟨6, .phase⟩, ⟨7, .phase⟩], none⟩) rfl (fun KK hK => ?_) AllReadyH.nil
        refine step_store_mid rfl 71 (.tmp 5) (.tmp 19) rfl _ 0 #[.slice (some ⟨_, 0, none⟩) M M, .slice (some ⟨_, 0, none⟩) E E] rfl rfl (HKV.out.pp _ (by simp)).2.2 (by kernel_rfl) (by simp [Value.oneCell']) ?_
        refine hK.out _ _ ?_ (fun hHeld => ?_)
        · exact True.intro
        clear hK KK
        try simp only [Act.put, List.setIfInBounds_toArray, List.set_cons_zero, List.set_cons_succ]
        refine wpAnyH_done (by kernel_rfl) ?_ _
        go_wp2_with fail
        go_meet
        exact HKV.out.done (by simp) (by simp) (by simp)
      · go_simp
        have HKV := Lib.hid (HKV.out.mkp 71)
        refine hK.out _ _ ?_ (fun hHeld => ?_)
        · exact True.intro
        clear hK KK
        try simp only [Act.put, List.setIfInBounds_toArray, List.set_cons_zero, List.set_cons_succ]
        refine wpAnyH_ready (rs := [5]) (by kernel_rfl) (by simp) ?_
        refine AllReadyH.cons (o := ⟨some 18, .makeSlice 23 (.tmp 17) (.tmp 17), 23, "web.go:13", #[⟨4, .data⟩, ⟨4, .data⟩], none⟩) rfl (fun KK hK => ?_) AllReadyH.nil
        go_simp
        have HKV := Lib.hid (HKV.out.mkb hE1 3)
        refine hK.out _ _ ?_ (fun hHeld => ?_)
        · exact True.intro
        clear hK KK
        try simp only [Act.put, List.setIfInBounds_toArray, List.set_cons_zero, List.set_cons_succ]
        refine tkH 6 ⟨some 19, .build 71 #[(0, .tmp 15), (1, .tmp 18)], 71, "web.go:13", #[⟨2, .data⟩, ⟨5, .data⟩], none⟩ ?_
        try simp only [Act.put, List.setIfInBounds_toArray, List.set_cons_zero, List.set_cons_succ]
        refine wpAnyH_ready (rs := [8]) (by kernel_rfl) (by simp) ?_
        refine AllReadyH.cons (o := ⟨none, .store 71 (.tmp 5) (.tmp 19), 0, "web.go:13", #[⟨7, .data⟩, ⟨6, .data⟩, ⟨0, .phase⟩, ⟨1, .phase⟩, ⟨2, .phase⟩, ⟨3, .phase⟩, ⟨4, .phase⟩, ⟨5, .phase⟩, ⟨6, .phase⟩, ⟨7, .phase⟩], none⟩) rfl (fun KK hK => ?_) AllReadyH.nil
        refine step_store_mid rfl 71 (.tmp 5) (.tmp 19) rfl _ 0 #[.slice (some ⟨_, 0, none⟩) M M, .slice (some ⟨_, 0, none⟩) E E] rfl rfl (HKV.out.pp _ (by simp)).2.2 (by kernel_rfl) (by simp [Value.oneCell']) ?_
        refine hK.out _ _ ?_ (fun hHeld => ?_)
        · exact True.intro
        clear hK KK
        try simp only [Act.put, List.setIfInBounds_toArray, List.set_cons_zero, List.set_cons_succ]
        refine wpAnyH_done (by kernel_rfl) ?_ _
        go_wp2_with fail
        go_meet
        exact HKV.out.done (by simp) (by simp) (by simp)
    · go_simp
      have HKV := Lib.hid (HKV.out.mkb hE1 3)
      refine hK.out _ _ ?_ (fun hHeld => ?_)
      · exact True.intro
      clear hK KK
      try simp only [Act.put, List.setIfInBounds_toArray, List.set_cons_zero, List.set_cons_succ]
      refine wpAnyH_ready (rs := [2, 7]) (by kernel_rfl) (by simp) ?_
      refine AllReadyH.cons (o := ⟨some 15, .makeSlice 23 (.tmp 14) (.tmp 14), 23, "web.go:13", #[⟨1, .data⟩, ⟨1, .data⟩], none⟩) rfl (fun KK hK => ?_) (AllReadyH.cons (o := ⟨some 5, .alloc 71, 0, "web.go:13", #[], none⟩) rfl (fun KK hK => ?_) AllReadyH.nil)
      · go_simp
        have HKV := Lib.hid (HKV.out.mka hm1 3)
        refine hK.out _ _ ?_ (fun hHeld => ?_)
        · exact True.intro
        clear hK KK
        try simp only [Act.put, List.setIfInBounds_toArray, List.set_cons_zero, List.set_cons_succ]
        refine tkH 6 ⟨some 19, .build 71 #[(0, .tmp 15), (1, .tmp 18)], 71, "web.go:13", #[⟨2, .data⟩, ⟨5, .data⟩], none⟩ ?_
        try simp only [Act.put, List.setIfInBounds_toArray, List.set_cons_zero, List.set_cons_succ]
        refine wpAnyH_ready (rs := [7]) (by kernel_rfl) (by simp) ?_
        refine AllReadyH.cons (o := ⟨some 5, .alloc 71, 0, "web.go:13", #[], none⟩) rfl (fun KK hK => ?_) AllReadyH.nil
        go_simp
        have HKV := Lib.hid (HKV.out.mkp 71)
        refine hK.out _ _ ?_ (fun hHeld => ?_)
        · exact True.intro
        clear hK KK
        try simp only [Act.put, List.setIfInBounds_toArray, List.set_cons_zero, List.set_cons_succ]
        refine wpAnyH_ready (rs := [8]) (by kernel_rfl) (by simp) ?_
        refine AllReadyH.cons (o := ⟨none, .store 71 (.tmp 5) (.tmp 19), 0, "web.go:13", #[⟨7, .data⟩, ⟨6, .data⟩, ⟨0, .phase⟩, ⟨1, .phase⟩, ⟨2, .phase⟩, ⟨3, .phase⟩, ⟨4, .phase⟩, ⟨5, .phase⟩, ⟨6, .phase⟩, ⟨7, .phase⟩], none⟩) rfl (fun KK hK => ?_) AllReadyH.nil
        refine step_store_mid rfl 71 (.tmp 5) (.tmp 19) rfl _ 0 #[.slice (some ⟨_, 0, none⟩) M M, .slice (some ⟨_, 0, none⟩) E E] rfl rfl (HKV.out.pp _ (by simp)).2.2 (by kernel_rfl) (by simp [Value.oneCell']) ?_
        refine hK.out _ _ ?_ (fun hHeld => ?_)
        · exact True.intro
        clear hK KK
        try simp only [Act.put, List.setIfInBounds_toArray, List.set_cons_zero, List.set_cons_succ]
        refine wpAnyH_done (by kernel_rfl) ?_ _
        go_wp2_with fail
        go_meet
        exact HKV.out.done (by simp) (by simp) (by simp)
      · go_simp
        have HKV := Lib.hid (HKV.out.mkp 71)
        refine hK.out _ _ ?_ (fun hHeld => ?_)
        · exact True.intro
        clear hK KK
        try simp only [Act.put, List.setIfInBounds_toArray, List.set_cons_zero, List.set_cons_succ]
        refine wpAnyH_ready (rs := [2]) (by kernel_rfl) (by simp) ?_
        refine AllReadyH.cons (o := ⟨some 15, .makeSlice 23 (.tmp 14) (.tmp 14), 23, "web.go:13", #[⟨1, .data⟩, ⟨1, .data⟩], none⟩) rfl (fun KK hK => ?_) AllReadyH.nil
        go_simp
        have HKV := Lib.hid (HKV.out.mka hm1 3)
        refine hK.out _ _ ?_ (fun hHeld => ?_)
        · exact True.intro
        clear hK KK
        try simp only [Act.put, List.setIfInBounds_toArray, List.set_cons_zero, List.set_cons_succ]
        refine tkH 6 ⟨some 19, .build 71 #[(0, .tmp 15), (1, .tmp 18)], 71, "web.go:13", #[⟨2, .data⟩, ⟨5, .data⟩], none⟩ ?_
        try simp only [Act.put, List.setIfInBounds_toArray, List.set_cons_zero, List.set_cons_succ]
        refine wpAnyH_ready (rs := [8]) (by kernel_rfl) (by simp) ?_
        refine AllReadyH.cons (o := ⟨none, .store 71 (.tmp 5) (.tmp 19), 0, "web.go:13", #[⟨7, .data⟩, ⟨6, .data⟩, ⟨0, .phase⟩, ⟨1, .phase⟩, ⟨2, .phase⟩, ⟨3, .phase⟩, ⟨4, .phase⟩, ⟨5, .phase⟩, ⟨6, .phase⟩, ⟨7, .phase⟩], none⟩) rfl (fun KK hK => ?_) AllReadyH.nil
        refine step_store_mid rfl 71 (.tmp 5) (.tmp 19) rfl _ 0 #[.slice (some ⟨_, 0, none⟩) M M, .slice (some ⟨_, 0, none⟩) E E] rfl rfl (HKV.out.pp _ (by simp)).2.2 (by kernel_rfl) (by simp [Value.oneCell']) ?_
        refine hK.out _ _ ?_ (fun hHeld => ?_)
        · exact True.intro
        clear hK KK
        try simp only [Act.put, List.setIfInBounds_toArray, List.set_cons_zero, List.set_cons_succ]
        refine wpAnyH_done (by kernel_rfl) ?_ _
        go_wp2_with fail
        go_meet
        exact HKV.out.done (by simp) (by simp) (by simp)
    · go_simp
      have HKV := Lib.hid (HKV.out.mkp 71)
      refine hK.out _ _ ?_ (fun hHeld => ?_)
      · exact True.intro
      clear hK KK
      try simp only [Act.put, List.setIfInBounds_toArray, List.set_cons_zero, List.set_cons_succ]
      refine wpAnyH_ready (rs := [2, 5]) (by kernel_rfl) (by simp) ?_
      refine AllReadyH.cons (o := ⟨some 15, .makeSlice 23 (.tmp 14) (.tmp 14), 23, "web.go:13", #[⟨1, .data⟩, ⟨1, .data⟩], none⟩) rfl (fun KK hK => ?_) (AllReadyH.cons (o := ⟨some 18, .makeSlice 23 (.tmp 17) (.tmp 17), 23, "web.go:13", #[⟨4, .data⟩, ⟨4, .data⟩], none⟩) rfl (fun KK hK => ?_) AllReadyH.nil)
      · go_simp
        have HKV := Lib.hid (HKV.out.mka hm1 3)
        refine hK.out _ _ ?_ (fun hHeld => ?_)
        · exact True.intro
        clear hK KK
        try simp only [Act.put, List.setIfInBounds_toArray, List.set_cons_zero, List.set_cons_succ]
        refine wpAnyH_ready (rs := [5]) (by kernel_rfl) (by simp) ?_
        refine AllReadyH.cons (o := ⟨some 18, .makeSlice 23 (.tmp 17) (.tmp 17), 23, "web.go:13", #[⟨4, .data⟩, ⟨4, .data⟩], none⟩) rfl (fun KK hK => ?_) AllReadyH.nil
        go_simp
        have HKV := Lib.hid (HKV.out.mkb hE1 3)
        refine hK.out _ _ ?_ (fun hHeld => ?_)
        · exact True.intro
        clear hK KK
        try simp only [Act.put, List.setIfInBounds_toArray, List.set_cons_zero, List.set_cons_succ]
        refine tkH 6 ⟨some 19, .build 71 #[(0, .tmp 15), (1, .tmp 18)], 71, "web.go:13", #[⟨2, .data⟩, ⟨5, .data⟩], none⟩ ?_
        try simp only [Act.put, List.setIfInBounds_toArray, List.set_cons_zero, List.set_cons_succ]
        refine wpAnyH_ready (rs := [8]) (by kernel_rfl) (by simp) ?_
        refine AllReadyH.cons (o := ⟨none, .store 71 (.tmp 5) (.tmp 19), 0, "web.go:13", #[⟨7, .data⟩, ⟨6, .data⟩, ⟨0, .phase⟩, ⟨1, .phase⟩, ⟨2, .phase⟩, ⟨3, .phase⟩, ⟨4, .phase⟩, ⟨5, .phase⟩, ⟨6, .phase⟩, ⟨7, .phase⟩], none⟩) rfl (fun KK hK => ?_) AllReadyH.nil
        refine step_store_mid rfl 71 (.tmp 5) (.tmp 19) rfl _ 0 #[.slice (some ⟨_, 0, none⟩) M M, .slice (some ⟨_, 0, none⟩) E E] rfl rfl (HKV.out.pp _ (by simp)).2.2 (by kernel_rfl) (by simp [Value.oneCell']) ?_
        refine hK.out _ _ ?_ (fun hHeld => ?_)
        · exact True.intro
        clear hK KK
        try simp only [Act.put, List.setIfInBounds_toArray, List.set_cons_zero, List.set_cons_succ]
        refine wpAnyH_done (by kernel_rfl) ?_ _
        go_wp2_with fail
        go_meet
        exact HKV.out.done (by simp) (by simp) (by simp)
      · go_simp
        have HKV := Lib.hid (HKV.out.mkb hE1 3)
        refine hK.out _ _ ?_ (fun hHeld => ?_)
        · exact True.intro
        clear hK KK
        try simp only [Act.put, List.setIfInBounds_toArray, List.set_cons_zero, List.set_cons_succ]
        refine wpAnyH_ready (rs := [2]) (by kernel_rfl) (by simp) ?_
        refine AllReadyH.cons (o := ⟨some 15, .makeSlice 23 (.tmp 14) (.tmp 14), 23, "web.go:13", #[⟨1, .data⟩, ⟨1, .data⟩], none⟩) rfl (fun KK hK => ?_) AllReadyH.nil
        go_simp
        have HKV := Lib.hid (HKV.out.mka hm1 3)
        refine hK.out _ _ ?_ (fun hHeld => ?_)
        · exact True.intro
        clear hK KK
        try simp only [Act.put, List.setIfInBounds_toArray, List.set_cons_zero, List.set_cons_succ]
        refine tkH 6 ⟨some 19, .build 71 #[(0, .tmp 15), (1, .tmp 18)], 71, "web.go:13", #[⟨2, .data⟩, ⟨5, .data⟩], none⟩ ?_
        try simp only [Act.put, List.setIfInBounds_toArray, List.set_cons_zero, List.set_cons_succ]
        refine wpAnyH_ready (rs := [8]) (by kernel_rfl) (by simp) ?_
        refine AllReadyH.cons (o := ⟨none, .store 71 (.tmp 5) (.tmp 19), 0, "web.go:13", #[⟨7, .data⟩, ⟨6, .data⟩, ⟨0, .phase⟩, ⟨1, .phase⟩, ⟨2, .phase⟩, ⟨3, .phase⟩, ⟨4, .phase⟩, ⟨5, .phase⟩, ⟨6, .phase⟩, ⟨7, .phase⟩], none⟩) rfl (fun KK hK => ?_) AllReadyH.nil
        refine step_store_mid rfl 71 (.tmp 5) (.tmp 19) rfl _ 0 #[.slice (some ⟨_, 0, none⟩) M M, .slice (some ⟨_, 0, none⟩) E E] rfl rfl (HKV.out.pp _ (by simp)).2.2 (by kernel_rfl) (by simp [Value.oneCell']) ?_
        refine hK.out _ _ ?_ (fun hHeld => ?_)
        · exact True.intro
        clear hK KK
        try simp only [Act.put, List.setIfInBounds_toArray, List.set_cons_zero, List.set_cons_succ]
        refine wpAnyH_done (by kernel_rfl) ?_ _
        go_wp2_with fail
        go_meet
        exact HKV.out.done (by simp) (by simp) (by simp)
  case rest =>
    obtain ⟨fa, hb, p, rfl, HW0⟩ := hcut
    clear HKV mk1' mk2
    have hPM : preE es M = E := by rw [preE_all (fun e he => by have := (HLT.out e he).1; have := HMM.out; omega), ← HE.out]
    have HPM : Hid (∀ i, i ≤ M → preE es i ≤ E) := Lib.hid (fun i hi => by rw [← hPM]; exact preE_mono es hi)
    have HF1 := Lib.hid (fun e he => (HLT.out e he).1)
    have HI : Hid (∀ (j : Nat) e, es[j]? = some e → (toI es)[j]? = some ((e.1 : Int), (e.2 : Int))) := Lib.hid (fun j e he => by simp [toI, he])
    have hMm : M ≤ 900001 := by omega
    clear hPM
    go_wp2_with fail
    go_loopw [22] (fun jv wr => ∃ j : Nat, jv = .int .i64 (j : Nat) ∧ j ≤ E ∧ Hid (WvM w fa hb p M E (degE (es.take j)) (List.replicate E 0) wr)) (fun jv _ => E - (intOf jv).toNat)
    case atStart => exact ⟨0, rfl, Nat.zero_le _, Lib.hid (HW0.out.congr fun v _ => by simp [degE, outsE])⟩
    case round =>
      obtain ⟨j, rfl, hjE, HW⟩ := hrel
      have c0 := HW.out.c0
      by_cases hlt : j < E
      · obtain ⟨e, he⟩ : ∃ e, es[j]? = some e := ⟨es[j]'(by rw [← HE.out]; exact hlt), by simp⟩
        have hem := HLT.out e (List.mem_of_getElem? he)
        obtain ⟨a, b⟩ := e
        obtain ⟨vb, vo, rfl, hvb, hvc1, hvc2, d0, d1⟩ := (HR.out.below HW.out.bl).at (HI.out j _ he)
        simp only at d0 d1 hem
        have haM : a < M := by have := HMM.out; omega
        have haI : (a : Int) < (M : Int) := by omega
        have hwa := HW.out.below ((Below.refl _ wr).alloc (Nat.le_refl _) (.cells #[.int .i64 (a : Int), .int .i64 (b : Int)] 36))
        obtain ⟨xb, xf, _⟩ := hwa.rf.cellF (bkv_at _ haM)
        have c0a := hwa.c0
        obtain ⟨d, hd⟩ : ∃ d, d = degE (es.take j) a := ⟨_, rfl⟩
        obtain ⟨D1, hD1⟩ : ∃ D1, D1 = d + 1 := ⟨_, rfl⟩
        have hD2 : (d : Int) + 1 = (D1 : Int) := by omega
        have hdE : d ≤ 900000 := by
          have h1 : degE (es.take j) a ≤ (es.take j).length := by unfold degE outsE; rw [List.length_map]; exact List.length_filter_le _ _
          rw [List.length_take, ← hd] at h1
          omega
        rw [← hd] at xb
        have hwz := (HW.out.below ((Below.refl _ wr).alloc (Nat.le_refl _) (.cells #[.int .i64 (a : Int), .int .i64 (b : Int)] 36))).putF (x := D1) haM
        have hn := hwz.congr (Fc' := degE (es.take (j + 1))) (fun v _ => by
          rw [take_snoc he, degE_snoc]
          by_cases e : v = a
          · subst e; rw [upd_same, if_pos rfl, hD1, hd]
          · rw [upd_other _ _ e, if_neg (fun x => e x.symm), Nat.add_zero])
        have HN := Lib.hid hn
        unfold maxLen at hvc2
        have hMz : M ≠ 0 := by omega
        clear hwz hn he hd hD1 hem hwa c0
        go_wp2_with fail
        exact ⟨⟨j + 1, by go_num, by omega, HN⟩, by simp [intOf]; omega⟩
      · have hjj : E = j := by omega
        have hf : WvM w fa hb p M E (degE es) (List.replicate E 0) wr := by
          have := HW.out
          rw [← hjj, HE.out, List.take_length] at this
          rw [HE.out]
          exact this
        have HF := Lib.hid hf
        clear hf HW
        subst hjj
        go_wp2_with fail
        go_loopw [8, 38] (fun pv jv wr => ∃ i : Nat, pv = .int .i64 (preE es i : Nat) ∧ jv = .int .i64 (i : Nat) ∧ i ≤ M ∧ Hid (WvM w fa hb p M E (fun v => if v < i then preE es (v + 1) else degE es v) (List.replicate E 0) wr)) (fun _ jv _ => M - (intOf jv).toNat)
        case atStart => exact ⟨0, rfl, rfl, Nat.zero_le _, Lib.hid (HF.out.congr fun v _ => by simp)⟩
        case round =>
          obtain ⟨i, rfl, rfl, hiM, HW⟩ := hrel
          have c0 := HW.out.c0
          by_cases hlt : i < M
          · obtain ⟨xb, xf, _⟩ := HW.out.rf.cellF (bkv_at _ hlt)
            simp only [Nat.lt_irrefl, if_false] at xb
            obtain ⟨P0, hP0⟩ : ∃ P0, P0 = preE es i := ⟨_, rfl⟩
            obtain ⟨d, hd⟩ : ∃ d, d = degE es i := ⟨_, rfl⟩
            obtain ⟨P1, hP1⟩ : ∃ P1, P1 = preE es (i + 1) := ⟨_, rfl⟩
            have hsu := preE_succ es i
            have hP1E := HPM.out (i + 1) (by omega)
            rw [← hP1] at hsu hP1E
            rw [← hP0, ← hd] at hsu
            rw [← hd] at xb
            rw [← hP0]
            have hPI : (P0 : Int) + (d : Int) = (P1 : Int) := by omega
            have hn := (HW.out.putF (x := P1) hlt).congr (Fc' := fun v => if v < i + 1 then preE es (v + 1) else degE es v) (fun v _ => by
              by_cases e : v = i
              · subst e; rw [upd_same, if_pos (by omega), hP1]
              · rw [upd_other _ _ e]
                by_cases h2 : v < i
                · rw [if_pos h2, if_pos (by omega)]
                · rw [if_neg h2, if_neg (by omega)])
            have HN := Lib.hid hn
            have HP1 := Lib.hid hP1
            clear hn hd hP0 hP1 hsu
            go_wp2_with fail
            exact ⟨⟨i + 1, by rw [← HP1.out], by go_num, by omega, HN⟩, by simp [intOf]; omega⟩
          · have hii : M = i := by omega
            have hf : WvM w fa hb p M E (fun v => preE es (v + 1) - degE (es.take 0) v) (List.replicate E 0) wr := HW.out.congr (fun v hv => by rw [if_pos (by omega)]; simp [degE, outsE])
            have HF2 := Lib.hid hf
            have HH0 := Lib.hid (head_zero (m := m) (es := es) HF1.out)
            obtain ⟨PP, hPP⟩ : ∃ PP, PP = preE es i := ⟨_, rfl⟩
            rw [← hPP]
            clear hf HW hPP
            subst hii
            go_wp2_with fail
            go_loopw [54] (fun jv wr => ∃ (j : Nat) (hs : List Nat), jv = .int .i64 (j : Nat) ∧ j ≤ E ∧ Hid (HeadI m es j hs) ∧ Hid (WvM w fa hb p M E (fun v => preE es (v + 1) - degE (es.take j) v) hs wr)) (fun jv _ => E - (intOf jv).toNat)
            case atStart => exact ⟨0, _, rfl, Nat.zero_le _, HH0, by rw [← HE.out]; exact HF2⟩
            case round =>
              obtain ⟨j, hs, rfl, hjE, HH, HW⟩ := hrel
              have c0 := HW.out.c0
              have c1 := HW.out.c1
              by_cases hlt : j < E
              · obtain ⟨e, he⟩ : ∃ e, es[j]? = some e := ⟨es[j]'(by rw [← HE.out]; exact hlt), by simp⟩
                have hem := HLT.out e (List.mem_of_getElem? he)
                have hpos := head_pos HF1.out he
                have hstep := head_step HLT.out he HH.out
                obtain ⟨a, b⟩ := e
                obtain ⟨vb, vo, rfl, hvb, hvc1, hvc2, d0, d1⟩ := (HR.out.below HW.out.bl).at (HI.out j _ he)
                simp only at d0 d1 hem hpos hstep
                have haM : a < M := by have := HMM.out; omega
                have haI : (a : Int) < (M : Int) := by omega
                have hwa := HW.out.below ((Below.refl _ wr).alloc (Nat.le_refl _) (.cells #[.int .i64 (a : Int), .int .i64 (b : Int)] 36))
                obtain ⟨xb, xf, _⟩ := hwa.rf.cellF (bkv_at _ haM)
                have c0a := hwa.c0
                obtain ⟨f0, hf0⟩ : ∃ f0, f0 = preE es (a + 1) - degE (es.take j) a := ⟨_, rfl⟩
                obtain ⟨q, hq⟩ : ∃ q, q = preE es (a + 1) - degE (es.take j) a - 1 := ⟨_, rfl⟩
                rw [← hf0] at xb
                rw [← hq] at hstep hpos
                rw [← HE.out] at hpos
                obtain ⟨hpos1, hqE⟩ := hpos
                have hqI : (f0 : Int) - 1 = (q : Int) := by omega
                have hqE2 : (q : Int) < (E : Int) := by omega
                have hf9 : f0 ≤ 900000 := by omega
                have hhl : hs.length = E := by rw [HH.out.len, HE.out]
                obtain ⟨w5, hw5⟩ : ∃ w5, w5 = (wr.setCell ⟨fa, a, none⟩ (.int .i64 (q : Int))).alloc (.cells #[.int .i64 (a : Int), .int .i64 (b : Int)] 36) := ⟨_, rfl⟩
                have hz := (HW.out.putF (x := q) haM).below ((Below.refl _ _).alloc (Nat.le_refl _) (.cells #[.int .i64 (a : Int), .int .i64 (b : Int)] 36))
                rw [← hw5] at hz
                have hfl : fa < wr.heap.size := (HW.out.rf.lt fa rfl).2
                have z0 : w5.cell? ⟨wr.heap.size, 0, none⟩ = some (.int .i64 (a : Int)) := by rw [hw5, World.cell?_alloc_at _ _ _ _ (by simp [World.setCell])]; rfl
                have z1 : w5.cell? ⟨wr.heap.size, 1, none⟩ = some (.int .i64 (b : Int)) := by rw [hw5, World.cell?_alloc_at _ _ _ _ (by simp [World.setCell])]; rfl
                have e0 := hz.c0
                have e1 := hz.c1
                obtain ⟨eb, ef, _⟩ := hz.rf.cellF (bkv_at _ haM)
                rw [upd_same] at eb
                obtain ⟨gb, gf, _⟩ := hz.rh.cellF (j := q) (u := .int .i64 ((nl hs).getD q 0)) (iv_at (by rw [nl_len, hhl]; exact hqE))
                have hfin := (hz.putH (q := q) (x := b) (by rw [hhl]; exact hqE)).congr (Fc' := fun v => preE es (v + 1) - degE (es.take (j + 1)) v) (fun v _ => by
                  rw [take_snoc he, degE_snoc]
                  by_cases e : v = a
                  · subst e; rw [upd_same, if_pos rfl, hq]; omega
                  · rw [upd_other _ _ e, if_neg (fun x => e x.symm)]; rfl)
                have HFN := Lib.hid hfin
                have HST := Lib.hid hstep
                have HW5 := Lib.hid hw5
                unfold maxLen at hvc2
                clear hz hfin hstep hw5 he hf0 hq hem hhl hpos1 hwa c0 c1
                go_wp2_with fail
                rw [← HW5.out]
                clear c0a xb xf d0 d1
                go_region
                go_wp2_with fail
                exact ⟨⟨j + 1, _, by go_num, by omega, HST, Lib.hid (HFN.out.below (Below.refl _ _).drew)⟩, by simp [intOf]; omega⟩
              · have hjj : E = j := by omega
                have hfin : WvM w fa hb p M E (preE es) hs wr := HW.out.congr (fun v hv => by
                  rw [← hjj, HE.out, List.take_length, preE_succ]; omega)
                have HFN := Lib.hid hfin
                have HHF : Hid (HeadI m es es.length hs) := Lib.hid (by rw [← HE.out, hjj]; exact HH.out)
                have hth := hfin.th
                obtain ⟨r0, hr0⟩ := Option.isSome_iff_exists.1 (hth 0 (by omega)).1
                obtain ⟨r1, hr1⟩ := Option.isSome_iff_exists.1 (hth 1 (by omega)).1
                have rf0 := (hth 0 (by omega)).2
                have rf1 := (hth 1 (by omega)).2
                simp only [Nat.zero_add] at hr0 hr1 rf0 rf1
                clear hfin hth
                subst hjj
                go_wp2_with fail
                refine bodyPost_ret (v := .agg #[.slice (some ⟨fa, 0, none⟩) M M, .slice (some ⟨hb, 0, none⟩) E E]) (by simp [results, Tryz.results45, go_sem, hr0, hr1]) rfl ⟨_, _, hs, rfl, ?_, by rw [HE.out]; exact HHF.out, ?_⟩
                · have hM := HMM.out
                  have n1 := HFN.out.n1
                  have n2 := HFN.out.n2
                  have hof : Off (fun i => i = w.heap.size) wr ((wr.setCell ⟨w.heap.size, 0, none⟩ (.slice (some ⟨fa, 0, none⟩) M M)).setCell ⟨w.heap.size, 1, none⟩ (.slice (some ⟨hb, 0, none⟩) E E)) := ((Off.refl (fun i => i = w.heap.size) wr).setCell (p := ⟨w.heap.size, 0, none⟩) (.inr rfl) _).setCell (p := ⟨w.heap.size, 1, none⟩) (.inr rfl) _
                  have hrf := HFN.out.rf.off hof (fun b hb e => by have : fa = b := Option.some.inj hb; omega)
                  have hrh := HFN.out.rh.off hof (fun b hb' e => by have : hb = b := Option.some.inj hb'; omega)
                  have hle : ∀ v, v ≤ m → preE es v ≤ E := fun v hv => HPM.out v (by omega)
                  refine ⟨⟨fa, M, by rw [hM], by omega, by unfold maxLen; omega, (hrf.lt fa rfl).2, fun j hj => (hrf.cellF (bkv_at _ (by omega))).1⟩, ⟨hb, E, rfl, Nat.le_refl _, by unfold maxLen; omega, (hrh.lt hb rfl).2, fun j x hx => (hrh.cellF (j := j) (by simp [iv, nl, hx])).1⟩, by rw [HHF.out.len, HE.out], fun v hv => preE_mono es (by omega), hle, HHF.out.lt⟩
                · exact (HFN.out.bl.setCell (p := ⟨w.heap.size, 0, none⟩) (Nat.le_refl _) _).setCell (p := ⟨w.heap.size, 1, none⟩) (Nat.le_refl _) _
end Go.Proofs.YtfpepoebammeoaaGreat
