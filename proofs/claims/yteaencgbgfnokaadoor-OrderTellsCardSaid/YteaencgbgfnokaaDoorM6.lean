/- slices.AppendSeq upon slices.Values over texts. -/
import Derived.Test.YteaencgbgfnokaaDoorM5
set_option linter.unusedVariables false
namespace Go.Proofs.YteaencgbgfnokaaDoor
open Go.ChangeShapes Go.WideShapes Go.ChangeAt Go.RowKit Go.Shelf
attribute [local go_sem] Oper.semAt_some

structure OutS (B : Nat) (w : World) (v : Value) (zs : Lb) : Prop where
  row : Row 1 B w v zs.length (zs.map Value.string)
  pos : ∀ b, v.ownBlock = some b → 0 < zs.length
theorem OutS.nil (B : Nat) (w : World) : OutS B w (.slice none 0 0) [] := ⟨Row.nil _ _ _, by intro b h; cases h⟩
theorem OutS.cells {B : Nat} {w : World} {v : Value} {zs : Lb} (h : OutS B w v zs) {b : Nat} (hb : v.ownBlock = some b) : ∃ u, w.cell? ⟨b, 0, none⟩ = some u := by
  obtain ⟨b', cap, hv, _, _, hc, _, hf, _⟩ := h.row.pos (h.pos b hb)
  rw [hv] at hb
  injection hb with hb
  subst hb
  exact Option.isSome_iff_exists.1 (hf 0 (by have := h.pos b' (by rw [hv]; rfl); omega)).1
theorem OutS.kept {B : Nat} {w w' : World} {row : Option Nat} {v : Value} {zs : Lb} (h : OutS B w v zs) (hg : w.grownBy w' row) (hr : ∀ r, row = some r → ∃ o : Obj, w.heap[r]? = some o ∧ o.isCells = false) : OutS B w' v zs := by
  refine ⟨h.row.carry hg.size fun b hb => ?_, h.pos⟩
  obtain ⟨u, hu⟩ := h.cells hb
  obtain ⟨o, ho, hc⟩ := cells_of_cell hu
  exact grownBy_keeps_cells hg hr ho hc
theorem keepsS_off {w w' : World} {v : Value} (ho : Off (fun i => v.ownBlock = some i) w w') (hc : ∀ b, v.ownBlock = some b → ∃ u, w.cell? ⟨b, 0, none⟩ = some u) : KeepsOthers w w' :=
  ⟨ho.size, fun k o hk hn => by
    refine (ho.block k (Array.getElem?_eq_some_iff.1 hk).1 (fun e => ?_)).trans hk
    obtain ⟨u, hu⟩ := hc k e
    obtain ⟨o', ho', hc'⟩ := cells_of_cell hu
    have : o' = o := Option.some.inj (ho'.symm.trans hk)
    subst this
    rw [hn] at hc'; cases hc'⟩
theorem keepsS_below {w w' : World} (h : Below w.heap.size w w') : KeepsOthers w w' :=
  ⟨h.size, fun k o hk hn => (h.block k (Array.getElem?_eq_some_iff.1 hk).1).trans hk⟩
def AllS (p : Nat) (zs : Lb) (W : World) : Prop := (∃ v, W.cell? ⟨p, 0, none⟩ = some v ∧ OutS (p + 1) W v zs) ∧ W.frozen? ⟨p, 0, none⟩ = false ∧ p + 1 ≤ W.heap.size
theorem AllS.kept {p : Nat} {zs : Lb} {W W' : World} {row : Option Nat} (hs : AllS p zs W) (hg : W.grownBy W' row) (hr : ∀ r, row = some r → ∃ o : Obj, W.heap[r]? = some o ∧ o.isCells = false) : AllS p zs W' := by
  obtain ⟨⟨v, hv, ho⟩, hf, hB⟩ := hs
  exact ⟨⟨v, cell_kept hv hg hr, ho.kept hg hr⟩, (frozen_kept hv hg hr).trans hf, Nat.le_trans hB hg.size⟩
theorem all_pushS {w W : World} {p Bs : Nat} {zs : Lb} {va : Option Addr} {ol vc : Nat} (x : ByteArray) (hs : AllS p zs W) (hv : W.cell? ⟨p, 0, none⟩ = some (.slice va ol vc)) (hol : ol = zs.length) (hlen : zs.length ≤ 1000000)
    (hp : p = w.heap.size) (hBs : Bs < w.heap.size) (hBW : Below w.heap.size w W) :
    (W.alloc (.cells #[.string x] 9)).cell? ⟨p, 0, none⟩ = some (.slice va ol vc) ∧
    ∃ a6 c6 w6, (Builtin.append_ #[23, 23] 23 #[.slice va ol vc, .slice (some ⟨W.heap.size, 0, none⟩) 1 1]).run Tryd.prog (W.alloc (.cells #[.string x] 9)) = .ok (.slice a6 (ol + 1) c6) w6 ∧
      w6.cell? ⟨p, 0, none⟩ = some (.slice va ol vc) ∧ w6.frozen? ⟨p, 0, none⟩ = false ∧
      AllS p (zs ++ [x]) (w6.setCell ⟨p, 0, none⟩ (.slice a6 (ol + 1) c6)) ∧ Off (fun i => w.heap.size ≤ i ∧ i ≠ Bs) W (w6.setCell ⟨p, 0, none⟩ (.slice a6 (ol + 1) c6)) ∧
      KeepsOthers W (w6.setCell ⟨p, 0, none⟩ (.slice a6 (ol + 1) c6)) ∧ Below w.heap.size w (w6.setCell ⟨p, 0, none⟩ (.slice a6 (ol + 1) c6)) := by
  have hb : Below W.heap.size W (W.alloc (.cells #[.string x] 9)) := (Below.refl _ W).alloc (Nat.le_refl _) _
  obtain ⟨⟨v, hv1, ho⟩, hf, hBz⟩ := hs
  rw [hv] at hv1
  injection hv1 with hv1
  subst hv1
  have hv2 := (hb.cell (p := ⟨p, 0, none⟩) (cell_lt hv)).trans hv
  have hf2 := (hb.frozen (p := ⟨p, 0, none⟩) (cell_lt hv)).trans hf
  have ho2 : OutS (p + 1) (W.alloc (.cells #[.string x] 9)) (.slice va ol vc) zs := ⟨ho.row.below hb, ho.pos⟩
  have hBz2 : p + 1 ≤ (W.alloc (.cells #[.string x] 9)).heap.size := Nat.le_trans hBz hb.size
  have hsrc : Src Tryd.prog 1 23 (.slice (some ⟨W.heap.size, 0, none⟩) 1 1) 1 [.string x] (W.alloc (.cells #[.string x] 9)) := src_new Tryd.underlying23 [.string x] 1 9 1 rfl (by intro u hu; rw [List.mem_singleton] at hu; subst hu; rfl)
  obtain ⟨W2, hW2⟩ : ∃ W2, W2 = W.alloc (.cells #[.string x] 9) := ⟨_, rfl⟩
  rw [← hW2] at hb hv2 hf2 ho2 hBz2 hsrc ⊢
  clear hW2
  have hrow := ho2.row
  rw [← hol] at hrow
  obtain ⟨v', w6, hr6, hrow6, ho6, hw6⟩ := run_append_row (P := Tryd.prog) (w := W2) 23 23 23 9 (.string ByteArray.empty) 16 Tryd.underlying23 infoS' rfl hrow _ _ _ hsrc hBz2 (by omega) (by decide)
  obtain ⟨a6, c6, hv6⟩ := hrow6.form
  subst hv6
  have hown : ¬ (Value.slice va ol vc).ownBlock = some p := fun e => by have := (hrow.lt p e).1; omega
  have hc6 := (ho6.cell (p := ⟨p, 0, none⟩) (cell_lt hv2) hown).trans hv2
  have hf6 := (ho6.frozen (p := ⟨p, 0, none⟩) (cell_lt hv2) hown).trans hf2
  have ho7 : Off (fun i => (Value.slice va ol vc).ownBlock = some i) W w6 := (Off.of_below hb).trans ho6
  have hz : ∀ i, (Value.slice va ol vc).ownBlock = some i → w.heap.size ≤ i ∧ i ≠ Bs := fun i hi => by have := (hrow.lt i hi).1; omega
  have hoz : Off (fun i => w.heap.size ≤ i ∧ i ≠ Bs) W w6 := ho7.mono hz
  have hset : Off (fun i => w.heap.size ≤ i ∧ i ≠ Bs) W (w6.setCell ⟨p, 0, none⟩ (.slice a6 (ol + 1) c6)) := Off.setCell (Z := fun i => w.heap.size ≤ i ∧ i ≠ Bs) hoz (p := ⟨p, 0, none⟩) (.inr (by show w.heap.size ≤ p ∧ p ≠ Bs; omega)) _
  refine ⟨hv2, a6, c6, w6, hr6, hc6, hf6, ⟨⟨.slice a6 (ol + 1) c6, World.cell?_setCell_same _ _ _ hc6, ⟨?_, fun b _ => by simp⟩⟩, by rw [World.frozen?_setCell]; exact hf6, ?_⟩, hset, ?_, ?_⟩
  · rw [List.length_append, List.map_append, List.length_singleton, ← hol]
    exact hrow6.setOther (p := ⟨p, 0, none⟩) (fun e => by have := (hrow6.lt _ e).1; simp only at this; omega) _
  · have := ho6.size; simp only [World.setCell, Array.size_modify]; omega
  · exact ((keepsS_below hb).trans (keepsS_off ho6 (fun b hb => ho2.cells hb))).trans (KeepsOthers.setCell _ _ _)
  · exact hBW.trans (hset.below (fun i hi => hi.1) hBW.size)

attribute [-go_sem] Builtin.append_
set_option maxHeartbeats 4000000 in
set_option maxRecDepth 100000 in
theorem appendSeq_any (zs : Lb) (Bs : Nat) (a : Option Addr) (n c : Nat) (w : World) (hn : n = zs.length) (hnn : n ≤ 1000000) (hc : w.cell? ⟨Bs, 0, none⟩ = some (.slice a n c))
    (hI : ∀ j x, zs[j]? = some x → ∃ b o, a = some ⟨b, o, none⟩ ∧ b < w.heap.size ∧ w.cell? ⟨b, o + j, none⟩ = some (.string x)) :
    Calls Tryd.prog 57 #[.slice none 0 0, .func (.func 43) #[] #[.pointer (some ⟨Bs, 0, none⟩)]] w fun e w' => ∃ ov, e = .returned ov ∧ OutS (w.heap.size + 1) w' ov zs ∧ Below w.heap.size w w' := by
  have hBs : Bs < w.heap.size := cell_lt hc
  have hbx : Below w.heap.size w (w.alloc (.cells #[.slice none 0 0] 23)) := (Below.refl _ _).alloc (Nat.le_refl _) _
  have hp0 : (w.alloc (.cells #[.slice none 0 0] 23)).cell? ⟨w.heap.size, 0, none⟩ = some (.slice none 0 0) := World.cell?_alloc_at _ _ _ _ rfl
  have hpf : (w.alloc (.cells #[.slice none 0 0] 23)).frozen? ⟨w.heap.size, 0, none⟩ = false := World.frozen?_alloc_at _ _ _ _ rfl
  have hAll : AllS w.heap.size [] (w.alloc (.cells #[.slice none 0 0] 23)) := ⟨⟨_, hp0, OutS.nil _ _⟩, hpf, by simp⟩
  have hc2 := (hbx.cell (p := ⟨Bs, 0, none⟩) hBs).trans hc
  have hI2 : ∀ j x, zs[j]? = some x → ∃ b o, a = some ⟨b, o, none⟩ ∧ b < w.heap.size ∧ (w.alloc (.cells #[.slice none 0 0] 23)).cell? ⟨b, o + j, none⟩ = some (.string x) := fun j x hx => by
    obtain ⟨b, o, e, hb, h⟩ := hI j x hx
    exact ⟨b, o, e, hb, (hbx.cell (p := ⟨b, o + j, none⟩) hb).trans h⟩
  have HC2 := Lib.hid hc2
  have HI2 := Lib.hid hI2
  have HALL := Lib.hid hAll
  have HBX := Lib.hid hbx
  have HN := Lib.hid hn
  clear hc2 hI2 hAll hbx hp0 hpf hc hI
  refine (callsIn_wide (n := 6)).1 ?_
  refine callsIn_of_wp_marks Tryd.func57 rfl trivial ?_ rfl
  simp only [Tryd.ntmps57, List.size_toArray, List.length_cons, List.length_nil, Nat.reduceAdd, Nat.reduceSub, Array.replicate_succ, Array.replicate_zero, List.push_toArray, List.append_toArray, List.nil_append, List.cons_append]
  gi_wp2_with fail
  obtain ⟨W0, hW0⟩ : ∃ W0, w.alloc (.cells #[.slice none 0 0] 23) = W0 := ⟨_, rfl⟩
  rw [hW0] at HC2 HI2 HALL HBX ⊢
  have hsz : w.heap.size + 1 = W0.heap.size := by rw [← hW0]; simp
  clear hW0
  obtain ⟨tx0, htx⟩ : ∃ f : List (VX zs) → Lb, f = fun pre => pre.map fun x => zs[x.1]'x.2 := ⟨_, rfl⟩
  have ht0 : tx0 [] = [] := by rw [htx]; rfl
  have hts : ∀ pre x, tx0 (pre ++ [x]) = tx0 pre ++ [zs[x.1]'x.2] := fun pre x => by rw [htx]; simp
  have htl : ∀ pre, (tx0 pre).length = pre.length := fun pre => by rw [htx]; simp
  have htf : tx0 (vxs zs zs.length) = zs := by rw [htx]; exact vxs_map zs
  clear htx
  refine wpIn_rangeFunc_ownH rfl (by omega) (gf := 43) (lb := #[.pointer (some ⟨Bs, 0, none⟩)]) rfl trivial (enters_of Tryd.func43 (by kernel_rfl) rfl)
    (values_stops Fence.wide _ trivial rfl (by omega) Bs w.heap.size a n c zs hn (by omega) W0 HBX.out.size HC2.out HI2.out) (fun h k => Off.trans h k) (fun W l o o' hl ho _ _ => by
      have hg := grownBy_putObj' W l o'
      exact ⟨hg.os, hg.tape, hg.output, hg.size, fun i hi hz => hg.block i hi (fun e => hz (by injection e with e; omega))⟩) (Below.refl _ _) (fun _ => rfl)
    (fun pre W => AllS w.heap.size (tx0 pre) W ∧ Below w.heap.size w W)
    (fun _ _ _ => False)
    (OwnFrom.and (Own.from (fun pre X Y row hs hg hr => hs.kept hg hr) _) (ownFrom_below (Nat.le_refl _) (by omega)))
    (fun _ _ _ _ _ hs _ _ => hs)
    (by rw [ht0]; exact ⟨HALL.out, HBX.out⟩)
    (fun x a' W => a' = { tmps := #[.slice none 0 0, .func (.func 43) #[] #[.pointer (some ⟨Bs, 0, none⟩)], .pointer (some ⟨w.heap.size, 0, none⟩), undef, .slice none 0 0, .string (zs[x.1]'x.2), .func (.func 43) #[] #[.pointer (some ⟨Bs, 0, none⟩)], .string (zs[x.1]'x.2), undef, undef, undef, undef, undef], defers := [] })
    (fun x a' _ X Y row hs hg hr => hs)
    ?assign ?body ?done ?stop
  case assign =>
    rintro l pre x W K ⟨hA1, hB1⟩ hK
    have HK := Lib.hid hK
    have HA1 := Lib.hid hA1
    have HB1 := Lib.hid hB1
    clear hK hA1 hB1
    gi_wp2_with fail
    exact HK.out _ _ ((KeepsOthers.refl _).from _) (Off.refl _ W) ⟨HA1.out, HB1.out⟩ rfl
  case body =>
    rintro l pre x a' W hl ⟨r, hlr⟩ ⟨hA1, hB1⟩ rfl hplt
    obtain ⟨z, hz⟩ : ∃ z, z = zs[x.1]'x.2 := ⟨_, rfl⟩
    have hstx := hts pre x
    rw [← hz] at hstx ⊢
    have hmx : Tryd.prog.follows .mixedOrders = true := by kernel_rfl
    have hA := hA1
    obtain ⟨⟨v, hv, ho⟩, hf, hBz⟩ := hA1
    obtain ⟨va, vc, hvv⟩ := ho.row.form
    obtain ⟨ol, hol⟩ : ∃ ol, ol = (tx0 pre).length := ⟨_, rfl⟩
    rw [← hol] at hvv
    subst hvv
    obtain ⟨hv2a, a6, c6, w6, hr6, hc6, hf6, hq1, hq2, hq3, hq4⟩ := all_pushS (w := w) (Bs := Bs) z hA hv hol (by rw [htl]; omega) rfl hBs hB1
    have HR6 := Lib.hid hr6
    have HQ1 := Lib.hid hq1
    have HQ2 := Lib.hid hq2
    have HQ3 := Lib.hid hq3
    have HQ4 := Lib.hid hq4
    have HSX := Lib.hid hstx
    clear hr6 hq1 hq2 hq3 hq4 hA ho hB1 hstx hol hz
    gi_wp2_with (rw [HR6.out])
    exact ⟨HQ3.out.from _, HQ2.out, by simp only [HSX.out]; exact ⟨HQ1.out, HQ4.out⟩⟩
  case done =>
    rintro D ys W hD rfl ⟨⟨⟨v, hv, ho⟩, hf, hBz⟩, hB⟩ hK
    rw [htf] at ho
    have hg := grownBy_putObj' W D (.deferred none)
    have HRD := Lib.hid (ho.kept hg (fun r e => by injection e with e; subst e; exact ⟨_, hK, rfl⟩))
    have hOD : Off (fun i => i = D) W (W.putObj D (.deferred none)) := ⟨hg.os, hg.tape, hg.output, hg.size, fun i hi hz => hg.block i hi (fun e => hz (by injection e))⟩
    have HBD := Lib.hid (hB.trans (hOD.below (fun i hi => by omega) hB.size))
    obtain ⟨va, vc, hvv⟩ := ho.row.form
    subst hvv
    clear ho hB hf hg hOD
    gi_wp2_with fail
    refine ⟨by simp, .inl ⟨_, _, rfl, run_takeDeferred hK, ?_⟩⟩
    refine ⟨_, results_tmp rfl _ _ _, _, rfl, ?_, HBD.out⟩
    exact HRD.out
  case stop =>
    rintro D c pre W _ _ h _
    exact h.elim
end Go.Proofs.YteaencgbgfnokaaDoor
