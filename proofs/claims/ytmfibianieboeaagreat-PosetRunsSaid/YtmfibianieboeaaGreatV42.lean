/- slices.DeleteFunc at line's closure, upon a row of ints that the call owns. Of package poset: a board's size, thing and line. -/
import Derived.Lib.SliceRun
import Derived.Deep.RegionHeld3
import Derived.Test.YtmfibianieboeaaGreatV25
import Derived.Test.YtmfibianieboeaaGreatV27
import Derived.Test.YtmfibianieboeaaGreatV36
set_option linter.unusedVariables false
set_option linter.unusedSimpArgs false
namespace Go.Proofs.YtmfibianieboeaaGreat
open Go.ChangeShapes Go.WideShapes Go.ChangeAt Go.RowKit

def keepI (ns : List Int) (pred : Int → Bool) (j : Nat) : List Int := (ns.take j).filter fun x => !pred x
theorem keepI_step {ns : List Int} {pred : Int → Bool} {j : Nat} {x : Int} (h : ns[j]? = some x) : keepI ns pred (j + 1) = keepI ns pred j ++ if pred x then [] else [x] := by
  unfold keepI
  rw [List.take_add_one, h, List.filter_append]
  cases hp : pred x <;> simp [hp]
theorem keepI_len (ns : List Int) (pred : Int → Bool) (j : Nat) : (keepI ns pred j).length ≤ j :=
  Nat.le_trans (List.length_filter_le _ _) (by simp; omega)
theorem keepI_all {ns : List Int} {pred : Int → Bool} (j : Nat) (h : ∀ u x, u < j → ns[u]? = some x → pred x = false) : keepI ns pred j = ns.take j := by
  unfold keepI
  refine List.filter_eq_self.2 fun x hx => ?_
  obtain ⟨u, hu⟩ := List.mem_iff_getElem?.1 hx
  rw [List.getElem?_take] at hu
  split at hu
  · rw [h u x (by assumption) hu]; rfl
  · cases hu
structure KpI (ns : List Int) (pred : Int → Bool) (j : Nat) (cs : List Value) : Prop where
  len : cs.length = ns.length
  lt : (keepI ns pred j).length < j
  low : ∀ u, u < (keepI ns pred j).length → cs[u]? = ((keepI ns pred j)[u]?).map (Value.int .i64)
  high : ∀ u, j ≤ u → cs[u]? = (ns[u]?).map (Value.int .i64)
theorem KpI.skip {ns : List Int} {pred : Int → Bool} {j : Nat} {cs : List Value} {x : Int} (h : KpI ns pred j cs) (hx : ns[j]? = some x) (hp : pred x = true) : KpI ns pred (j + 1) cs := by
  have e : keepI ns pred (j + 1) = keepI ns pred j := by rw [keepI_step hx, hp]; simp
  exact ⟨h.len, by rw [e]; have := h.lt; omega, by rw [e]; exact h.low, fun u hu => h.high u (by omega)⟩
theorem KpI.keep {ns : List Int} {pred : Int → Bool} {j : Nat} {cs : List Value} {x : Int} (h : KpI ns pred j cs) (hx : ns[j]? = some x) (hp : pred x = false) : KpI ns pred (j + 1) (cs.set (keepI ns pred j).length (.int .i64 x)) := by
  have e : keepI ns pred (j + 1) = keepI ns pred j ++ [x] := by rw [keepI_step hx, hp]; simp
  have hl := h.lt
  have hj : j < ns.length := (List.getElem?_eq_some_iff.1 hx).1
  refine ⟨by rw [List.length_set]; exact h.len, by rw [e, List.length_append, List.length_singleton]; omega, fun u hu => ?_, fun u hu => ?_⟩
  · rw [e, List.length_append, List.length_singleton] at hu
    rw [e]
    by_cases hc : u = (keepI ns pred j).length
    · subst hc
      rw [List.getElem?_set_self (by rw [h.len]; omega), List.getElem?_append_right (Nat.le_refl _)]
      simp
    · rw [List.getElem?_set_ne (fun h => hc h.symm), h.low u (by omega), List.getElem?_append_left (by omega)]
  · rw [List.getElem?_set_ne (by omega)]
    exact h.high u (by omega)
theorem KpI.done {ns : List Int} {pred : Int → Bool} {j : Nat} {cs : List Value} (h : KpI ns pred j cs) : cs.take (keepI ns pred j).length = (keepI ns pred j).map (Value.int .i64) := by
  apply List.ext_getElem?
  intro u
  rw [List.getElem?_take, List.getElem?_map]
  split
  · exact h.low u (by assumption)
  · rw [List.getElem?_eq_none (by omega)]; rfl
theorem KpI.start {ns : List Int} {pred : Int → Bool} {i : Nat} {x : Int} (h : ∀ u y, u < i → ns[u]? = some y → pred y = false) (hx : ns[i]? = some x) (hp : pred x = true) : KpI ns pred (i + 1) (ns.map (Value.int .i64)) ∧ (keepI ns pred (i + 1)).length = i := by
  have hi : i < ns.length := (List.getElem?_eq_some_iff.1 hx).1
  have e : keepI ns pred (i + 1) = ns.take i := by rw [keepI_step hx, hp, keepI_all i h]; simp
  have el : (keepI ns pred (i + 1)).length = i := by rw [e, List.length_take]; omega
  refine ⟨⟨by simp, by omega, fun u hu => ?_, fun u _ => by rw [List.getElem?_map]⟩, el⟩
  rw [el] at hu
  rw [e, List.getElem?_map, List.getElem?_take, if_pos hu]

theorem Row.cleared {B n b cap m : Nat} {w : World} {cs : List Value} (h : Row 1 B w (.slice (Option.some ⟨b, 0, none⟩) n cap) n cs) (hm : m ≤ n) (vs : List Value) : Row 1 B (w.setCells b m vs) (.slice (Option.some ⟨b, 0, none⟩) m cap) m (cs.take m) := by
  obtain ⟨h0, ⟨h, _⟩ | ⟨b', cap', h1, h2, h3, h4, h5, h6, h7⟩⟩ := h.front hm
  · cases h
  · injection h1 with e1 e2 e3
    injection e1 with e1
    injection e1 with e1
    subst e1; subst e3
    refine ⟨h0, .inr ⟨b, cap, rfl, h2, by rw [(heap_setCells vs b m w).1]; exact h3, h4, h5, fun j hj => ⟨World.isSome_setCells b vs m w _ (h6 j hj).1, by rw [World.frozen?_setCells]; exact (h6 j hj).2⟩, fun j u hu => ?_⟩⟩
    have hjm : j < m := by have := (List.getElem?_eq_some_iff.1 hu).1; omega
    rw [World.cell?_setCells_out b vs m w ⟨b, j, none⟩ (fun _ _ => .inl hjm)]
    exact h7 j u hu
theorem Off.setCells {Z : Nat → Prop} {a : World} {b : Nat} (hb : Z b) : ∀ (vs : List Value) (o : Nat) (w : World), Off Z a w → Off Z a (w.setCells b o vs)
  | [], _, _, h => h
  | v :: r, o, w, h => Off.setCells hb r (o + 1) _ (h.setCell (p := ⟨b, o, none⟩) (.inr hb) v)

set_option maxHeartbeats 1000000 in
set_option maxRecDepth 100000 in
theorem indexL_any (ns : List Int) (n q : Nat) (pred : Int → Bool) (v : Value) (w : World) (hr : RI w v ns) (hns : ns.length = n) (hn : n ≤ 600000) (C : ∀ x ∈ ns, Calls Tryz.prog 89 #[.int .i64 x, .pointer (some ⟨q, 0, none⟩)] w fun e w' => e = .returned (.bool (pred x)) ∧ w' = w) :
    Calls Tryz.prog 110 #[v, .func (.func 89) #[] #[.pointer (some ⟨q, 0, none⟩)]] w fun e w' => (∃ k : Int, e = .returned (.int .i64 k) ∧ ((k = -1 ∧ ∀ u x, u < n → ns[u]? = some x → pred x = false) ∨ ∃ i : Nat, k = i ∧ i < n ∧ (∀ u x, u < i → ns[u]? = some x → pred x = false) ∧ ∃ x, ns[i]? = some x ∧ pred x = true)) ∧ w' = w := by
  obtain ⟨na, nc, rfl⟩ := hr.form
  rw [hns] at hr ⊢
  have HR := Lib.hid hr
  have HC := Lib.hid C
  have HNS := Lib.hid hns
  have hnn : (n : Int) ≤ 600000 := by omega
  clear hr C hns
  go_enter Tryz.func110, Tryz.ntmps110
  go_wp2_with fail
  go_loopw [8] (fun jv wr => ∃ i : Nat, jv = .int .i64 (i : Nat) ∧ i ≤ n ∧ Hid (∀ u x, u < i → ns[u]? = some x → pred x = false) ∧ Hid (wr = w)) (fun jv _ => n - (intOf jv).toNat)
  case atStart => exact ⟨0, rfl, Nat.zero_le _, Lib.hid (fun u x h => absurd h (Nat.not_lt_zero _)), Lib.hid rfl⟩
  case round =>
    obtain ⟨i, rfl, hin, HALL, HWR⟩ := hrel
    have hwr := HWR.out
    subst hwr
    by_cases hlt : i < n
    · obtain ⟨x, hx⟩ : ∃ x, ns[i]? = some x := ⟨ns[i]'(by rw [HNS.out]; exact hlt), by simp⟩
      obtain ⟨b, o, rfl, hnl, hnc1, hnc2, hcx⟩ := HR.out.at hx
      unfold maxLen at hnc2
      have CI := HC.out x (List.mem_of_getElem? hx)
      obtain ⟨p, hp⟩ : ∃ p, p = pred x := ⟨_, rfl⟩
      rw [← hp] at CI
      have HX := Lib.hid hx
      have HP := Lib.hid hp
      have HCI := Lib.hid CI
      clear hnl hx CI hp
      cases p with
      | false =>
        go_wp2_with fail
        refine HCI.out.mono ?_
        rintro e w5 ⟨rfl, rfl⟩
        go_wp2_with fail
        exact ⟨⟨i + 1, by go_num, by omega, Lib.hid (fun u y hu hy => by
          by_cases hc : u = i
          · subst hc
            rw [HX.out] at hy
            injection hy with hy
            subst hy
            exact HP.out.symm
          · exact HALL.out u y (by omega) hy), Lib.hid (by trivial)⟩, by simp [intOf]; omega⟩
      | true =>
        go_wp2_with fail
        refine HCI.out.mono ?_
        rintro e w5 ⟨rfl, rfl⟩
        go_wp2_with fail
        go_ret
        exact ⟨⟨_, rfl, .inr ⟨i, rfl, hlt, HALL.out, x, HX.out, HP.out.symm⟩⟩, rfl⟩
    · have hie : n = i := by omega
      subst hie
      go_wp2_with fail
      go_ret
      exact ⟨⟨_, rfl, .inl ⟨rfl, HALL.out⟩⟩, rfl⟩
set_option maxHeartbeats 2000000 in
set_option maxRecDepth 100000 in
theorem deleteL_any (ns : List Int) (n q B : Nat) (pred : Int → Bool) (v : Value) (w : World) (hr : Row 1 B w v n (ns.map (Value.int .i64))) (hns : ns.length = n) (hn : n ≤ 600000) (C : ∀ W, Off (fun k => v.ownBlock = some k) w W → ∀ x ∈ ns, Calls Tryz.prog 89 #[.int .i64 x, .pointer (Option.some ⟨q, 0, none⟩)] W fun e w' => e = .returned (.bool (pred x)) ∧ w' = W) :
    Calls Tryz.prog 88 #[v, .func (.func 89) #[] #[.pointer (Option.some ⟨q, 0, none⟩)]] w fun e w' => ∃ ov, e = .returned ov ∧ Row 1 B w' ov (keepI ns pred n).length ((keepI ns pred n).map (Value.int .i64)) ∧ Off (fun k => v.ownBlock = some k) w w' := by
  have IX := indexL_any ns n q pred v w (RI.ofRow (hns ▸ hr)) hns hn (C w (Off.refl _ _))
  obtain ⟨na, nc, rfl⟩ := hr.form
  have HIX := Lib.hid IX
  have HR := Lib.hid hr
  have HC := Lib.hid C
  have HNS := Lib.hid hns
  have hnn : (n : Int) ≤ 600000 := by omega
  clear IX hr C hns
  go_enter Tryz.func88, Tryz.ntmps88
  go_wp2_with fail
  refine HIX.out.mono ?_
  rintro e w1 ⟨⟨k, rfl, ⟨rfl, hall⟩ | ⟨i0, rfl, hi0, hall, x0, hx0, hp0⟩⟩, rfl⟩
  · have HALL := Lib.hid hall
    clear hall
    go_wp2_with fail
    go_ret
    refine ⟨_, rfl, ?_, Off.refl _ _⟩
    have e : keepI ns pred n = ns := by rw [keepI_all n HALL.out, ← HNS.out, List.take_length]
    rw [e, HNS.out]
    exact HR.out
  · obtain ⟨b, cap, hv, hBb, hbw, hnc, hcm, _⟩ := HR.out.pos (by omega)
    injection hv with e1 e2 e3
    subst e1; subst e3
    obtain ⟨hkp, hkl⟩ := KpI.start hall hx0 hp0
    have HKP := Lib.hid hkp
    have HKL := Lib.hid hkl
    have hne1 : ((i0 : Int) == -1) = false := beq_eq_false_iff_ne.2 (by omega)
    unfold maxLen at hcm
    clear hall hx0 hp0 hkp hkl
    go_wp2_with fail
    go_loopw [5, 6] (fun iv jv wr => ∃ (i j : Nat) (cs : List Value), iv = .int .i64 (i : Nat) ∧ jv = .int .i64 (j : Nat) ∧ i < j ∧ j ≤ n ∧ Hid (i = (keepI ns pred j).length) ∧ Hid (KpI ns pred j cs) ∧ Hid (Row 1 B wr (.slice (Option.some ⟨b, 0, none⟩) n nc) n cs) ∧ Hid (Off (fun k => (Value.slice (Option.some ⟨b, 0, none⟩) n nc).ownBlock = some k) w1 wr)) (fun _ jv _ => n - (intOf jv).toNat)
    case atStart => exact ⟨i0, i0 + 1, _, rfl, by go_num, by omega, by omega, Lib.hid HKL.out.symm, HKP, HR, Lib.hid (Off.refl _ _)⟩
    case round =>
      obtain ⟨i, j, cs, rfl, rfl, hij, hjn, HI, HK, HW, HO⟩ := hrel
      by_cases hlt : j < n
      · obtain ⟨x, hx⟩ : ∃ x, ns[j]? = some x := ⟨ns[j]'(by rw [HNS.out]; exact hlt), by simp⟩
        have hcj : cs[j]? = some (.int .i64 x) := by rw [HK.out.high j (Nat.le_refl _), hx]; rfl
        obtain ⟨y, hy⟩ : ∃ y, cs[i]? = some y := ⟨cs[i]'(by rw [HK.out.len, HNS.out]; omega), by simp⟩
        obtain ⟨gj, _⟩ := HW.out.cellF hcj
        obtain ⟨gi, fi, _⟩ := HW.out.cellF hy
        have CI := HC.out wr HO.out x (List.mem_of_getElem? hx)
        obtain ⟨p, hp⟩ : ∃ p, p = pred x := ⟨_, rfl⟩
        rw [← hp] at CI
        have HX := Lib.hid hx
        have HP := Lib.hid hp
        have HCI := Lib.hid CI
        have HIL := Lib.hid (show i < cs.length by rw [HK.out.len, HNS.out]; omega)
        clear hx hcj hy CI hp
        cases p with
        | true =>
          go_wp2_with fail
          refine HCI.out.mono ?_
          rintro e w5 ⟨rfl, rfl⟩
          go_wp2_with fail
          exact ⟨⟨i, j + 1, cs, rfl, by go_num, by omega, by omega, Lib.hid (by rw [keepI_step HX.out, ← HP.out, HI.out]; simp), Lib.hid (HK.out.skip HX.out HP.out.symm), HW, HO⟩, by simp [intOf]; omega⟩
        | false =>
          go_wp2_with fail
          refine HCI.out.mono ?_
          rintro e w5 ⟨rfl, rfl⟩
          go_wp2_with fail
          exact ⟨⟨i + 1, j + 1, cs.set i (.int .i64 x), by go_num, by go_num, by omega, by omega, Lib.hid (by rw [keepI_step HX.out, ← HP.out, HI.out]; simp), Lib.hid (by have := HK.out.keep HX.out HP.out.symm; rw [← HI.out] at this; exact this), Lib.hid (HW.out.put HIL.out _), Lib.hid (HO.out.setCell (p := ⟨b, i, none⟩) (.inr rfl) _)⟩, by simp [intOf]; omega⟩
      · have hje : n = j := by omega
        subst hje
        have hsz : ∀ u, u < nc → (wr.cell? ⟨b, u, none⟩).isSome = true ∧ wr.frozen? ⟨b, u, none⟩ = false := fun u hu => by
          obtain ⟨_, ⟨h, _⟩ | ⟨b', cap', h1, h2, h3, h4, h5, h6, h7⟩⟩ := HW.out
          · cases h
          · injection h1 with e1 e2 e3
            injection e1 with e1
            injection e1 with e1
            subst e1; subst e3
            exact h6 u (by omega)
        have hcl : ∀ ty, (Builtin.clear_ #[23] ty #[.slice (Option.some ⟨b, i, none⟩) (n - i) (nc - i)]).run Tryz.prog wr = .ok (.tuple #[]) (wr.setCells b i (List.replicate (n - i) (.int .i64 0))) :=
          fun ty => Lib.run_clear_slice wr _ 3 ty (.int .i64 0) Tryz.underlying23 (fun _ => rfl) rfl rfl b i _ _ (by omega) (fun t ht => (hsz (i + t) (by omega)).1) (fun t ht => (hsz (i + t) (by omega)).2)
        have HRW := Lib.hid (HW.out.cleared (m := i) (by omega) (List.replicate (n - i) (.int .i64 0)))
        have HOW := Lib.hid (Off.setCells (b := b) (Z := fun k => (Value.slice (Option.some ⟨b, 0, none⟩) n nc).ownBlock = some k) rfl (List.replicate (n - i) (.int .i64 0)) i wr HO.out)
        clear hsz
        go_wp2
        go_ret
        refine ⟨_, rfl, ?_, HOW.out⟩
        have h := HK.out.done
        rw [← HI.out] at h ⊢
        rw [← h]
        exact HRW.out
end Go.Proofs.YtmfibianieboeaaGreat
set_option linter.unusedVariables false
set_option linter.unusedSimpArgs false
namespace Go.Proofs.YtmfibianieboeaaGreat
open Go.ChangeShapes Go.WideShapes Go.ChangeAt Go.RowKit

theorem toN_toI (E : EdN) : toN (toI E) = E := by
  unfold toN toI
  rw [List.map_map]
  exact (List.map_congr_left (fun e _ => rfl)).trans (List.map_id E)
theorem among_toI {n : Nat} {E : EdN} (h : ∀ e ∈ E, e.1 < n ∧ e.2 < n) : amongL (n : Int) (toI E) = toI E := by
  unfold amongL
  rw [List.filter_eq_self]
  intro e he
  obtain ⟨e0, h0, rfl⟩ := List.mem_map.1 he
  have := h e0 h0
  rw [rightP_iff]
  simp only
  omega
theorem size_any (ta : Option Addr) (m tc D : Nat) (ev : Value) (w : World) (hm : m ≤ 1000000) (hD : D ≤ 1000000) :
    Calls Tryz.prog 66 #[.agg #[.slice ta m tc, .int .i64 (D : Int), ev]] w fun e w' => e = .returned (.int .i64 ((D + m : Nat) : Int)) ∧ w' = w.alloc (.cells #[.slice ta m tc, .int .i64 (D : Int), ev] 59) := by
  go_enter Tryz.func66, Tryz.ntmps66
  go_wp2_with fail
  go_ret
  exact ⟨by go_num, rfl⟩
theorem line1_any (q D : Nat) (x : Int) (W : World) (hq : W.cell? ⟨q, 1, none⟩ = some (.int .i64 (D : Int))) :
    Calls Tryz.prog 89 #[.int .i64 x, .pointer (some ⟨q, 0, none⟩)] W fun e w' => e = .returned (.bool (decide (x < (D : Int)))) ∧ w' = W := by
  go_enter Tryz.func89, Tryz.ntmps89
  go_wp2_with fail
  go_ret
  exact ⟨rfl, rfl⟩
theorem thing_any (ta : Option Addr) (tc D i : Nat) (A : List Nat) (ev : Value) (x : Nat) (w : World) (hr : RI w (.slice ta A.length tc) (nl A)) (hx : A[i]? = some x) (hD : D ≤ 1000000) (hl : A.length ≤ 1000000) :
    Calls Tryz.prog 63 #[.agg #[.slice ta A.length tc, .int .i64 (D : Int), ev], .int .i64 ((D + i : Nat) : Int)] w fun e w' => e = .returned (.int .i64 (x : Int)) ∧ Below w.heap.size w w' := by
  obtain ⟨b, o, rfl, hb, hc1, hc2, cx⟩ := hr.at (nl_at hx)
  have hi := (List.getElem?_eq_some_iff.1 hx).1
  obtain ⟨m, hm⟩ : ∃ m, m = A.length := ⟨_, rfl⟩
  rw [← hm] at hc1 hi hl ⊢
  obtain ⟨g, hg⟩ : ∃ g, g = D + i := ⟨_, rfl⟩
  have hgI : (g : Int) - (D : Int) = (i : Int) := by omega
  rw [← hg]
  unfold maxLen at hc2
  clear hr hx hm hg
  go_enter Tryz.func63, Tryz.ntmps63
  go_wp2_with fail
  go_ret
  exact ⟨rfl, (Below.refl _ _).alloc (Nat.le_refl _) _⟩
abbrev BxS (w1 : World) (q : Nat) (tv dv ev : Value) (W : World) : Prop := (W.cell? ⟨q, 0, none⟩ = some tv ∧ W.cell? ⟨q, 1, none⟩ = some dv ∧ W.cell? ⟨q, 2, none⟩ = some ev) ∧ q < w1.heap.size ∧ Below w1.heap.size w1 W
theorem bxs_call {w1 W W' : World} {q : Nat} {tv dv ev : Value} (hb : Below W.heap.size W W') (h : BxS w1 q tv dv ev W) : BxS w1 q tv dv ev W' := by
  obtain ⟨⟨a0, a1, a2⟩, hq, hB⟩ := h
  have hqW := Nat.lt_of_lt_of_le hq hB.size
  exact ⟨⟨(hb.cell (p := ⟨q, 0, none⟩) hqW).trans a0, (hb.cell (p := ⟨q, 1, none⟩) hqW).trans a1, (hb.cell (p := ⟨q, 2, none⟩) hqW).trans a2⟩, hq, hB.trans (hb.mono hB.size)⟩
section
variable {R : Nat → Nat → Prop} {D : Nat} {rk : Nat → Nat} {E : EdN} {A : List Nat}
set_option maxHeartbeats 2000000 in
set_option maxRecDepth 100000 in
theorem line_any (bv : Value) (w : World) (hM : BoardM w bv A D E) (hB : BoardS R A.length D rk E) (hD : D ≤ 200000) (hA : A.length ≤ 100000) (hE : E.length ≤ 100000) :
    Calls Tryz.prog 61 #[bv] w fun e w' => ∃ ov L, e = .returned ov ∧ RI w' ov (L.map fun x => (D : Int) + x) ∧ ReachK (needE (pairA R A.length)) A.length L ∧ L.length = A.length ∧ Below w.heap.size w w' := by
  obtain ⟨tv, ev, rfl, hrt, hre⟩ := hM
  obtain ⟨ta, tc, rfl⟩ := hrt.form
  rw [nl_len]
  obtain ⟨m, hm⟩ : ∃ m, m = A.length := ⟨_, rfl⟩
  rw [← hm] at hB hA ⊢
  obtain ⟨w1, hw1⟩ : ∃ w1, w1 = w.alloc (.cells #[.slice ta m tc, .int .i64 (D : Int), ev] 59) := ⟨_, rfl⟩
  have hb1 : Below w.heap.size w w1 := by rw [hw1]; exact (Below.refl _ _).alloc (Nat.le_refl _) _
  obtain ⟨q, hq⟩ : ∃ q, q = w.heap.size := ⟨_, rfl⟩
  have hS1 : BxS w1 q (.slice ta m tc) (.int .i64 (D : Int)) ev w1.drew := by
    rw [hw1, hq]
    exact ⟨⟨World.cell?_alloc_at _ _ _ _ rfl, World.cell?_alloc_at _ _ _ _ rfl, World.cell?_alloc_at _ _ _ _ rfl⟩, by simp, (Below.refl _ _).drew⟩
  obtain ⟨sz, hsz⟩ : ∃ sz, sz = D + m := ⟨_, rfl⟩
  have HSZ := Lib.hid (fun W => (size_any ta m tc D ev W (by omega) (by omega)).mono (R' := fun e w' => e = .returned (.int .i64 (sz : Int)) ∧ Below W.heap.size W w') (fun e w' h => ⟨by rw [h.1, hsz], by rw [h.2]; exact (Below.refl _ _).alloc (Nat.le_refl _) _⟩))
  have hEl : ∀ e ∈ E, e.1 < sz ∧ e.2 < sz := by rw [hsz]; exact hB.lt
  have HSO := Lib.hid (fun W (h : BxS w1 q (.slice ta m tc) (.int .i64 (D : Int)) ev W) => sortF_row (sz : Int) (toI E) ev W (hre.below (hb1.trans (h.2.2.mono hb1.size))) (by simp [toI]; omega) (by omega) (by omega))
  rw [Int.toNat_natCast, among_toI hEl, toN_toI] at HSO
  have HLN : Hid (∀ out ok, SortR sz E out ok → ok = true ∧ out.length = sz ∧ ∃ L : List Int, out.filter (fun x => decide ((D : Int) ≤ x)) = L.map (fun x => (D : Int) + x) ∧ ReachK (needE (pairA R m)) m L ∧ L.length = m) := Lib.hid (fun out ok h => by
    rw [hsz] at h
    obtain ⟨h1, h2, h3⟩ := hB.line h
    exact ⟨h1, by rw [hsz]; exact h2, h3⟩)
  have HS1 := Lib.hid hS1
  have HW1 := Lib.hid hw1
  have HB1 := Lib.hid hb1
  have HQ := Lib.hid hq
  have hsz9 : sz ≤ 300000 := by omega
  clear hrt hre hb1 hw1 hS1 hEl hB hm hsz hq
  go_enter Tryz.func61, Tryz.ntmps61
  go_wp2_with fail
  rw [← HW1.out, ← HQ.out]
  go_region_held3 (fun W => (W.cell? ⟨q, 0, none⟩ = some (.slice ta m tc) ∧ W.cell? ⟨q, 1, none⟩ = some (.int .i64 (D : Int)) ∧ W.cell? ⟨q, 2, none⟩ = some ev) ∧ q < w1.heap.size ∧ Below w1.heap.size w1 W)
    (first | with_reducible exact hq3 | with_reducible exact hq2 | with_reducible exact HS1.out)
    (first
      | (go_at_call 66; have hq : BxS w1 q (.slice ta m tc) (.int .i64 (D : Int)) ev _ := (by assumption); (with_reducible refine (HSZ.out _).mono ?_); rintro e w2 ⟨rfl, hb2⟩; have hq2 := bxs_call hb2 hq; clear hq)
      | (go_at_call 22; have hq : BxS w1 q (.slice ta m tc) (.int .i64 (D : Int)) ev _ := (by assumption); (with_reducible refine (HSO.out _ hq).mono ?_); rintro e w3 ⟨sv, out, ok, rfl, hsr, hrow0, hb3⟩; have hq3 := bxs_call hb3 hq; have hrow := Row.mono hrow0 hq.2.2.size; clear hq hrow0))
  rename_i hHeld
  clear hHeld hq2 hb2 hb3
  obtain ⟨hok, hol, L, hL1, hL2, hL3⟩ := HLN.out out ok hsr
  subst hok
  have hqB : q < w3.heap.size := Nat.lt_of_lt_of_le hq3.2.1 hq3.2.2.size
  have hown : ∀ i, sv.ownBlock = some i → w1.heap.size ≤ i := fun i hi => (hrow.lt i hi).1
  have HDL := Lib.hid (deleteL_any out sz q w1.heap.size (fun x => decide (x < (D : Int))) sv w3 (by rw [← hol]; exact hrow) hol (by omega) (fun W ho x hx => line1_any q D x W ((ho.cell (p := ⟨q, 1, none⟩) hqB (fun e => by have := hown q e; have := hq3.2.1; omega)).trans hq3.1.2.1)))
  have HKP : Hid (keepI out (fun x => decide (x < (D : Int))) sz = L.map fun x => (D : Int) + x) := Lib.hid (by
    rw [← hL1]
    unfold keepI
    rw [List.take_of_length_le (by omega)]
    congr 1
    funext x
    rw [Bool.eq_iff_iff]
    simp)
  have HL2 := Lib.hid hL2
  have HL3 := Lib.hid hL3
  have HB3 := Lib.hid (HB1.out.trans (hq3.2.2.mono HB1.out.size))
  have HOWN := Lib.hid hown
  have HS13 := Lib.hid (show w.heap.size ≤ w3.heap.size from HB3.out.size)
  obtain ⟨sa, sc, hsv⟩ := hrow.form
  clear hsr hrow hq3 hol hL1 hL2 hL3 hown
  subst hsv
  go_wp2_with fail
  refine HDL.out.mono ?_
  rintro e w4 ⟨ov, rfl, hrow4, hof4⟩
  have HROW4 := Lib.hid hrow4
  have HOF4 := Lib.hid hof4
  obtain ⟨oa, oc, hov⟩ := hrow4.form
  clear hrow4 hof4
  subst hov
  go_wp2_with fail
  go_ret
  refine ⟨_, L, rfl, ?_, HL2.out, HL3.out, ?_⟩
  · have h := RI.ofRow HROW4.out
    rw [HKP.out] at h
    rw [HKP.out]
    exact h
  · exact HB3.out.trans (off_below HOF4.out (fun i hi => Nat.le_trans HB1.out.size (HOWN.out i hi)) HB3.out.size)
end
end Go.Proofs.YtmfibianieboeaaGreat
