/- slices.DeleteFunc at line's closure, upon a row of ints that the call owns. -/
import Derived.Lib.SliceRun
import Derived.Test.YtfpepoebammeoaaGreatU20
set_option linter.unusedVariables false
set_option linter.unusedSimpArgs false
namespace Go.Proofs.YtfpepoebammeoaaGreat
open Go.ChangeShapes Go.WideShapes Go.ChangeAt Go.RowKit

def keepI (ns : List Int) (pred : Int → Bool) (j : Nat) : List Int := (ns.take j).filter fun x => !pred x
theorem keepI_step {ns : List Int} {pred : Int → Bool} {j : Nat} {x : Int} (h : ns[j]? = some x) : keepI ns pred (j + 1) = keepI ns pred j ++ if pred x then [] else [x] := by
  unfold keepI
  rw [List.take_add_one, h, List.filter_append]
  cases hp : pred x <;> simp [hp]
theorem keepI_all {ns : List Int} {pred : Int → Bool} (j : Nat) (h : ∀ u x, u < j → ns[u]? = some x → pred x = false) : keepI ns pred j = ns.take j := by
  unfold keepI
  refine List.filter_eq_self.2 fun x hx => ?_
  obtain ⟨u, hu⟩ := List.mem_iff_getElem?.1 hx
  rw [List.getElem?_take] at hu
  split at hu
  · rw [h u x (by assumption) hu]; rfl
  · cases hu
structure KpI (ns : List Int) (pred : Int → Bool) (j : Nat) (cs : List Value) : Prop where
  len : cs.length = ns.length
  lt : (keepI ns pred j).length < j
  low : ∀ u, u < (keepI ns pred j).length → cs[u]? = ((keepI ns pred j)[u]?).map (Value.int .i64)
  high : ∀ u, j ≤ u → cs[u]? = (ns[u]?).map (Value.int .i64)
theorem KpI.skip {ns : List Int} {pred : Int → Bool} {j : Nat} {cs : List Value} {x : Int} (h : KpI ns pred j cs) (hx : ns[j]? = some x) (hp : pred x = true) : KpI ns pred (j + 1) cs := by
  have e : keepI ns pred (j + 1) = keepI ns pred j := by rw [keepI_step hx, hp]; simp
  exact ⟨h.len, by rw [e]; have := h.lt; omega, by rw [e]; exact h.low, fun u hu => h.high u (by omega)⟩
theorem KpI.keep {ns : List Int} {pred : Int → Bool} {j : Nat} {cs : List Value} {x : Int} (h : KpI ns pred j cs) (hx : ns[j]? = some x) (hp : pred x = false) : KpI ns pred (j + 1) (cs.set (keepI ns pred j).length (.int .i64 x)) := by
  have e : keepI ns pred (j + 1) = keepI ns pred j ++ [x] := by rw [keepI_step hx, hp]; simp
  have hl := h.lt
  have hj : j < ns.length := (List.getElem?_eq_some_iff.1 hx).1
  refine ⟨by rw [List.length_set]; exact h.len, by rw [e, List.length_append, List.length_singleton]; omega, fun u hu => ?_, fun u hu => ?_⟩
  · rw [e, List.length_append, List.length_singleton] at hu
    rw [e]
    by_cases hc : u = (keepI ns pred j).length
    · subst hc
      rw [List.getElem?_set_self (by rw [h.len]; omega), List.getElem?_append_right (Nat.le_refl _)]
      simp
    · rw [List.getElem?_set_ne (fun h => hc h.symm), h.low u (by omega), List.getElem?_append_left (by omega)]
  · rw [List.getElem?_set_ne (by omega)]
    exact h.high u (by omega)
theorem KpI.done {ns : List Int} {pred : Int → Bool} {j : Nat} {cs : List Value} (h : KpI ns pred j cs) : cs.take (keepI ns pred j).length = (keepI ns pred j).map (Value.int .i64) := by
  apply List.ext_getElem?
  intro u
  rw [List.getElem?_take, List.getElem?_map]
  split
  · exact h.low u (by assumption)
  · rw [List.getElem?_eq_none (by omega)]; rfl
theorem KpI.start {ns : List Int} {pred : Int → Bool} {i : Nat} {x : Int} (h : ∀ u y, u < i → ns[u]? = some y → pred y = false) (hx : ns[i]? = some x) (hp : pred x = true) : KpI ns pred (i + 1) (ns.map (Value.int .i64)) ∧ (keepI ns pred (i + 1)).length = i := by
  have hi : i < ns.length := (List.getElem?_eq_some_iff.1 hx).1
  have e : keepI ns pred (i + 1) = ns.take i := by rw [keepI_step hx, hp, keepI_all i h]; simp
  have el : (keepI ns pred (i + 1)).length = i := by rw [e, List.length_take]; omega
  refine ⟨⟨by simp, by omega, fun u hu => ?_, fun u _ => by rw [List.getElem?_map]⟩, el⟩
  rw [el] at hu
  rw [e, List.getElem?_map, List.getElem?_take, if_pos hu]

theorem Row.cleared {B n b cap m : Nat} {w : World} {cs : List Value} (h : Row 1 B w (.slice (Option.some ⟨b, 0, none⟩) n cap) n cs) (hm : m ≤ n) (vs : List Value) : Row 1 B (w.setCells b m vs) (.slice (Option.some ⟨b, 0, none⟩) m cap) m (cs.take m) := by
  obtain ⟨h0, ⟨h, _⟩ | ⟨b', cap', h1, h2, h3, h4, h5, h6, h7⟩⟩ := h.front hm
  · cases h
  · injection h1 with e1 e2 e3
    injection e1 with e1
    injection e1 with e1
    subst e1; subst e3
    refine ⟨h0, .inr ⟨b, cap, rfl, h2, by rw [(heap_setCells vs b m w).1]; exact h3, h4, h5, fun j hj => ⟨World.isSome_setCells b vs m w _ (h6 j hj).1, by rw [World.frozen?_setCells]; exact (h6 j hj).2⟩, fun j u hu => ?_⟩⟩
    have hjm : j < m := by have := (List.getElem?_eq_some_iff.1 hu).1; omega
    rw [World.cell?_setCells_out b vs m w ⟨b, j, none⟩ (fun _ _ => .inl hjm)]
    exact h7 j u hu
theorem Off.setCells {Z : Nat → Prop} {a : World} {b : Nat} (hb : Z b) : ∀ (vs : List Value) (o : Nat) (w : World), Off Z a w → Off Z a (w.setCells b o vs)
  | [], _, _, h => h
  | v :: r, o, w, h => Off.setCells hb r (o + 1) _ (h.setCell (p := ⟨b, o, none⟩) (.inr hb) v)

set_option maxHeartbeats 1000000 in
set_option maxRecDepth 100000 in
theorem indexL_any (ns : List Int) (n q : Nat) (pred : Int → Bool) (v : Value) (w : World) (hr : RI w v ns) (hns : ns.length = n) (hn : n ≤ 600000) (C : ∀ x ∈ ns, Calls Tryz.prog 89 #[.int .i64 x, .pointer (some ⟨q, 0, none⟩)] w fun e w' => e = .returned (.bool (pred x)) ∧ w' = w) :
    Calls Tryz.prog 110 #[v, .func (.func 89) #[] #[.pointer (some ⟨q, 0, none⟩)]] w fun e w' => (∃ k : Int, e = .returned (.int .i64 k) ∧ ((k = -1 ∧ ∀ u x, u < n → ns[u]? = some x → pred x = false) ∨ ∃ i : Nat, k = i ∧ i < n ∧ (∀ u x, u < i → ns[u]? = some x → pred x = false) ∧ ∃ x, ns[i]? = some x ∧ pred x = true)) ∧ w' = w := by
  obtain ⟨na, nc, rfl⟩ := hr.form
  rw [hns] at hr ⊢
  have HR := Lib.hid hr
  have HC := Lib.hid C
  have HNS := Lib.hid hns
  have hnn : (n : Int) ≤ 600000 := by omega
  clear hr C hns
  go_enter Tryz.func110, Tryz.ntmps110
  go_wp2_with fail
  go_loopw [8] (fun jv wr => ∃ i : Nat, jv = .int .i64 (i : Nat) ∧ i ≤ n ∧ Hid (∀ u x, u < i → ns[u]? = some x → pred x = false) ∧ Hid (wr = w)) (fun jv _ => n - (intOf jv).toNat)
  case atStart => exact ⟨0, rfl, Nat.zero_le _, Lib.hid (fun u x h => absurd h (Nat.not_lt_zero _)), Lib.hid rfl⟩
  case round =>
    obtain ⟨i, rfl, hin, HALL, HWR⟩ := hrel
    have hwr := HWR.out
    subst hwr
    by_cases hlt : i < n
    · obtain ⟨x, hx⟩ : ∃ x, ns[i]? = some x := ⟨ns[i]'(by rw [HNS.out]; exact hlt), by simp⟩
      obtain ⟨b, o, rfl, hnl, hnc1, hnc2, hcx⟩ := HR.out.at hx
      unfold maxLen at hnc2
      have CI := HC.out x (List.mem_of_getElem? hx)
      obtain ⟨p, hp⟩ : ∃ p, p = pred x := ⟨_, rfl⟩
      rw [← hp] at CI
      have HX := Lib.hid hx
      have HP := Lib.hid hp
      have HCI := Lib.hid CI
      clear hnl hx CI hp
      cases p with
      | false =>
        go_wp2_with fail
        refine HCI.out.mono ?_
        rintro e w5 ⟨rfl, rfl⟩
        go_wp2_with fail
        exact ⟨⟨i + 1, by go_num, by omega, Lib.hid (fun u y hu hy => by
          by_cases hc : u = i
          · subst hc
            rw [HX.out] at hy
            injection hy with hy
            subst hy
            exact HP.out.symm
          · exact HALL.out u y (by omega) hy), Lib.hid (by trivial)⟩, by simp [intOf]; omega⟩
      | true =>
        go_wp2_with fail
        refine HCI.out.mono ?_
        rintro e w5 ⟨rfl, rfl⟩
        go_wp2_with fail
        go_ret
        exact ⟨⟨_, rfl, .inr ⟨i, rfl, hlt, HALL.out, x, HX.out, HP.out.symm⟩⟩, rfl⟩
    · have hie : n = i := by omega
      subst hie
      go_wp2_with fail
      go_ret
      exact ⟨⟨_, rfl, .inl ⟨rfl, HALL.out⟩⟩, rfl⟩
set_option maxHeartbeats 2000000 in
set_option maxRecDepth 100000 in
theorem deleteL_any (ns : List Int) (n q B : Nat) (pred : Int → Bool) (v : Value) (w : World) (hr : Row 1 B w v n (ns.map (Value.int .i64))) (hns : ns.length = n) (hn : n ≤ 600000) (C : ∀ W, Off (fun k => v.ownBlock = some k) w W → ∀ x ∈ ns, Calls Tryz.prog 89 #[.int .i64 x, .pointer (Option.some ⟨q, 0, none⟩)] W fun e w' => e = .returned (.bool (pred x)) ∧ w' = W) :
    Calls Tryz.prog 88 #[v, .func (.func 89) #[] #[.pointer (Option.some ⟨q, 0, none⟩)]] w fun e w' => ∃ ov, e = .returned ov ∧ Row 1 B w' ov (keepI ns pred n).length ((keepI ns pred n).map (Value.int .i64)) ∧ Off (fun k => v.ownBlock = some k) w w' := by
  have IX := indexL_any ns n q pred v w (RI.ofRow (hns ▸ hr)) hns hn (C w (Off.refl _ _))
  obtain ⟨na, nc, rfl⟩ := hr.form
  have HIX := Lib.hid IX
  have HR := Lib.hid hr
  have HC := Lib.hid C
  have HNS := Lib.hid hns
  have hnn : (n : Int) ≤ 600000 := by omega
  clear IX hr C hns
  go_enter Tryz.func88, Tryz.ntmps88
  go_wp2_with fail
  refine HIX.out.mono ?_
  rintro e w1 ⟨⟨k, rfl, ⟨rfl, hall⟩ | ⟨i0, rfl, hi0, hall, x0, hx0, hp0⟩⟩, rfl⟩
  · have HALL := Lib.hid hall
    clear hall
    go_wp2_with fail
    go_ret
    refine ⟨_, rfl, ?_, Off.refl _ _⟩
    have e : keepI ns pred n = ns := by rw [keepI_all n HALL.out, ← HNS.out, List.take_length]
    rw [e, HNS.out]
    exact HR.out
  · obtain ⟨b, cap, hv, hBb, hbw, hnc, hcm, _⟩ := HR.out.pos (by omega)
    injection hv with e1 e2 e3
    subst e1; subst e3
    obtain ⟨hkp, hkl⟩ := KpI.start hall hx0 hp0
    have HKP := Lib.hid hkp
    have HKL := Lib.hid hkl
    have hne1 : ((i0 : Int) == -1) = false := beq_eq_false_iff_ne.2 (by omega)
    unfold maxLen at hcm
    clear hall hx0 hp0 hkp hkl
    go_wp2_with fail
    go_loopw [5, 6] (fun iv jv wr => ∃ (i j : Nat) (cs : List Value), iv = .int .i64 (i : Nat) ∧ jv = .int .i64 (j : Nat) ∧ i < j ∧ j ≤ n ∧ Hid (i = (keepI ns pred j).length) ∧ Hid (KpI ns pred j cs) ∧ Hid (Row 1 B wr (.slice (Option.some ⟨b, 0, none⟩) n nc) n cs) ∧ Hid (Off (fun k => (Value.slice (Option.some ⟨b, 0, none⟩) n nc).ownBlock = some k) w1 wr)) (fun _ jv _ => n - (intOf jv).toNat)
    case atStart => exact ⟨i0, i0 + 1, _, rfl, by go_num, by omega, by omega, Lib.hid HKL.out.symm, HKP, HR, Lib.hid (Off.refl _ _)⟩
    case round =>
      obtain ⟨i, j, cs, rfl, rfl, hij, hjn, HI, HK, HW, HO⟩ := hrel
      by_cases hlt : j < n
      · obtain ⟨x, hx⟩ : ∃ x, ns[j]? = some x := ⟨ns[j]'(by rw [HNS.out]; exact hlt), by simp⟩
        have hcj : cs[j]? = some (.int .i64 x) := by rw [HK.out.high j (Nat.le_refl _), hx]; rfl
        obtain ⟨y, hy⟩ : ∃ y, cs[i]? = some y := ⟨cs[i]'(by rw [HK.out.len, HNS.out]; omega), by simp⟩
        obtain ⟨gj, _⟩ := HW.out.cellF hcj
        obtain ⟨gi, fi, _⟩ := HW.out.cellF hy
        have CI := HC.out wr HO.out x (List.mem_of_getElem? hx)
        obtain ⟨p, hp⟩ : ∃ p, p = pred x := ⟨_, rfl⟩
        rw [← hp] at CI
        have HX := Lib.hid hx
        have HP := Lib.hid hp
        have HCI := Lib.hid CI
        have HIL := Lib.hid (show i < cs.length by rw [HK.out.len, HNS.out]; omega)
        clear hx hcj hy CI hp
        cases p with
        | true =>
          go_wp2_with fail
          refine HCI.out.mono ?_
          rintro e w5 ⟨rfl, rfl⟩
          go_wp2_with fail
          exact ⟨⟨i, j + 1, cs, rfl, by go_num, by omega, by omega, Lib.hid (by rw [keepI_step HX.out, ← HP.out, HI.out]; simp), Lib.hid (HK.out.skip HX.out HP.out.symm), HW, HO⟩, by simp [intOf]; omega⟩
        | false =>
          go_wp2_with fail
          refine HCI.out.mono ?_
          rintro e w5 ⟨rfl, rfl⟩
          go_wp2_with fail
          exact ⟨⟨i + 1, j + 1, cs.set i (.int .i64 x), by go_num, by go_num, by omega, by omega, Lib.hid (by rw [keepI_step HX.out, ← HP.out, HI.out]; simp), Lib.hid (by have := HK.out.keep HX.out HP.out.symm; rw [← HI.out] at this; exact this), Lib.hid (HW.out.put HIL.out _), Lib.hid (HO.out.setCell (p := ⟨b, i, none⟩) (.inr rfl) _)⟩, by simp [intOf]; omega⟩
      · have hje : n = j := by omega
        subst hje
        have hsz : ∀ u, u < nc → (wr.cell? ⟨b, u, none⟩).isSome = true ∧ wr.frozen? ⟨b, u, none⟩ = false := fun u hu => by
          obtain ⟨_, ⟨h, _⟩ | ⟨b', cap', h1, h2, h3, h4, h5, h6, h7⟩⟩ := HW.out
          · cases h
          · injection h1 with e1 e2 e3
            injection e1 with e1
            injection e1 with e1
            subst e1; subst e3
            exact h6 u (by omega)
        have hcl : ∀ ty, (Builtin.clear_ #[23] ty #[.slice (Option.some ⟨b, i, none⟩) (n - i) (nc - i)]).run Tryz.prog wr = .ok (.tuple #[]) (wr.setCells b i (List.replicate (n - i) (.int .i64 0))) :=
          fun ty => Lib.run_clear_slice wr _ 3 ty (.int .i64 0) Tryz.underlying23 (fun _ => rfl) rfl rfl b i _ _ (by omega) (fun t ht => (hsz (i + t) (by omega)).1) (fun t ht => (hsz (i + t) (by omega)).2)
        have HRW := Lib.hid (HW.out.cleared (m := i) (by omega) (List.replicate (n - i) (.int .i64 0)))
        have HOW := Lib.hid (Off.setCells (b := b) (Z := fun k => (Value.slice (Option.some ⟨b, 0, none⟩) n nc).ownBlock = some k) rfl (List.replicate (n - i) (.int .i64 0)) i wr HO.out)
        clear hsz
        go_wp2
        go_ret
        refine ⟨_, rfl, ?_, HOW.out⟩
        have h := HK.out.done
        rw [← HI.out] at h ⊢
        rw [← h]
        exact HRW.out
end Go.Proofs.YtfpepoebammeoaaGreat
