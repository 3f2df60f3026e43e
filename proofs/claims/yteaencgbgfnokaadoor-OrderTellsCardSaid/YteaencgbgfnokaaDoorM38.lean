/- What Missing calls upon the told names: its closure, slices.IndexFunc and slices.DeleteFunc at it. -/
import Derived.Lib.SliceRun
import Derived.Test.YteaencgbgfnokaaDoorM23
import Derived.Test.YteaencgbgfnokaaDoorM37
set_option linter.unusedVariables false
namespace Go.Proofs.YteaencgbgfnokaaDoor
open Go.ChangeShapes Go.WideShapes Go.ChangeAt Go.RowKit

set_option maxHeartbeats 1000000 in
set_option maxRecDepth 100000 in
theorem missing1_any (q : Nat) (ms : Lb) (mv : Value) (x : ByteArray) (W : World) (hq : W.cell? ⟨q, 0, none⟩ = some mv) (hr : Reads W mv ms) (ha : (ms.map bsOf).Pairwise (· ≤ ·)) (hn : ms.length ≤ 1000000) :
    Calls Tryd.prog 25 #[.string x, .pointer (some ⟨q, 0, none⟩)] W fun e w' => e = .returned (.bool (decide (bsOf x ∈ ms.map bsOf))) ∧ w' = W := by
  have BS := bsearch_le ms mv x W hr ha hn
  obtain ⟨a, c, rfl, _⟩ := hr.form
  obtain ⟨p, hp⟩ : ∃ p, p = decide (bsOf x ∈ ms.map bsOf) := ⟨_, rfl⟩
  rw [← hp] at BS ⊢
  have HBS := Lib.hid BS
  clear BS hp hr ha hn
  go_enter Tryd.func25, Tryd.ntmps25
  go_wp2_with fail
  refine HBS.out.mono ?_
  rintro e w1 ⟨i, rfl, rfl⟩
  go_wp2_with fail
  go_ret
  exact ⟨rfl, rfl⟩

def keepL (ns : Lb) (pred : ByteArray → Bool) (j : Nat) : Lb := (ns.take j).filter fun x => !pred x
theorem keepL_step {ns : Lb} {pred : ByteArray → Bool} {j : Nat} {x : ByteArray} (h : ns[j]? = some x) : keepL ns pred (j + 1) = keepL ns pred j ++ if pred x then [] else [x] := by
  unfold keepL
  rw [List.take_add_one, h, List.filter_append]
  cases hp : pred x <;> simp [hp]
theorem keepL_all {ns : Lb} {pred : ByteArray → Bool} (j : Nat) (h : ∀ u x, u < j → ns[u]? = some x → pred x = false) : keepL ns pred j = ns.take j := by
  unfold keepL
  refine List.filter_eq_self.2 fun x hx => ?_
  obtain ⟨u, hu⟩ := List.mem_iff_getElem?.1 hx
  rw [List.getElem?_take] at hu
  split at hu
  · rw [h u x (by assumption) hu]; rfl
  · cases hu
structure Kp (ns : Lb) (pred : ByteArray → Bool) (j : Nat) (cs : List Value) : Prop where
  len : cs.length = ns.length
  lt : (keepL ns pred j).length < j
  low : ∀ u, u < (keepL ns pred j).length → cs[u]? = ((keepL ns pred j)[u]?).map Value.string
  high : ∀ u, j ≤ u → cs[u]? = (ns[u]?).map Value.string
theorem Kp.skip {ns : Lb} {pred : ByteArray → Bool} {j : Nat} {cs : List Value} {x : ByteArray} (h : Kp ns pred j cs) (hx : ns[j]? = some x) (hp : pred x = true) : Kp ns pred (j + 1) cs := by
  have e : keepL ns pred (j + 1) = keepL ns pred j := by rw [keepL_step hx, hp]; simp
  exact ⟨h.len, by rw [e]; have := h.lt; omega, by rw [e]; exact h.low, fun u hu => h.high u (by omega)⟩
theorem Kp.keep {ns : Lb} {pred : ByteArray → Bool} {j : Nat} {cs : List Value} {x : ByteArray} (h : Kp ns pred j cs) (hx : ns[j]? = some x) (hp : pred x = false) : Kp ns pred (j + 1) (cs.set (keepL ns pred j).length (.string x)) := by
  have e : keepL ns pred (j + 1) = keepL ns pred j ++ [x] := by rw [keepL_step hx, hp]; simp
  have hl := h.lt
  have hj : j < ns.length := (List.getElem?_eq_some_iff.1 hx).1
  refine ⟨by rw [List.length_set]; exact h.len, by rw [e, List.length_append, List.length_singleton]; omega, fun u hu => ?_, fun u hu => ?_⟩
  · rw [e, List.length_append, List.length_singleton] at hu
    rw [e]
    by_cases hc : u = (keepL ns pred j).length
    · subst hc
      rw [List.getElem?_set_self (by rw [h.len]; omega), List.getElem?_append_right (Nat.le_refl _)]
      simp
    · rw [List.getElem?_set_ne (fun h => hc h.symm), h.low u (by omega), List.getElem?_append_left (by omega)]
  · rw [List.getElem?_set_ne (by omega)]
    exact h.high u (by omega)
theorem Kp.done {ns : Lb} {pred : ByteArray → Bool} {j : Nat} {cs : List Value} (h : Kp ns pred j cs) : cs.take (keepL ns pred j).length = (keepL ns pred j).map Value.string := by
  apply List.ext_getElem?
  intro u
  rw [List.getElem?_take, List.getElem?_map]
  split
  · exact h.low u (by assumption)
  · rw [List.getElem?_eq_none (by omega)]; rfl
theorem Kp.start {ns : Lb} {pred : ByteArray → Bool} {i : Nat} {x : ByteArray} (h : ∀ u y, u < i → ns[u]? = some y → pred y = false) (hx : ns[i]? = some x) (hp : pred x = true) : Kp ns pred (i + 1) (ns.map Value.string) ∧ (keepL ns pred (i + 1)).length = i := by
  have hi : i < ns.length := (List.getElem?_eq_some_iff.1 hx).1
  have e : keepL ns pred (i + 1) = ns.take i := by rw [keepL_step hx, hp, keepL_all i h]; simp
  have el : (keepL ns pred (i + 1)).length = i := by rw [e, List.length_take]; omega
  refine ⟨⟨by simp, by omega, fun u hu => ?_, fun u _ => by rw [List.getElem?_map]⟩, el⟩
  rw [el] at hu
  rw [e, List.getElem?_map, List.getElem?_take, if_pos hu]

theorem Row.cleared {B n b cap m : Nat} {w : World} {cs : List Value} (h : Row 1 B w (.slice (Option.some ⟨b, 0, none⟩) n cap) n cs) (hm : m ≤ n) (vs : List Value) : Row 1 B (w.setCells b m vs) (.slice (Option.some ⟨b, 0, none⟩) m cap) m (cs.take m) := by
  obtain ⟨h0, ⟨h, _⟩ | ⟨b', cap', h1, h2, h3, h4, h5, h6, h7⟩⟩ := h.front hm
  · cases h
  · injection h1 with e1 e2 e3
    injection e1 with e1
    injection e1 with e1
    subst e1; subst e3
    refine ⟨h0, .inr ⟨b, cap, rfl, h2, by rw [(heap_setCells vs b m w).1]; exact h3, h4, h5, fun j hj => ⟨World.isSome_setCells b vs m w _ (h6 j hj).1, by rw [World.frozen?_setCells]; exact (h6 j hj).2⟩, fun j u hu => ?_⟩⟩
    have hjm : j < m := by have := (List.getElem?_eq_some_iff.1 hu).1; omega
    rw [World.cell?_setCells_out b vs m w ⟨b, j, none⟩ (fun _ _ => .inl hjm)]
    exact h7 j u hu
theorem Off.setCells {Z : Nat → Prop} {a : World} {b : Nat} (hb : Z b) : ∀ (vs : List Value) (o : Nat) (w : World), Off Z a w → Off Z a (w.setCells b o vs)
  | [], _, _, h => h
  | v :: r, o, w, h => Off.setCells hb r (o + 1) _ (h.setCell (p := ⟨b, o, none⟩) (.inr hb) v)

set_option maxHeartbeats 1000000 in
set_option maxRecDepth 100000 in
theorem indexMiss_any (ns : Lb) (n q : Nat) (pred : ByteArray → Bool) (v : Value) (w : World) (hr : Reads w v ns) (hns : ns.length = n) (hn : n ≤ 60) (C : ∀ x ∈ ns, Calls Tryd.prog 25 #[.string x, .pointer (some ⟨q, 0, none⟩)] w fun e w' => e = .returned (.bool (pred x)) ∧ w' = w) :
    Calls Tryd.prog 44 #[v, .func (.func 25) #[] #[.pointer (some ⟨q, 0, none⟩)]] w fun e w' => (∃ k : Int, e = .returned (.int .i64 k) ∧ ((k = -1 ∧ ∀ u x, u < n → ns[u]? = some x → pred x = false) ∨ ∃ i : Nat, k = i ∧ i < n ∧ (∀ u x, u < i → ns[u]? = some x → pred x = false) ∧ ∃ x, ns[i]? = some x ∧ pred x = true)) ∧ w' = w := by
  obtain ⟨na, nc, rfl, hnl⟩ := hr.form
  rw [hns] at hr ⊢
  have HR := Lib.hid hr
  have HC := Lib.hid C
  have HNS := Lib.hid hns
  have hnn : (n : Int) ≤ 60 := by omega
  clear hr C hns hnl
  go_enter Tryd.func44, Tryd.ntmps44
  go_wp2_with fail
  go_loopw [8] (fun jv wr => ∃ i : Nat, jv = .int .i64 (i : Nat) ∧ i ≤ n ∧ Hid (∀ u x, u < i → ns[u]? = some x → pred x = false) ∧ Hid (wr = w)) (fun jv _ => n - (intOf jv).toNat)
  case atStart => exact ⟨0, rfl, Nat.zero_le _, Lib.hid (fun u x h => absurd h (Nat.not_lt_zero _)), Lib.hid rfl⟩
  case round =>
    obtain ⟨i, rfl, hin, HALL, HWR⟩ := hrel
    have hwr := HWR.out
    subst hwr
    by_cases hlt : i < n
    · obtain ⟨x, hx⟩ : ∃ x, ns[i]? = some x := ⟨ns[i]'(by rw [HNS.out]; exact hlt), by simp⟩
      obtain ⟨b, o, rfl, hnl, hcl⟩ := HR.out.at hx
      have hcx := hcl.2 i x hx
      have CI := HC.out x (List.mem_of_getElem? hx)
      obtain ⟨p, hp⟩ : ∃ p, p = pred x := ⟨_, rfl⟩
      rw [← hp] at CI
      have HX := Lib.hid hx
      have HP := Lib.hid hp
      have HCI := Lib.hid CI
      clear hnl hcl hx CI hp
      cases p with
      | false =>
        go_wp2_with fail
        refine HCI.out.mono ?_
        rintro e w5 ⟨rfl, rfl⟩
        go_wp2_with fail
        exact ⟨⟨i + 1, by go_num, by omega, Lib.hid (fun u y hu hy => by
          by_cases hc : u = i
          · subst hc
            rw [HX.out] at hy
            injection hy with hy
            subst hy
            exact HP.out.symm
          · exact HALL.out u y (by omega) hy), Lib.hid (by trivial)⟩, by simp [intOf]; omega⟩
      | true =>
        go_wp2_with fail
        refine HCI.out.mono ?_
        rintro e w5 ⟨rfl, rfl⟩
        go_wp2_with fail
        go_ret
        exact ⟨⟨_, rfl, .inr ⟨i, rfl, hlt, HALL.out, x, HX.out, HP.out.symm⟩⟩, rfl⟩
    · have hie : n = i := by omega
      subst hie
      go_wp2_with fail
      go_ret
      exact ⟨⟨_, rfl, .inl ⟨rfl, HALL.out⟩⟩, rfl⟩
end Go.Proofs.YteaencgbgfnokaaDoor
