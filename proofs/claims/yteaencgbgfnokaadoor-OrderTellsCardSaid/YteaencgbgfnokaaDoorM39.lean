/- slices.DeleteFunc at Missing's closure, upon a row that the call has made. -/
import Derived.Test.YteaencgbgfnokaaDoorM38
set_option linter.unusedVariables false
namespace Go.Proofs.YteaencgbgfnokaaDoor
open Go.ChangeShapes Go.WideShapes Go.ChangeAt Go.RowKit

set_option maxHeartbeats 2000000 in
set_option maxRecDepth 100000 in
theorem deleteMiss_any (ns : Lb) (n q B : Nat) (pred : ByteArray → Bool) (v : Value) (w : World) (hr : Row 1 B w v n (ns.map Value.string)) (hns : ns.length = n) (hn : n ≤ 60) (C : ∀ W, Off (fun k => v.ownBlock = some k) w W → ∀ x ∈ ns, Calls Tryd.prog 25 #[.string x, .pointer (Option.some ⟨q, 0, none⟩)] W fun e w' => e = .returned (.bool (pred x)) ∧ w' = W) :
    Calls Tryd.prog 24 #[v, .func (.func 25) #[] #[.pointer (Option.some ⟨q, 0, none⟩)]] w fun e w' => ∃ ov, e = .returned ov ∧ Row 1 B w' ov (keepL ns pred n).length ((keepL ns pred n).map Value.string) ∧ Off (fun k => v.ownBlock = some k) w w' := by
  have IX := indexMiss_any ns n q pred v w (row_reads (hns ▸ hr)) hns hn (C w (Off.refl _ _))
  obtain ⟨na, nc, rfl⟩ := hr.form
  have HIX := Lib.hid IX
  have HR := Lib.hid hr
  have HC := Lib.hid C
  have HNS := Lib.hid hns
  have hnn : (n : Int) ≤ 60 := by omega
  clear IX hr C hns
  go_enter Tryd.func24, Tryd.ntmps24
  go_wp2_with fail
  refine HIX.out.mono ?_
  rintro e w1 ⟨⟨k, rfl, ⟨rfl, hall⟩ | ⟨i0, rfl, hi0, hall, x0, hx0, hp0⟩⟩, rfl⟩
  · have HALL := Lib.hid hall
    clear hall
    go_wp2_with fail
    go_ret
    refine ⟨_, rfl, ?_, Off.refl _ _⟩
    have e : keepL ns pred n = ns := by rw [keepL_all n HALL.out, ← HNS.out, List.take_length]
    rw [e, HNS.out]
    exact HR.out
  · obtain ⟨b, cap, hv, hBb, hbw, hnc, hcm, _⟩ := HR.out.pos (by omega)
    injection hv with e1 e2 e3
    subst e1; subst e3
    obtain ⟨hkp, hkl⟩ := Kp.start hall hx0 hp0
    have HKP := Lib.hid hkp
    have HKL := Lib.hid hkl
    have hne1 : ((i0 : Int) == -1) = false := beq_eq_false_iff_ne.2 (by omega)
    unfold maxLen at hcm
    clear hall hx0 hp0 hkp hkl
    go_wp2_with fail
    go_loopw [5, 6] (fun iv jv wr => ∃ (i j : Nat) (cs : List Value), iv = .int .i64 (i : Nat) ∧ jv = .int .i64 (j : Nat) ∧ i < j ∧ j ≤ n ∧ Hid (i = (keepL ns pred j).length) ∧ Hid (Kp ns pred j cs) ∧ Hid (Row 1 B wr (.slice (Option.some ⟨b, 0, none⟩) n nc) n cs) ∧ Hid (Off (fun k => (Value.slice (Option.some ⟨b, 0, none⟩) n nc).ownBlock = some k) w1 wr)) (fun _ jv _ => n - (intOf jv).toNat)
    case atStart => exact ⟨i0, i0 + 1, _, rfl, by go_num, by omega, by omega, Lib.hid HKL.out.symm, HKP, HR, Lib.hid (Off.refl _ _)⟩
    case round =>
      obtain ⟨i, j, cs, rfl, rfl, hij, hjn, HI, HK, HW, HO⟩ := hrel
      by_cases hlt : j < n
      · obtain ⟨x, hx⟩ : ∃ x, ns[j]? = some x := ⟨ns[j]'(by rw [HNS.out]; exact hlt), by simp⟩
        have hcj : cs[j]? = some (.string x) := by rw [HK.out.high j (Nat.le_refl _), hx]; rfl
        obtain ⟨y, hy⟩ : ∃ y, cs[i]? = some y := ⟨cs[i]'(by rw [HK.out.len, HNS.out]; omega), by simp⟩
        obtain ⟨gj, _⟩ := HW.out.cellF hcj
        obtain ⟨gi, fi, _⟩ := HW.out.cellF hy
        have CI := HC.out wr HO.out x (List.mem_of_getElem? hx)
        obtain ⟨p, hp⟩ : ∃ p, p = pred x := ⟨_, rfl⟩
        rw [← hp] at CI
        have HX := Lib.hid hx
        have HP := Lib.hid hp
        have HCI := Lib.hid CI
        have HIL := Lib.hid (show i < cs.length by rw [HK.out.len, HNS.out]; omega)
        clear hx hcj hy CI hp
        cases p with
        | true =>
          go_wp2_with fail
          refine HCI.out.mono ?_
          rintro e w5 ⟨rfl, rfl⟩
          go_wp2_with fail
          exact ⟨⟨i, j + 1, cs, rfl, by go_num, by omega, by omega, Lib.hid (by rw [keepL_step HX.out, ← HP.out, HI.out]; simp), Lib.hid (HK.out.skip HX.out HP.out.symm), HW, HO⟩, by simp [intOf]; omega⟩
        | false =>
          go_wp2_with fail
          refine HCI.out.mono ?_
          rintro e w5 ⟨rfl, rfl⟩
          go_wp2_with fail
          exact ⟨⟨i + 1, j + 1, cs.set i (.string x), by go_num, by go_num, by omega, by omega, Lib.hid (by rw [keepL_step HX.out, ← HP.out, HI.out]; simp), Lib.hid (by have := HK.out.keep HX.out HP.out.symm; rw [← HI.out] at this; exact this), Lib.hid (HW.out.put HIL.out _), Lib.hid (HO.out.setCell (p := ⟨b, i, none⟩) (.inr rfl) _)⟩, by simp [intOf]; omega⟩
      · have hje : n = j := by omega
        subst hje
        have hsz : ∀ u, u < nc → (wr.cell? ⟨b, u, none⟩).isSome = true ∧ wr.frozen? ⟨b, u, none⟩ = false := fun u hu => by
          obtain ⟨_, ⟨h, _⟩ | ⟨b', cap', h1, h2, h3, h4, h5, h6, h7⟩⟩ := HW.out
          · cases h
          · injection h1 with e1 e2 e3
            injection e1 with e1
            injection e1 with e1
            subst e1; subst e3
            exact h6 u (by omega)
        have hcl : ∀ ty, (Builtin.clear_ #[23] ty #[.slice (Option.some ⟨b, i, none⟩) (n - i) (nc - i)]).run Tryd.prog wr = .ok (.tuple #[]) (wr.setCells b i (List.replicate (n - i) (.string ByteArray.empty))) :=
          fun ty => Lib.run_clear_slice wr _ 9 ty (.string ByteArray.empty) Tryd.underlying23 (fun _ => rfl) rfl rfl b i _ _ (by omega) (fun t ht => (hsz (i + t) (by omega)).1) (fun t ht => (hsz (i + t) (by omega)).2)
        have HRW := Lib.hid (HW.out.cleared (m := i) (by omega) (List.replicate (n - i) (.string ByteArray.empty)))
        have HOW := Lib.hid (Off.setCells (b := b) (Z := fun k => (Value.slice (Option.some ⟨b, 0, none⟩) n nc).ownBlock = some k) rfl (List.replicate (n - i) (.string ByteArray.empty)) i wr HO.out)
        clear hsz
        go_wp2
        go_ret
        refine ⟨_, rfl, ?_, HOW.out⟩
        have h := HK.out.done
        rw [← HI.out] at h ⊢
        rw [← h]
        exact HRW.out
end Go.Proofs.YteaencgbgfnokaaDoor
