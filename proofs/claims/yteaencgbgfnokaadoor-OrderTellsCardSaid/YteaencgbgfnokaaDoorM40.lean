/- The contract of Missing. -/
import Derived.Test.YteaencgbgfnokaaDoorM24
import Derived.Test.YteaencgbgfnokaaDoorM39
set_option linter.unusedVariables false
namespace Go.Proofs.YteaencgbgfnokaaDoor
open Go.ChangeShapes Go.WideShapes Go.ChangeAt Go.RowKit

noncomputable def amid (hs : Lb) (x : ByteArray) : Bool := decide (bsOf x ∈ (sortedB hs).map bsOf)
theorem linr_out {S : SetB} {out : Lb} {k : Int} (h : LinR S out k) (hk : k ≠ 0) : out = [] := by
  rcases h with ⟨_, h, _⟩ | ⟨_, told, _, _, ⟨_, h, _⟩ | ⟨_, _, h⟩⟩
  · exact h
  · exact h
  · exact absurd h hk
theorem linr_len {S : SetB} {out : Lb} {k : Int} (h : LinR S out k) : out.length ≤ S.length := by
  rcases h with ⟨_, h, _⟩ | ⟨_, told, _, _, ⟨_, h, _⟩ | ⟨h, e, _⟩⟩
  · rw [h]; exact Nat.zero_le _
  · rw [h]; exact Nat.zero_le _
  · rw [e, List.length_map]; omega

theorem Reads.offY {Z : Nat → Prop} {w w' : World} {v : Value} {xs : Lb} (h : Reads w v xs) (ho : Off Z w w') (hz : ∀ g, v.ownBlock = some g → ¬ Z g) : Reads w' v xs := by
  rcases h with h | ⟨hn, b, o, c, rfl, hc, hm, hb, hx⟩
  · exact .inl h
  · exact .inr ⟨hn, b, o, c, rfl, hc, hm, Nat.lt_of_lt_of_le hb ho.size, fun j x hx' => (ho.cell (p := ⟨b, o + j, none⟩) hb (hz b rfl)).trans (hx j x hx')⟩

set_option maxHeartbeats 2000000 in
set_option maxRecDepth 100000 in
theorem missing_any (S : SetB) (v hv : Value) (hs : Lb) (w : World) (hS : SReads w v S) (hsm : SmallS S) (hr : Reads w hv hs) (hl : hs.length ≤ 1000000) :
    Calls Tryd.prog 8 #[v, hv] w fun e w' => ∃ ov out k, e = .returned (.tuple #[ov, errV k]) ∧ LinR S out k ∧ Row 1 w.heap.size w' ov (out.filter fun x => !amid hs x).length ((out.filter fun x => !amid hs x).map Value.string) ∧ Below w.heap.size w w' := by
  have LI := linearW_any S v w hS hsm
  obtain ⟨sa, sc, rfl, _⟩ := hS.form
  obtain ⟨n, hnn⟩ : ∃ n, n = S.length := ⟨_, rfl⟩
  rw [← hnn] at LI ⊢
  obtain ⟨ha, hc, rfl, _⟩ := hr.form
  obtain ⟨m, hm⟩ : ∃ m, m = hs.length := ⟨_, rfl⟩
  rw [← hm] at hr hl ⊢
  have HLI := Lib.hid LI
  have HR := Lib.hid hr
  have HM := Lib.hid hm
  have HN : Hid (n ≤ 60 ∧ n = S.length) := Lib.hid ⟨by rw [hnn]; exact hsm.1, hnn⟩
  clear LI hr hm hS hsm hnn
  go_enter Tryd.func8, Tryd.ntmps8
  go_wp2_with fail
  refine HLI.out.mono ?_
  rintro e w1 ⟨ov, out, k, rfl, hlin, hrow, hb1⟩
  obtain ⟨q, hq⟩ : ∃ q, q = out.length := ⟨_, rfl⟩
  rw [← hq] at hrow
  obtain ⟨oa, oc, rfl⟩ := hrow.form
  by_cases hk : k = 0
  · subst hk
    rw [show errV 0 = .nilIface from rfl]
    have HLIN := Lib.hid hlin
    have HROW := Lib.hid hrow
    have HB1 := Lib.hid hb1
    have HQ := Lib.hid hq
    have hvals := values_in ha m hc w1
    have hbx : Below w1.heap.size w1 (w1.alloc (.cells #[.slice ha m hc] 23)) := (Below.refl _ _).alloc (Nat.le_refl _) _
    have hbc : (w1.alloc (.cells #[.slice ha m hc] 23)).cell? ⟨w1.heap.size, 0, none⟩ = some (.slice ha m hc) := World.cell?_alloc_at _ _ _ _ rfl
    have hrx := (HR.out.below hb1).below hbx
    have hsd := sorted_any hs w1.heap.size ha m hc _ HM.out hl hbc (fun j x hx => by
      obtain ⟨b, o, e, _, hcl⟩ := hrx.at hx
      exact ⟨b, o, e, hcl.1, hcl.2 j x hx⟩)
    have HVA := Lib.hid hvals
    have HSD := Lib.hid hsd
    have HBX := Lib.hid hbx
    clear hvals hsd hbx hbc hrx hrow hlin hb1 hq
    go_wp2_with fail
    refine HVA.out.mono ?_
    rintro e w2 ⟨rfl, rfl⟩
    go_wp2_with fail
    refine HSD.out.mono ?_
    rintro e w3 ⟨mv, rfl, hmr, hmo, hb3⟩
    obtain ⟨ma, mc, hmv, _⟩ := hmr.form
    obtain ⟨ml, hml⟩ : ∃ ml, ml = (sortedB hs).length := ⟨_, rfl⟩
    rw [← hml] at hmv
    subst hmv
    have hb13 : Below w1.heap.size w1 w3 := HBX.out.trans (hb3.mono HBX.out.size)
    have hdel : ∀ W4, Below w3.heap.size w3 W4 → W4.cell? ⟨w3.heap.size, 0, none⟩ = some (.slice ma ml mc) → Calls Tryd.prog 24 #[.slice oa q oc, .func (.func 25) #[] #[.pointer (Option.some ⟨w3.heap.size, 0, none⟩)]] W4 fun e w' => ∃ ov, e = .returned ov ∧ Row 1 w.heap.size w' ov (out.filter fun x => !amid hs x).length ((out.filter fun x => !amid hs x).map Value.string) ∧ Below w.heap.size w w' := fun W4 hb4 hc4 => by
      have hr4 := (HROW.out.below hb13).below hb4
      have hd := deleteMiss_any out q w3.heap.size w.heap.size (amid hs) _ W4 hr4 HQ.out.symm (by have := linr_len HLIN.out; have := HN.out; rw [HQ.out]; omega) (fun W hW x _ => by
        have hne : ¬ (Value.slice oa q oc).ownBlock = some w3.heap.size := fun e => by have := (HROW.out.lt _ e).2; have := hb13.size; omega
        have hcW := (hW.cell (p := ⟨w3.heap.size, 0, none⟩) (cell_lt hc4) hne).trans hc4
        have hrW : Reads W (.slice ma ml mc) (sortedB hs) := (hmr.below hb4).offY hW (fun g hg e => by
          have h1 := (HROW.out.lt _ e).2
          have h2 := hmo g hg
          have h3 := HBX.out.size
          omega)
        exact missing1_any w3.heap.size (sortedB hs) _ x W hcW hrW (sortedB_pw hs) (by rw [sortedB_len, ← HM.out]; exact hl))
      refine hd.mono ?_
      rintro e w' ⟨ov', rfl, hr', ho'⟩
      have e1 : keepL out (amid hs) q = out.filter fun x => !amid hs x := by unfold keepL; rw [HQ.out, List.take_length]
      rw [e1] at hr'
      have hbw : Below w.heap.size w W4 := (HB1.out.trans (hb13.mono HB1.out.size)).trans (hb4.mono (by have := HB1.out.size; have := hb13.size; omega))
      exact ⟨ov', rfl, hr', hbw.trans (ho'.below (fun i hi => (HROW.out.lt i hi).1) hbw.size)⟩
    have HDEL := Lib.hid hdel
    clear hdel hmr hmo hb13 hb3 hml
    go_wp2_with fail
    refine (HDEL.out _ ?_ ?_).mono ?_
    · exact (Below.refl _ w3).alloc (Nat.le_refl _) _
    · exact World.cell?_alloc_at _ _ _ _ rfl
    rintro e w5 ⟨ov', rfl, hr5, hb5⟩
    have HR5 := Lib.hid hr5
    have HB5 := Lib.hid hb5
    clear hr5 hb5
    go_wp2_with fail
    go_ret2
    exact ⟨_, out, 0, rfl, HLIN.out, HR5.out, HB5.out⟩
  · have ho := linr_out hlin hk
    subst ho
    have he : errV k = .iface 49 (.int .i64 k) := if_neg hk
    rw [he]
    have HE := Lib.hid he
    have HLIN := Lib.hid hlin
    have HB1 := Lib.hid hb1
    clear hlin hrow hb1 hq he
    go_wp2_with fail
    go_ret2
    exact ⟨.slice none 0 0, [], k, by rw [HE.out]; rfl, HLIN.out, Row.nil _ _ _, HB1.out⟩
end Go.Proofs.YteaencgbgfnokaaDoor
