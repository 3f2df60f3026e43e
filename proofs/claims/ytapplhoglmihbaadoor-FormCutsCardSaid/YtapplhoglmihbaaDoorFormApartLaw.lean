/- The statement FormApart: whichever two forms: the law's function answers true. -/
import Derived.Test.YtapplhoglmihbaaDoorReadsLaw
import Derived.Test.YtapplhoglmihbaaDoorSound
set_option linter.unusedVariables false
namespace Go.Proofs.YtapplhoglmihbaaDoor
open Go.ChangeShapes Go.WideShapes Go.ChangeAt Go.RowKit

/-- Two forms in boxes of their own, one behind the other. -/
theorem box2 {w wz : World} {x1 x2 x3 y1 y2 y3 : Value} {ty : TypeId} (h : Below (w.heap.size + 2) ((w.alloc (.cells #[x1, x2, x3] ty)).alloc (.cells #[y1, y2, y3] ty)) wz) :
    (wz.cell? ⟨w.heap.size, 0, none⟩ = some x1 ∧ wz.cell? ⟨w.heap.size, 1, none⟩ = some x2 ∧ wz.cell? ⟨w.heap.size, 2, none⟩ = some x3) ∧ (wz.cell? ⟨w.heap.size + 1, 0, none⟩ = some y1 ∧ wz.cell? ⟨w.heap.size + 1, 1, none⟩ = some y2 ∧ wz.cell? ⟨w.heap.size + 1, 2, none⟩ = some y3) ∧
    w.heap.size + 2 ≤ wz.heap.size := by
  have ha : ∀ j, wz.cell? ⟨w.heap.size, j, none⟩ = #[x1, x2, x3][j]? := fun j => (h.cell (p := ⟨w.heap.size, j, none⟩) (by show w.heap.size < w.heap.size + 2; omega)).trans
    ((World.cell?_of_block (a := ⟨w.heap.size, j, none⟩) (Below.heap_alloc _ _ _ (by simp))).trans (World.cell?_alloc_at _ _ _ _ rfl))
  have hb : ∀ j, wz.cell? ⟨w.heap.size + 1, j, none⟩ = #[y1, y2, y3][j]? := fun j => (h.cell (p := ⟨w.heap.size + 1, j, none⟩) (by show w.heap.size + 1 < w.heap.size + 2; omega)).trans (World.cell?_alloc_at _ _ _ _ (by simp))
  refine ⟨⟨ha 0, ha 1, ha 2⟩, ⟨hb 0, hb 1, hb 2⟩, ?_⟩
  have := h.size
  simp at this
  omega

/-- What Small leaves, of a form that was handed in. -/
theorem small_of (l : Bool) (t : ByteArray) (ys : List Tm) (w wz : World) (a : Option Addr) (c : Nat) (hG : SlG w (.slice a ys.length c) ys) (hts : t.size ≤ 140737488355328) (hb : Below w.heap.size w wz) :
    Calls Tryd.prog 9 #[fv l t (.slice a ys.length c)] wz (SmallP (.mk l t ys) wz) :=
  small_any l t ys (· < wz.heap.size) wz a c (hG.keep hb).sl hts (fun i h => h)
theorem write_of (l : Bool) (t : ByteArray) (ys : List Tm) (w wz : World) (a : Option Addr) (c : Nat) (hG : SlG w (.slice a ys.length c) ys) (hts : t.size ≤ 140737488355328) (hb : Below w.heap.size w wz) (ht : HasTab w) (hsm : SmallT (.mk l t ys)) :
    Calls Tryd.prog 10 #[fv l t (.slice a ys.length c)] wz (WriteP (.mk l t ys) (fun _ => True) wz) :=
  write_any l t ys (· < wz.heap.size) (fun _ => True) wz a c (hG.keep hb).sl hts (fun i h => h) (ht.below hb) fun _ wy hy => sound_any l t ys wy a c (hG.keep (hb.trans (hy.mono hb.size))) hts hsm.1

set_option maxHeartbeats 4000000 in
set_option maxRecDepth 100000 in
theorem apartlaw (l l' : Bool) (t t' : ByteArray) (ys ys' : List Tm) (a a' : Option Addr) (c c' : Nat) (w : World) (hG : SlG w (.slice a ys.length c) ys) (hG' : SlG w (.slice a' ys'.length c') ys') (hts : t.size ≤ 140737488355328) (hts' : t'.size ≤ 140737488355328) (ht : HasTab w) :
    Calls Tryd.prog 6 #[fv l t (.slice a ys.length c), fv l' t' (.slice a' ys'.length c')] w fun e w' => e = .returned (.bool true) ∧ Below w.heap.size w w' := by
  obtain ⟨T, hT⟩ : ∃ T, T = Tm.mk l t ys := ⟨_, rfl⟩
  obtain ⟨T', hT'⟩ : ∃ T', T' = Tm.mk l' t' ys' := ⟨_, rfl⟩
  have hsm := fun wz hb => small_of l t ys w wz a c hG hts hb
  have hsm' := fun wz hb => small_of l' t' ys' w wz a' c' hG' hts' hb
  have hwr := fun wz hb => write_of l t ys w wz a c hG hts hb ht
  have hwr' := fun wz hb => write_of l' t' ys' w wz a' c' hG' hts' hb ht
  have hsame : ∀ (r : Bool), (r = true ↔ T = T') → ∀ wz, Below w.heap.size w wz → Calls Tryd.prog 14 #[fv l t (.slice a ys.length c), fv l' t' (.slice a' ys'.length c')] wz fun e w' => e = .returned (.bool r) ∧ Below wz.heap.size wz w' :=
    fun r hr wz hb => same_of hT hT' rfl rfl (hG.keep hb).sl (hG'.keep hb).sl r hr
  rw [← hT] at hsm hwr
  rw [← hT'] at hsm' hwr'
  obtain ⟨n, hn⟩ : ∃ n, n = ys.length := ⟨_, rfl⟩
  obtain ⟨n', hn'⟩ : ∃ n', n' = ys'.length := ⟨_, rfl⟩
  rw [← hn] at hsm hwr hsame ⊢
  rw [← hn'] at hsm' hwr' hsame ⊢
  have haw : Calls Tryd.prog 8 #[] ((w.alloc (.cells #[.bool l, .string t, .slice a n c] 24)).alloc (.cells #[.bool l', .string t', .slice a' n' c'] 24)) fun e w' => e = .returned (.bool true) ∧ Below (w.heap.size + 2) ((w.alloc (.cells #[.bool l, .string t, .slice a n c] 24)).alloc (.cells #[.bool l', .string t', .slice a' n' c'] 24)) w' :=
    (awake_any _ (ht.below (((Below.refl _ _).alloc (Nat.le_refl _) _).alloc (by simp) _))).mono fun e w' ⟨he, hb⟩ => ⟨he, hb.mono (by simp)⟩
  have hup : ∀ wz, Below (w.heap.size + 2) ((w.alloc (.cells #[.bool l, .string t, .slice a n c] 24)).alloc (.cells #[.bool l', .string t', .slice a' n' c'] 24)) wz → Below w.heap.size w wz := fun wz h =>
    (((Below.refl _ _).alloc (Nat.le_refl _) _).alloc (by simp) _).trans (h.mono (by omega))
  have HAW := Lib.hid haw
  have HUP := Lib.hid hup
  have HSM := Lib.hid hsm
  have HSM' := Lib.hid hsm'
  have HWR := Lib.hid hwr
  have HWR' := Lib.hid hwr'
  have HSA := Lib.hid hsame
  clear haw hup hsm hsm' hwr hwr' hsame hG hG' ht hT hT' hn hn'
  go_enter Tryd.func6, Tryd.ntmps6
  go_wp2_with fail
  refine HAW.out.mono ?_
  rintro e w1 ⟨rfl, hb1⟩
  obtain ⟨⟨k1, k2, k3⟩, ⟨k4, k5, k6⟩, kl⟩ := box2 hb1
  have HB1 := Lib.hid hb1
  clear hb1
  go_wp2_with fail
  refine (HSM.out _ (HUP.out _ HB1.out)).mono ?_
  rintro e w2 ⟨r, rfl, hb2, him⟩
  have HB2 := Lib.hid (HB1.out.trans (hb2.mono kl))
  clear hb2 k1 k2 k3 k4 k5 k6 kl
  obtain ⟨⟨k1, k2, k3⟩, ⟨k4, k5, k6⟩, kl⟩ := box2 HB2.out
  cases r with
  | false =>
    go_wp2_with fail
    go_ret
    exact ⟨rfl, HUP.out _ HB2.out⟩
  | true =>
    have HI := Lib.hid (him rfl)
    clear him
    go_wp2_with fail
    refine (HSM'.out _ (HUP.out _ HB2.out)).mono ?_
    rintro e w3 ⟨r, rfl, hb3, him⟩
    have HB3 := Lib.hid (HB2.out.trans (hb3.mono kl))
    clear hb3 k1 k2 k3 k4 k5 k6 kl
    obtain ⟨⟨k1, k2, k3⟩, ⟨k4, k5, k6⟩, kl⟩ := box2 HB3.out
    cases r with
    | false =>
      go_wp2_with fail
      go_ret
      exact ⟨rfl, HUP.out _ HB3.out⟩
    | true =>
      have HI' := Lib.hid (him rfl)
      clear him
      go_wp2_with fail
      refine (HWR.out _ (HUP.out _ HB3.out) HI.out).mono ?_
      rintro e w4 ⟨hb4, hcase⟩
      have HB4 := Lib.hid (HB3.out.trans (hb4.mono kl))
      clear hb4 k1 k2 k3 k4 k5 k6 kl
      obtain ⟨⟨k1, k2, k3⟩, ⟨k4, k5, k6⟩, kl⟩ := box2 HB4.out
      rcases hcase with ⟨hcan, rfl⟩ | ⟨-, q, -, rfl⟩
      · have HCAN := Lib.hid hcan
        clear hcan
        go_wp2_with fail
        refine (HWR'.out _ (HUP.out _ HB4.out) HI'.out).mono ?_
        rintro e w5 ⟨hb5, hcase⟩
        have HB5 := Lib.hid (HB4.out.trans (hb5.mono kl))
        clear hb5 k1 k2 k3 k4 k5 k6 kl
        obtain ⟨⟨k1, k2, k3⟩, ⟨k4, k5, k6⟩, kl⟩ := box2 HB5.out
        rcases hcase with ⟨hcan', rfl⟩ | ⟨-, q, -, rfl⟩
        · have hun : tx T.bytes = tx T'.bytes ↔ T = T' := by
            refine ⟨fun h => ?_, fun h => by rw [h]⟩
            have h2 : T.bytes = T'.bytes := by
              have := congrArg (fun s : ByteArray => s.data.toList) h
              simpa [tx] using this
            exact (Tm.unique T T' [] [] HCAN.out.1 hcan'.1 (by rw [h2])).1
          have HUN := Lib.hid hun
          obtain ⟨X, hX⟩ : ∃ X, X = tx T.bytes := ⟨_, rfl⟩
          obtain ⟨Y, hY⟩ : ∃ Y, Y = tx T'.bytes := ⟨_, rfl⟩
          rw [← hX] at hun ⊢
          rw [← hY] at hun ⊢
          by_cases hTT : T = T'
          · have hxy : (X.toList == Y.toList) = true := by rw [hun.2 hTT]; simp
            have hs := HSA.out true ⟨fun _ => hTT, fun _ => rfl⟩ _ (HUP.out _ HB5.out)
            have HS := Lib.hid hs
            clear hun hX hY hTT hs hcan'
            go_wp2_with fail
            refine HS.out.mono ?_
            rintro e w6 ⟨rfl, hb6⟩
            have HB6 := Lib.hid (HB5.out.trans (hb6.mono kl))
            clear hb6
            go_wp2_with fail
            go_ret
            exact ⟨rfl, HUP.out _ HB6.out⟩
          · have hxy : (X.toList == Y.toList) = false := ba_neq fun h => hTT (hun.1 h)
            have hs := HSA.out false ⟨fun h => Bool.noConfusion h, fun h => absurd h hTT⟩ _ (HUP.out _ HB5.out)
            have HS := Lib.hid hs
            clear hun hX hY hTT hs hcan'
            go_wp2_with fail
            refine HS.out.mono ?_
            rintro e w6 ⟨rfl, hb6⟩
            have HB6 := Lib.hid (HB5.out.trans (hb6.mono kl))
            clear hb6
            go_wp2_with fail
            go_ret
            exact ⟨rfl, HUP.out _ HB6.out⟩
        · cases q
          all_goals go_wp2_with fail
          all_goals go_ret
          all_goals exact ⟨rfl, HUP.out _ HB5.out⟩
      · cases q
        all_goals go_wp2_with fail
        all_goals refine (HWR'.out _ (HUP.out _ HB4.out) HI'.out).mono ?_
        all_goals rintro e w5 ⟨hb5, hcase⟩
        all_goals have HB5 := Lib.hid (HB4.out.trans (hb5.mono kl))
        all_goals clear hb5 k1 k2 k3 k4 k5 k6 kl
        all_goals rcases hcase with ⟨-, rfl⟩ | ⟨-, q', -, rfl⟩
        all_goals try cases q'
        all_goals go_wp2_with fail
        all_goals go_ret
        all_goals exact ⟨rfl, HUP.out _ HB5.out⟩
end Go.Proofs.YtapplhoglmihbaaDoor
