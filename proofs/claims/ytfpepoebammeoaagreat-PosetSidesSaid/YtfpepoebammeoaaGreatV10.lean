/- The contracts of size, behind, and slices.Min. -/
import Derived.Test.YtfpepoebammeoaaGreatV9
set_option linter.unusedVariables false
namespace Go.Proofs.YtfpepoebammeoaaGreat
open Go.ChangeShapes Go.WideShapes Go.ChangeAt Go.RowKit

set_option maxHeartbeats 400000 in
theorem ksize_any (a : Option Addr) (m c : Nat) (hv : Value) (w : World) (hm : m ≤ 1000000) :
    Calls Tryz.prog 72 #[.agg #[.slice a (m + 1) c, hv]] w fun e w' => e = .returned (.int .i64 (m : Nat)) ∧ w' = w.alloc (.cells #[.slice a (m + 1) c, hv] 71) := by
  go_enter Tryz.func72, Tryz.ntmps72
  go_wp2
  go_ret
  exact ⟨ret_int (by omega), rfl⟩

set_option maxHeartbeats 1000000 in
theorem behind_any (fv hv : Value) (m E : Nat) (F : Nat → Nat) (H : List Nat) (w0 w : World) (hw : WebK w0 fv hv m E F H) (hb0 : Below w0.heap.size w0 w) (hm : m ≤ 1000000) (hE : E ≤ 1000000) (v : Nat) (hv' : v < m) :
    Calls Tryz.prog 76 #[.agg #[fv, hv], .int .i64 (v : Nat)] w fun e w' => ∃ bv, e = .returned bv ∧ RI w0 bv (nl (adjK m F H v)) ∧ Below w.heap.size w w' := by
  have hlen := adjK_len hw hv'
  obtain ⟨fb, fc, rfl, f2, f3, f4, f5⟩ := hw.f
  obtain ⟨hb, hc, rfl, h2, h3, h4, h5⟩ := hw.h
  have hmo := hw.mono v hv'
  have hle := hw.le (v + 1) (by omega)
  obtain ⟨lo, hlo⟩ : ∃ lo, lo = F v := ⟨_, rfl⟩
  obtain ⟨hi, hhi⟩ : ∃ hi, hi = F (v + 1) := ⟨_, rfl⟩
  have d0 := f5 v (by omega)
  have d1 := f5 (v + 1) (by omega)
  rw [← hlo] at hmo d0 hlen
  rw [← hhi] at hmo hle d1 hlen
  have hfr : ∀ c', c' = hc - lo → RI w0 (.slice (if hc = lo then some ⟨hb, 0, none⟩ else some ⟨hb, lo, none⟩) (hi - lo) c') (nl (adjK m F H v)) := by
    intro c' hc'
    by_cases h0 : hi - lo = 0
    · rw [h0]
      exact .inl ⟨List.length_eq_zero_iff.1 (by rw [nl_len, hlen, h0]), _, _, rfl⟩
    · rw [if_neg (by omega)]
      refine .inr ⟨fun e => h0 (by rw [← hlen, ← nl_len, e]; rfl), hb, lo, c', by rw [nl_len, hlen], by rw [nl_len, hlen]; omega, by unfold maxLen at h3 ⊢; omega, h4, fun j y hy => ?_⟩
      obtain ⟨x, hx, rfl⟩ := nl_inv hy
      have := adjK_at hx
      rw [← hlo] at this
      exact h5 _ x this
  have HF := Lib.hid hfr
  have HF1 : Hid (hc = lo → RI w0 (.slice (some ⟨hb, 0, none⟩) (hi - lo) 0) (nl (adjK m F H v))) := Lib.hid (fun e => by
    have := hfr 0 (by omega)
    rw [if_pos e] at this
    exact this)
  unfold maxLen at f3 h3
  obtain ⟨M, hM⟩ : ∃ M, M = m + 1 := ⟨_, rfl⟩
  rw [← hM] at f2 ⊢
  have hv1 : v < M := by omega
  have hv2 : v + 1 < M := by omega
  have hM6 : M ≤ 1000001 := by omega
  obtain ⟨wb, hwb⟩ : ∃ wb, wb = w.alloc (.cells #[.slice (some ⟨fb, 0, none⟩) M fc, .slice (some ⟨hb, 0, none⟩) E hc] 71) := ⟨_, rfl⟩
  have hbb : Below w.heap.size w wb := by rw [hwb]; exact (Below.refl _ _).alloc (Nat.le_refl _) _
  have g0 : wb.cell? ⟨fb, v, none⟩ = some (.int .i64 (lo : Int)) := (hbb.cell (p := ⟨fb, v, none⟩) (Nat.lt_of_lt_of_le f4 hb0.size)).trans ((hb0.cell (p := ⟨fb, v, none⟩) f4).trans d0)
  have g1 : wb.cell? ⟨fb, v + 1, none⟩ = some (.int .i64 (hi : Int)) := (hbb.cell (p := ⟨fb, v + 1, none⟩) (Nat.lt_of_lt_of_le f4 hb0.size)).trans ((hb0.cell (p := ⟨fb, v + 1, none⟩) f4).trans d1)
  have k0 : wb.cell? ⟨w.heap.size, 0, none⟩ = some (.slice (some ⟨fb, 0, none⟩) M fc) := by rw [hwb, World.cell?_alloc_at _ _ _ _ rfl]; rfl
  have k1 : wb.cell? ⟨w.heap.size, 1, none⟩ = some (.slice (some ⟨hb, 0, none⟩) E hc) := by rw [hwb, World.cell?_alloc_at _ _ _ _ rfl]; rfl
  have HB := Lib.hid hbb
  clear hw hlen hlo hhi hfr f5 h5 d0 d1 hbb hM hv' hm hb0 f4 h4
  by_cases hx : hc = lo
  · have HF2 := Lib.hid (HF1.out hx)
    subst hx
    clear HF HF1
    go_enter Tryz.func76, Tryz.ntmps76
    go_wp2_with fail
    rw [← hwb]
    clear hwb
    go_quiet (fail)
    go_wp2_with fail
    go_ret
    exact ⟨_, rfl, HF2.out, Below.drewN HB.out⟩
  · go_enter Tryz.func76, Tryz.ntmps76
    go_wp2_with fail
    rw [← hwb]
    clear hwb
    go_quiet (fail)
    go_wp2_with fail
    go_ret
    have := HF.out (hc - lo) rfl
    rw [if_neg hx] at this
    exact ⟨_, rfl, this, Below.drewN HB.out⟩

set_option maxHeartbeats 1000000 in
theorem min_any (l : List Nat) (a : Option Addr) (n c : Nat) (w : World) (hr : RI w (.slice a n c) (nl l)) (hn : n = l.length) (h0 : 0 < n) (hm : n ≤ 1000000) :
    Calls Tryz.prog 117 #[.slice a n c] w fun e w' => e = .returned (.int .i64 (minL l : Nat)) ∧ ∃ d, w' = w.drewN d := by
  obtain ⟨b, o, rfl, hl, hb, hc, hcm, hx⟩ := hr.some h0
  unfold maxLen at hcm
  obtain ⟨x0, hx0⟩ : ∃ x0, l[0]? = some x0 := ⟨l[0]'(by omega), by simp⟩
  have d0 := hx 0 _ (nl_at hx0)
  have HX := Lib.hid hx
  have HN := Lib.hid hn
  have HM0 : Hid (minL (l.take 1) = x0) := Lib.hid (by
    cases l with
    | nil => simp at hx0
    | cons y l => simp at hx0; subst hx0; rfl)
  rw [Nat.add_zero] at d0
  clear hr hl hx hn hx0
  have hlt : ¬ (n : Int) < 1 := by omega
  go_enter Tryz.func117, Tryz.ntmps117
  go_wp2_with fail
  go_loopw [3, 4] (fun mv jv wr => ∃ j : Nat, jv = .int .i64 (j : Nat) ∧ 1 ≤ j ∧ j ≤ n ∧ mv = .int .i64 (minL (l.take j) : Nat) ∧ ∃ d, wr = w.drewN d) (fun _ jv _ => n - (intOf jv).toNat)
  case atStart => exact ⟨1, rfl, Nat.le_refl _, by omega, by rw [HM0.out], 0, rfl⟩
  case round =>
    obtain ⟨j, rfl, hj1, hjn, rfl, d, rfl⟩ := hrel
    by_cases hlt2 : j < n
    · obtain ⟨y, hy⟩ : ∃ y, l[j]? = some y := ⟨l[j]'(by rw [← HN.out]; exact hlt2), by simp⟩
      have hcy : (w.drewN d).cell? ⟨b, o + j, none⟩ = some (.int .i64 (y : Int)) := HX.out j _ (nl_at hy)
      have hst : minL (l.take (j + 1)) = min (minL (l.take j)) y := by
        rw [List.take_add_one, hy]
        cases l with
        | nil => simp at hy
        | cons z l =>
          obtain ⟨k, rfl⟩ : ∃ k, j = k + 1 := ⟨j - 1, by omega⟩
          simp [minL, List.foldl_append]
      have HST := Lib.hid hst
      obtain ⟨q, hq⟩ : ∃ q, q = minL (l.take j) := ⟨_, rfl⟩
      rw [← hq] at hst ⊢
      have HQ := Lib.hid hq
      clear hst hy hq
      go_wp2
      refine ⟨⟨j + 1, by go_num, by omega, by omega, ?_, _, rfl⟩, by simp [intOf]; omega⟩
      rw [HST.out, ← HQ.out]
      congr 1
      omega
    · obtain rfl : j = n := by omega
      have ht : minL (l.take j) = minL l := by rw [HN.out, List.take_length]
      rw [ht]
      go_wp2
      go_ret
      exact ⟨rfl, _, rfl⟩
end Go.Proofs.YtfpepoebammeoaaGreat
