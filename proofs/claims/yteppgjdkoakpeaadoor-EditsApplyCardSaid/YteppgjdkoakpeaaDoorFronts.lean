/- The contracts of the search's fronts: across, kept, put, cut, uneven, best, whole. -/
import Derived.Test.YteppgjdkoakpeaaDoorBase
import Derived.Test.YteppgjdkoakpeaaDoorHunks
set_option linter.unusedVariables false
namespace Go.Proofs.YteppgjdkoakpeaaDoor
open Go.ChangeShapes Go.WideShapes Go.ChangeAt Go.RowKit

/-- The slice value v reads, in the world w, as the numbers f. -/
def Ints (w : World) (v : Value) (f : List Int) : Prop :=
  ∃ b c, v = .slice (some ⟨b, 0, none⟩) f.length c ∧ f.length ≤ c ∧ c ≤ 9223372036854775807 ∧ b < w.heap.size ∧ ∀ (j : Nat) x, f[j]? = some x → w.cell? ⟨b, j, none⟩ = some (.int .i64 x)
def Small (f : List Int) : Prop := f.length ≤ 1000000 ∧ ∀ (j : Nat) x, f[j]? = some x → -1 ≤ x ∧ x ≤ 1000000

theorem Ints.below {w w' : World} {v : Value} {f : List Int} (h : Ints w v f) (hb : Below w.heap.size w w') : Ints w' v f := by
  obtain ⟨b, c, e, h1, h2, h3, h4⟩ := h
  exact ⟨b, c, e, h1, h2, Nat.lt_of_lt_of_le h3 hb.size, fun j x hx => (hb.cell (p := ⟨b, j, none⟩) h3).trans (h4 j x hx)⟩
theorem Ints.drewN {w : World} {v : Value} {f : List Int} {n : Nat} (h : Ints w v f) : Ints (w.drewN n) v f := h

theorem gi_of {f : List Int} {c : Nat} {x : Int} (h : f[c]? = some x) : gi f c = x := by simp [gi, List.getD, h]

set_option maxHeartbeats 400000 in
theorem across_any (x c e : Int) (w : World) (h1 : -4000000 ≤ x ∧ x ≤ 4000000) (h2 : -4000000 ≤ c ∧ c ≤ 4000000) (h3 : -4000000 ≤ e ∧ e ≤ 4000000) :
    Calls Tryd.prog 22 #[.int .i64 x, .int .i64 c, .int .i64 e] w fun r w' => r = .returned (.int .i64 (acr x c e)) ∧ w' = w := by
  obtain ⟨h1, h1'⟩ := h1
  obtain ⟨h2, h2'⟩ := h2
  obtain ⟨h3, h3'⟩ := h3
  go_enter Tryd.func22, Tryd.ntmps22
  go_wp2
  go_ret
  exact ⟨ret_int rfl, rfl⟩

set_option maxHeartbeats 400000 in
theorem put_any (f : List Int) (v : Value) (c bl : Nat) (ab : Option Addr) (cb : Nat) (w : World) (hf : Ints w v f) (hc : c ≤ f.length) (hs : Small f) (hbl : bl ≤ 1000000) :
    Calls Tryd.prog 34 #[v, .int .i64 c, .slice ab bl cb] w fun r w' => r = .returned (.int .i64 (putF f c bl)) ∧ w' = w := by
  obtain ⟨b, cap, rfl, h1, h2, h3, h4⟩ := hf
  obtain ⟨n, hn⟩ : ∃ n, n = f.length := ⟨_, rfl⟩
  have hl := hs.1
  rw [← hn] at hc h1 hl ⊢
  by_cases e : c = n
  · have e1 : ((c : Int) == (n : Int)) = true := by rw [beq_iff_eq]; omega
    have er : putF f c bl = -1 := by rw [putF, if_pos (.inl (by omega))]
    rw [er]
    have HN := Lib.hid hn
    have HE := Lib.hid e
    clear hn e er
    go_enter Tryd.func34, Tryd.ntmps34
    go_wp2
    go_ret
    exact ⟨rfl, rfl⟩
  · obtain ⟨x, ex⟩ : ∃ x, f[c]? = some x := ⟨f[c]'(by omega), by simp⟩
    have hx := h4 c x ex
    have hxs := hs.2 c x ex
    have hg := gi_of ex
    obtain ⟨x1, x2⟩ := hxs
    have e1 : ((c : Int) == (n : Int)) = false := by rw [beq_eq_false_iff_ne]; omega
    have hcn : (c : Int) < n := by omega
    have h0 : (0 : Int) ≤ c := by omega
    by_cases em : x = -1
    · have er : putF f c bl = -1 := by rw [putF, if_pos (.inr (.inl (by omega)))]
      rw [er]
      subst em
      have HN := Lib.hid hn
      have HE := Lib.hid e
      have HX := Lib.hid ex
      have HG := Lib.hid hg
      clear hn e ex hg er h4 hs
      go_enter Tryd.func34, Tryd.ntmps34
      go_wp2
      go_ret
      exact ⟨rfl, rfl⟩
    · have e2 : (x == (-1 : Int)) = false := by rw [beq_eq_false_iff_ne]; omega
      have hac := across_any x c n w (by omega) (by omega) (by omega)
      have HA := Lib.hid hac
      have er : putF f c bl = if acr x c n > bl then -1 else x := by
        rw [putF, hg, ← hn]
        by_cases h : acr x c n > bl
        · rw [if_pos (.inr (.inr h)), if_pos h]
        · rw [if_neg (by simp only [not_or]; exact ⟨e, em, h⟩), if_neg h]
      rw [er]
      obtain ⟨y, hy⟩ : ∃ y, y = acr x c n := ⟨_, rfl⟩
      rw [← hy] at HA ⊢
      have hyb : -4000000 ≤ y ∧ y ≤ 4000000 := by rw [hy]; unfold acr; omega
      obtain ⟨y1, y2⟩ := hyb
      have HN := Lib.hid hn
      have HE := Lib.hid e
      have HX := Lib.hid ex
      have HG := Lib.hid hg
      have HY := Lib.hid hy
      clear hn e ex hg er h4 hs hac hy em
      by_cases hgt : y > (bl : Int)
      · rw [if_pos hgt]
        go_enter Tryd.func34, Tryd.ntmps34
        go_wp2_with fail
        refine HA.out.mono ?_
        rintro e w1 ⟨rfl, rfl⟩
        go_wp2
        go_ret
        exact ⟨rfl, rfl⟩
      · rw [if_neg hgt]
        go_enter Tryd.func34, Tryd.ntmps34
        go_wp2_with fail
        refine HA.out.mono ?_
        rintro e w1 ⟨rfl, rfl⟩
        go_wp2
        go_ret
        exact ⟨rfl, rfl⟩

set_option maxHeartbeats 400000 in
theorem cut_any (f : List Int) (v : Value) (c al : Nat) (aa : Option Addr) (ca : Nat) (w : World) (hf : Ints w v f) (hc : c ≤ f.length) (hs : Small f) (hal : al ≤ 1000000) :
    Calls Tryd.prog 33 #[v, .int .i64 c, .slice aa al ca] w fun r w' => r = .returned (.int .i64 (cutF f c al)) ∧ w' = w := by
  obtain ⟨b, cap, rfl, h1, h2, h3, h4⟩ := hf
  obtain ⟨n, hn⟩ : ∃ n, n = f.length := ⟨_, rfl⟩
  have hl := hs.1
  rw [← hn] at hc h1 hl ⊢
  by_cases e : c = 0
  · subst e
    have er : cutF f 0 al = -1 := by rw [cutF, if_pos (.inl rfl)]
    rw [er]
    have HN := Lib.hid hn
    clear hn er
    go_enter Tryd.func33, Tryd.ntmps33
    go_wp2
    go_ret
    exact ⟨rfl, rfl⟩
  · obtain ⟨d, rfl⟩ : ∃ d, c = d + 1 := ⟨c - 1, by omega⟩
    obtain ⟨x, ex⟩ : ∃ x, f[d]? = some x := ⟨f[d]'(by omega), by simp⟩
    have hx := h4 d x ex
    have hxs := hs.2 d x ex
    have hg := gi_of ex
    obtain ⟨x1, x2⟩ := hxs
    have e1 : (((d + 1 : Nat) : Int) == 0) = false := by rw [beq_eq_false_iff_ne]; omega
    have hcn : (d : Int) < n := by omega
    have h0 : (0 : Int) ≤ d := by omega
    by_cases em : x = -1
    · have er : cutF f (d + 1) al = -1 := by rw [cutF, if_pos (.inr (.inl (by simpa [hg] using em)))]
      rw [er]
      subst em
      have HN := Lib.hid hn
      have HE := Lib.hid e
      have HX := Lib.hid ex
      have HG := Lib.hid hg
      clear hn e ex hg er h4 hs
      go_enter Tryd.func33, Tryd.ntmps33
      go_wp2
      go_ret
      exact ⟨rfl, rfl⟩
    · have e2 : (x == (-1 : Int)) = false := by rw [beq_eq_false_iff_ne]; omega
      have er : cutF f (d + 1) al = if x = al then -1 else x + 1 := by
        rw [cutF, Nat.add_sub_cancel, hg]
        by_cases h : x = al
        · rw [if_pos (.inr (.inr h)), if_pos h]
        · rw [if_neg (by simp only [not_or]; exact ⟨by omega, em, h⟩), if_neg h]
      rw [er]
      have HN := Lib.hid hn
      have HE := Lib.hid e
      have HX := Lib.hid ex
      have HG := Lib.hid hg
      clear hn e ex hg er h4 hs em
      by_cases hgt : x = (al : Int)
      · rw [if_pos hgt]
        subst hgt
        have e3 : ((al : Int) == (al : Int)) = true := by rw [beq_iff_eq]
        go_enter Tryd.func33, Tryd.ntmps33
        go_wp2
        go_ret
        exact ⟨rfl, rfl⟩
      · rw [if_neg hgt]
        have e3 : (x == (al : Int)) = false := by rw [beq_eq_false_iff_ne]; exact hgt
        have HG3 := Lib.hid hgt
        clear hgt
        go_enter Tryd.func33, Tryd.ntmps33
        go_wp2
        go_ret
        exact ⟨rfl, rfl⟩

set_option maxHeartbeats 400000 in
theorem kept_end (x y al bl : Nat) (aa ab : Option Addr) (ca cb : Nat) (w : World) (h : ¬ (x < al ∧ y < bl)) (h1 : x ≤ 1000000) (h2 : y ≤ 1000000) (h3 : al ≤ 1000000) (h4 : bl ≤ 1000000) :
    Calls Tryd.prog 29 #[.slice aa al ca, .slice ab bl cb, .int .i64 x, .int .i64 y] w fun r w' => r = .returned (.int .i64 x) ∧ ∃ n, w' = w.drewN n := by
  by_cases hx : x < al
  · have hy : ¬ y < bl := by omega
    have c1 : (x : Int) < (al : Int) := by omega
    have c2 : decide ((y : Int) < (bl : Int)) = false := decide_eq_false (by omega)
    have HH := Lib.hid h
    clear h
    go_enter Tryd.func29, Tryd.ntmps29
    go_wp2
    go_loopw [2, 3] (fun i j wr => ∃ d : Nat, i = .int .i64 x ∧ j = .int .i64 y ∧ wr = w.drewN d) (fun _ _ _ => 0)
    case atStart => exact ⟨0, rfl, rfl, rfl⟩
    case round =>
      obtain ⟨d, rfl, rfl, rfl⟩ := hrel
      go_wp2
      go_quiet (fail)
      go_wp2
      go_ret
      exact ⟨rfl, _, World.drewN_drewN _ _ _⟩
  · have c1 : decide ((x : Int) < (al : Int)) = false := decide_eq_false (by omega)
    have HH := Lib.hid h
    clear h
    go_enter Tryd.func29, Tryd.ntmps29
    go_wp2
    go_loopw [2, 3] (fun i j wr => ∃ d : Nat, i = .int .i64 x ∧ j = .int .i64 y ∧ wr = w.drewN d) (fun _ _ _ => 0)
    case atStart => exact ⟨0, rfl, rfl, rfl⟩
    case round =>
      obtain ⟨d, rfl, rfl, rfl⟩ := hrel
      go_wp2
      go_quiet (fail)
      go_wp2
      go_ret
      exact ⟨rfl, _, World.drewN_drewN _ _ _⟩

set_option maxHeartbeats 1000000 in
theorem kept_cells (a b : Ls) (x y ba oa bb ob ca cb : Nat) (w : World) (ha : Cells w ba oa a) (hb : Cells w bb ob b) (hx : x ≤ a.length) (hy : y ≤ b.length) (h3 : a.length ≤ 1000000) (h4 : b.length ≤ 1000000) :
    Calls Tryd.prog 29 #[.slice (some ⟨ba, oa, none⟩) a.length ca, .slice (some ⟨bb, ob, none⟩) b.length cb, .int .i64 x, .int .i64 y] w fun r w' =>
      r = .returned (.int .i64 ((x + lcp (a.drop x) (b.drop y) : Nat) : Int)) ∧ ∃ n, w' = w.drewN n := by
  obtain ⟨al, hal⟩ : ∃ n, n = a.length := ⟨_, rfl⟩
  obtain ⟨bl, hbl⟩ : ∃ n, n = b.length := ⟨_, rfl⟩
  rw [← hal] at hx h3 ⊢
  rw [← hbl] at hy h4 ⊢
  obtain ⟨L, hL⟩ : ∃ L, L = lcp (a.drop x) (b.drop y) := ⟨_, rfl⟩
  rw [← hL]
  have HA := Lib.hid ha
  have HB := Lib.hid hb
  have HAL := Lib.hid hal
  have HBL := Lib.hid hbl
  have HLL := Lib.hid hL
  clear ha hb hal hbl hL
  go_enter Tryd.func29, Tryd.ntmps29
  go_wp2
  go_loopw [2, 3] (fun i j wr => ∃ k d : Nat, x + k ≤ al ∧ y + k ≤ bl ∧ i = .int .i64 ((x + k : Nat) : Int) ∧ j = .int .i64 ((y + k : Nat) : Int) ∧ wr = w.drewN d ∧ k + lcp (a.drop (x + k)) (b.drop (y + k)) = L) (fun i _ _ => al - (intOf i).toNat)
  case atStart => exact ⟨0, 0, by omega, by omega, rfl, rfl, rfl, by have := HLL.out; simp [this]⟩
  case round =>
    obtain ⟨k, d, hk1, hk2, rfl, rfl, rfl, ht⟩ := hrel
    have HT := Lib.hid ht
    clear ht
    obtain ⟨X, hX⟩ : ∃ X, X = x + k := ⟨_, rfl⟩
    obtain ⟨Y, hY⟩ : ∃ Y, Y = y + k := ⟨_, rfl⟩
    rw [← hX] at hk1 HT ⊢
    rw [← hY] at hk2 HT ⊢
    have HX := Lib.hid hX
    have HY := Lib.hid hY
    clear hX hY
    by_cases hlt : X < al
    · by_cases hlt2 : Y < bl
      · obtain ⟨u, eu⟩ : ∃ u, a[X]? = some u := ⟨a[X]'(by rw [← HAL.out]; exact hlt), by simp⟩
        obtain ⟨v, ev⟩ : ∃ v, b[Y]? = some v := ⟨b[Y]'(by rw [← HBL.out]; exact hlt2), by simp⟩
        have cu : w.cell? ⟨ba, oa + X, none⟩ = some (.string u) := HA.out.2 X u eu
        have cv : w.cell? ⟨bb, ob + Y, none⟩ = some (.string v) := HB.out.2 Y v ev
        have EU := Lib.hid eu
        have EV := Lib.hid ev
        clear eu ev
        have h01 : (0 : Int) ≤ X := by omega
        have h02 : (0 : Int) ≤ Y := by omega
        have h11 : (X : Int) < al := by omega
        have h12 : (Y : Int) < bl := by omega
        go_wp2
        go_quiet (fail)
        go_wp2
        · have he : u = v := ba_eq' (by assumption)
          have ex := HX.out
          have ey := HY.out
          refine ⟨⟨k + 1, _, by omega, by omega, ?_, ?_, rfl, ?_⟩, by simp [intOf]; omega⟩
          · have := HX.out
            go_num
          · have := HY.out
            go_num
          · have h1 := lcp_succ EU.out (he ▸ EV.out)
            have h2 := HT.out
            rw [show x + (k + 1) = X + 1 by have := HX.out; omega, show y + (k + 1) = Y + 1 by have := HY.out; omega]
            omega
        · have hne : u ≠ v := ba_ne' (by assumption)
          go_ret
          refine ⟨ret_int ?_, _, World.drewN_drewN _ _ _⟩
          have hz : lcp (a.drop X) (b.drop Y) = 0 := lcp_zero (by rintro ⟨t, h1, h2⟩; exact hne (Option.some.inj (EU.out.symm.trans (h1.trans (h2.symm.trans EV.out)))))
          have := HT.out
          have := HX.out
          omega
      · have h01 : (0 : Int) ≤ X := by omega
        have h11 : (X : Int) < al := by omega
        have hge : bl ≤ Y := by omega
        have c2 : decide ((Y : Int) < (bl : Int)) = false := decide_eq_false (by omega)
        go_wp2
        go_quiet (fail)
        go_wp2
        go_ret
        refine ⟨ret_int ?_, _, World.drewN_drewN _ _ _⟩
        have hz : lcp (a.drop X) (b.drop Y) = 0 := lcp_zero (by rintro ⟨u, h1, h2⟩; have := (List.getElem?_eq_some_iff.1 h2).1; have := HBL.out; omega)
        have := HT.out
        have := HX.out
        omega
    · have hge : al ≤ X := by omega
      have c1 : decide ((X : Int) < (al : Int)) = false := decide_eq_false (by omega)
      go_wp2
      go_quiet (fail)
      go_wp2
      go_ret
      refine ⟨ret_int ?_, _, World.drewN_drewN _ _ _⟩
      have hz : lcp (a.drop X) (b.drop Y) = 0 := lcp_zero (by rintro ⟨u, h1, h2⟩; have := (List.getElem?_eq_some_iff.1 h1).1; have := HAL.out; omega)
      have := HT.out
      have := HX.out
      omega
end Go.Proofs.YteppgjdkoakpeaaDoor
