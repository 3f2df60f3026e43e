/- The contracts of kept at lists, uneven, best and whole. -/
import Derived.Test.YteppgjdkoakpeaaDoorFronts
set_option linter.unusedVariables false
namespace Go.Proofs.YteppgjdkoakpeaaDoor
open Go.ChangeShapes Go.WideShapes Go.ChangeAt Go.RowKit

theorem Reads.form {w : World} {v : Value} {xs : Ls} (h : Reads w v xs) : ∃ a c, v = .slice a xs.length c ∧ (xs ≠ [] → ∃ b o, a = some ⟨b, o, none⟩ ∧ Cells w b o xs) := by
  rcases h with ⟨rfl, a, c, rfl⟩ | ⟨hn, b, o, c, rfl, hc, hm, hx⟩
  · exact ⟨a, c, rfl, fun h => absurd rfl h⟩
  · exact ⟨_, c, rfl, fun _ => ⟨b, o, rfl, hx⟩⟩

theorem kept_any (a b : Ls) (va vb : Value) (x y : Nat) (w : World) (ha : Reads w va a) (hb : Reads w vb b) (hx : x ≤ a.length) (hy : y ≤ b.length) (h3 : a.length ≤ 1000000) (h4 : b.length ≤ 1000000) :
    Calls Tryd.prog 29 #[va, vb, .int .i64 x, .int .i64 y] w fun r w' => r = .returned (.int .i64 (keptI a b x y)) ∧ ∃ n, w' = w.drewN n := by
  obtain ⟨aa, ca, rfl, ha'⟩ := ha.form
  obtain ⟨ab, cb, rfl, hb'⟩ := hb.form
  have e : keptI a b x y = ((x + lcp (a.drop x) (b.drop y) : Nat) : Int) := by simp [keptI]
  rw [e]
  by_cases h : x < a.length ∧ y < b.length
  · obtain ⟨ba, oa, rfl, ka⟩ := ha' (by rintro rfl; simp at h)
    obtain ⟨bb, ob, rfl, kb⟩ := hb' (by rintro rfl; simp at h)
    exact kept_cells a b x y ba oa bb ob ca cb w ka kb hx hy h3 h4
  · have hz : lcp (a.drop x) (b.drop y) = 0 := lcp_zero (by
      rintro ⟨u, h1, h2⟩
      exact h ⟨(List.getElem?_eq_some_iff.1 h1).1, (List.getElem?_eq_some_iff.1 h2).1⟩)
    rw [hz]
    exact kept_end x y a.length b.length aa ab ca cb w h (by omega) (by omega) h3 h4

set_option maxHeartbeats 400000 in
theorem uneven_any (f : List Int) (a b : Ls) (v : Value) (c al bl : Nat) (aa ab : Option Addr) (ca cb : Nat) (w : World) (hf : Ints w v f) (hc : c < f.length) (hs : Small f) (hal : al = a.length) (hbl : bl = b.length) (h3 : al ≤ 1000000) (h4 : bl ≤ 1000000) :
    Calls Tryd.prog 32 #[v, .int .i64 c, .slice aa al ca, .slice ab bl cb] w fun r w' => r = .returned (.int .i64 (uneven f a b c)) ∧ w' = w := by
  obtain ⟨b0, cap, rfl, h1, h2, h5, h6⟩ := hf
  have hl := hs.1
  obtain ⟨x, ex⟩ : ∃ x, f[c]? = some x := ⟨f[c]'hc, by simp⟩
  have hx := h6 c x ex
  obtain ⟨x1, x2⟩ := hs.2 c x ex
  have er : uneven f a b c = max ((al - x) - (bl - acr x c (f.length - 1))) ((bl - acr x c (f.length - 1)) - (al - x)) := by
    rw [uneven, gi_of ex, hal, hbl]
  rw [er]
  obtain ⟨n, hn⟩ : ∃ n, n = f.length := ⟨_, rfl⟩
  rw [← hn] at hc h1 hl ⊢
  have hac := across_any x c (n - 1) w (by omega) (by omega) (by omega)
  obtain ⟨y, hy⟩ : ∃ y, y = acr x c (n - 1) := ⟨_, rfl⟩
  rw [← hy] at hac ⊢
  have hyb : -4000000 ≤ y ∧ y ≤ 4000000 := by rw [hy]; unfold acr; omega
  obtain ⟨y1, y2⟩ := hyb
  have HA := Lib.hid hac
  have HN := Lib.hid hn
  have HY := Lib.hid hy
  have HX := Lib.hid ex
  have HAL := Lib.hid hal
  have HBL := Lib.hid hbl
  clear hn hy ex h6 hs hac er hal hbl
  have hcn : (c : Int) < n := by omega
  have h0 : (0 : Int) ≤ c := by omega
  go_enter Tryd.func32, Tryd.ntmps32
  go_wp2_with fail
  refine HA.out.mono ?_
  rintro e w1 ⟨rfl, rfl⟩
  go_wp2
  all_goals go_ret
  all_goals exact ⟨ret_int (by omega), rfl⟩

def bestTo (f : List Int) (a b : Ls) (m : Nat) : Int := (List.range m).foldl (bestStep f a b) (-1)
theorem bestTo_succ (f : List Int) (a b : Ls) (m : Nat) : bestTo f a b (m + 1) = bestStep f a b (bestTo f a b m) m := by
  unfold bestTo
  rw [List.range_succ, List.foldl_append, List.foldl_cons, List.foldl_nil]

theorem bs_none {f : List Int} {a b : Ls} {F : Int} {m : Nat} (h : gi f m = -1) : bestStep f a b F m = F := by rw [bestStep, if_pos h]
theorem bs_first {f : List Int} {a b : Ls} {m : Nat} (h : gi f m ≠ -1) : bestStep f a b (-1) m = m := by rw [bestStep, if_neg h, if_pos (.inl rfl)]
theorem bs_next {f : List Int} {a b : Ls} {m c0 : Nat} {x y : Int} (hx : gi f m = x) (h : x ≠ -1) (hy : gi f c0 = y) (hw : x - m > y - c0 ∨ (x - m = y - c0 ∧ uneven f a b m < uneven f a b c0)) : bestStep f a b (c0 : Int) m = m := by
  subst hx
  subst hy
  rw [bestStep, if_neg h, if_pos]
  right
  simpa using hw
theorem bs_stay {f : List Int} {a b : Ls} {m c0 : Nat} {x y : Int} (hx : gi f m = x) (h : x ≠ -1) (hy : gi f c0 = y) (hw : ¬ (x - m > y - c0 ∨ (x - m = y - c0 ∧ uneven f a b m < uneven f a b c0))) : bestStep f a b (c0 : Int) m = c0 := by
  subst hx
  subst hy
  rw [bestStep, if_neg h, if_neg]
  rintro (h' | h')
  · omega
  · exact hw (by simpa using h')

set_option maxHeartbeats 2000000 in
theorem best_any (f : List Int) (a b : Ls) (v : Value) (al bl : Nat) (aa ab : Option Addr) (ca cb : Nat) (w : World) (hf : Ints w v f) (hs : Small f) (hal : al = a.length) (hbl : bl = b.length) (h3 : al ≤ 1000000) (h4 : bl ≤ 1000000) :
    Calls Tryd.prog 19 #[v, .slice aa al ca, .slice ab bl cb] w fun r w' => r = .returned (.int .i64 (bestF f a b)) ∧ w' = w := by
  have hu := fun (c : Nat) (hc : c < f.length) => uneven_any f a b v c al bl aa ab ca cb w hf hc hs hal hbl h3 h4
  obtain ⟨b0, cap, rfl, h1, h2, h5, h6⟩ := hf
  have hl := hs.1
  have er : bestF f a b = bestTo f a b f.length := rfl
  rw [er]
  obtain ⟨n, hn⟩ : ∃ n, n = f.length := ⟨_, rfl⟩
  rw [← hn] at h1 hl hu ⊢
  have HU := Lib.hid hu
  have HN := Lib.hid hn
  have H6 := Lib.hid h6
  have HS := Lib.hid hs
  have HAL := Lib.hid hal
  have HBL := Lib.hid hbl
  clear hn h6 hs hu er hal hbl
  go_enter Tryd.func19, Tryd.ntmps19
  go_wp2
  go_loopw [7, 12] (fun fo i wr => ∃ m : Nat, m ≤ n ∧ i = .int .i64 m ∧ fo = .int .i64 (bestTo f a b m) ∧ wr = w) (fun _ i _ => n - (intOf i).toNat)
  case atStart => exact ⟨0, by omega, rfl, rfl, rfl⟩
  case round =>
    obtain ⟨m, hm, rfl, rfl, rfl⟩ := hrel
    by_cases hlt : m < n
    · obtain ⟨x, ex⟩ : ∃ x, f[m]? = some x := ⟨f[m]'(by rw [← HN.out]; exact hlt), by simp⟩
      have hx := H6.out m x ex
      obtain ⟨x1, x2⟩ := HS.out.2 m x ex
      have hg := gi_of ex
      have hstep := bestTo_succ f a b m
      have hbi := best_inv f a b m
      have HC := Lib.hid (HU.out m hlt)
      have EX := Lib.hid ex
      have HG := Lib.hid hg
      clear ex hg
      have h0 : (0 : Int) ≤ m := by omega
      have h01 : (m : Int) < n := by omega
      by_cases em : x = -1
      · rw [bs_none (by rw [HG.out]; exact em)] at hstep
        subst em
        have HST := Lib.hid hstep
        have HBI := Lib.hid hbi
        clear hstep hbi
        go_wp2
        refine ⟨⟨m + 1, by omega, by go_num, by rw [HST.out], by first | rfl | trivial⟩, by simp [intOf]; omega⟩
      · have e2 : (x == (-1 : Int)) = false := by rw [beq_eq_false_iff_ne]; exact em
        have HEM := Lib.hid em
        clear em
        have hgm : gi f m ≠ -1 := by rw [HG.out]; exact HEM.out
        have HGM := Lib.hid hgm
        clear hgm
        obtain ⟨F, hF⟩ : ∃ F, F = bestTo f a b m := ⟨_, rfl⟩
        rw [← hF] at hstep ⊢
        have hbi' : (F = -1 ∧ ∀ c, c < m → gi f c = -1) ∨ ∃ c0, c0 < m ∧ F = (c0 : Int) ∧ gi f c0 ≠ -1 ∧ ∀ c, c < m → gi f c ≠ -1 → gi f c - c ≤ gi f c0 - c0 := by rw [hF]; exact hbi
        have HF := Lib.hid hF
        clear hbi hF
        rcases hbi' with ⟨rfl, -⟩ | ⟨c0, hc0, rfl, -, -⟩
        · rw [bs_first HGM.out] at hstep
          have HST := Lib.hid hstep
          clear hstep
          go_wp2
          refine ⟨⟨m + 1, by omega, by go_num, by rw [HST.out], by first | rfl | trivial⟩, by simp [intOf]; omega⟩
        · obtain ⟨y, ey⟩ : ∃ y, f[c0]? = some y := ⟨f[c0]'(by rw [← HN.out]; omega), by simp⟩
          have hy := H6.out c0 y ey
          obtain ⟨y1, y2⟩ := HS.out.2 c0 y ey
          have hgy := gi_of ey
          have hnext := bs_next (a := a) (b := b) HG.out HEM.out hgy
          have hstay := bs_stay (a := a) (b := b) HG.out HEM.out hgy
          have HC2 := Lib.hid (HU.out c0 (by omega))
          obtain ⟨U, hU⟩ : ∃ U, U = uneven f a b m := ⟨_, rfl⟩
          obtain ⟨V, hV⟩ : ∃ V, V = uneven f a b c0 := ⟨_, rfl⟩
          rw [← hU, ← hV] at hnext hstay
          have HNX := Lib.hid hnext
          have HSY := Lib.hid hstay
          clear hnext hstay
          rw [← hU] at HC
          rw [← hV] at HC2
          have EY := Lib.hid ey
          have HGY := Lib.hid hgy
          have HUU := Lib.hid hU
          have HVV := Lib.hid hV
          clear ey hgy hU hV
          have h02 : (0 : Int) ≤ c0 := by omega
          have h03 : (c0 : Int) < n := by omega
          have e3 : ((c0 : Int) == (-1 : Int)) = false := by rw [beq_eq_false_iff_ne]; omega
          by_cases hgt : x - m > y - c0
          · rw [HNX.out (.inl hgt)] at hstep
            have HST := Lib.hid hstep
            clear hstep
            go_wp2
            refine ⟨⟨m + 1, by omega, by go_num, by rw [HST.out], by first | rfl | trivial⟩, by simp [intOf]; omega⟩
          · by_cases heq : x - m = y - c0
            · have e4 : ((x - m) == (y - c0)) = true := by rw [beq_iff_eq]; exact heq
              by_cases hlt2 : U < V
              · rw [HNX.out (.inr ⟨heq, hlt2⟩)] at hstep
                have HST := Lib.hid hstep
                have HEQ := Lib.hid heq
                clear hstep heq
                go_wp2_with fail
                refine HC.out.mono ?_
                rintro e w1 ⟨rfl, rfl⟩
                go_wp2_with fail
                refine HC2.out.mono ?_
                rintro e w2 ⟨rfl, rfl⟩
                go_wp2
                refine ⟨⟨m + 1, by omega, by go_num, by rw [HST.out], by first | rfl | trivial⟩, by simp [intOf]; omega⟩
              · rw [HSY.out (by simp only [not_or]; exact ⟨hgt, fun h => hlt2 h.2⟩)] at hstep
                have HST := Lib.hid hstep
                have HEQ := Lib.hid heq
                clear hstep heq
                go_wp2_with fail
                refine HC.out.mono ?_
                rintro e w1 ⟨rfl, rfl⟩
                go_wp2_with fail
                refine HC2.out.mono ?_
                rintro e w2 ⟨rfl, rfl⟩
                go_wp2
                refine ⟨⟨m + 1, by omega, by go_num, by rw [HST.out], by first | rfl | trivial⟩, by simp [intOf]; omega⟩
            · have e4 : ((x - m) == (y - c0)) = false := by rw [beq_eq_false_iff_ne]; exact heq
              rw [HSY.out (by simp only [not_or]; exact ⟨hgt, fun h => heq h.1⟩)] at hstep
              have HST := Lib.hid hstep
              have HEQ := Lib.hid heq
              clear hstep heq
              go_wp2
              refine ⟨⟨m + 1, by omega, by go_num, by rw [HST.out], by first | rfl | trivial⟩, by simp [intOf]; omega⟩
    · have e : m = n := by omega
      go_wp2
      go_ret
      refine ⟨ret_int ?_, rfl⟩
      rw [e]
end Go.Proofs.YteppgjdkoakpeaaDoor
