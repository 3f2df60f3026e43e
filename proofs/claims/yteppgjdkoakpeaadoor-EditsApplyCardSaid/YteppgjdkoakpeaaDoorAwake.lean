/- The law's own example: it answers true. -/
import Derived.Test.YteppgjdkoakpeaaDoorDiffFn
set_option linter.unusedVariables false
namespace Go.Proofs.YteppgjdkoakpeaaDoor
open Go.ChangeShapes Go.WideShapes Go.ChangeAt Go.RowKit

theorem diff_abc : diffL [⟨#[97]⟩, ⟨#[98]⟩, ⟨#[99]⟩] [⟨#[97]⟩, ⟨#[120]⟩, ⟨#[99]⟩] = [⟨1, 1, [⟨#[120]⟩]⟩] := by decide +kernel

theorem hreads_one {w : World} {v : Value} {x : ByteArray} (h : HReads w v [⟨1, 1, [x]⟩]) : ∃ b o c b' o' c', v = .slice (some ⟨b, o, none⟩) 1 c ∧ w.cell? ⟨b, o, none⟩ = some (.int .i64 1) ∧ w.cell? ⟨b, o + 1, none⟩ = some (.int .i64 1) ∧
    w.cell? ⟨b, o + 2, none⟩ = some (.slice (some ⟨b', o', none⟩) 1 c') ∧ w.cell? ⟨b', o', none⟩ = some (.string x) := by
  obtain ⟨ps, e, ⟨rfl, _⟩ | ⟨hn, b, o, c, rfl, h1, h2, h3⟩⟩ := h
  · simp at e
  · obtain ⟨p, rfl⟩ : ∃ p, ps = [p] := List.length_eq_one_iff.1 (by have := congrArg List.length e; simpa using this)
    have ep : p.1 = ⟨1, 1, [x]⟩ := by simpa using e
    obtain ⟨c1, c2, c3, c4⟩ := h3.2 0 p rfl
    rw [ep] at c1 c2 c4
    obtain ⟨aa, ca, ea⟩ := c4.form
    rw [ea] at c3 c4
    obtain ⟨-, -, -, b', o', rfl, hc⟩ := c4.some (by simp)
    exact ⟨b, o, c, b', o', ca, rfl, by simpa using c1, by simpa using c2, by simpa using c3, hc.2 0 x rfl⟩

theorem sl_lit (w : World) (xs : Ls) (t : TypeId) (hm : xs.length ≤ 9223372036854775807) (n : Nat) (hn : n = xs.length) : Sl (w.alloc (.cells (xs.map Value.string).toArray t)) (.slice (some ⟨w.heap.size, 0, none⟩) n n) xs := by
  subst hn
  refine .inr ⟨_, xs.length, rfl, Nat.le_refl _, hm, fun _ => ⟨w.heap.size, 0, rfl, by simp, fun j x hx => ?_⟩⟩
  rw [World.cell?_alloc_at _ _ _ _ rfl]
  simp [hx]

set_option maxHeartbeats 1000000 in
theorem awake_any (w : World) : Calls Tryd.prog 4 #[] w fun e w' => e = .returned (.bool true) ∧ Below w.heap.size w w' := by
  have hA := sl_lit w [⟨#[97]⟩, ⟨#[98]⟩, ⟨#[99]⟩] 9 (by decide) 3 rfl
  have hB := sl_lit (w.alloc (.cells ([⟨#[97]⟩, ⟨#[98]⟩, ⟨#[99]⟩].map Value.string).toArray 9)) [⟨#[97]⟩, ⟨#[120]⟩, ⟨#[99]⟩] 9 (by decide) 3 rfl
  have hA2 := hA.below ((Below.refl _ _).alloc (Nat.le_refl _) (.cells ([⟨#[97]⟩, ⟨#[120]⟩, ⟨#[99]⟩].map Value.string).toArray 9))
  have hd := diff_any _ _ _ _ _ hA2 hB (by decide) (by decide)
  rw [diff_abc, World.size_alloc] at hd
  have HD := Lib.hid hd
  clear hd hA hB hA2
  go_enter Tryd.func4, Tryd.ntmps4
  go_wp2_with fail
  refine HD.out.mono ?_
  rintro e w1 ⟨hv, rfl, hr, hb⟩
  obtain ⟨b, o, c, b', o', c', rfl, c1, c2, c3, c4⟩ := hreads_one hr
  have HBB := Lib.hid hb
  clear hr hb
  go_wp2
  go_ret
  refine ⟨rfl, ?_⟩
  have := HBB.out
  exact ((((Below.refl _ _).alloc (Nat.le_refl _) _).alloc (by simp) _).trans (this.mono (by simp; omega)))
end Go.Proofs.YteppgjdkoakpeaaDoor
