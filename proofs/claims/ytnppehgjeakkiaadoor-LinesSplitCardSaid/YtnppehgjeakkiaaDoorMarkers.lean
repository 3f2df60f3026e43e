/- The statement of the markers: whichever two texts: the law's function answers true. -/
import Derived.Test.YtnppehgjeakkiaaDoorLines3
set_option linter.unusedVariables false
namespace Go.Proofs.YtnppehgjeakkiaaDoor
open Go.ChangeShapes Go.WideShapes Go.ChangeAt Go.RowKit

theorem reads_two {w : World} {v : Value} {x y : ByteArray} (h : Reads w v [x, y]) : ∃ b o c, v = .slice (some ⟨b, o, none⟩) 2 c ∧ 2 ≤ c ∧ w.cell? ⟨b, o, none⟩ = some (.string x) ∧ w.cell? ⟨b, o + 1, none⟩ = some (.string y) := by
  rcases h with ⟨h, _⟩ | ⟨hn, b, o, c, rfl, hc, hm, hb, hx⟩
  · cases h
  · exact ⟨b, o, c, rfl, hc, hx 0 x rfl, hx 1 y rfl⟩

set_option maxHeartbeats 400000 in
theorem awake_any (w : World) (hm : HasMax w) :
    Calls Tryd.prog 7 #[] w fun e w' => e = .returned (.bool true) ∧ Below w.heap.size w w' := by
  have hs := lsplit_any ⟨#[97, 10]⟩ w hm (by decide)
  rw [show bsp ⟨#[97, 10]⟩ = [⟨#[97]⟩, ⟨#[]⟩] from by rfl] at hs
  have HS := Lib.hid hs
  clear hs
  go_enter Tryd.func7, Tryd.ntmps7
  go_wp2_with fail
  refine HS.out.mono ?_
  rintro e w1 ⟨v, rfl, hr, hb1⟩
  obtain ⟨b, o, c, rfl, hc, h0, h1⟩ := reads_two hr
  have HR := Lib.hid hr
  clear hr
  go_wp2_with fail
  refine (ljoin_any [⟨#[97]⟩, ⟨#[]⟩] _ _ HR.out (by decide) (by decide)).mono ?_
  rintro e w2 ⟨rfl, hb2⟩
  rw [show bjoin [⟨#[97]⟩, ⟨#[]⟩] = ⟨#[97, 10]⟩ from by rfl]
  go_wp2_with fail
  refine (marker_any ⟨#[62, 62, 62, 62, 62, 62, 62, 32, 120]⟩ _ (by decide)).mono ?_
  rintro e w3 ⟨rfl, rfl⟩
  rw [show mk (⟨#[62, 62, 62, 62, 62, 62, 62, 32, 120]⟩ : ByteArray).data.toList = true from by rfl]
  go_wp2
  go_ret
  exact ⟨rfl, hb1.trans (hb2.mono hb1.size)⟩

theorem mk_more {l m : List UInt8} (h : mk l = true) : mk (l ++ m) = true ∧ 7 ≤ l.length := by
  have h7 : 7 ≤ l.length := by
    rcases Nat.lt_or_ge l.length 7 with h' | h'
    · rw [mk_short l h'] at h; cases h
    · exact h'
  refine ⟨?_, h7⟩
  unfold mk at h ⊢
  rw [List.take_append_of_le_length h7]
  have e : decide (7 ≤ (l ++ m).length) = true := by rw [decide_eq_true_iff, List.length_append]; omega
  rw [e]
  rw [show decide (7 ≤ l.length) = true from by simpa using h7] at h
  exact h

theorem app_data (s t : ByteArray) : (s ++ t).data.toList = s.data.toList ++ t.data.toList := by
  simp

set_option maxHeartbeats 400000 in
theorem markers_law (s more : ByteArray) (w : World) (hm : HasMax w) (hs : s.size ≤ 140737488355328) (ht : more.size ≤ 140737488355328) :
    Calls Tryd.prog 5 #[.string s, .string more] w fun e w' => e = .returned (.bool true) ∧ Below w.heap.size w w' := by
  have ha := awake_any w hm
  have HA := Lib.hid ha
  clear ha
  by_cases hbig : 5000 < s.size + more.size
  · go_enter Tryd.func5, Tryd.ntmps5
    go_wp2_with fail
    refine HA.out.mono ?_
    rintro e w1 ⟨rfl, hb1⟩
    go_wp2
    go_ret
    exact ⟨rfl, hb1⟩
  · obtain ⟨m, hmk⟩ : ∃ m, mk s.data.toList = m := ⟨_, rfl⟩
    cases m
    · go_enter Tryd.func5, Tryd.ntmps5
      have HM := Lib.hid hmk
      clear hmk
      go_wp2_with fail
      refine HA.out.mono ?_
      rintro e w1 ⟨rfl, hb1⟩
      go_wp2_with fail
      refine (marker_any s _ (by omega)).mono ?_
      rintro e w2 ⟨rfl, rfl⟩
      rw [HM.out]
      go_wp2_with fail
      refine (rmarker_any s _ (by omega)).mono ?_
      rintro e w3 ⟨rfl, hb3⟩
      rw [HM.out]
      go_wp2
      go_ret
      exact ⟨rfl, hb1.trans (hb3.mono hb1.size)⟩
    · obtain ⟨hmore, h7⟩ := mk_more (m := more.data.toList) hmk
      rw [← app_data] at hmore
      have h7' : 7 ≤ s.size := by have : s.data.toList.length = s.size := Array.length_toList
                                  omega
      clear h7
      go_enter Tryd.func5, Tryd.ntmps5
      have HM := Lib.hid hmk
      clear hmk
      have HM2 := Lib.hid hmore
      clear hmore
      go_wp2_with fail
      refine HA.out.mono ?_
      rintro e w1 ⟨rfl, hb1⟩
      go_wp2_with fail
      refine (marker_any s _ (by omega)).mono ?_
      rintro e w2 ⟨rfl, rfl⟩
      rw [HM.out]
      go_wp2_with fail
      refine (rmarker_any s _ (by omega)).mono ?_
      rintro e w3 ⟨rfl, hb3⟩
      rw [HM.out]
      go_wp2_with fail
      refine (marker_any (s ++ more) _ (by rw [ByteArray.size_append]; omega)).mono ?_
      rintro e w4 ⟨rfl, rfl⟩
      rw [HM2.out]
      go_wp2
      go_ret
      exact ⟨ret_bool (decide_eq_true (by omega)), hb1.trans (hb3.mono hb1.size)⟩
end Go.Proofs.YtnppehgjeakkiaaDoor
