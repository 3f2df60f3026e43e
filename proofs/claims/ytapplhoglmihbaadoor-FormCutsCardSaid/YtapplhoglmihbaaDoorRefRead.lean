/- The contract of the document's Read. -/
import Derived.Test.YtapplhoglmihbaaDoorItem2
import Derived.Test.YtapplhoglmihbaaDoorRead
set_option linter.unusedVariables false
namespace Go.Proofs.YtapplhoglmihbaaDoor
open Go.ChangeShapes Go.WideShapes Go.ChangeAt Go.RowKit

/-- What the document's Read leaves. -/
def ReadR (s : ByteArray) (w : World) (e : Ending) (w' : World) : Prop :=
  Below w.heap.size w w' ∧
    (((∀ T, ¬ IsF 0 s.data.toList T []) ∧ e = .returned (.tuple #[fz, .int .i64 5])) ∨
     (∃ l t xs a c, e = .returned (.tuple #[fv l t (.slice a xs.length c), .int .i64 0]) ∧ IsF 0 s.data.toList (.mk l t xs) [] ∧ t.size ≤ 140737488355328 ∧ SlL (fun i => w.heap.size ≤ i) w' (.slice a xs.length c) xs))

set_option maxHeartbeats 4000000 in
set_option maxRecDepth 100000 in
theorem rread_any (s : ByteArray) (w : World) (hs : s.size ≤ 65536) :
    Calls Tryd.prog 15 #[.string s] w (ReadR s w) := by
  have hb : ¬ (65536 : Int) < s.size := by omega
  have hitem := item_any 8 0 (by omega) s (w.alloc (.cells #[.bool false, .string ⟨#[]⟩, .slice none 0 0] 24)) (by omega)
  have HI := Lib.hid hitem
  clear hitem
  go_enter Tryd.func15, Tryd.ntmps15
  go_wp2_with fail
  refine HI.out.mono ?_
  rintro e w3 ⟨hb3, hcase⟩
  have ho3 : Off (fun _ => False) (w.alloc (.cells #[.bool false, .string ⟨#[]⟩, .slice none 0 0] 24)) w3 := Off.of_below hb3
  obtain ⟨⟨z1, z2, z3⟩, zf, zl⟩ := cells3_off ho3 (fun h => h)
  have zf0 := zf 0
  have zf1 := zf 1
  have zf2 := zf 2
  have HZB := Lib.hid (((Below.refl w.heap.size w).alloc (Nat.le_refl _) (.cells #[.bool false, .string ⟨#[]⟩, .slice none 0 0] 24)).trans (hb3.mono (by simp)))
  clear hb3 ho3 zf
  rcases hcase with ⟨l1, t1, xs1, a1, c1, rs3, R3, rfl, hF3, hR3, hts3, hsl3⟩ | ⟨rfl, hno⟩
  · obtain ⟨m1, hm1⟩ : ∃ m, m = xs1.length := ⟨_, rfl⟩
    have HM1 := Lib.hid hm1
    have HF3 := Lib.hid hF3
    have HR3 := Lib.hid hR3
    have HSL3 := Lib.hid hsl3
    rw [← hm1]
    clear hm1 hF3 hR3 hsl3
    by_cases hemp : rs3.size = 0
    · obtain rfl : rs3 = noText := size0 hemp
      have hfin : IsF 0 s.data.toList (.mk l1 t1 xs1) [] := by
        have h := HF3.out
        rw [← HR3.out] at h
        exact h
      have HFIN := Lib.hid hfin
      clear hfin hemp
      go_wp2_with fail
      refine bodyPost_ret (v := .tuple #[fv l1 t1 (.slice a1 m1 c1), .int .i64 0]) (by simp [results, Tryd.results15, go_sem, z1, z2, z3, zl]) rfl ⟨set3_below_al HZB.out _ _ _ _, .inr ⟨l1, t1, xs1, a1, c1, by rw [← HM1.out], HFIN.out, hts3, ?_⟩⟩
      have := HSL3.out
      rw [← HM1.out]
      rw [← HM1.out] at this
      exact set3_sl this (fun i hi => by have h : (w.alloc (.cells #[.bool false, .string ⟨#[]⟩, .slice none 0 0] 24)).heap.size ≤ i := hi; simp at h; omega) _ _ _ _
    · have hno : ∀ T, ¬ IsF 0 s.data.toList T [] := fun T hT => by
        have := (HF3.out.det hT).2
        rw [← HR3.out] at this
        have e := congrArg List.length this
        rw [ba_len, List.length_nil] at e
        exact hemp e
      have HNO := Lib.hid hno
      have r2 : (rs3.toList == []) = false := by
        have := toList_ne hemp
        simpa using this
      have r3 : rs3.toList.isEmpty = false := by
        have := toList_ne hemp
        simpa using this
      clear hno hemp
      go_wp2_with fail
      refine bodyPost_ret (v := .tuple #[fz, .int .i64 5]) (by simp [results, Tryd.results15, go_sem, z1, z2, z3, zl]) rfl ⟨set3_below_al HZB.out _ _ _ _, .inl ⟨HNO.out, rfl⟩⟩
  · have HNO := Lib.hid hno
    clear hno
    go_wp2_with fail
    refine bodyPost_ret (v := .tuple #[fz, .int .i64 5]) (by simp [results, Tryd.results15, go_sem, z1, z2, z3, zl]) rfl ⟨set3_below_al HZB.out _ _ _ _, .inl ⟨fun T => HNO.out T [], rfl⟩⟩
end Go.Proofs.YtapplhoglmihbaaDoor
