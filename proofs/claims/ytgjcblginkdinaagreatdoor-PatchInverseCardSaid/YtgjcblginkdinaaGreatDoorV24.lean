/- The contracts of the document's Num, List and two. -/
import Derived.Test.YtgjcblginkdinaaGreatDoorV23
import Derived.Test.YtgjcblginkdinaaGreatDoorV3
import Derived.Test.YtgjcblginkdinaaGreatDoorV6
set_option linter.unusedVariables false
namespace Go.Proofs.YtgjcblginkdinaaGreatDoor
open Go.ChangeShapes Go.WideShapes Go.ChangeAt Go.RowKit
open Go.Lib (itoa)

theorem rnumf_any (n : Int) (w : World) (h0 : -9223372036854775808 ≤ n) (h1 : n ≤ 9223372036854775807) :
    Calls Tryz.prog 74 #[.int .i64 n] w fun e w' => e = .returned (fv false (tx (itoa n)) (.slice none 0 0)) ∧ Below w.heap.size w w' := by
  have hc := digits_any n (w.alloc (.cells #[.bool false, .string ⟨#[]⟩, .slice none 0 0] 61)) h0 h1
  have HC := Lib.hid hc
  clear hc
  go_enter Tryz.func74, Tryz.ntmps74
  go_wp2_with fail
  refine HC.out.mono ?_
  rintro e w1 ⟨rfl, hb1⟩
  go_wp2_with fail
  refine (rtext_any _ _).mono ?_
  rintro e w2 ⟨rfl, hb2⟩
  have ho : Off (fun _ => False) (w.alloc (.cells #[.bool false, .string ⟨#[]⟩, .slice none 0 0] 61)) w2 := (Off.of_below hb1).trans (Off.of_below hb2)
  obtain ⟨⟨z1, z2, z3⟩, zf, zl⟩ := cells3_off ho (fun h => h)
  have zf0 := zf 0
  have zf1 := zf 1
  have zf2 := zf 2
  have hb : Below w.heap.size w w2 := ((Below.refl _ _).alloc (Nat.le_refl _) _).trans (ho.below (fun i hi => hi.elim) (by simp))
  have HB := Lib.hid hb
  clear hb1 hb2 ho zf hb
  go_wp2_with fail
  refine bodyPost_ret (v := fv false (tx (itoa n)) (.slice none 0 0)) (by simp [results, Tryz.results74, go_sem, z1, z2, z3]) rfl ⟨rfl, ?_⟩
  exact ((HB.out.setCell (p := ⟨w.heap.size, 0, none⟩) (Nat.le_refl _) _).setCell (p := ⟨w.heap.size, 1, none⟩) (Nat.le_refl _) _).setCell (p := ⟨w.heap.size, 2, none⟩) (Nat.le_refl _) _


theorem rlist_any (Z : Nat → Prop) (lv : Value) (xs : List Tm) (w : World) (hsl : SlU Z w lv xs) (hzn : ∀ i, w.heap.size ≤ i → Z i) (hn : xs.length ≤ 65536) :
    Calls Tryz.prog 72 #[lv] w (ListZ Z xs w) := by
  obtain ⟨a, c, rfl, _, _⟩ := hsl.form
  obtain ⟨n, hnn⟩ : ∃ n, n = xs.length := ⟨_, rfl⟩
  have HSL := Lib.hid hsl
  rw [← hnn] at HSL ⊢
  have HN := Lib.hid hnn
  clear hsl hnn hzn hn
  go_enter Tryz.func72, Tryz.ntmps72
  go_wp2_with fail
  refine bodyPost_ret (v := fv true noText (.slice a n c)) (by simp [results, Tryz.results72, go_sem]) rfl ?_
  exact ⟨_, n, c, rfl, HN.out, (Below.refl _ _).alloc (Nat.le_refl _) _, HSL.out.alloc _⟩

set_option maxHeartbeats 4000000 in
set_option maxRecDepth 100000 in
theorem rtwo_any (Z : Nat → Prop) (r : Rf) (w : World) (hr : r.wf) (hzn : ∀ i, w.heap.size ≤ i → Z i) :
    Calls Tryz.prog 75 #[rfV r] w fun e w' => ∃ v, e = .returned v ∧ IsV Z w' v (rfT r) ∧ Below w.heap.size w w' := by
  obtain ⟨x, y⟩ := r
  have hnx : ∀ wz, Below w.heap.size w wz → Calls Tryz.prog 74 #[.int .i64 x] wz fun e w' => e = .returned (fv false (tx (itoa x)) (.slice none 0 0)) ∧ Below wz.heap.size wz w' := fun wz hz => rnumf_any x wz hr.1.1 hr.1.2
  have hny : ∀ wz, Below w.heap.size w wz → Calls Tryz.prog 74 #[.int .i64 y] wz fun e w' => e = .returned (fv false (tx (itoa y)) (.slice none 0 0)) ∧ Below wz.heap.size wz w' := fun wz hz => rnumf_any y wz hr.2.1 hr.2.2
  have hli : ∀ wz : World, w.heap.size + 1 < wz.heap.size → Calls Tryz.prog 72 #[.slice (some ⟨wz.heap.size, 0, none⟩) 2 2] (wz.alloc (.cells #[.bool false, .string (tx (itoa x)), .slice none 0 0, .bool false, .string (tx (itoa y)), .slice none 0 0] 61)) (ListZ (fun i => Z i ∧ i ≠ w.heap.size + 1) [nuT x, nuT y] (wz.alloc (.cells #[.bool false, .string (tx (itoa x)), .slice none 0 0, .bool false, .string (tx (itoa y)), .slice none 0 0] 61))) := fun wz hz => by
    exact rlist_any (fun i => Z i ∧ i ≠ w.heap.size + 1) _ [nuT x, nuT y] _ (lit_sl (es := [(false, tx (itoa x), [], .slice none 0 0), (false, tx (itoa y), [], .slice none 0 0)]) (fun i => Z i ∧ i ≠ w.heap.size + 1) wz 2 ⟨hzn _ (by omega), by omega⟩ rfl (by simp) (by
      intro p hp
      simp only [List.mem_cons, List.not_mem_nil, or_false] at hp
      rcases hp with rfl | rfl
      · exact ⟨itoa_size _ hr.1.1 hr.1.2, .nil none 0 (Nat.zero_le _)⟩
      · exact ⟨itoa_size _ hr.2.1 hr.2.2, .nil none 0 (Nat.zero_le _)⟩) _) (fun i hi => by
        have e1 : (wz.alloc (.cells #[.bool false, .string (tx (itoa x)), .slice none 0 0, .bool false, .string (tx (itoa y)), .slice none 0 0] 61)).heap.size = wz.heap.size + 1 := by simp
        rw [e1] at hi
        exact ⟨hzn i (by omega), by omega⟩) (by simp)
  have HX := Lib.hid hnx
  have HY := Lib.hid hny
  have HL := Lib.hid hli
  clear hnx hny hli
  go_enter Tryz.func75, Tryz.ntmps75
  go_wp2_with fail
  go_region_held3 (fun W => (W.cell? ⟨w.heap.size, 0, none⟩ = some (.int .i64 x) ∧ W.cell? ⟨w.heap.size, 1, none⟩ = some (.int .i64 y)) ∧ Below w.heap.size w W ∧ (w.heap.size + 1 < W.heap.size ∧ W.cell? ⟨w.heap.size + 1, 0, none⟩ = some (cellAt W ⟨w.heap.size + 1, 0, none⟩) ∧ W.cell? ⟨w.heap.size + 1, 1, none⟩ = some (cellAt W ⟨w.heap.size + 1, 1, none⟩) ∧ W.cell? ⟨w.heap.size + 1, 2, none⟩ = some (cellAt W ⟨w.heap.size + 1, 2, none⟩) ∧ W.frozen? ⟨w.heap.size + 1, 0, none⟩ = false ∧ W.frozen? ⟨w.heap.size + 1, 1, none⟩ = false ∧ W.frozen? ⟨w.heap.size + 1, 2, none⟩ = false)) (first | exact rf_call hb3 (by assumption) | exact rf_alloc _ (by assumption) | exact rf_start _ _ _ | exact rf_set (by assumption) _ _ _) (first | (go_at_call 74; refine (HX.out _ (And.left (And.right (by assumption)))).mono ?_; rintro e w3 ⟨rfl, hb3⟩) | (go_at_call 74; have hs2 := And.left (And.right (And.right (by assumption))); refine (HY.out _ (And.left (And.right (by assumption)))).mono ?_; rintro e w3 ⟨rfl, hb3⟩; have hsz3 : w.heap.size + 1 < w3.heap.size := Nat.lt_of_lt_of_le hs2 hb3.size; clear hs2) | (go_at_call 72; have hs3 : RfS w x y _ := (by assumption); refine (HL.out _ hsz3).mono ?_; rintro e w4 ⟨la, ln, lc, rfl, hln, hb3, hlz⟩; obtain rfl : ln = 2 := hln; have hs4 := rf_call hb3 hs3))
  rename_i hHeld
  have HKB := Lib.hid hHeld.2.1
  obtain ⟨z0, z1, z2⟩ := end3 (of_cellAt hs4.2.2.2.1) (of_cellAt hs4.2.2.2.2.1) (of_cellAt hs4.2.2.2.2.2.1) (.bool true) (.string noText) (.slice la 2 lc)
  have HZ1 := Lib.hid (end3_sl hlz (fun i hi => hi.2) (.bool true) (.string noText) (.slice la 2 lc))
  clear hHeld hs3 hs4 hlz hb3
  go_wp2_with fail
  refine bodyPost_ret (v := fv true noText (.slice la 2 lc)) (by simp [results, Tryz.results75, go_sem, z0, z1, z2]) rfl ⟨_, rfl, ⟨true, noText, [nuT x, nuT y], la, 2, lc, rfl, rfl, rfl, by decide, HZ1.out.mono fun i _ hi => hi.1⟩, HKB.out⟩
end Go.Proofs.YtgjcblginkdinaaGreatDoor
