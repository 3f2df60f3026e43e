/- The contract of textsForm. -/
import Derived.Test.YtgjcblginkdinaaGreatDoorZ22
set_option linter.unusedVariables false
namespace Go.Proofs.YtgjcblginkdinaaGreatDoor
open Go.ChangeShapes Go.WideShapes Go.ChangeAt Go.RowKit
open Go.Lib (itoa)

theorem make_forms (n : Nat) (hn : n ≤ 1000000) (w : World) : ∃ o : Obj, (Instr.makeSlice 59 (.int .i64 0) (.int .i64 (n : Nat))).run Tryz.prog w = .ok (.slice (some ⟨w.heap.size, 0, none⟩) 0 n) (w.alloc o) ∧ ∀ B, B ≤ w.heap.size → MadeU B (w.alloc o) (.slice (some ⟨w.heap.size, 0, none⟩) 0 n) [] := by
  obtain ⟨i, hi, hzz⟩ := Option.map_eq_some_iff.1 Tryz.infoForm
  simp only [Prod.mk.injEq] at hzz
  obtain ⟨hz, hsz, hby⟩ := hzz
  have hr := run_make (P := Tryz.prog) w 59 61 i _ Tryz.underlying59 hi hz .i64 .i64 0 n (Int.le_refl _) (by omega) (by rw [hby]; omega) (by omega)
  simp only [Int.toNat_natCast, hsz, Int.toNat_zero] at hr
  refine ⟨_, hr, fun B hB => ⟨?_, by simp⟩⟩
  refine row_new (fr := (0, 0)) hB (by simp [fcells]) (Nat.zero_le _) (by unfold maxLen; omega) ?_ (.inl rfl) (fun j u hu => by simp [fcells] at hu)
  simp [madeCells, Value.cells]

set_option maxHeartbeats 4000000 in
set_option maxRecDepth 100000 in
theorem ptextsForm_any (Z : Nat → Prop) (xs : Lb) (v : Value) (w : World) (hr : Reads w v xs) (hn : xs.length ≤ 1000) (hs : ∀ x ∈ xs, x.size ≤ 140737488355328) (hzn : ∀ i, w.heap.size ≤ i → Z i) :
    Calls Tryz.prog 64 #[v] w fun e w' => ∃ v, e = .returned v ∧ IsV Z w' v (tsT xs) ∧ Below w.heap.size w w' := by
  obtain ⟨a, c, rfl, hn'⟩ := hr.form
  obtain ⟨n, hnn⟩ : ∃ n, n = xs.length := ⟨_, rfl⟩
  obtain ⟨o, hmk, hmade⟩ := make_forms n (by omega) (w.alloc (.cells #[.bool false, .string ⟨#[]⟩, .slice none 0 0] 61))
  rw [← hnn] at hr hn hn' ⊢
  have HN := Lib.hid hnn
  have HR := Lib.hid hr
  have HS := Lib.hid hs
  have HMK := Lib.hid (hmade (w.heap.size + 1) (by simp))
  have HZN := Lib.hid hzn
  clear hnn hr hs hmade hzn
  go_enter Tryz.func64, Tryz.ntmps64
  go_wp2_with fail
  go_loopw [3, 11] (fun v i wr => ∃ (k : Nat) (es : List FE), k ≤ n ∧ i = .int .i64 (k : Nat) ∧ Hid (es.length = k) ∧ Hid (es.map FE.tm = (xs.take k).map txT) ∧ Hid (MadeU (w.heap.size + 1) wr v es) ∧ Hid (Below (w.heap.size + 1) (w.alloc (.cells #[.bool false, .string ⟨#[]⟩, .slice none 0 0] 61)) wr)) (fun _ i _ => n - (intOf i).toNat)
  case atStart =>
    refine ⟨0, [], Nat.zero_le _, rfl, Lib.hid rfl, Lib.hid (by simp), Lib.hid ?_, Lib.hid ((Below.refl _ _).alloc (by simp) _)⟩
    have := HMK.out
    simpa using this
  case round =>
    obtain ⟨k, es, hk, rfl, HEL, HMP, HMD, HBL⟩ := hrel
    obtain ⟨va, vc, hv, _, _⟩ := HMD.out.row.form'
    rw [HEL.out] at hv
    subst hv
    have hbw : Below w.heap.size w wr := ((Below.refl _ _).alloc (Nat.le_refl _) _).trans (HBL.out.mono (Nat.le_succ _))
    have hszr : w.heap.size + 1 ≤ wr.heap.size := by have := HBL.out.size; simp at this; omega
    have HBW := Lib.hid hbw
    clear hbw
    by_cases hlt : k < n
    · obtain ⟨x, hx⟩ : ∃ x, xs[k]? = some x := ⟨xs[k]'(by rw [← HN.out]; exact hlt), by simp⟩
      obtain ⟨b, o', rfl, hnl, hcl⟩ := HR.out.at hx
      clear hnl
      have hcell := ((hcl.below HBW.out).2 k x hx)
      have HX := Lib.hid hx
      clear hx hcl
      go_wp2_with (first
        | (go_at_call 65; refine (text_any _ _).mono ?_; rintro e w2 ⟨rfl, hb2⟩; have HB2 := Lib.hid hb2; clear hb2)
        | (at_builtin; refine wpList_append_row rfl (.tmp 15) (.tmp 18) 59 59 rfl 3 61 (.agg #[.bool false, .string ByteArray.empty, .slice none 0 0]) 48 Tryz.underlying59 Tryz.infoForm rfl (w.heap.size + 1) (.slice va k vc) k (fcells es) (by simp [Act.eval]) (by have := ((HMD.out.row.below HB2.out).alloc (.cells #[.bool false, .string x, .slice none 0 0] 61)); rw [HEL.out] at this; exact this) (.slice (some ⟨w2.heap.size, 0, none⟩) 1 1) (by simp [Act.eval]) 1 [.bool false, .string x, .slice none 0 0] (by exact src_new Tryz.underlying59 _ _ _ _ rfl (by intro u hu; simp only [List.mem_cons, List.not_mem_nil, or_false] at hu; rcases hu with rfl | rfl | rfl <;> rfl)) (by have := HB2.out.size; simp; omega) (by omega) (by decide) ?_; intro v6 w6 hr6 ho6 hw6; obtain ⟨a6, c6, hv6⟩ := hr6.form; subst hv6; have HR6 := Lib.hid hr6; have HO6 := Lib.hid ho6; have HW6 := Lib.hid hw6; clear hr6 ho6 hw6))
      have hmd2 := (HMD.out.below HB2.out).below ((Below.refl _ w2).alloc (Nat.le_refl _) (.cells #[.bool false, .string x, .slice none 0 0] 61))
      have hpush := hmd2.push (l := false) (t := x) (ys := []) (s := .slice none 0 0) (.nil none 0 (Nat.zero_le _)) (HS.out x (List.mem_of_getElem? HX.out)) (by rw [HEL.out]; exact HR6.out) HO6.out HW6.out
      have hbl6 : Below (w.heap.size + 1) (w.alloc (.cells #[.bool false, .string ⟨#[]⟩, .slice none 0 0] 61)) w6 := by
        refine ((HBL.out.trans (HB2.out.mono hszr)).alloc (by have := HB2.out.size; omega) (.cells #[.bool false, .string x, .slice none 0 0] 61)).trans (HO6.out.below (fun i hi => (HMD.out.row.lt i hi).1) (by have := HB2.out.size; simp; omega))
      exact ⟨⟨k + 1, es ++ [(false, x, [], .slice none 0 0)], by omega, by go_num, Lib.hid (by rw [List.length_append, HEL.out]; rfl), Lib.hid (by rw [List.map_append, HMP.out, take_snoc HX.out, List.map_append]; rfl), Lib.hid hpush, Lib.hid hbl6⟩, by simp [intOf]; omega⟩
    · have hke : n ≤ k := by omega
      have hsl : SlU (fun i => Z i ∧ i ≠ w.heap.size) wr (.slice va k vc) (xs.map txT) := by
        have := HMD.out.sl (Z := fun i => Z i ∧ i ≠ w.heap.size) (fun i hi => ⟨HZN.out i (by omega), by omega⟩)
        rw [HMP.out, List.take_of_length_le (by rw [← HN.out]; exact hke)] at this
        exact this
      have hli := list_any (fun i => Z i ∧ i ≠ w.heap.size) _ (xs.map txT) wr hsl (fun i hi => ⟨HZN.out i (by omega), by omega⟩) (by rw [List.length_map, ← HN.out]; omega)
      have HLI := Lib.hid hli
      clear hsl hli
      go_wp2_with fail
      refine HLI.out.mono ?_
      rintro e w3 ⟨la, ln, lc, rfl, hln, hb3, hlz⟩
      obtain ⟨z1, z2, z3, -⟩ := box3 (box_step HBL.out hb3)
      have f1 : ∀ j, w3.frozen? ⟨w.heap.size, j, none⟩ = false := fun j => by
        have hb := HBL.out.trans (hb3.mono hszr)
        exact (hb.frozen (p := ⟨w.heap.size, j, none⟩) (Nat.lt_succ_self _)).trans (World.frozen?_alloc_at _ _ _ _ rfl)
      have f10 := f1 0
      have f11 := f1 1
      have f12 := f1 2
      have hsz3 : w.heap.size < w3.heap.size := by have := hb3.size; omega
      obtain ⟨y0, y1, y2⟩ := end3 (of_cellAt z1) (of_cellAt z2) (of_cellAt z3) (.bool true) (.string noText) (.slice la ln lc)
      have HZ1 := Lib.hid (end3_sl hlz (fun i hi => hi.2) (.bool true) (.string noText) (.slice la ln lc))
      have HBE := Lib.hid ((((HBW.out.trans (hb3.mono HBW.out.size)).setCell (p := ⟨w.heap.size, 0, none⟩) (Nat.le_refl _) (.bool true)).setCell (p := ⟨w.heap.size, 1, none⟩) (Nat.le_refl _) (.string noText)).setCell (p := ⟨w.heap.size, 2, none⟩) (Nat.le_refl _) (.slice la ln lc))
      have HLN := Lib.hid hln
      clear hb3 hlz f1 hln
      go_wp2_with fail
      refine bodyPost_ret (v := fv true noText (.slice la ln lc)) (by simp [results, Tryz.results64, go_sem, y0, y1, y2]) rfl ⟨_, rfl, ⟨true, noText, xs.map txT, la, ln, lc, rfl, HLN.out, rfl, by decide, HZ1.out.mono fun i _ hi => hi.1⟩, HBE.out⟩
end Go.Proofs.YtgjcblginkdinaaGreatDoor
