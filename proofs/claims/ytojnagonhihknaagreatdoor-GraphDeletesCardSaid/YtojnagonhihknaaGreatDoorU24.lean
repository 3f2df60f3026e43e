/- The contracts of List, refForm, textsForm and form. The contract of textsForm. A sketch's pair of places of an op. -/
import Derived.Deep.RegionHeld3
import Derived.Deep.DrawnRows
import Derived.Lib.ItoaLen
import Derived.Test.YtojnagonhihknaaGreatDoorU18
import Derived.Test.YtojnagonhihknaaGreatDoorU22
import Derived.Test.YtojnagonhihknaaGreatDoorU23
set_option linter.unusedVariables false
namespace Go.Proofs.YtojnagonhihknaaGreatDoor
open Go.ChangeShapes Go.WideShapes Go.ChangeAt Go.RowKit
open Go.Lib (itoa)

attribute [local go_sem ↓] Go.wp_at_zero Go.wp_at_succ

theorem itoa_size (n : Int) (h0 : -9223372036854775808 ≤ n) (h1 : n ≤ 9223372036854775807) : (tx (itoa n)).size ≤ 140737488355328 := by
  have := Lib.itoa_length_le n h0 h1
  show (itoa n).toArray.size ≤ _
  rw [List.size_toArray]; omega

def cellAt (w : World) (a : Addr) : Value := (w.cell? a).getD .nilIface
theorem cellAt_of {w : World} {a : Addr} (h : (w.cell? a).isSome = true) : w.cell? a = some (cellAt w a) := by
  unfold cellAt
  cases hc : w.cell? a with
  | none => rw [hc] at h; cases h
  | some v => rfl
theorem of_cellAt {w : World} {a : Addr} {v : Value} (h : w.cell? a = some v) : (w.cell? a).isSome = true := by rw [h]; rfl
theorem cellAt_set {w : World} {b o : Nat} {u : Value} {x : Addr} (h : (w.cell? x).isSome = true) : ((w.setCell ⟨b, o, none⟩ u).cell? x).isSome = true := World.isSome_setCells b [u] o w x h

def RfS (w : World) (x y : Int) (W : World) : Prop := (W.cell? ⟨w.heap.size, 0, none⟩ = some (.int .i64 x) ∧ W.cell? ⟨w.heap.size, 1, none⟩ = some (.int .i64 y)) ∧ Below w.heap.size w W ∧ (w.heap.size + 1 < W.heap.size ∧ W.cell? ⟨w.heap.size + 1, 0, none⟩ = some (cellAt W ⟨w.heap.size + 1, 0, none⟩) ∧ W.cell? ⟨w.heap.size + 1, 1, none⟩ = some (cellAt W ⟨w.heap.size + 1, 1, none⟩) ∧ W.cell? ⟨w.heap.size + 1, 2, none⟩ = some (cellAt W ⟨w.heap.size + 1, 2, none⟩) ∧ W.frozen? ⟨w.heap.size + 1, 0, none⟩ = false ∧ W.frozen? ⟨w.heap.size + 1, 1, none⟩ = false ∧ W.frozen? ⟨w.heap.size + 1, 2, none⟩ = false)
theorem rf_call {w W W2 : World} {x y : Int} (hb : Below W.heap.size W W2) (h : RfS w x y W) : RfS w x y W2 := by
  obtain ⟨⟨h1, h2⟩, h3, h4, h5, h6, h7, h8, h9, h10⟩ := h
  have c0 : ∀ j, W2.cell? ⟨w.heap.size, j, none⟩ = W.cell? ⟨w.heap.size, j, none⟩ := fun j => hb.cell (p := ⟨w.heap.size, j, none⟩) (by show w.heap.size < _; omega)
  have c1 : ∀ j, W2.cell? ⟨w.heap.size + 1, j, none⟩ = W.cell? ⟨w.heap.size + 1, j, none⟩ := fun j => hb.cell (p := ⟨w.heap.size + 1, j, none⟩) h4
  have f1 : ∀ j, W2.frozen? ⟨w.heap.size + 1, j, none⟩ = W.frozen? ⟨w.heap.size + 1, j, none⟩ := fun j => hb.frozen (p := ⟨w.heap.size + 1, j, none⟩) h4
  exact ⟨⟨(c0 _).trans h1, (c0 _).trans h2⟩, h3.trans (hb.mono h3.size), Nat.lt_of_lt_of_le h4 hb.size, cellAt_of (by rw [c1]; exact of_cellAt h5), cellAt_of (by rw [c1]; exact of_cellAt h6), cellAt_of (by rw [c1]; exact of_cellAt h7), by rw [f1]; exact h8, by rw [f1]; exact h9, by rw [f1]; exact h10⟩
theorem rf_alloc {w W : World} {x y : Int} (o : Obj) (h : RfS w x y W) : RfS w x y (W.alloc o) := rf_call ((Below.refl _ _).alloc (Nat.le_refl _) _) h
theorem rf_start (w : World) (x y : Int) {t1 t2 : TypeId} {u1 u2 u3 : Value} : RfS w x y ((w.alloc (.cells #[.int .i64 x, .int .i64 y] t1)).alloc (.cells #[u1, u2, u3] t2)).drew := by
  obtain ⟨k1, k2, k3, k4⟩ := boxA2 (Below.refl _ ((w.alloc (.cells #[.int .i64 x, .int .i64 y] t1)).alloc (.cells #[u1, u2, u3] t2)))
  have f : ∀ j, ((w.alloc (.cells #[.int .i64 x, .int .i64 y] t1)).alloc (.cells #[u1, u2, u3] t2)).frozen? ⟨w.heap.size + 1, j, none⟩ = false := fun j => World.frozen?_alloc_at _ _ _ _ (by simp)
  exact ⟨⟨k1 0, k1 1⟩, k3.drew, k4, cellAt_of ((congrArg Option.isSome (k2 0)).trans rfl), cellAt_of ((congrArg Option.isSome (k2 1)).trans rfl), cellAt_of ((congrArg Option.isSome (k2 2)).trans rfl), f 0, f 1, f 2⟩
theorem rf_set {w W : World} {x y : Int} (h : RfS w x y W) (u0 u1 u2 : Value) : RfS w x y (((W.setCell ⟨w.heap.size + 1, 0, none⟩ u0).setCell ⟨w.heap.size + 1, 1, none⟩ u1).setCell ⟨w.heap.size + 1, 2, none⟩ u2) := by
  obtain ⟨⟨h1, h2⟩, h3, h4, h5, h6, h7, h8, h9, h10⟩ := h
  have hne : ∀ j i, (⟨w.heap.size, j, none⟩ : Addr) ≠ ⟨w.heap.size + 1, i, none⟩ := fun j i e => by injection e with e; omega
  refine ⟨⟨?_, ?_⟩, ((h3.setCell (p := ⟨w.heap.size + 1, 0, none⟩) (Nat.le_succ _) _).setCell (p := ⟨w.heap.size + 1, 1, none⟩) (Nat.le_succ _) _).setCell (p := ⟨w.heap.size + 1, 2, none⟩) (Nat.le_succ _) _, by simpa [World.setCell] using h4, ?_, ?_, ?_, ?_, ?_, ?_⟩
  all_goals first
    | (rw [World.frozen?_setCell, World.frozen?_setCell, World.frozen?_setCell]; assumption)
    | (exact cellAt_of (cellAt_set (cellAt_set (cellAt_set (of_cellAt (by assumption))))))
    | (rw [World.cell?_setCell_other _ _ _ _ (hne _ _).symm, World.cell?_setCell_other _ _ _ _ (hne _ _).symm, World.cell?_setCell_other _ _ _ _ (hne _ _).symm]; assumption)

theorem end3 {w : World} {b : Nat} (h0 : (w.cell? ⟨b, 0, none⟩).isSome = true) (h1 : (w.cell? ⟨b, 1, none⟩).isSome = true) (h2 : (w.cell? ⟨b, 2, none⟩).isSome = true) (u0 u1 u2 : Value) :
    (((w.setCell ⟨b, 0, none⟩ u0).setCell ⟨b, 1, none⟩ u1).setCell ⟨b, 2, none⟩ u2).cell? ⟨b, 0, none⟩ = some u0 ∧ (((w.setCell ⟨b, 0, none⟩ u0).setCell ⟨b, 1, none⟩ u1).setCell ⟨b, 2, none⟩ u2).cell? ⟨b, 1, none⟩ = some u1 ∧ (((w.setCell ⟨b, 0, none⟩ u0).setCell ⟨b, 1, none⟩ u1).setCell ⟨b, 2, none⟩ u2).cell? ⟨b, 2, none⟩ = some u2 := by
  refine ⟨?_, ?_, ?_⟩
  · rw [World.cell?_setCell_other _ _ _ _ (by simp), World.cell?_setCell_other _ _ _ _ (by simp)]
    exact World.cell?_setCell_same _ _ _ (cellAt_of h0)
  · rw [World.cell?_setCell_other _ _ _ _ (by simp)]
    exact World.cell?_setCell_same _ _ _ (cellAt_of (cellAt_set h1))
  · exact World.cell?_setCell_same _ _ _ (cellAt_of (cellAt_set (cellAt_set h2)))
theorem end3_sl {Z : Nat → Prop} {w : World} {v : Value} {xs : List Tm} {b : Nat} (h : SlU Z w v xs) (hz : ∀ i, Z i → i ≠ b) (u0 u1 u2 : Value) : SlU Z (((w.setCell ⟨b, 0, none⟩ u0).setCell ⟨b, 1, none⟩ u1).setCell ⟨b, 2, none⟩ u2) v xs := by
  have hfo : Off (fun i => i = b) w (((w.setCell ⟨b, 0, none⟩ u0).setCell ⟨b, 1, none⟩ u1).setCell ⟨b, 2, none⟩ u2) :=
    (((Off.refl (fun i => i = b) w).setCell (p := ⟨b, 0, none⟩) (.inr rfl) _).setCell (p := ⟨b, 1, none⟩) (.inr rfl) _).setCell (p := ⟨b, 2, none⟩) (.inr rfl) _
  exact h.off hfo fun i hi e => hz i hi e

set_option maxHeartbeats 4000000 in
set_option maxRecDepth 100000 in
theorem prefForm_any (Z : Nat → Prop) (r : Rf) (w : World) (hr : r.wf) (hzn : ∀ i, w.heap.size ≤ i → Z i) (ht : HasTab w) :
    Calls Tryz.prog 139 #[rfV r] w fun e w' => ∃ v, e = .returned v ∧ IsV Z w' v (rfT r) ∧ Below w.heap.size w w' := by
  obtain ⟨x, y⟩ := r
  have hnx : ∀ wz, Below w.heap.size w wz → Calls Tryz.prog 138 #[.int .i64 x] wz fun e w' => e = .returned (fv false (tx (itoa x)) (.slice none 0 0)) ∧ Below wz.heap.size wz w' := fun wz hz => num_any x wz hr.1.1 hr.1.2 (ht.below hz)
  have hny : ∀ wz, Below w.heap.size w wz → Calls Tryz.prog 138 #[.int .i64 y] wz fun e w' => e = .returned (fv false (tx (itoa y)) (.slice none 0 0)) ∧ Below wz.heap.size wz w' := fun wz hz => num_any y wz hr.2.1 hr.2.2 (ht.below hz)
  have hli : ∀ wz : World, w.heap.size + 1 < wz.heap.size → Calls Tryz.prog 137 #[.slice (some ⟨wz.heap.size, 0, none⟩) 2 2] (wz.alloc (.cells #[.bool false, .string (tx (itoa x)), .slice none 0 0, .bool false, .string (tx (itoa y)), .slice none 0 0] 122)) (ListZ (fun i => Z i ∧ i ≠ w.heap.size + 1) [nuT x, nuT y] (wz.alloc (.cells #[.bool false, .string (tx (itoa x)), .slice none 0 0, .bool false, .string (tx (itoa y)), .slice none 0 0] 122))) := fun wz hz => by
    exact list_any (fun i => Z i ∧ i ≠ w.heap.size + 1) _ [nuT x, nuT y] _ (lit_sl (es := [(false, tx (itoa x), [], .slice none 0 0), (false, tx (itoa y), [], .slice none 0 0)]) (fun i => Z i ∧ i ≠ w.heap.size + 1) wz 2 ⟨hzn _ (by omega), by omega⟩ rfl (by simp) (by
      intro p hp
      simp only [List.mem_cons, List.not_mem_nil, or_false] at hp
      rcases hp with rfl | rfl
      · exact ⟨itoa_size _ hr.1.1 hr.1.2, .nil none 0 (Nat.zero_le _)⟩
      · exact ⟨itoa_size _ hr.2.1 hr.2.2, .nil none 0 (Nat.zero_le _)⟩) _) (fun i hi => by
        have e1 : (wz.alloc (.cells #[.bool false, .string (tx (itoa x)), .slice none 0 0, .bool false, .string (tx (itoa y)), .slice none 0 0] 122)).heap.size = wz.heap.size + 1 := by simp
        rw [e1] at hi
        exact ⟨hzn i (by omega), by omega⟩) (by simp)
  have HX := Lib.hid hnx
  have HY := Lib.hid hny
  have HL := Lib.hid hli
  clear hnx hny hli
  go_enter Tryz.func139, Tryz.ntmps139
  go_wp2_with fail
  go_region_held3 (fun W => (W.cell? ⟨w.heap.size, 0, none⟩ = some (.int .i64 x) ∧ W.cell? ⟨w.heap.size, 1, none⟩ = some (.int .i64 y)) ∧ Below w.heap.size w W ∧ (w.heap.size + 1 < W.heap.size ∧ W.cell? ⟨w.heap.size + 1, 0, none⟩ = some (cellAt W ⟨w.heap.size + 1, 0, none⟩) ∧ W.cell? ⟨w.heap.size + 1, 1, none⟩ = some (cellAt W ⟨w.heap.size + 1, 1, none⟩) ∧ W.cell? ⟨w.heap.size + 1, 2, none⟩ = some (cellAt W ⟨w.heap.size + 1, 2, none⟩) ∧ W.frozen? ⟨w.heap.size + 1, 0, none⟩ = false ∧ W.frozen? ⟨w.heap.size + 1, 1, none⟩ = false ∧ W.frozen? ⟨w.heap.size + 1, 2, none⟩ = false)) (first | exact rf_call hb3 (by assumption) | exact rf_alloc _ (by assumption) | exact rf_start _ _ _ | exact rf_set (by assumption) _ _ _) (first | (go_at_call 138; refine (HX.out _ (And.left (And.right (by assumption)))).mono ?_; rintro e w3 ⟨rfl, hb3⟩) | (go_at_call 138; have hs2 := And.left (And.right (And.right (by assumption))); refine (HY.out _ (And.left (And.right (by assumption)))).mono ?_; rintro e w3 ⟨rfl, hb3⟩; have hsz3 : w.heap.size + 1 < w3.heap.size := Nat.lt_of_lt_of_le hs2 hb3.size; clear hs2) | (go_at_call 137; have hs3 : RfS w x y _ := (by assumption); refine (HL.out _ hsz3).mono ?_; rintro e w4 ⟨la, ln, lc, rfl, hln, hb3, hlz⟩; obtain rfl : ln = 2 := hln; have hs4 := rf_call hb3 hs3))
  rename_i hHeld
  have HKB := Lib.hid hHeld.2.1
  obtain ⟨z0, z1, z2⟩ := end3 (of_cellAt hs4.2.2.2.1) (of_cellAt hs4.2.2.2.2.1) (of_cellAt hs4.2.2.2.2.2.1) (.bool true) (.string noText) (.slice la 2 lc)
  have HZ1 := Lib.hid (end3_sl hlz (fun i hi => hi.2) (.bool true) (.string noText) (.slice la 2 lc))
  clear hHeld hs3 hs4 hlz hb3
  go_wp2_with fail
  refine bodyPost_ret (v := fv true noText (.slice la 2 lc)) (by simp [results, Tryz.results139, go_sem, z0, z1, z2]) rfl ⟨_, rfl, ⟨true, noText, [nuT x, nuT y], la, 2, lc, rfl, rfl, rfl, by decide, HZ1.out.mono fun i _ hi => hi.1⟩, HKB.out⟩
end Go.Proofs.YtojnagonhihknaaGreatDoor
set_option linter.unusedVariables false
namespace Go.Proofs.YtojnagonhihknaaGreatDoor
open Go.ChangeShapes Go.WideShapes Go.ChangeAt Go.RowKit
open Go.Lib (itoa)

theorem make_forms (n : Nat) (hn : n ≤ 1000000) (w : World) : ∃ o : Obj, (Instr.makeSlice 120 (.int .i64 0) (.int .i64 (n : Nat))).run Tryz.prog w = .ok (.slice (some ⟨w.heap.size, 0, none⟩) 0 n) (w.alloc o) ∧ ∀ B, B ≤ w.heap.size → MadeU B (w.alloc o) (.slice (some ⟨w.heap.size, 0, none⟩) 0 n) [] := by
  obtain ⟨i, hi, hzz⟩ := Option.map_eq_some_iff.1 Tryz.infoForm
  simp only [Prod.mk.injEq] at hzz
  obtain ⟨hz, hsz, hby⟩ := hzz
  have hr := run_make (P := Tryz.prog) w 120 122 i _ Tryz.underlying120 hi hz .i64 .i64 0 n (Int.le_refl _) (by omega) (by rw [hby]; omega) (by omega)
  simp only [Int.toNat_natCast, hsz, Int.toNat_zero] at hr
  refine ⟨_, hr, fun B hB => ⟨?_, by simp⟩⟩
  refine row_new (fr := (0, 0)) hB (by simp [fcells]) (Nat.zero_le _) (by unfold maxLen; omega) ?_ (.inl rfl) (fun j u hu => by simp [fcells] at hu)
  simp [madeCells, Value.cells]

set_option maxHeartbeats 4000000 in
set_option maxRecDepth 100000 in
theorem ptextsForm_any (Z : Nat → Prop) (xs : Lb) (v : Value) (w : World) (hr : Reads w v xs) (hn : xs.length ≤ 1000) (hs : ∀ x ∈ xs, x.size ≤ 140737488355328) (hzn : ∀ i, w.heap.size ≤ i → Z i) :
    Calls Tryz.prog 140 #[v] w fun e w' => ∃ v, e = .returned v ∧ IsV Z w' v (tsT xs) ∧ Below w.heap.size w w' := by
  obtain ⟨a, c, rfl, hn'⟩ := hr.form
  obtain ⟨n, hnn⟩ : ∃ n, n = xs.length := ⟨_, rfl⟩
  obtain ⟨o, hmk, hmade⟩ := make_forms n (by omega) (w.alloc (.cells #[.bool false, .string ⟨#[]⟩, .slice none 0 0] 122))
  rw [← hnn] at hr hn hn' ⊢
  have HN := Lib.hid hnn
  have HR := Lib.hid hr
  have HS := Lib.hid hs
  have HMK := Lib.hid (hmade (w.heap.size + 1) (by simp))
  have HZN := Lib.hid hzn
  clear hnn hr hs hmade hzn
  go_enter Tryz.func140, Tryz.ntmps140
  go_wp2_with fail
  go_loopw [3, 11] (fun v i wr => ∃ (k : Nat) (es : List FE), k ≤ n ∧ i = .int .i64 (k : Nat) ∧ Hid (es.length = k) ∧ Hid (es.map FE.tm = (xs.take k).map txT) ∧ Hid (MadeU (w.heap.size + 1) wr v es) ∧ Hid (Below (w.heap.size + 1) (w.alloc (.cells #[.bool false, .string ⟨#[]⟩, .slice none 0 0] 122)) wr)) (fun _ i _ => n - (intOf i).toNat)
  case atStart =>
    refine ⟨0, [], Nat.zero_le _, rfl, Lib.hid rfl, Lib.hid (by simp), Lib.hid ?_, Lib.hid ((Below.refl _ _).alloc (by simp) _)⟩
    have := HMK.out
    simpa using this
  case round =>
    obtain ⟨k, es, hk, rfl, HEL, HMP, HMD, HBL⟩ := hrel
    obtain ⟨va, vc, hv, _, _⟩ := HMD.out.row.form'
    rw [HEL.out] at hv
    subst hv
    have hbw : Below w.heap.size w wr := ((Below.refl _ _).alloc (Nat.le_refl _) _).trans (HBL.out.mono (Nat.le_succ _))
    have hszr : w.heap.size + 1 ≤ wr.heap.size := by have := HBL.out.size; simp at this; omega
    have HBW := Lib.hid hbw
    clear hbw
    by_cases hlt : k < n
    · obtain ⟨x, hx⟩ : ∃ x, xs[k]? = some x := ⟨xs[k]'(by rw [← HN.out]; exact hlt), by simp⟩
      obtain ⟨b, o', rfl, hnl, hcl⟩ := HR.out.at hx
      clear hnl
      have hcell := ((hcl.below HBW.out).2 k x hx)
      have HX := Lib.hid hx
      clear hx hcl
      go_wp2_with (first
        | (go_at_call 141; refine (text_any _ _).mono ?_; rintro e w2 ⟨rfl, hb2⟩; have HB2 := Lib.hid hb2; clear hb2)
        | (at_builtin; refine wpList_append_row rfl (.tmp 15) (.tmp 18) 120 120 rfl 3 122 (.agg #[.bool false, .string ByteArray.empty, .slice none 0 0]) 48 Tryz.underlying120 Tryz.infoForm rfl (w.heap.size + 1) (.slice va k vc) k (fcells es) (by simp [Act.eval]) (by have := ((HMD.out.row.below HB2.out).alloc (.cells #[.bool false, .string x, .slice none 0 0] 122)); rw [HEL.out] at this; exact this) (.slice (some ⟨w2.heap.size, 0, none⟩) 1 1) (by simp [Act.eval]) 1 [.bool false, .string x, .slice none 0 0] (by exact src_new Tryz.underlying120 _ _ _ _ rfl (by intro u hu; simp only [List.mem_cons, List.not_mem_nil, or_false] at hu; rcases hu with rfl | rfl | rfl <;> rfl)) (by have := HB2.out.size; simp; omega) (by omega) (by decide) ?_; intro v6 w6 hr6 ho6 hw6; obtain ⟨a6, c6, hv6⟩ := hr6.form; subst hv6; have HR6 := Lib.hid hr6; have HO6 := Lib.hid ho6; have HW6 := Lib.hid hw6; clear hr6 ho6 hw6))
      have hmd2 := (HMD.out.below HB2.out).below ((Below.refl _ w2).alloc (Nat.le_refl _) (.cells #[.bool false, .string x, .slice none 0 0] 122))
      have hpush := hmd2.push (l := false) (t := x) (ys := []) (s := .slice none 0 0) (.nil none 0 (Nat.zero_le _)) (HS.out x (List.mem_of_getElem? HX.out)) (by rw [HEL.out]; exact HR6.out) HO6.out HW6.out
      have hbl6 : Below (w.heap.size + 1) (w.alloc (.cells #[.bool false, .string ⟨#[]⟩, .slice none 0 0] 122)) w6 := by
        refine ((HBL.out.trans (HB2.out.mono hszr)).alloc (by have := HB2.out.size; omega) (.cells #[.bool false, .string x, .slice none 0 0] 122)).trans (HO6.out.below (fun i hi => (HMD.out.row.lt i hi).1) (by have := HB2.out.size; simp; omega))
      exact ⟨⟨k + 1, es ++ [(false, x, [], .slice none 0 0)], by omega, by go_num, Lib.hid (by rw [List.length_append, HEL.out]; rfl), Lib.hid (by rw [List.map_append, HMP.out, take_snoc HX.out, List.map_append]; rfl), Lib.hid hpush, Lib.hid hbl6⟩, by simp [intOf]; omega⟩
    · have hke : n ≤ k := by omega
      have hsl : SlU (fun i => Z i ∧ i ≠ w.heap.size) wr (.slice va k vc) (xs.map txT) := by
        have := HMD.out.sl (Z := fun i => Z i ∧ i ≠ w.heap.size) (fun i hi => ⟨HZN.out i (by omega), by omega⟩)
        rw [HMP.out, List.take_of_length_le (by rw [← HN.out]; exact hke)] at this
        exact this
      have hli := list_any (fun i => Z i ∧ i ≠ w.heap.size) _ (xs.map txT) wr hsl (fun i hi => ⟨HZN.out i (by omega), by omega⟩) (by rw [List.length_map, ← HN.out]; omega)
      have HLI := Lib.hid hli
      clear hsl hli
      go_wp2_with fail
      refine HLI.out.mono ?_
      rintro e w3 ⟨la, ln, lc, rfl, hln, hb3, hlz⟩
      obtain ⟨z1, z2, z3, -⟩ := box3 (box_step HBL.out hb3)
      have f1 : ∀ j, w3.frozen? ⟨w.heap.size, j, none⟩ = false := fun j => by
        have hb := HBL.out.trans (hb3.mono hszr)
        exact (hb.frozen (p := ⟨w.heap.size, j, none⟩) (Nat.lt_succ_self _)).trans (World.frozen?_alloc_at _ _ _ _ rfl)
      have f10 := f1 0
      have f11 := f1 1
      have f12 := f1 2
      have hsz3 : w.heap.size < w3.heap.size := by have := hb3.size; omega
      obtain ⟨y0, y1, y2⟩ := end3 (of_cellAt z1) (of_cellAt z2) (of_cellAt z3) (.bool true) (.string noText) (.slice la ln lc)
      have HZ1 := Lib.hid (end3_sl hlz (fun i hi => hi.2) (.bool true) (.string noText) (.slice la ln lc))
      have HBE := Lib.hid ((((HBW.out.trans (hb3.mono HBW.out.size)).setCell (p := ⟨w.heap.size, 0, none⟩) (Nat.le_refl _) (.bool true)).setCell (p := ⟨w.heap.size, 1, none⟩) (Nat.le_refl _) (.string noText)).setCell (p := ⟨w.heap.size, 2, none⟩) (Nat.le_refl _) (.slice la ln lc))
      have HLN := Lib.hid hln
      clear hb3 hlz f1 hln
      go_wp2_with fail
      refine bodyPost_ret (v := fv true noText (.slice la ln lc)) (by simp [results, Tryz.results140, go_sem, y0, y1, y2]) rfl ⟨_, rfl, ⟨true, noText, xs.map txT, la, ln, lc, rfl, HLN.out, rfl, by decide, HZ1.out.mono fun i _ hi => hi.1⟩, HBE.out⟩
end Go.Proofs.YtojnagonhihknaaGreatDoor
set_option linter.unusedVariables false
namespace Go.Proofs.YtojnagonhihknaaGreatDoor
open Go.ChangeShapes Go.WideShapes Go.ChangeAt Go.RowKit Go.WideMaps Go.Maps

abbrev BtwS (w : World) (h : Nat) (nm t : ByteArray) (dv ov : Value) (x y u v : Int) (W : World) : Prop :=
  (W.cell? ⟨h, 0, none⟩ = some (.string nm) ∧ W.cell? ⟨h, 1, none⟩ = some (.string t) ∧ W.cell? ⟨h, 2, none⟩ = some dv ∧ W.cell? ⟨h, 3, none⟩ = some ov) ∧ (W.cell? ⟨h + 1, 1, none⟩ = some (.int .i64 x) ∧ W.cell? ⟨h + 1, 2, none⟩ = some (.int .i64 y) ∧ W.cell? ⟨h + 1, 3, none⟩ = some (.int .i64 u) ∧ W.cell? ⟨h + 1, 4, none⟩ = some (.int .i64 v)) ∧ (W.cell? ⟨h + 1 + 1, 0, none⟩ = some (cellAt W ⟨h + 1 + 1, 0, none⟩) ∧ W.cell? ⟨h + 1 + 1, 1, none⟩ = some (cellAt W ⟨h + 1 + 1, 1, none⟩)) ∧ (W.frozen? ⟨h + 1 + 1, 0, none⟩ = false ∧ W.frozen? ⟨h + 1 + 1, 1, none⟩ = false) ∧ h + 1 + 1 < W.heap.size ∧ Below h w W
theorem btw_call {w W W2 : World} {h : Nat} {nm t : ByteArray} {dv ov : Value} {x y u v : Int} (ho : Below W.heap.size W W2) (hs : BtwS w h nm t dv ov x y u v W) : BtwS w h nm t dv ov x y u v W2 := by
  obtain ⟨⟨a1, a2, a3, a4⟩, ⟨b1, b2, b3, b4⟩, ⟨d1, d2⟩, ⟨f1, f2⟩, hl, hB⟩ := hs
  have c : ∀ q i, q < W.heap.size → W2.cell? ⟨q, i, none⟩ = W.cell? ⟨q, i, none⟩ := fun q i hq => ho.cell (p := ⟨q, i, none⟩) hq
  have f : ∀ q i, q < W.heap.size → W2.frozen? ⟨q, i, none⟩ = W.frozen? ⟨q, i, none⟩ := fun q i hq => ho.frozen (p := ⟨q, i, none⟩) hq
  refine ⟨⟨?_, ?_, ?_, ?_⟩, ⟨?_, ?_, ?_, ?_⟩, ⟨cellAt_of ?_, cellAt_of ?_⟩, ⟨?_, ?_⟩, Nat.lt_of_lt_of_le hl ho.size, hB.trans (ho.mono (by omega))⟩
  all_goals first | rw [c _ _ (by omega)] | rw [f _ _ (by omega)]
  all_goals first | assumption | exact of_cellAt (by assumption)
theorem btw_set {w W : World} {h : Nat} {nm t : ByteArray} {dv ov : Value} {x y u v : Int} (hs : BtwS w h nm t dv ov x y u v W) (u0 u1 : Value) : BtwS w h nm t dv ov x y u v ((W.setCell ⟨h + 1 + 1, 0, none⟩ u0).setCell ⟨h + 1 + 1, 1, none⟩ u1) := by
  obtain ⟨⟨a1, a2, a3, a4⟩, ⟨b1, b2, b3, b4⟩, ⟨d1, d2⟩, ⟨f1, f2⟩, hl, hB⟩ := hs
  have hne : ∀ q j i, q < h + 1 + 1 → (⟨q, j, none⟩ : Addr) ≠ ⟨h + 1 + 1, i, none⟩ := fun q j i hq e => by injection e with e; omega
  refine ⟨⟨?_, ?_, ?_, ?_⟩, ⟨?_, ?_, ?_, ?_⟩, ⟨cellAt_of (cellAt_set (cellAt_set (of_cellAt d1))), cellAt_of (cellAt_set (cellAt_set (of_cellAt d2)))⟩, ⟨by rw [World.frozen?_setCell, World.frozen?_setCell]; exact f1, by rw [World.frozen?_setCell, World.frozen?_setCell]; exact f2⟩, by simpa [World.setCell] using hl, (hB.setCell (p := ⟨h + 1 + 1, 0, none⟩) (by show h ≤ h + 1 + 1; omega) _).setCell (p := ⟨h + 1 + 1, 1, none⟩) (by show h ≤ h + 1 + 1; omega) _⟩
  all_goals (rw [World.cell?_setCell_other _ _ _ _ (hne _ _ _ (by omega)).symm, World.cell?_setCell_other _ _ _ _ (hne _ _ _ (by omega)).symm]; assumption)
theorem btw_end {w : World} {b : Nat} (h0 : (w.cell? ⟨b, 0, none⟩).isSome = true) (h1 : (w.cell? ⟨b, 1, none⟩).isSome = true) (u0 u1 : Value) : ((w.setCell ⟨b, 0, none⟩ u0).setCell ⟨b, 1, none⟩ u1).cell? ⟨b, 0, none⟩ = some u0 ∧ ((w.setCell ⟨b, 0, none⟩ u0).setCell ⟨b, 1, none⟩ u1).cell? ⟨b, 1, none⟩ = some u1 := by
  refine ⟨?_, World.cell?_setCell_same _ _ _ (cellAt_of (cellAt_set h1))⟩
  rw [World.cell?_setCell_other _ _ _ _ (by simp)]
  exact World.cell?_setCell_same _ _ _ (cellAt_of h0)
set_option maxHeartbeats 4000000 in
set_option maxRecDepth 100000 in
theorem gbetween_any {ks : Lb} {f m : ByteArray → Int} {sb mb : Nat} (nm t : ByteArray) (deps : Lb) (dv ov : Value) (z : Opp) (la : Option Addr) (ln lc : Nat) (w : World) (hc : w.cell? ⟨sb, 0, none⟩ = some (.map (some mb))) (hl : sb < w.heap.size) (hM : MLot w mb ks f m) (hd : Reads w dv deps) (ha : RefG ks f nm deps z.a) (hb : RefG ks f nm deps z.b) :
    Calls Tryz.prog 57 #[.pointer (some ⟨sb, 0, none⟩), npV nm t dv ov, opV z (.slice la ln lc)] w fun e w' => e = .returned (.agg #[.int .i64 (plG f nm deps z.a), .int .i64 (plG f nm deps z.b)]) ∧ Below w.heap.size w w' := by
  have c1 : ∀ (r : Rf), RefG ks f nm deps r → ∀ wz, Below w.heap.size w wz → Calls Tryz.prog 58 #[.pointer (some ⟨sb, 0, none⟩), npV nm t dv ov, rfV r] wz fun e w' => e = .returned (.int .i64 (plG f nm deps r)) ∧ Below wz.heap.size wz w' := fun r hr wz hz =>
    gplace_any nm t deps dv ov r wz ((hz.cell (p := ⟨sb, 0, none⟩) hl).trans hc) (Nat.lt_of_lt_of_le hl hz.size) (hM.below hz) (hd.below hz) hr
  have ca := c1 z.a ha
  have cb := c1 z.b hb
  obtain ⟨da, dc, hdv, _⟩ := hd.form
  obtain ⟨dn, hdn⟩ : ∃ n, n = deps.length := ⟨_, rfl⟩
  obtain ⟨p, hp⟩ : ∃ p, p = plG f nm deps z.a := ⟨_, rfl⟩
  obtain ⟨q, hq⟩ : ∃ q, q = plG f nm deps z.b := ⟨_, rfl⟩
  rw [← hp] at ca ⊢
  rw [← hq] at cb ⊢
  clear hp hq ha hb c1 hM hc hd
  rw [← hdn] at hdv
  obtain ⟨K, ⟨x, y⟩, ⟨u, v⟩, ls⟩ := z
  subst hdv
  clear hdn
  have hst0 : BtwS w w.heap.size nm t (.slice da dn dc) ov x y u v (((w.alloc (.cells #[.string nm, .string t, .slice da dn dc, ov] 49)).alloc (.cells #[.int .i64 K, .int .i64 x, .int .i64 y, .int .i64 u, .int .i64 v, .slice la ln lc] 59)).alloc (.cells #[.int .i64 0, .int .i64 0] 54)).drew := by
    obtain ⟨q1, q2, q3, qb, qs⟩ := boxA3 (Below.refl _ (((w.alloc (.cells #[.string nm, .string t, .slice da dn dc, ov] 49)).alloc (.cells #[.int .i64 K, .int .i64 x, .int .i64 y, .int .i64 u, .int .i64 v, .slice la ln lc] 59)).alloc (.cells #[.int .i64 0, .int .i64 0] 54)))
    refine ⟨⟨q1 0, q1 1, q1 2, q1 3⟩, ⟨q2 1, q2 2, q2 3, q2 4⟩, ⟨cellAt_of ((congrArg Option.isSome (q3 0)).trans rfl), cellAt_of ((congrArg Option.isSome (q3 1)).trans rfl)⟩, ⟨?_, ?_⟩, by simp, qb.drew⟩ <;>
    exact World.frozen?_alloc_at _ _ _ _ (by simp)
  have HST := Lib.hid hst0
  have CA := Lib.hid ca
  have CB := Lib.hid cb
  clear hst0 ca cb
  go_enter Tryz.func57, Tryz.ntmps57
  go_wp2_with fail
  go_region_held3 (fun W => (W.cell? ⟨w.heap.size, 0, none⟩ = some (.string nm) ∧ W.cell? ⟨w.heap.size, 1, none⟩ = some (.string t) ∧ W.cell? ⟨w.heap.size, 2, none⟩ = some (.slice da dn dc) ∧ W.cell? ⟨w.heap.size, 3, none⟩ = some ov) ∧ (W.cell? ⟨w.heap.size + 1, 1, none⟩ = some (.int .i64 x) ∧ W.cell? ⟨w.heap.size + 1, 2, none⟩ = some (.int .i64 y) ∧ W.cell? ⟨w.heap.size + 1, 3, none⟩ = some (.int .i64 u) ∧ W.cell? ⟨w.heap.size + 1, 4, none⟩ = some (.int .i64 v)) ∧ (W.cell? ⟨w.heap.size + 1 + 1, 0, none⟩ = some (cellAt W ⟨w.heap.size + 1 + 1, 0, none⟩) ∧ W.cell? ⟨w.heap.size + 1 + 1, 1, none⟩ = some (cellAt W ⟨w.heap.size + 1 + 1, 1, none⟩)) ∧ (W.frozen? ⟨w.heap.size + 1 + 1, 0, none⟩ = false ∧ W.frozen? ⟨w.heap.size + 1 + 1, 1, none⟩ = false) ∧ w.heap.size + 1 + 1 < W.heap.size ∧ Below w.heap.size w W)
      (first | with_reducible exact btw_set hq3 _ _ | with_reducible exact hq3 | with_reducible exact hq2 | with_reducible exact HST.out)
      (first
        | (go_at_call 58; have hq : BtwS w w.heap.size nm t (.slice da dn dc) ov x y u v _ := (by assumption); (with_reducible refine (CA.out _ hq.2.2.2.2.2).mono ?_); rintro e w2 ⟨rfl, hb2⟩; have hq2 := btw_call hb2 hq; clear hq)
        | (go_at_call 58; have hq : BtwS w w.heap.size nm t (.slice da dn dc) ov x y u v _ := (by assumption); (with_reducible refine (CB.out _ hq.2.2.2.2.2).mono ?_); rintro e w3 ⟨rfl, hb3⟩; have hq3 := btw_call hb3 hq; clear hq))
  rename_i hHeld
  clear hHeld
  obtain ⟨z0, z1⟩ := btw_end (of_cellAt hq3.2.2.1.1) (of_cellAt hq3.2.2.1.2) (.int .i64 p) (.int .i64 q)
  have HFIN := Lib.hid (btw_set hq3 (.int .i64 p) (.int .i64 q)).2.2.2.2.2
  clear hq3 hq2 hb2 hb3
  go_wp2_with fail
  exact bodyPost_ret (v := .agg #[.int .i64 p, .int .i64 q]) (by simp [results, Tryz.results57, go_sem, z0, z1]) rfl ⟨rfl, HFIN.out⟩
end Go.Proofs.YtojnagonhihknaaGreatDoor
