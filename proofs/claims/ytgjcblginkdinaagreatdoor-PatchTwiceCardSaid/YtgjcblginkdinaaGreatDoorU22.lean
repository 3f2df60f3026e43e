/- The contracts of List, refForm, textsForm and form. The contract of textsForm. -/
import Derived.Deep.RegionHeld3
import Derived.Deep.DrawnRows
import Derived.Lib.ItoaLen
import Derived.Test.YtgjcblginkdinaaGreatDoorU14
import Derived.Test.YtgjcblginkdinaaGreatDoorU19
import Derived.Test.YtgjcblginkdinaaGreatDoorU21
set_option linter.unusedVariables false
namespace Go.Proofs.YtgjcblginkdinaaGreatDoor
open Go.ChangeShapes Go.WideShapes Go.ChangeAt Go.RowKit
open Go.Lib (itoa)

attribute [local go_sem ↓] Go.wp_at_zero Go.wp_at_succ

def ListZ (Z : Nat → Prop) (xs : List Tm) (w : World) (e : Ending) (w' : World) : Prop :=
  ∃ a n c, e = .returned (fv true noText (.slice a n c)) ∧ n = xs.length ∧ Below w.heap.size w w' ∧ SlU Z w' (.slice a n c) xs

set_option maxHeartbeats 1000000 in
set_option maxRecDepth 100000 in
theorem list_any (Z : Nat → Prop) (lv : Value) (xs : List Tm) (w : World) (hsl : SlU Z w lv xs) (hzn : ∀ i, w.heap.size ≤ i → Z i) (hn : xs.length ≤ 65536) :
    Calls Tryz.prog 61 #[lv] w (ListZ Z xs w) := by
  obtain ⟨a0, c0, rfl, _, _⟩ := hsl.form
  obtain ⟨n, hnn⟩ : ∃ n, n = xs.length := ⟨_, rfl⟩
  obtain ⟨W, hW⟩ : ∃ W, W = (w.alloc (.cells #[.bool false, .string ⟨#[]⟩, .slice none 0 0] 61)).alloc (.cells #[.int .i64 65536] 3) := ⟨_, rfl⟩
  have eW : W.heap.size = w.heap.size + 2 := by rw [hW]; simp
  have hc1 : W.cell? ⟨w.heap.size + 1, 0, none⟩ = some (.int .i64 ((65536 : Nat) : Int)) := by rw [hW]; exact (World.cell?_alloc_at _ _ _ _ (by simp)).trans rfl
  have hf1 : W.frozen? ⟨w.heap.size + 1, 0, none⟩ = false := by rw [hW]; exact World.frozen?_alloc_at _ _ _ _ (by simp)
  have hs1 : SlU (fun i => Z i ∧ i ≠ w.heap.size ∧ i ≠ w.heap.size + 1) W (.slice a0 xs.length c0) xs := by
    rw [hW]
    exact ((hsl.mono (Z' := fun i => Z i ∧ i ≠ w.heap.size ∧ i ≠ w.heap.size + 1) (fun i hi hz => ⟨hz, by omega, by omega⟩)).alloc _).alloc _
  have hown := own_any 7 1 (by omega)
  unfold OwnC at hown
  have hc := hown (fun i => Z i ∧ i ≠ w.heap.size ∧ i ≠ w.heap.size + 1) (w.heap.size + 1) W a0 c0 xs 65536 hs1 (fun i hi => by
    rw [eW] at hi
    exact ⟨hzn i (by omega), by omega, by omega⟩) (fun h => h.2.2 rfl) hc1 hf1 hn (Nat.le_refl _)
  clear hown hc1 hf1 hs1 eW
  rw [hW, ← hnn] at hc
  clear hW
  rw [← hnn] at hsl hn ⊢
  have HC := Lib.hid hc
  have HN := Lib.hid hnn
  clear hc hsl hnn
  go_enter Tryz.func61, Tryz.ntmps61
  go_wp2_with fail
  refine HC.out.mono ?_
  rintro e w3 h3
  unfold OwnZ at h3
  obtain ⟨v, es', rfl, hmap, hmd, hoff, hlx, hfx⟩ := h3
  clear hlx hfx
  obtain ⟨⟨z1, z2, z3⟩, zf, zl, zb⟩ := two_off hoff
  have zf0 := zf 0
  have zf1 := zf 1
  have zf2 := zf 2
  have zl2 : w.heap.size < w3.heap.size := by omega
  have hsl := hmd.sl
  rw [hmap] at hsl
  obtain ⟨a, c, hv, hle, hcm⟩ := hsl.form
  rw [← HN.out] at hv
  subst hv
  have HZB := Lib.hid zb
  have HSL := Lib.hid hsl
  clear hmap hmd hoff zf zb hsl hle hcm
  go_wp2_with fail
  refine bodyPost_ret (v := fv true noText (.slice a n c)) (by simp [results, Tryz.results61, go_sem, z1, z2, z3]) rfl ⟨a, n, c, rfl, HN.out, set3_below HZB.out _ _ _, ?_⟩
  have hfo : Off (fun i => i = w.heap.size) w3 (((w3.setCell ⟨w.heap.size, 0, none⟩ (.bool true)).setCell ⟨w.heap.size, 1, none⟩ (.string ⟨#[]⟩)).setCell ⟨w.heap.size, 2, none⟩ (.slice a n c)) :=
    (((Off.refl (fun i => i = w.heap.size) w3).setCell (p := ⟨w.heap.size, 0, none⟩) (.inr rfl) _).setCell (p := ⟨w.heap.size, 1, none⟩) (.inr rfl) _).setCell (p := ⟨w.heap.size, 2, none⟩) (.inr rfl) _
  exact (HSL.out.off hfo fun i hi e => hi.2.1 e).mono fun i _ hi => hi.1

def IsV (Z : Nat → Prop) (w : World) (v : Value) (T : Tm) : Prop := ∃ l t ys a n c, v = fv l t (.slice a n c) ∧ n = ys.length ∧ T = .mk l t ys ∧ t.size ≤ 140737488355328 ∧ SlU Z w (.slice a n c) ys
theorem IsV.keep {Z : Nat → Prop} {w w' : World} {v : Value} {T : Tm} (h : IsV Z w v T) (hb : Below w.heap.size w w') : IsV Z w' v T := by
  obtain ⟨l, t, ys, a, n, c, h1, h2, h3, h4, h5⟩ := h
  exact ⟨l, t, ys, a, n, c, h1, h2, h3, h4, h5.keep hb⟩

theorem itoa_size (n : Int) (h0 : -9223372036854775808 ≤ n) (h1 : n ≤ 9223372036854775807) : (tx (itoa n)).size ≤ 140737488355328 := by
  have := Lib.itoa_length_le n h0 h1
  show (itoa n).toArray.size ≤ _
  rw [List.size_toArray]; omega

theorem lit_sl {es : List FE} (Z : Nat → Prop) (w : World) (c : Nat) (hz : Z w.heap.size) (hc : c = es.length) (hm : es.length ≤ 1000) (hs : ∀ p ∈ es, p.2.1.size ≤ 140737488355328 ∧ SlU Z w p.2.2.2 p.2.2.1) (t : TypeId) :
    SlU Z (w.alloc (.cells (fcells es).toArray t)) (.slice (some ⟨w.heap.size, 0, none⟩) c c) (es.map FE.tm) := by
  subst hc
  by_cases e : es = []
  · subst e; exact .nil _ _ (Nat.zero_le _)
  · have hcell : ∀ j, (w.alloc (.cells (fcells es).toArray t)).cell? ⟨w.heap.size, j, none⟩ = (fcells es)[j]? := fun j => by
      rw [World.cell?_alloc_at _ _ _ _ rfl]; simp
    have := SlU.of_row (Z := Z) (w := w.alloc (.cells (fcells es).toArray t)) (b := w.heap.size) (o := 0) (c := es.length) (xs := es.map FE.tm) ⟨⟨hz, World.frozen?_alloc_at _ _ _ _ rfl⟩, by simp, fun j l t' ys hj => by
      rw [List.getElem?_map] at hj
      obtain ⟨p, hp, hpe⟩ := Option.map_eq_some_iff.1 hj
      obtain ⟨l', t'', ys', s'⟩ := p
      injection hpe with e1 e2 e3
      dsimp only at e1 e2 e3
      subst e1; subst e2; subst e3
      obtain ⟨c1, c2, c3⟩ := fcells_at hp
      obtain ⟨g1, g2⟩ := hs _ (List.mem_of_getElem? hp)
      have g3 := g2.alloc (.cells (fcells es).toArray t)
      obtain ⟨a', c', es', _, _⟩ := g3.form
      dsimp only at es'
      rw [Nat.zero_add, hcell, hcell, hcell]
      refine ⟨a', c', c1, c2, ?_, g1, ?_⟩
      · rw [← es']; exact c3
      · rw [← es']; exact g3⟩ (by simpa using e) (by rw [List.length_map]; exact Nat.le_refl _) (by unfold maxLen; omega)
    rw [List.length_map] at this
    exact this

def cellAt (w : World) (a : Addr) : Value := (w.cell? a).getD .nilIface
theorem cellAt_of {w : World} {a : Addr} (h : (w.cell? a).isSome = true) : w.cell? a = some (cellAt w a) := by
  unfold cellAt
  cases hc : w.cell? a with
  | none => rw [hc] at h; cases h
  | some v => rfl
theorem of_cellAt {w : World} {a : Addr} {v : Value} (h : w.cell? a = some v) : (w.cell? a).isSome = true := by rw [h]; rfl
theorem cellAt_set {w : World} {b o : Nat} {u : Value} {x : Addr} (h : (w.cell? x).isSome = true) : ((w.setCell ⟨b, o, none⟩ u).cell? x).isSome = true := World.isSome_setCells b [u] o w x h

def RfS (w : World) (x y : Int) (W : World) : Prop := (W.cell? ⟨w.heap.size, 0, none⟩ = some (.int .i64 x) ∧ W.cell? ⟨w.heap.size, 1, none⟩ = some (.int .i64 y)) ∧ Below w.heap.size w W ∧ (w.heap.size + 1 < W.heap.size ∧ W.cell? ⟨w.heap.size + 1, 0, none⟩ = some (cellAt W ⟨w.heap.size + 1, 0, none⟩) ∧ W.cell? ⟨w.heap.size + 1, 1, none⟩ = some (cellAt W ⟨w.heap.size + 1, 1, none⟩) ∧ W.cell? ⟨w.heap.size + 1, 2, none⟩ = some (cellAt W ⟨w.heap.size + 1, 2, none⟩) ∧ W.frozen? ⟨w.heap.size + 1, 0, none⟩ = false ∧ W.frozen? ⟨w.heap.size + 1, 1, none⟩ = false ∧ W.frozen? ⟨w.heap.size + 1, 2, none⟩ = false)
theorem rf_call {w W W2 : World} {x y : Int} (hb : Below W.heap.size W W2) (h : RfS w x y W) : RfS w x y W2 := by
  obtain ⟨⟨h1, h2⟩, h3, h4, h5, h6, h7, h8, h9, h10⟩ := h
  have c0 : ∀ j, W2.cell? ⟨w.heap.size, j, none⟩ = W.cell? ⟨w.heap.size, j, none⟩ := fun j => hb.cell (p := ⟨w.heap.size, j, none⟩) (by show w.heap.size < _; omega)
  have c1 : ∀ j, W2.cell? ⟨w.heap.size + 1, j, none⟩ = W.cell? ⟨w.heap.size + 1, j, none⟩ := fun j => hb.cell (p := ⟨w.heap.size + 1, j, none⟩) h4
  have f1 : ∀ j, W2.frozen? ⟨w.heap.size + 1, j, none⟩ = W.frozen? ⟨w.heap.size + 1, j, none⟩ := fun j => hb.frozen (p := ⟨w.heap.size + 1, j, none⟩) h4
  exact ⟨⟨(c0 _).trans h1, (c0 _).trans h2⟩, h3.trans (hb.mono h3.size), Nat.lt_of_lt_of_le h4 hb.size, cellAt_of (by rw [c1]; exact of_cellAt h5), cellAt_of (by rw [c1]; exact of_cellAt h6), cellAt_of (by rw [c1]; exact of_cellAt h7), by rw [f1]; exact h8, by rw [f1]; exact h9, by rw [f1]; exact h10⟩
theorem rf_alloc {w W : World} {x y : Int} (o : Obj) (h : RfS w x y W) : RfS w x y (W.alloc o) := rf_call ((Below.refl _ _).alloc (Nat.le_refl _) _) h
theorem rf_start (w : World) (x y : Int) {t1 t2 : TypeId} {u1 u2 u3 : Value} : RfS w x y ((w.alloc (.cells #[.int .i64 x, .int .i64 y] t1)).alloc (.cells #[u1, u2, u3] t2)).drew := by
  obtain ⟨k1, k2, k3, k4⟩ := boxA2 (Below.refl _ ((w.alloc (.cells #[.int .i64 x, .int .i64 y] t1)).alloc (.cells #[u1, u2, u3] t2)))
  have f : ∀ j, ((w.alloc (.cells #[.int .i64 x, .int .i64 y] t1)).alloc (.cells #[u1, u2, u3] t2)).frozen? ⟨w.heap.size + 1, j, none⟩ = false := fun j => World.frozen?_alloc_at _ _ _ _ (by simp)
  exact ⟨⟨k1 0, k1 1⟩, k3.drew, k4, cellAt_of ((congrArg Option.isSome (k2 0)).trans rfl), cellAt_of ((congrArg Option.isSome (k2 1)).trans rfl), cellAt_of ((congrArg Option.isSome (k2 2)).trans rfl), f 0, f 1, f 2⟩
theorem rf_set {w W : World} {x y : Int} (h : RfS w x y W) (u0 u1 u2 : Value) : RfS w x y (((W.setCell ⟨w.heap.size + 1, 0, none⟩ u0).setCell ⟨w.heap.size + 1, 1, none⟩ u1).setCell ⟨w.heap.size + 1, 2, none⟩ u2) := by
  obtain ⟨⟨h1, h2⟩, h3, h4, h5, h6, h7, h8, h9, h10⟩ := h
  have hne : ∀ j i, (⟨w.heap.size, j, none⟩ : Addr) ≠ ⟨w.heap.size + 1, i, none⟩ := fun j i e => by injection e with e; omega
  refine ⟨⟨?_, ?_⟩, ((h3.setCell (p := ⟨w.heap.size + 1, 0, none⟩) (Nat.le_succ _) _).setCell (p := ⟨w.heap.size + 1, 1, none⟩) (Nat.le_succ _) _).setCell (p := ⟨w.heap.size + 1, 2, none⟩) (Nat.le_succ _) _, by simpa [World.setCell] using h4, ?_, ?_, ?_, ?_, ?_, ?_⟩
  all_goals first
    | (rw [World.frozen?_setCell, World.frozen?_setCell, World.frozen?_setCell]; assumption)
    | (exact cellAt_of (cellAt_set (cellAt_set (cellAt_set (of_cellAt (by assumption))))))
    | (rw [World.cell?_setCell_other _ _ _ _ (hne _ _).symm, World.cell?_setCell_other _ _ _ _ (hne _ _).symm, World.cell?_setCell_other _ _ _ _ (hne _ _).symm]; assumption)

theorem end3 {w : World} {b : Nat} (h0 : (w.cell? ⟨b, 0, none⟩).isSome = true) (h1 : (w.cell? ⟨b, 1, none⟩).isSome = true) (h2 : (w.cell? ⟨b, 2, none⟩).isSome = true) (u0 u1 u2 : Value) :
    (((w.setCell ⟨b, 0, none⟩ u0).setCell ⟨b, 1, none⟩ u1).setCell ⟨b, 2, none⟩ u2).cell? ⟨b, 0, none⟩ = some u0 ∧ (((w.setCell ⟨b, 0, none⟩ u0).setCell ⟨b, 1, none⟩ u1).setCell ⟨b, 2, none⟩ u2).cell? ⟨b, 1, none⟩ = some u1 ∧ (((w.setCell ⟨b, 0, none⟩ u0).setCell ⟨b, 1, none⟩ u1).setCell ⟨b, 2, none⟩ u2).cell? ⟨b, 2, none⟩ = some u2 := by
  refine ⟨?_, ?_, ?_⟩
  · rw [World.cell?_setCell_other _ _ _ _ (by simp), World.cell?_setCell_other _ _ _ _ (by simp)]
    exact World.cell?_setCell_same _ _ _ (cellAt_of h0)
  · rw [World.cell?_setCell_other _ _ _ _ (by simp)]
    exact World.cell?_setCell_same _ _ _ (cellAt_of (cellAt_set h1))
  · exact World.cell?_setCell_same _ _ _ (cellAt_of (cellAt_set (cellAt_set h2)))
theorem end3_sl {Z : Nat → Prop} {w : World} {v : Value} {xs : List Tm} {b : Nat} (h : SlU Z w v xs) (hz : ∀ i, Z i → i ≠ b) (u0 u1 u2 : Value) : SlU Z (((w.setCell ⟨b, 0, none⟩ u0).setCell ⟨b, 1, none⟩ u1).setCell ⟨b, 2, none⟩ u2) v xs := by
  have hfo : Off (fun i => i = b) w (((w.setCell ⟨b, 0, none⟩ u0).setCell ⟨b, 1, none⟩ u1).setCell ⟨b, 2, none⟩ u2) :=
    (((Off.refl (fun i => i = b) w).setCell (p := ⟨b, 0, none⟩) (.inr rfl) _).setCell (p := ⟨b, 1, none⟩) (.inr rfl) _).setCell (p := ⟨b, 2, none⟩) (.inr rfl) _
  exact h.off hfo fun i hi e => hz i hi e

set_option maxHeartbeats 4000000 in
set_option maxRecDepth 100000 in
theorem prefForm_any (Z : Nat → Prop) (r : Rf) (w : World) (hr : r.wf) (hzn : ∀ i, w.heap.size ≤ i → Z i) (ht : HasTab w) :
    Calls Tryz.prog 63 #[rfV r] w fun e w' => ∃ v, e = .returned v ∧ IsV Z w' v (rfT r) ∧ Below w.heap.size w w' := by
  obtain ⟨x, y⟩ := r
  have hnx : ∀ wz, Below w.heap.size w wz → Calls Tryz.prog 62 #[.int .i64 x] wz fun e w' => e = .returned (fv false (tx (itoa x)) (.slice none 0 0)) ∧ Below wz.heap.size wz w' := fun wz hz => num_any x wz hr.1.1 hr.1.2 (ht.below hz)
  have hny : ∀ wz, Below w.heap.size w wz → Calls Tryz.prog 62 #[.int .i64 y] wz fun e w' => e = .returned (fv false (tx (itoa y)) (.slice none 0 0)) ∧ Below wz.heap.size wz w' := fun wz hz => num_any y wz hr.2.1 hr.2.2 (ht.below hz)
  have hli : ∀ wz : World, w.heap.size + 1 < wz.heap.size → Calls Tryz.prog 61 #[.slice (some ⟨wz.heap.size, 0, none⟩) 2 2] (wz.alloc (.cells #[.bool false, .string (tx (itoa x)), .slice none 0 0, .bool false, .string (tx (itoa y)), .slice none 0 0] 61)) (ListZ (fun i => Z i ∧ i ≠ w.heap.size + 1) [nuT x, nuT y] (wz.alloc (.cells #[.bool false, .string (tx (itoa x)), .slice none 0 0, .bool false, .string (tx (itoa y)), .slice none 0 0] 61))) := fun wz hz => by
    exact list_any (fun i => Z i ∧ i ≠ w.heap.size + 1) _ [nuT x, nuT y] _ (lit_sl (es := [(false, tx (itoa x), [], .slice none 0 0), (false, tx (itoa y), [], .slice none 0 0)]) (fun i => Z i ∧ i ≠ w.heap.size + 1) wz 2 ⟨hzn _ (by omega), by omega⟩ rfl (by simp) (by
      intro p hp
      simp only [List.mem_cons, List.not_mem_nil, or_false] at hp
      rcases hp with rfl | rfl
      · exact ⟨itoa_size _ hr.1.1 hr.1.2, .nil none 0 (Nat.zero_le _)⟩
      · exact ⟨itoa_size _ hr.2.1 hr.2.2, .nil none 0 (Nat.zero_le _)⟩) _) (fun i hi => by
        have e1 : (wz.alloc (.cells #[.bool false, .string (tx (itoa x)), .slice none 0 0, .bool false, .string (tx (itoa y)), .slice none 0 0] 61)).heap.size = wz.heap.size + 1 := by simp
        rw [e1] at hi
        exact ⟨hzn i (by omega), by omega⟩) (by simp)
  have HX := Lib.hid hnx
  have HY := Lib.hid hny
  have HL := Lib.hid hli
  clear hnx hny hli
  go_enter Tryz.func63, Tryz.ntmps63
  go_wp2_with fail
  go_region_held3 (fun W => (W.cell? ⟨w.heap.size, 0, none⟩ = some (.int .i64 x) ∧ W.cell? ⟨w.heap.size, 1, none⟩ = some (.int .i64 y)) ∧ Below w.heap.size w W ∧ (w.heap.size + 1 < W.heap.size ∧ W.cell? ⟨w.heap.size + 1, 0, none⟩ = some (cellAt W ⟨w.heap.size + 1, 0, none⟩) ∧ W.cell? ⟨w.heap.size + 1, 1, none⟩ = some (cellAt W ⟨w.heap.size + 1, 1, none⟩) ∧ W.cell? ⟨w.heap.size + 1, 2, none⟩ = some (cellAt W ⟨w.heap.size + 1, 2, none⟩) ∧ W.frozen? ⟨w.heap.size + 1, 0, none⟩ = false ∧ W.frozen? ⟨w.heap.size + 1, 1, none⟩ = false ∧ W.frozen? ⟨w.heap.size + 1, 2, none⟩ = false)) (first | exact rf_call hb3 (by assumption) | exact rf_alloc _ (by assumption) | exact rf_start _ _ _ | exact rf_set (by assumption) _ _ _) (first | (go_at_call 62; refine (HX.out _ (And.left (And.right (by assumption)))).mono ?_; rintro e w3 ⟨rfl, hb3⟩) | (go_at_call 62; have hs2 := And.left (And.right (And.right (by assumption))); refine (HY.out _ (And.left (And.right (by assumption)))).mono ?_; rintro e w3 ⟨rfl, hb3⟩; have hsz3 : w.heap.size + 1 < w3.heap.size := Nat.lt_of_lt_of_le hs2 hb3.size; clear hs2) | (go_at_call 61; have hs3 : RfS w x y _ := (by assumption); refine (HL.out _ hsz3).mono ?_; rintro e w4 ⟨la, ln, lc, rfl, hln, hb3, hlz⟩; obtain rfl : ln = 2 := hln; have hs4 := rf_call hb3 hs3))
  rename_i hHeld
  have HKB := Lib.hid hHeld.2.1
  obtain ⟨z0, z1, z2⟩ := end3 (of_cellAt hs4.2.2.2.1) (of_cellAt hs4.2.2.2.2.1) (of_cellAt hs4.2.2.2.2.2.1) (.bool true) (.string noText) (.slice la 2 lc)
  have HZ1 := Lib.hid (end3_sl hlz (fun i hi => hi.2) (.bool true) (.string noText) (.slice la 2 lc))
  clear hHeld hs3 hs4 hlz hb3
  go_wp2_with fail
  refine bodyPost_ret (v := fv true noText (.slice la 2 lc)) (by simp [results, Tryz.results63, go_sem, z0, z1, z2]) rfl ⟨_, rfl, ⟨true, noText, [nuT x, nuT y], la, 2, lc, rfl, rfl, rfl, by decide, HZ1.out.mono fun i _ hi => hi.1⟩, HKB.out⟩
end Go.Proofs.YtgjcblginkdinaaGreatDoor
set_option linter.unusedVariables false
namespace Go.Proofs.YtgjcblginkdinaaGreatDoor
open Go.ChangeShapes Go.WideShapes Go.ChangeAt Go.RowKit
open Go.Lib (itoa)

theorem make_forms (n : Nat) (hn : n ≤ 1000000) (w : World) : ∃ o : Obj, (Instr.makeSlice 59 (.int .i64 0) (.int .i64 (n : Nat))).run Tryz.prog w = .ok (.slice (some ⟨w.heap.size, 0, none⟩) 0 n) (w.alloc o) ∧ ∀ B, B ≤ w.heap.size → MadeU B (w.alloc o) (.slice (some ⟨w.heap.size, 0, none⟩) 0 n) [] := by
  obtain ⟨i, hi, hzz⟩ := Option.map_eq_some_iff.1 Tryz.infoForm
  simp only [Prod.mk.injEq] at hzz
  obtain ⟨hz, hsz, hby⟩ := hzz
  have hr := run_make (P := Tryz.prog) w 59 61 i _ Tryz.underlying59 hi hz .i64 .i64 0 n (Int.le_refl _) (by omega) (by rw [hby]; omega) (by omega)
  simp only [Int.toNat_natCast, hsz, Int.toNat_zero] at hr
  refine ⟨_, hr, fun B hB => ⟨?_, by simp⟩⟩
  refine row_new (fr := (0, 0)) hB (by simp [fcells]) (Nat.zero_le _) (by unfold maxLen; omega) ?_ (.inl rfl) (fun j u hu => by simp [fcells] at hu)
  simp [madeCells, Value.cells]

set_option maxHeartbeats 4000000 in
set_option maxRecDepth 100000 in
theorem ptextsForm_any (Z : Nat → Prop) (xs : Lb) (v : Value) (w : World) (hr : Reads w v xs) (hn : xs.length ≤ 1000) (hs : ∀ x ∈ xs, x.size ≤ 140737488355328) (hzn : ∀ i, w.heap.size ≤ i → Z i) :
    Calls Tryz.prog 64 #[v] w fun e w' => ∃ v, e = .returned v ∧ IsV Z w' v (tsT xs) ∧ Below w.heap.size w w' := by
  obtain ⟨a, c, rfl, hn'⟩ := hr.form
  obtain ⟨n, hnn⟩ : ∃ n, n = xs.length := ⟨_, rfl⟩
  obtain ⟨o, hmk, hmade⟩ := make_forms n (by omega) (w.alloc (.cells #[.bool false, .string ⟨#[]⟩, .slice none 0 0] 61))
  rw [← hnn] at hr hn hn' ⊢
  have HN := Lib.hid hnn
  have HR := Lib.hid hr
  have HS := Lib.hid hs
  have HMK := Lib.hid (hmade (w.heap.size + 1) (by simp))
  have HZN := Lib.hid hzn
  clear hnn hr hs hmade hzn
  go_enter Tryz.func64, Tryz.ntmps64
  go_wp2_with fail
  go_loopw [3, 11] (fun v i wr => ∃ (k : Nat) (es : List FE), k ≤ n ∧ i = .int .i64 (k : Nat) ∧ Hid (es.length = k) ∧ Hid (es.map FE.tm = (xs.take k).map txT) ∧ Hid (MadeU (w.heap.size + 1) wr v es) ∧ Hid (Below (w.heap.size + 1) (w.alloc (.cells #[.bool false, .string ⟨#[]⟩, .slice none 0 0] 61)) wr)) (fun _ i _ => n - (intOf i).toNat)
  case atStart =>
    refine ⟨0, [], Nat.zero_le _, rfl, Lib.hid rfl, Lib.hid (by simp), Lib.hid ?_, Lib.hid ((Below.refl _ _).alloc (by simp) _)⟩
    have := HMK.out
    simpa using this
  case round =>
    obtain ⟨k, es, hk, rfl, HEL, HMP, HMD, HBL⟩ := hrel
    obtain ⟨va, vc, hv, _, _⟩ := HMD.out.row.form'
    rw [HEL.out] at hv
    subst hv
    have hbw : Below w.heap.size w wr := ((Below.refl _ _).alloc (Nat.le_refl _) _).trans (HBL.out.mono (Nat.le_succ _))
    have hszr : w.heap.size + 1 ≤ wr.heap.size := by have := HBL.out.size; simp at this; omega
    have HBW := Lib.hid hbw
    clear hbw
    by_cases hlt : k < n
    · obtain ⟨x, hx⟩ : ∃ x, xs[k]? = some x := ⟨xs[k]'(by rw [← HN.out]; exact hlt), by simp⟩
      obtain ⟨b, o', rfl, hnl, hcl⟩ := HR.out.at hx
      clear hnl
      have hcell := ((hcl.below HBW.out).2 k x hx)
      have HX := Lib.hid hx
      clear hx hcl
      go_wp2_with (first
        | (go_at_call 65; refine (text_any _ _).mono ?_; rintro e w2 ⟨rfl, hb2⟩; have HB2 := Lib.hid hb2; clear hb2)
        | (at_builtin; refine wpList_append_row rfl (.tmp 15) (.tmp 18) 59 59 rfl 3 61 (.agg #[.bool false, .string ByteArray.empty, .slice none 0 0]) 48 Tryz.underlying59 Tryz.infoForm rfl (w.heap.size + 1) (.slice va k vc) k (fcells es) (by simp [Act.eval]) (by have := ((HMD.out.row.below HB2.out).alloc (.cells #[.bool false, .string x, .slice none 0 0] 61)); rw [HEL.out] at this; exact this) (.slice (some ⟨w2.heap.size, 0, none⟩) 1 1) (by simp [Act.eval]) 1 [.bool false, .string x, .slice none 0 0] (by exact src_new Tryz.underlying59 _ _ _ _ rfl (by intro u hu; simp only [List.mem_cons, List.not_mem_nil, or_false] at hu; rcases hu with rfl | rfl | rfl <;> rfl)) (by have := HB2.out.size; simp; omega) (by omega) (by decide) ?_; intro v6 w6 hr6 ho6 hw6; obtain ⟨a6, c6, hv6⟩ := hr6.form; subst hv6; have HR6 := Lib.hid hr6; have HO6 := Lib.hid ho6; have HW6 := Lib.hid hw6; clear hr6 ho6 hw6))
      have hmd2 := (HMD.out.below HB2.out).below ((Below.refl _ w2).alloc (Nat.le_refl _) (.cells #[.bool false, .string x, .slice none 0 0] 61))
      have hpush := hmd2.push (l := false) (t := x) (ys := []) (s := .slice none 0 0) (.nil none 0 (Nat.zero_le _)) (HS.out x (List.mem_of_getElem? HX.out)) (by rw [HEL.out]; exact HR6.out) HO6.out HW6.out
      have hbl6 : Below (w.heap.size + 1) (w.alloc (.cells #[.bool false, .string ⟨#[]⟩, .slice none 0 0] 61)) w6 := by
        refine ((HBL.out.trans (HB2.out.mono hszr)).alloc (by have := HB2.out.size; omega) (.cells #[.bool false, .string x, .slice none 0 0] 61)).trans (HO6.out.below (fun i hi => (HMD.out.row.lt i hi).1) (by have := HB2.out.size; simp; omega))
      exact ⟨⟨k + 1, es ++ [(false, x, [], .slice none 0 0)], by omega, by go_num, Lib.hid (by rw [List.length_append, HEL.out]; rfl), Lib.hid (by rw [List.map_append, HMP.out, take_snoc HX.out, List.map_append]; rfl), Lib.hid hpush, Lib.hid hbl6⟩, by simp [intOf]; omega⟩
    · have hke : n ≤ k := by omega
      have hsl : SlU (fun i => Z i ∧ i ≠ w.heap.size) wr (.slice va k vc) (xs.map txT) := by
        have := HMD.out.sl (Z := fun i => Z i ∧ i ≠ w.heap.size) (fun i hi => ⟨HZN.out i (by omega), by omega⟩)
        rw [HMP.out, List.take_of_length_le (by rw [← HN.out]; exact hke)] at this
        exact this
      have hli := list_any (fun i => Z i ∧ i ≠ w.heap.size) _ (xs.map txT) wr hsl (fun i hi => ⟨HZN.out i (by omega), by omega⟩) (by rw [List.length_map, ← HN.out]; omega)
      have HLI := Lib.hid hli
      clear hsl hli
      go_wp2_with fail
      refine HLI.out.mono ?_
      rintro e w3 ⟨la, ln, lc, rfl, hln, hb3, hlz⟩
      obtain ⟨z1, z2, z3, -⟩ := box3 (box_step HBL.out hb3)
      have f1 : ∀ j, w3.frozen? ⟨w.heap.size, j, none⟩ = false := fun j => by
        have hb := HBL.out.trans (hb3.mono hszr)
        exact (hb.frozen (p := ⟨w.heap.size, j, none⟩) (Nat.lt_succ_self _)).trans (World.frozen?_alloc_at _ _ _ _ rfl)
      have f10 := f1 0
      have f11 := f1 1
      have f12 := f1 2
      have hsz3 : w.heap.size < w3.heap.size := by have := hb3.size; omega
      obtain ⟨y0, y1, y2⟩ := end3 (of_cellAt z1) (of_cellAt z2) (of_cellAt z3) (.bool true) (.string noText) (.slice la ln lc)
      have HZ1 := Lib.hid (end3_sl hlz (fun i hi => hi.2) (.bool true) (.string noText) (.slice la ln lc))
      have HBE := Lib.hid ((((HBW.out.trans (hb3.mono HBW.out.size)).setCell (p := ⟨w.heap.size, 0, none⟩) (Nat.le_refl _) (.bool true)).setCell (p := ⟨w.heap.size, 1, none⟩) (Nat.le_refl _) (.string noText)).setCell (p := ⟨w.heap.size, 2, none⟩) (Nat.le_refl _) (.slice la ln lc))
      have HLN := Lib.hid hln
      clear hb3 hlz f1 hln
      go_wp2_with fail
      refine bodyPost_ret (v := fv true noText (.slice la ln lc)) (by simp [results, Tryz.results64, go_sem, y0, y1, y2]) rfl ⟨_, rfl, ⟨true, noText, xs.map txT, la, ln, lc, rfl, HLN.out, rfl, by decide, HZ1.out.mono fun i _ hi => hi.1⟩, HBE.out⟩
end Go.Proofs.YtgjcblginkdinaaGreatDoor
