/- The contract of renumber. -/
import Derived.Test.YtfpepoebammeoaaGreatU10
import Derived.Test.YtfpepoebammeoaaGreatU6
set_option linter.unusedVariables false
namespace Go.Proofs.YtfpepoebammeoaaGreat
open Go.ChangeShapes Go.WideShapes Go.ChangeAt Go.RowKit

def renI (pl : Int → Int) (es : Ed) : Ed := es.map fun e => (pl e.1, pl e.2)
def renJ (pl : Int → Int) (es : Ed) (j : Nat) : Ed := renI pl (es.take j) ++ es.drop j
theorem renJ_len (pl : Int → Int) (es : Ed) (j : Nat) : (renJ pl es j).length = es.length := by
  simp [renJ, renI]; omega
theorem renJ_zero (pl : Int → Int) (es : Ed) : renJ pl es 0 = es := by simp [renJ, renI]
theorem renJ_at {pl : Int → Int} {es : Ed} {j : Nat} {e : Int × Int} (h : es[j]? = some e) : (renJ pl es j)[j]? = some e := by
  have hj := (List.getElem?_eq_some_iff.1 h).1
  have hl : (renI pl (es.take j)).length = j := by simp [renI]; omega
  unfold renJ
  rw [List.getElem?_append_right (by omega), hl, Nat.sub_self, List.getElem?_drop, Nat.add_zero]
  exact h
theorem renJ_step {pl : Int → Int} {es : Ed} {j : Nat} {e : Int × Int} (h : es[j]? = some e) : (renJ pl es j).set j (pl e.1, pl e.2) = renJ pl es (j + 1) := by
  have hj := (List.getElem?_eq_some_iff.1 h).1
  have hl : (renI pl (es.take j)).length = j := by simp [renI]; omega
  unfold renJ
  rw [List.set_append_right _ _ (by omega), hl, Nat.sub_self, List.take_add_one, h]
  have hd : es.drop j = e :: es.drop (j + 1) := by rw [List.drop_eq_getElem_cons hj]; rw [(List.getElem?_eq_some_iff.1 h).2]
  rw [hd]
  simp [renI]
theorem renJ_all (pl : Int → Int) (es : Ed) : renJ pl es es.length = renI pl es := by simp [renJ]

set_option maxHeartbeats 2000000 in
set_option maxRecDepth 100000 in
theorem renK_any (q : Nat) (pl : Int → Int) (es : Ed) (B : Nat) (v : Value) (w : World) (hr : Row 2 B w v es.length (evs es)) (hl : es.length ≤ 1000000)
    (C : ∀ x W, (∃ e ∈ es, x = e.1 ∨ x = e.2) → Off (fun i => v.ownBlock = some i) w W → Calls Tryz.prog 47 #[.int .i64 x, .pointer (some ⟨q, 0, none⟩)] W fun e w' => e = .returned (.int .i64 (pl x)) ∧ Below W.heap.size W w') :
    Calls Tryz.prog 46 #[v, .func (.func 47) #[] #[.pointer (some ⟨q, 0, none⟩)]] w fun e W' => e = .returned v ∧ Row 2 B W' v es.length (evs (renI pl es)) ∧ Off (fun i => v.ownBlock = some i) w W' := by
  obtain ⟨va, vc, rfl⟩ := hr.form
  obtain ⟨m, hm⟩ : ∃ m, m = es.length := ⟨_, rfl⟩
  rw [← hm] at hr hl C ⊢
  have HR := Lib.hid hr
  have HM := Lib.hid hm
  have HC := Lib.hid C
  clear hr hm C
  go_enter Tryz.func46, Tryz.ntmps46
  go_wp2_with fail
  go_loopw [9] (fun jv wr => ∃ i : Nat, jv = .int .i64 (i : Nat) ∧ i ≤ m ∧ Hid (Row 2 B wr (.slice va m vc) m (evs (renJ pl es i))) ∧ Hid (Off (fun i => (Value.slice va m vc).ownBlock = some i) w wr)) (fun jv _ => m - (intOf jv).toNat)
  case atStart => exact ⟨0, rfl, Nat.zero_le _, Lib.hid (by rw [renJ_zero]; exact HR.out), Lib.hid (Off.refl _ _)⟩
  case round =>
    obtain ⟨i, rfl, him, HW, HO⟩ := hrel
    by_cases hlt : i < m
    · obtain ⟨e, he⟩ : ∃ e, es[i]? = some e := ⟨es[i]'(by rw [← HM.out]; exact hlt), by simp⟩
      have hat := evs_at (renJ_at (pl := pl) he)
      have hst := renJ_step (pl := pl) he
      have hse := evs_set (e' := (pl e.1, pl e.2)) (renJ_at (pl := pl) he)
      rw [hst] at hse
      have hmem := List.mem_of_getElem? he
      obtain ⟨b, cp, hv, hBb, hbw, hnc, hcm, _, _⟩ := HW.out.pos (by omega)
      injection hv with hv1 hv2 hv3
      subst hv1; subst hv3
      obtain ⟨d0, f0, _⟩ := HW.out.cellK hat.1
      obtain ⟨d1, f1, _⟩ := HW.out.cellK hat.2
      obtain ⟨e1, e2⟩ := e
      simp only at d0 d1 hse
      have hput := (HW.out.put (j := i * 2) (by rw [evs_len, renJ_len, ← HM.out]; omega) (.int .i64 (pl e1))).put (j := i * 2 + 1) (by rw [List.length_set, evs_len, renJ_len, ← HM.out]; omega) (.int .i64 (pl e2))
      rw [hse] at hput
      unfold maxLen at hcm
      obtain ⟨z, hz⟩ : ∃ z, z = wr.heap.size := ⟨_, rfl⟩
      obtain ⟨wz, hwz⟩ : ∃ wz, wz = wr.alloc (.cells #[.int .i64 e1, .int .i64 e2] 36) := ⟨_, rfl⟩
      have hbz : Below wr.heap.size wr wz := by rw [hwz]; exact (Below.refl _ _).alloc (Nat.le_refl _) _
      have z0 : wz.cell? ⟨z, 0, none⟩ = some (.int .i64 e1) := by rw [hwz, hz, World.cell?_alloc_at _ _ _ _ rfl]; rfl
      have z1 : wz.cell? ⟨z, 1, none⟩ = some (.int .i64 e2) := by rw [hwz, hz, World.cell?_alloc_at _ _ _ _ rfl]; rfl
      have zl : z < wz.heap.size := by rw [hwz, hz]; simp
      have hs : ∀ X, Below wz.heap.size wz X → X.cell? ⟨z, 0, none⟩ = some (.int .i64 e1) ∧ X.cell? ⟨z, 1, none⟩ = some (.int .i64 e2) ∧ X.cell? ⟨b, i * 2, none⟩ = some (.int .i64 e1) ∧ X.cell? ⟨b, i * 2 + 1, none⟩ = some (.int .i64 e2) ∧ X.frozen? ⟨b, i * 2, none⟩ = false ∧ X.frozen? ⟨b, i * 2 + 1, none⟩ = false := fun X hX => by
        have hbl : b < wz.heap.size := Nat.lt_of_lt_of_le hbw hbz.size
        exact ⟨(hX.cell (p := ⟨z, 0, none⟩) zl).trans z0, (hX.cell (p := ⟨z, 1, none⟩) zl).trans z1, (hX.cell (p := ⟨b, i * 2, none⟩) hbl).trans ((hbz.cell (p := ⟨b, i * 2, none⟩) hbw).trans d0), (hX.cell (p := ⟨b, i * 2 + 1, none⟩) hbl).trans ((hbz.cell (p := ⟨b, i * 2 + 1, none⟩) hbw).trans d1), (hX.frozen (p := ⟨b, i * 2, none⟩) hbl).trans ((hbz.frozen (p := ⟨b, i * 2, none⟩) hbw).trans f0), (hX.frozen (p := ⟨b, i * 2 + 1, none⟩) hbl).trans ((hbz.frozen (p := ⟨b, i * 2 + 1, none⟩) hbw).trans f1)⟩
      have HS := Lib.hid hs
      have HOB : Hid (∀ X, Below wz.heap.size wz X → Off (fun i => (Value.slice (some ⟨b, 0, none⟩) m vc).ownBlock = some i) w X) := Lib.hid (fun X hX => HO.out.trans ((Off.of_below hbz).trans (Off.of_below hX)))
      have hm1 : ∃ e ∈ es, e1 = e.1 ∨ e1 = e.2 := ⟨_, hmem, .inl rfl⟩
      have hm2 : ∃ e ∈ es, e2 = e.1 ∨ e2 = e.2 := ⟨_, hmem, .inr rfl⟩
      have HFIN : Hid (∀ X, Below wz.heap.size wz X → Row 2 B ((X.setCell ⟨b, i * 2, none⟩ (.int .i64 (pl e1))).setCell ⟨b, i * 2 + 1, none⟩ (.int .i64 (pl e2))) (.slice (some ⟨b, 0, none⟩) m vc) m (evs (renJ pl es (i + 1))) ∧ Off (fun i => (Value.slice (some ⟨b, 0, none⟩) m vc).ownBlock = some i) w ((X.setCell ⟨b, i * 2, none⟩ (.int .i64 (pl e1))).setCell ⟨b, i * 2 + 1, none⟩ (.int .i64 (pl e2)))) := Lib.hid (fun X hX => by
        have h1 := (HW.out.below hbz).below hX
        have h2 := (h1.put (j := i * 2) (by rw [evs_len, renJ_len, ← HM.out]; omega) (.int .i64 (pl e1))).put (j := i * 2 + 1) (by rw [List.length_set, evs_len, renJ_len, ← HM.out]; omega) (.int .i64 (pl e2))
        rw [hse] at h2
        exact ⟨h2, ((HOB.out X hX).setCell (p := ⟨b, i * 2, none⟩) (.inr rfl) _).setCell (p := ⟨b, i * 2 + 1, none⟩) (.inr rfl) _⟩)
      have hWZ := Lib.hid hwz
      clear hat hst hse hput he z0 z1 zl hs hbz hwz
      go_wp2_with fail
      rw [← hz, ← hWZ.out]
      clear hz
      refine wp_region_til (S := (fun W => W.cell? ⟨z, 0, none⟩ = some (.int .i64 e1) ∧ W.cell? ⟨z, 1, none⟩ = some (.int .i64 e2) ∧ W.cell? ⟨b, i * 2, none⟩ = some (.int .i64 e1) ∧ W.cell? ⟨b, i * 2 + 1, none⟩ = some (.int .i64 e2) ∧ W.frozen? ⟨b, i * 2, none⟩ = false ∧ W.frozen? ⟨b, i * 2 + 1, none⟩ = false)) 12 (by kernel_rfl) ?_ (fun hHeld => ?_)
      · exact HS.out _ (Below.refl _ _).drew
      refine tkT 0 ⟨some 14, .move (.tmp 0), 22, "knots.go:90", #[], none⟩ ?_
      try simp only [Act.put, List.setIfInBounds_toArray, List.set_cons_zero, List.set_cons_succ]
      refine tkT 1 ⟨some 15, .move (.tmp 5), 3, "knots.go:90", #[], none⟩ ?_
      try simp only [Act.put, List.setIfInBounds_toArray, List.set_cons_zero, List.set_cons_succ]
      refine tkT 2 ⟨some 16, .move (.tmp 1), 54, "knots.go:90", #[], none⟩ ?_
      try simp only [Act.put, List.setIfInBounds_toArray, List.set_cons_zero, List.set_cons_succ]
      refine tkT 3 ⟨some 17, .indexAddr 36 (.tmp 6) (.const (Value.int IntKind.i64 0)), 0, "knots.go:90", #[], none⟩ ?_
      try simp only [Act.put, List.setIfInBounds_toArray, List.set_cons_zero, List.set_cons_succ]
      refine tkT 4 ⟨some 18, .load 3 (.tmp 17), 3, "knots.go:90", #[⟨3, .data⟩], none⟩ ?_
      try simp only [Act.put, List.setIfInBounds_toArray, List.set_cons_zero, List.set_cons_succ]
      refine tkT 6 ⟨some 20, .move (.tmp 1), 54, "knots.go:90", #[], none⟩ ?_
      try simp only [Act.put, List.setIfInBounds_toArray, List.set_cons_zero, List.set_cons_succ]
      refine tkT 7 ⟨some 21, .indexAddr 36 (.tmp 6) (.const (Value.int IntKind.i64 1)), 0, "knots.go:90", #[], none⟩ ?_
      try simp only [Act.put, List.setIfInBounds_toArray, List.set_cons_zero, List.set_cons_succ]
      refine tkT 8 ⟨some 22, .load 3 (.tmp 21), 3, "knots.go:90", #[⟨7, .data⟩], none⟩ ?_
      try simp only [Act.put, List.setIfInBounds_toArray, List.set_cons_zero, List.set_cons_succ]
      refine til_one (i := 5) (o := ⟨some 19, .call { callee := Callee.value (.tmp 16), args := #[.tmp 18], argTypes := #[3] }, 3, "knots.go:90", #[⟨2, .data⟩, ⟨4, .data⟩], none⟩) (by kernel_rfl) rfl (fun KK hK => ?_)
      go_simp
      refine (HC.out e1 _ hm1 (HOB.out _ (Below.refl wz.heap.size wz).drew)).mono ?_
      rintro e wy1 ⟨rfl, hbz⟩
      have HZ1 := Lib.hid ((Below.refl wz.heap.size wz).drew.trans (hbz.mono (Below.refl wz.heap.size wz).drew.size))
      clear hbz
      refine hK.out _ _ ?_ (fun hHeld => ?_)
      · exact HS.out _ HZ1.out
      clear hK KK
      try simp only [Act.put, List.setIfInBounds_toArray, List.set_cons_zero, List.set_cons_succ]
      refine til_one (i := 9) (o := ⟨some 23, .call { callee := Callee.value (.tmp 20), args := #[.tmp 22], argTypes := #[3] }, 3, "knots.go:90", #[⟨6, .data⟩, ⟨8, .data⟩, ⟨5, .chain⟩], none⟩) (by kernel_rfl) rfl (fun KK hK => ?_)
      go_simp
      refine (HC.out e2 _ hm2 (HOB.out _ HZ1.out)).mono ?_
      rintro e wy2 ⟨rfl, hbz⟩
      have HZ2 := Lib.hid (HZ1.out.trans (hbz.mono HZ1.out.size))
      clear hbz
      refine hK.out _ _ ?_ (fun hHeld => ?_)
      · exact HS.out _ HZ2.out
      clear hK KK
      try simp only [Act.put, List.setIfInBounds_toArray, List.set_cons_zero, List.set_cons_succ]
      refine tkT 10 ⟨some 24, .build 36 #[(0, .tmp 19), (1, .tmp 23)], 36, "knots.go:90", #[⟨5, .data⟩, ⟨9, .data⟩], none⟩ ?_
      try simp only [Act.put, List.setIfInBounds_toArray, List.set_cons_zero, List.set_cons_succ]
      refine tkT 11 ⟨some 25, .indexAddr 22 (.tmp 14) (.tmp 15), 0, "knots.go:90", #[⟨0, .data⟩, ⟨1, .data⟩, ⟨0, .phase⟩, ⟨1, .phase⟩, ⟨2, .phase⟩, ⟨3, .phase⟩, ⟨4, .phase⟩, ⟨5, .phase⟩, ⟨6, .phase⟩, ⟨7, .phase⟩, ⟨8, .phase⟩, ⟨9, .phase⟩, ⟨10, .phase⟩], none⟩ ?_
      try simp only [Act.put, List.setIfInBounds_toArray, List.set_cons_zero, List.set_cons_succ]
      refine til_last (o := ⟨none, .store 36 (.tmp 25) (.tmp 24), 0, "knots.go:90", #[⟨11, .data⟩, ⟨10, .data⟩, ⟨9, .chain⟩, ⟨0, .phase⟩, ⟨1, .phase⟩, ⟨2, .phase⟩, ⟨3, .phase⟩, ⟨4, .phase⟩, ⟨5, .phase⟩, ⟨6, .phase⟩, ⟨7, .phase⟩, ⟨8, .phase⟩, ⟨9, .phase⟩, ⟨10, .phase⟩], none⟩) (by kernel_rfl) rfl (by kernel_rfl) (fun KK hK => ?_)
      go_simp
      obtain ⟨_, _, q4, q5, q6, q7⟩ := hHeld
      go_simp
      refine hK.out _ _ ?_
      clear hK KK
      try simp only [Act.put, List.setIfInBounds_toArray, List.set_cons_zero, List.set_cons_succ]
      go_wp2_with fail
      exact ⟨⟨i + 1, by go_num, by omega, Lib.hid (HFIN.out wy2 HZ2.out).1, Lib.hid (HFIN.out wy2 HZ2.out).2⟩, by simp [intOf]; omega⟩
    · have hie : m = i := by omega
      subst hie
      have hf := HW.out
      rw [HM.out, renJ_all] at hf
      have HF := Lib.hid hf
      clear hf
      go_wp2_with fail
      go_ret
      exact ⟨rfl, by rw [HM.out]; exact HF.out, HO.out⟩

set_option maxHeartbeats 2000000 in
set_option maxRecDepth 100000 in
theorem renS_any (q : Nat) (pl : Int → Int) (es : Ed) (B : Nat) (v : Value) (w : World) (hr : Row 2 B w v es.length (evs es)) (hl : es.length ≤ 1000000)
    (C : ∀ x W, (∃ e ∈ es, x = e.1 ∨ x = e.2) → Off (fun i => v.ownBlock = some i) w W → Calls Tryz.prog 50 #[.int .i64 x, .pointer (some ⟨q, 0, none⟩)] W fun e w' => e = .returned (.int .i64 (pl x)) ∧ Below W.heap.size W w') :
    Calls Tryz.prog 46 #[v, .func (.func 50) #[] #[.pointer (some ⟨q, 0, none⟩)]] w fun e W' => e = .returned v ∧ Row 2 B W' v es.length (evs (renI pl es)) ∧ Off (fun i => v.ownBlock = some i) w W' := by
  obtain ⟨va, vc, rfl⟩ := hr.form
  obtain ⟨m, hm⟩ : ∃ m, m = es.length := ⟨_, rfl⟩
  rw [← hm] at hr hl C ⊢
  have HR := Lib.hid hr
  have HM := Lib.hid hm
  have HC := Lib.hid C
  clear hr hm C
  go_enter Tryz.func46, Tryz.ntmps46
  go_wp2_with fail
  go_loopw [9] (fun jv wr => ∃ i : Nat, jv = .int .i64 (i : Nat) ∧ i ≤ m ∧ Hid (Row 2 B wr (.slice va m vc) m (evs (renJ pl es i))) ∧ Hid (Off (fun i => (Value.slice va m vc).ownBlock = some i) w wr)) (fun jv _ => m - (intOf jv).toNat)
  case atStart => exact ⟨0, rfl, Nat.zero_le _, Lib.hid (by rw [renJ_zero]; exact HR.out), Lib.hid (Off.refl _ _)⟩
  case round =>
    obtain ⟨i, rfl, him, HW, HO⟩ := hrel
    by_cases hlt : i < m
    · obtain ⟨e, he⟩ : ∃ e, es[i]? = some e := ⟨es[i]'(by rw [← HM.out]; exact hlt), by simp⟩
      have hat := evs_at (renJ_at (pl := pl) he)
      have hst := renJ_step (pl := pl) he
      have hse := evs_set (e' := (pl e.1, pl e.2)) (renJ_at (pl := pl) he)
      rw [hst] at hse
      have hmem := List.mem_of_getElem? he
      obtain ⟨b, cp, hv, hBb, hbw, hnc, hcm, _, _⟩ := HW.out.pos (by omega)
      injection hv with hv1 hv2 hv3
      subst hv1; subst hv3
      obtain ⟨d0, f0, _⟩ := HW.out.cellK hat.1
      obtain ⟨d1, f1, _⟩ := HW.out.cellK hat.2
      obtain ⟨e1, e2⟩ := e
      simp only at d0 d1 hse
      have hput := (HW.out.put (j := i * 2) (by rw [evs_len, renJ_len, ← HM.out]; omega) (.int .i64 (pl e1))).put (j := i * 2 + 1) (by rw [List.length_set, evs_len, renJ_len, ← HM.out]; omega) (.int .i64 (pl e2))
      rw [hse] at hput
      unfold maxLen at hcm
      obtain ⟨z, hz⟩ : ∃ z, z = wr.heap.size := ⟨_, rfl⟩
      obtain ⟨wz, hwz⟩ : ∃ wz, wz = wr.alloc (.cells #[.int .i64 e1, .int .i64 e2] 36) := ⟨_, rfl⟩
      have hbz : Below wr.heap.size wr wz := by rw [hwz]; exact (Below.refl _ _).alloc (Nat.le_refl _) _
      have z0 : wz.cell? ⟨z, 0, none⟩ = some (.int .i64 e1) := by rw [hwz, hz, World.cell?_alloc_at _ _ _ _ rfl]; rfl
      have z1 : wz.cell? ⟨z, 1, none⟩ = some (.int .i64 e2) := by rw [hwz, hz, World.cell?_alloc_at _ _ _ _ rfl]; rfl
      have zl : z < wz.heap.size := by rw [hwz, hz]; simp
      have hs : ∀ X, Below wz.heap.size wz X → X.cell? ⟨z, 0, none⟩ = some (.int .i64 e1) ∧ X.cell? ⟨z, 1, none⟩ = some (.int .i64 e2) ∧ X.cell? ⟨b, i * 2, none⟩ = some (.int .i64 e1) ∧ X.cell? ⟨b, i * 2 + 1, none⟩ = some (.int .i64 e2) ∧ X.frozen? ⟨b, i * 2, none⟩ = false ∧ X.frozen? ⟨b, i * 2 + 1, none⟩ = false := fun X hX => by
        have hbl : b < wz.heap.size := Nat.lt_of_lt_of_le hbw hbz.size
        exact ⟨(hX.cell (p := ⟨z, 0, none⟩) zl).trans z0, (hX.cell (p := ⟨z, 1, none⟩) zl).trans z1, (hX.cell (p := ⟨b, i * 2, none⟩) hbl).trans ((hbz.cell (p := ⟨b, i * 2, none⟩) hbw).trans d0), (hX.cell (p := ⟨b, i * 2 + 1, none⟩) hbl).trans ((hbz.cell (p := ⟨b, i * 2 + 1, none⟩) hbw).trans d1), (hX.frozen (p := ⟨b, i * 2, none⟩) hbl).trans ((hbz.frozen (p := ⟨b, i * 2, none⟩) hbw).trans f0), (hX.frozen (p := ⟨b, i * 2 + 1, none⟩) hbl).trans ((hbz.frozen (p := ⟨b, i * 2 + 1, none⟩) hbw).trans f1)⟩
      have HS := Lib.hid hs
      have HOB : Hid (∀ X, Below wz.heap.size wz X → Off (fun i => (Value.slice (some ⟨b, 0, none⟩) m vc).ownBlock = some i) w X) := Lib.hid (fun X hX => HO.out.trans ((Off.of_below hbz).trans (Off.of_below hX)))
      have hm1 : ∃ e ∈ es, e1 = e.1 ∨ e1 = e.2 := ⟨_, hmem, .inl rfl⟩
      have hm2 : ∃ e ∈ es, e2 = e.1 ∨ e2 = e.2 := ⟨_, hmem, .inr rfl⟩
      have HFIN : Hid (∀ X, Below wz.heap.size wz X → Row 2 B ((X.setCell ⟨b, i * 2, none⟩ (.int .i64 (pl e1))).setCell ⟨b, i * 2 + 1, none⟩ (.int .i64 (pl e2))) (.slice (some ⟨b, 0, none⟩) m vc) m (evs (renJ pl es (i + 1))) ∧ Off (fun i => (Value.slice (some ⟨b, 0, none⟩) m vc).ownBlock = some i) w ((X.setCell ⟨b, i * 2, none⟩ (.int .i64 (pl e1))).setCell ⟨b, i * 2 + 1, none⟩ (.int .i64 (pl e2)))) := Lib.hid (fun X hX => by
        have h1 := (HW.out.below hbz).below hX
        have h2 := (h1.put (j := i * 2) (by rw [evs_len, renJ_len, ← HM.out]; omega) (.int .i64 (pl e1))).put (j := i * 2 + 1) (by rw [List.length_set, evs_len, renJ_len, ← HM.out]; omega) (.int .i64 (pl e2))
        rw [hse] at h2
        exact ⟨h2, ((HOB.out X hX).setCell (p := ⟨b, i * 2, none⟩) (.inr rfl) _).setCell (p := ⟨b, i * 2 + 1, none⟩) (.inr rfl) _⟩)
      have hWZ := Lib.hid hwz
      clear hat hst hse hput he z0 z1 zl hs hbz hwz
      go_wp2_with fail
      rw [← hz, ← hWZ.out]
      clear hz
      refine wp_region_til (S := (fun W => W.cell? ⟨z, 0, none⟩ = some (.int .i64 e1) ∧ W.cell? ⟨z, 1, none⟩ = some (.int .i64 e2) ∧ W.cell? ⟨b, i * 2, none⟩ = some (.int .i64 e1) ∧ W.cell? ⟨b, i * 2 + 1, none⟩ = some (.int .i64 e2) ∧ W.frozen? ⟨b, i * 2, none⟩ = false ∧ W.frozen? ⟨b, i * 2 + 1, none⟩ = false)) 12 (by kernel_rfl) ?_ (fun hHeld => ?_)
      · exact HS.out _ (Below.refl _ _).drew
      refine tkT 0 ⟨some 14, .move (.tmp 0), 22, "knots.go:90", #[], none⟩ ?_
      try simp only [Act.put, List.setIfInBounds_toArray, List.set_cons_zero, List.set_cons_succ]
      refine tkT 1 ⟨some 15, .move (.tmp 5), 3, "knots.go:90", #[], none⟩ ?_
      try simp only [Act.put, List.setIfInBounds_toArray, List.set_cons_zero, List.set_cons_succ]
      refine tkT 2 ⟨some 16, .move (.tmp 1), 54, "knots.go:90", #[], none⟩ ?_
      try simp only [Act.put, List.setIfInBounds_toArray, List.set_cons_zero, List.set_cons_succ]
      refine tkT 3 ⟨some 17, .indexAddr 36 (.tmp 6) (.const (Value.int IntKind.i64 0)), 0, "knots.go:90", #[], none⟩ ?_
      try simp only [Act.put, List.setIfInBounds_toArray, List.set_cons_zero, List.set_cons_succ]
      refine tkT 4 ⟨some 18, .load 3 (.tmp 17), 3, "knots.go:90", #[⟨3, .data⟩], none⟩ ?_
      try simp only [Act.put, List.setIfInBounds_toArray, List.set_cons_zero, List.set_cons_succ]
      refine tkT 6 ⟨some 20, .move (.tmp 1), 54, "knots.go:90", #[], none⟩ ?_
      try simp only [Act.put, List.setIfInBounds_toArray, List.set_cons_zero, List.set_cons_succ]
      refine tkT 7 ⟨some 21, .indexAddr 36 (.tmp 6) (.const (Value.int IntKind.i64 1)), 0, "knots.go:90", #[], none⟩ ?_
      try simp only [Act.put, List.setIfInBounds_toArray, List.set_cons_zero, List.set_cons_succ]
      refine tkT 8 ⟨some 22, .load 3 (.tmp 21), 3, "knots.go:90", #[⟨7, .data⟩], none⟩ ?_
      try simp only [Act.put, List.setIfInBounds_toArray, List.set_cons_zero, List.set_cons_succ]
      refine til_one (i := 5) (o := ⟨some 19, .call { callee := Callee.value (.tmp 16), args := #[.tmp 18], argTypes := #[3] }, 3, "knots.go:90", #[⟨2, .data⟩, ⟨4, .data⟩], none⟩) (by kernel_rfl) rfl (fun KK hK => ?_)
      go_simp
      refine (HC.out e1 _ hm1 (HOB.out _ (Below.refl wz.heap.size wz).drew)).mono ?_
      rintro e wy1 ⟨rfl, hbz⟩
      have HZ1 := Lib.hid ((Below.refl wz.heap.size wz).drew.trans (hbz.mono (Below.refl wz.heap.size wz).drew.size))
      clear hbz
      refine hK.out _ _ ?_ (fun hHeld => ?_)
      · exact HS.out _ HZ1.out
      clear hK KK
      try simp only [Act.put, List.setIfInBounds_toArray, List.set_cons_zero, List.set_cons_succ]
      refine til_one (i := 9) (o := ⟨some 23, .call { callee := Callee.value (.tmp 20), args := #[.tmp 22], argTypes := #[3] }, 3, "knots.go:90", #[⟨6, .data⟩, ⟨8, .data⟩, ⟨5, .chain⟩], none⟩) (by kernel_rfl) rfl (fun KK hK => ?_)
      go_simp
      refine (HC.out e2 _ hm2 (HOB.out _ HZ1.out)).mono ?_
      rintro e wy2 ⟨rfl, hbz⟩
      have HZ2 := Lib.hid (HZ1.out.trans (hbz.mono HZ1.out.size))
      clear hbz
      refine hK.out _ _ ?_ (fun hHeld => ?_)
      · exact HS.out _ HZ2.out
      clear hK KK
      try simp only [Act.put, List.setIfInBounds_toArray, List.set_cons_zero, List.set_cons_succ]
      refine tkT 10 ⟨some 24, .build 36 #[(0, .tmp 19), (1, .tmp 23)], 36, "knots.go:90", #[⟨5, .data⟩, ⟨9, .data⟩], none⟩ ?_
      try simp only [Act.put, List.setIfInBounds_toArray, List.set_cons_zero, List.set_cons_succ]
      refine tkT 11 ⟨some 25, .indexAddr 22 (.tmp 14) (.tmp 15), 0, "knots.go:90", #[⟨0, .data⟩, ⟨1, .data⟩, ⟨0, .phase⟩, ⟨1, .phase⟩, ⟨2, .phase⟩, ⟨3, .phase⟩, ⟨4, .phase⟩, ⟨5, .phase⟩, ⟨6, .phase⟩, ⟨7, .phase⟩, ⟨8, .phase⟩, ⟨9, .phase⟩, ⟨10, .phase⟩], none⟩ ?_
      try simp only [Act.put, List.setIfInBounds_toArray, List.set_cons_zero, List.set_cons_succ]
      refine til_last (o := ⟨none, .store 36 (.tmp 25) (.tmp 24), 0, "knots.go:90", #[⟨11, .data⟩, ⟨10, .data⟩, ⟨9, .chain⟩, ⟨0, .phase⟩, ⟨1, .phase⟩, ⟨2, .phase⟩, ⟨3, .phase⟩, ⟨4, .phase⟩, ⟨5, .phase⟩, ⟨6, .phase⟩, ⟨7, .phase⟩, ⟨8, .phase⟩, ⟨9, .phase⟩, ⟨10, .phase⟩], none⟩) (by kernel_rfl) rfl (by kernel_rfl) (fun KK hK => ?_)
      go_simp
      obtain ⟨_, _, q4, q5, q6, q7⟩ := hHeld
      go_simp
      refine hK.out _ _ ?_
      clear hK KK
      try simp only [Act.put, List.setIfInBounds_toArray, List.set_cons_zero, List.set_cons_succ]
      go_wp2_with fail
      exact ⟨⟨i + 1, by go_num, by omega, Lib.hid (HFIN.out wy2 HZ2.out).1, Lib.hid (HFIN.out wy2 HZ2.out).2⟩, by simp [intOf]; omega⟩
    · have hie : m = i := by omega
      subst hie
      have hf := HW.out
      rw [HM.out, renJ_all] at hf
      have HF := Lib.hid hf
      clear hf
      go_wp2_with fail
      go_ret
      exact ⟨rfl, by rw [HM.out]; exact HF.out, HO.out⟩
end Go.Proofs.YtfpepoebammeoaaGreat
