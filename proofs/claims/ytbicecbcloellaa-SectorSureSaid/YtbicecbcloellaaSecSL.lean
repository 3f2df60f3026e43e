/- SectorSure: its walk. -/
import Derived.Test.YtbicecbcloellaaSecEv
import Derived.Test.YtbicecbcloellaaSecG
import Derived.Deep.Cut
import Derived.Deep.CutRange
import Derived.Deep.CutBlock
import Derived.Deep.MidRow
set_option linter.unusedVariables false
set_option linter.unusedSimpArgs false
namespace Go.Proofs.Ytbicecbcloellaa
open Go.ChangeShapes Go.WideShapes Go.ChangeAt Go.RowKit Go.WideMaps Go.Maps

theorem ob_cell {w : World} {z j : Nat} {xs : Array Value} {t : TypeId} {u : Value} (h : w.heap[z]? = some (.cells xs t)) (hu : xs[j]? = some u) : w.cell? ⟨z, j, none⟩ = some u := by
  simp [World.cell?, h, hu]
theorem same_str (x : ByteArray) : (!x.toList == x.toList) = false := by simp
theorem full_head {s : ByteArray} (h : s.size ≤ 512) : (fullB s).extract 0 s.size = s := by
  apply ByteArray.ext
  rw [ByteArray.data_extract]
  apply Array.toList_inj.1
  have hl : s.data.toList.length = s.size := Array.length_toList
  rw [Array.toList_extract]
  show ((s.data.toList ++ List.replicate (512 - s.size) 0).drop 0).take (s.size - 0) = s.data.toList
  rw [List.drop_zero, Nat.sub_zero, ← hl, List.take_left]
abbrev e9 : List ByteArray := List.replicate 9 ByteArray.empty
abbrev A9 : Obj := .cells #[.string ⟨#[]⟩, .string ⟨#[]⟩, .string ⟨#[]⟩, .string ⟨#[]⟩, .string ⟨#[]⟩, .string ⟨#[]⟩, .string ⟨#[]⟩, .string ⟨#[]⟩, .string ⟨#[]⟩] 29
theorem AR.made (w : World) : AR (w.alloc A9) w.heap.size e9 := by
  refine ⟨by simp, by simp, fun i s hs => ⟨?_, World.frozen?_alloc_at _ _ _ _ rfl⟩⟩
  rw [World.cell?_alloc_at _ _ _ _ rfl]
  match i, hs with
  | 0, hs => cases hs; rfl
  | 1, hs => cases hs; rfl
  | 2, hs => cases hs; rfl
  | 3, hs => cases hs; rfl
  | 4, hs => cases hs; rfl
  | 5, hs => cases hs; rfl
  | 6, hs => cases hs; rfl
  | 7, hs => cases hs; rfl
  | 8, hs => cases hs; rfl
theorem off_setCells (cs : List Value) (b o : Nat) (w : World) : Off (fun i => i = b) w (w.setCells b o cs) := by
  obtain ⟨g1, g2, g3, g4, g5⟩ := heap_setCells cs b o w
  exact ⟨g3, g4, g5, by rw [g1]; exact Nat.le_refl _, fun i _ hne => g2 i hne⟩
theorem sv_inv {L : List ByteArray} {j : Nat} {v : Value} (h : (sv L)[j]? = some v) : ∃ s, L[j]? = some s ∧ v = .string s := by
  rw [sv, List.getElem?_map] at h
  obtain ⟨s, hs, e⟩ := Option.map_eq_some_iff.1 h
  exact ⟨s, hs, e.symm⟩
theorem sv_cell {w : World} {b j : Nat} {L : List ByteArray} {v : Value} (h : AR w b L) (hv : (sv L)[j]? = some v) : w.cell? ⟨b, j, none⟩ = some v := by
  obtain ⟨s, hs, rfl⟩ := sv_inv hv
  exact (h.2.2 j s hs).1
theorem sv_there {w : World} {b j : Nat} {L : List ByteArray} (h : AR w b L) (hj : j < 9) : (w.cell? ⟨b, j, none⟩).isSome = true ∧ w.frozen? ⟨b, j, none⟩ = false := by
  obtain ⟨s, hs⟩ : ∃ s, L[j]? = some s := ⟨L[j]'(by rw [h.1]; exact hj), by simp⟩
  obtain ⟨h1, h2⟩ := h.2.2 j s hs
  exact ⟨by rw [h1]; rfl, h2⟩
section
variable {w : World} {b5 b6 me n c : Nat} {mb : Nat → Nat} {SA LA : List ByteArray} {E : Nat → ByteArray → Prop}
/-- The second array is copied into the first. -/
theorem OX.copy (h : OX w b5 b6 me n c mb SA LA E) : OX (w.setCells b5 0 (sv LA)) b5 b6 me n c mb LA LA E := by
  have ho := off_setCells (sv LA) b5 0 w
  have hl : (sv LA).length = 9 := by rw [sv_len]; exact h.a6.1
  refine ⟨⟨h.a6.1, Nat.lt_of_lt_of_le h.a5.2.1 ho.size, fun i s hs => ⟨?_, ?_⟩⟩, h.a6.off ho (fun e => h.d56 e.symm), h.mm.off ho (fun e => h.d5m e.symm), fun k hk => (h.mt k hk).off ho (fun e => (h.dk k hk).1 e), h.d56, h.d5m, h.d6m, h.dk, h.dd⟩
  · have hi : i < 9 := by have := (List.getElem?_eq_some_iff.1 hs).1; have := h.a6.1; omega
    have := World.cell?_setCells_in b5 (sv LA) 0 w (fun j hj => by rw [Nat.zero_add]; exact (sv_there h.a5 (by omega)).1) i (by omega)
    rw [Nat.zero_add] at this
    rw [this, ← List.getElem?_eq_getElem, sv_at hs]
  · have hi : i < 9 := by have := (List.getElem?_eq_some_iff.1 hs).1; have := h.a6.1; omega
    rw [World.frozen?_setCells]
    exact (sv_there h.a5 hi).2
end
theorem nine {L : List ByteArray} (h : L.length = 9) : ∃ l0 l1 l2 l3 l4 l5 l6 l7 l8, L = [l0, l1, l2, l3, l4, l5, l6, l7, l8] := by
  match L, h with
  | [l0, l1, l2, l3, l4, l5, l6, l7, l8], _ => exact ⟨l0, l1, l2, l3, l4, l5, l6, l7, l8, rfl⟩
section
variable {w0 w w1 w' : World} {p b5 b6 me n c x : Nat} {mb : Nat → Nat} {D : Dk} {SA LA : List ByteArray} {E : Nat → ByteArray → Prop} {F : ByteArray → Prop}
/-- A sector more. -/
theorem OX.add (h : OX w b5 b6 me n c mb SA LA E) (hx : x = w.heap.size) (hm : MT w1 x 1 F) (ho : Off (fun _ => False) w w1) (hmm : MM w' me (c + 1) (n + 1) (fun i => if i = n then x else mb i)) (ho2 : Off (fun j => j = me) w1 w') :
    OX w' b5 b6 me (n + 1) (c + 1) (fun i => if i = n then x else mb i) SA LA (fun k => if k = n then F else E k) := by
  have hs := ho.size
  have l5 := h.a5.2.1
  have l6 := h.a6.2.1
  have lm := h.mm.lt
  refine ⟨(h.a5.off ho (fun h => h)).off ho2 (fun e => h.d5m e), (h.a6.off ho (fun h => h)).off ho2 (fun e => h.d6m e), hmm, fun k hk => ?_, h.d56, h.d5m, h.d6m, fun k hk => ?_, fun j k hj hk hne => ?_⟩
  · by_cases e : k = n
    · subst e
      rw [if_pos rfl, if_pos rfl]
      exact (hm.off ho2 (fun e => by omega)).more (by omega)
    · rw [if_neg e, if_neg e]
      exact (((h.mt k (by omega)).off ho (fun h => h)).off ho2 (fun e2 => (h.dk k (by omega)).2.2 e2)).more (Nat.le_succ _)
  · by_cases e : k = n
    · show (if k = n then x else mb k) ≠ b5 ∧ (if k = n then x else mb k) ≠ b6 ∧ (if k = n then x else mb k) ≠ me
      rw [if_pos e]; omega
    · show (if k = n then x else mb k) ≠ b5 ∧ (if k = n then x else mb k) ≠ b6 ∧ (if k = n then x else mb k) ≠ me
      rw [if_neg e]; exact h.dk k (by omega)
  · show (if j = n then x else mb j) ≠ (if k = n then x else mb k)
    by_cases ej : j = n
    · rw [if_pos ej, if_neg (by omega)]
      have := (h.mt k (by omega)).lt
      omega
    · rw [if_neg ej]
      by_cases ek : k = n
      · rw [if_pos ek]
        have := (h.mt j (by omega)).lt
        omega
      · rw [if_neg ek]
        exact h.dd j k (by omega) (by omega) hne
theorem Ev.add (h : Ev w0 w p b5 b6 me n c mb D SA LA E) (hx : x = w.heap.size) (hm : MT w1 x 1 F) (ho : Off (fun _ => False) w w1) (hmm : MM w' me (c + 1) (n + 1) (fun i => if i = n then x else mb i)) (ho2 : Off (fun j => j = me) w1 w') :
    Ev w0 w' p b5 b6 me (n + 1) (c + 1) (fun i => if i = n then x else mb i) D SA LA (fun k => if k = n then F else E k) := by
  obtain ⟨⟨Z, h1, h2, h3⟩, h4, h5, h8⟩ := h
  have hy : ∀ j, Yb b5 b6 me (n + 1) (fun i => if i = n then x else mb i) j → Yb b5 b6 me n mb j ∨ j = x := by
    rintro j (e | e | e | ⟨k, hk, e⟩)
    · exact .inl (.inl e)
    · exact .inl (.inr (.inl e))
    · exact .inl (.inr (.inr (.inl e)))
    · have e : j = (if k = n then x else mb k) := e
      by_cases ek : k = n
      · rw [if_pos ek] at e
        exact .inr e
      · rw [if_neg ek] at e
        exact .inl (.inr (.inr (.inr ⟨k, by omega, e⟩)))
  have hs := ho.size
  refine ⟨⟨Z, (h1.off ho (fun _ _ h => h)).off ho2 (fun j hj e => h2 j hj (.inr (.inr (.inl e)))), fun j hj e => ?_, h3⟩, h4.add hx hm ho hmm ho2, fun j hj => ?_, h8.trans (((ho.mono (fun _ h => h.elim)).trans ho2 : Off (fun j => j = me) w w').below (fun j hj => by rw [hj]; exact h5 me (.inr (.inr (.inl rfl)))) h8.size)⟩
  · rcases hy j e with a | a
    · exact h2 j hj a
    · have := h1.zlt j hj; omega
  · rcases hy j hj with a | a
    · exact h5 j a
    · have := h8.size; omega
end
set_option maxHeartbeats 8000000 in
set_option maxRecDepth 100000 in
theorem ssure_law (xs : List Ac) (v : Value) (w : World) (hA : AReads w v xs) (hl : xs.length ≤ 140737488355328) (hx : ∀ a ∈ xs, a.fine) :
    Calls Try.prog 3 #[v] w fun e w' => e = .returned (.bool true) ∧ Below w.heap.size w w' := by
  obtain ⟨xa, xc, rfl⟩ := hA.form
  obtain ⟨m, hm⟩ : ∃ m, m = xs.length := ⟨_, rfl⟩
  rw [← hm] at hA hl ⊢
  have HA := Lib.hid hA
  have HX := Lib.hid hx
  have HM := Lib.hid hm
  have AW := Lib.hid (sawake_any w)
  have hmm := @run_makeMap Try.prog
  have E0 : errS 0 = .nilIface := rfl
  clear hA hx hm
  go_enter Try.func3, Try.ntmps3
  go_wp2_with fail
  refine AW.out.mono ?_
  rintro e w2 ⟨rfl, hb2⟩
  have HB2 := Lib.hid hb2
  have SN := Lib.hid (snew_ok 9 w2 (by omega) (by omega))
  clear hb2 AW
  go_wp2_with fail
  refine SN.out.mono ?_
  rintro e w3 ⟨p, rfl, hz3, hb3⟩
  obtain ⟨b5, hb5⟩ : ∃ b5, b5 = w3.heap.size := ⟨_, rfl⟩
  obtain ⟨b6, hb6⟩ : ∃ b6, b6 = w3.heap.size + 1 := ⟨_, rfl⟩
  obtain ⟨me, hme⟩ : ∃ me, me = w3.heap.size + 1 + 1 := ⟨_, rfl⟩
  obtain ⟨w5, hw5⟩ : ∃ w5, w5 = ((w3.alloc A9).alloc A9).alloc (.map #[] 0) := ⟨_, rfl⟩
  have hev : Ev w2 w5 p b5 b6 me 0 0 (fun _ => 0) (newD 9) e9 e9 (fun _ _ => False) := by
    obtain ⟨Z, h1, h2⟩ := hz3
    have s1 : (w3.alloc A9).heap.size = b6 := by rw [hb6]; simp
    have s2 : ((w3.alloc A9).alloc A9).heap.size = me := by rw [hme]; simp
    have hb35 : Below w3.heap.size w3 w5 := by rw [hw5]; exact (((Below.refl _ _).alloc (Nat.le_refl _) _).alloc (by simp) _).alloc (by simp; omega) _
    have o1 : Off (fun _ => False) (w3.alloc A9) w5 := by rw [hw5]; exact ((Off.refl _ _).alloc _).alloc _
    have o2 : Off (fun _ => False) ((w3.alloc A9).alloc A9) w5 := by rw [hw5]; exact (Off.refl _ _).alloc _
    have a5 : AR w5 b5 e9 := by
      have h := (AR.made w3).off o1 (fun h => h)
      rw [← hb5] at h
      exact h
    have a6 : AR w5 b6 e9 := by
      have h := (AR.made (w3.alloc A9)).off o2 (fun h => h)
      rw [s1] at h
      exact h
    have am : MM w5 me 0 0 (fun _ => 0) := by
      have h := MM.made ((w3.alloc A9).alloc A9) (fun _ => 0)
      rw [s2, ← hw5] at h
      exact h
    have hb3s := hb3.size
    refine ⟨⟨Z, h1.below hb35, fun j hj e => ?_, h2⟩, ⟨a5, a6, am, fun k hk => absurd hk (Nat.not_lt_zero _), by omega, by omega, by omega, fun k hk => absurd hk (Nat.not_lt_zero _), fun j k hj => absurd hj (Nat.not_lt_zero _)⟩, ?_, hb3.trans (hb35.mono hb3.size)⟩
    · have hj9 := h1.zlt j hj
      rcases e with e | e | e | ⟨k, hk, e⟩
      · omega
      · omega
      · omega
      · omega
    · rintro j (e | e | e | ⟨k, hk, e⟩)
      · omega
      · omega
      · omega
      · omega
  have HE5 := Lib.hid hev
  have HW5 := Lib.hid hw5
  have HF0 : Hid (∀ k : Nat, k < 9 → readD (newD 9) (k : Int) = (fullB ByteArray.empty, 0)) := Lib.hid (fun k hk => by
    obtain ⟨s, hs, hr⟩ := read_on (D := newD 9) rfl rfl rfl hk
    rw [hr]
    have : (List.replicate 9 ByteArray.empty)[k]? = some s := hs
    rw [List.getElem?_replicate, if_pos hk] at this
    injection this with this
    rw [this])
  obtain ⟨f0, hf0⟩ : ∃ f0, f0 = fullB ByteArray.empty := ⟨_, rfl⟩
  have hf0s : f0.size ≤ 140737488355328 := by rw [hf0, fullB_size (by show 0 ≤ 512; omega)]; omega
  rw [← hf0] at HF0
  have HFE := Lib.hid hf0
  clear hev hz3 hb3 SN hf0
  go_upto_block 0 with fail
  rw [← HW5.out, ← hme, ← hb6, ← hb5]
  clear hb5 hb6 hme
  go_wp2_with fail
  go_loopw [32] (fun iv wr => ∃ (i : Nat) (mb : Nat → Nat) (SA LA : List ByteArray) (E : Nat → ByteArray → Prop), iv = .int .i64 (i : Nat) ∧ i ≤ 9 ∧ Hid (Ev w2 wr p b5 b6 me i i mb (newD 9) SA LA E) ∧ Hid (∀ k, k < i → SA[k]? = some f0 ∧ LA[k]? = some f0 ∧ E k f0)) (fun iv _ => 9 - (intOf iv).toNat)
  case atStart => exact ⟨0, fun _ => 0, e9, e9, fun _ _ => False, rfl, Nat.zero_le _, HE5, Lib.hid (fun k hk => absurd hk (Nat.not_lt_zero _))⟩
  case round =>
    obtain ⟨i, mb, SA, LA, E, rfl, hi9, HEV, HALL⟩ := hrel
    by_cases hlt : i < 9
    · as_aux_lemma =>
      have RD := Lib.hid (vread HEV.out (i : Int))
      rw [HF0.out i hlt, E0] at RD
      go_wp2_with fail
      refine RD.out.mono ?_
      rintro e w6 ⟨rfl, hb6⟩
      have hev6 := HEV.out.below hb6
      have a5 := hev6.2.1.a5
      have a6 := hev6.2.1.a6
      obtain ⟨y5, hy5⟩ : ∃ y5, SA[i]? = some y5 := ⟨SA[i]'(by rw [a5.1]; exact hlt), by simp⟩
      obtain ⟨y6, hy6⟩ : ∃ y6, LA[i]? = some y6 := ⟨LA[i]'(by rw [a6.1]; exact hlt), by simp⟩
      obtain ⟨x5, g5⟩ := a5.2.2 i y5 hy5
      obtain ⟨x6, g6⟩ := a6.2.2 i y6 hy6
      have hx1 := hev6.2.1.set5 hlt f0
      have hx2 := hx1.set6 hlt f0
      obtain ⟨w7, hw7⟩ : ∃ w7, w7 = (w6.setCell ⟨b5, i, none⟩ (.string f0)).setCell ⟨b6, i, none⟩ (.string f0) := ⟨_, rfl⟩
      rw [← hw7] at hx2
      have ho7 : Off (Yb b5 b6 me i mb) w6 w7 := by rw [hw7]; exact ((Off.refl (Yb b5 b6 me i mb) w6).setCell (p := ⟨b5, i, none⟩) (.inr (.inl rfl)) _).setCell (p := ⟨b6, i, none⟩) (.inr (.inr (.inl rfl))) _
      have hev7 := hev6.oth ho7 hx2
      obtain ⟨x, hx⟩ : ∃ x, x = w7.heap.size := ⟨_, rfl⟩
      have hmt := MT.made w7
      rw [← hx] at hmt
      obtain ⟨w9, hr9, hm9, ho9⟩ := hmt.put hf0s (by omega)
      have ho79 : Off (fun _ => False) w7 w9 := ((Off.refl (fun _ => False) w7).alloc (.map #[] 0)).trans' ho9 (fun j hj e => by omega)
      have hmm9 := hev7.2.1.mm.off ho79 (fun h => h)
      obtain ⟨wA, hrA, hmA, hoA⟩ := hmm9.put hlt (by omega) x
      have hevA := hev7.add hx hm9 ho79 hmA hoA
      have HEA := Lib.hid hevA
      have HW7 := Lib.hid hw7
      have HHX := Lib.hid hx
      have h56 : b5 ≠ b6 := hev6.2.1.d56
      have HSL := Lib.hid (And.intro a5.1 a6.1)
      rw [hx] at hr9 hrA
      clear hb6 hev6 a5 a6 hy5 hy6 hx1 hx2 hw7 ho7 hev7 hmt hm9 ho9 ho79 hmm9 hmA hoA hevA RD
      go_upto_region 13 with fail
      rw [← HW7.out]
      go_wp2_with fail
      refine ⟨⟨i + 1, _, _, _, _, by go_num, by omega, HEA, Lib.hid (fun k hk => ?_)⟩, by simp [intOf]; omega⟩
      by_cases e : k = i
      · subst e
        refine ⟨List.getElem?_set_self (by rw [HSL.out.1]; exact hlt), List.getElem?_set_self (by rw [HSL.out.2]; exact hlt), ?_⟩
        rw [if_pos rfl]
        exact .inr rfl
      · obtain ⟨q1, q2, q3⟩ := HALL.out k (by omega)
        refine ⟨by rw [List.getElem?_set_ne (fun h => e h.symm)]; exact q1, by rw [List.getElem?_set_ne (fun h => e h.symm)]; exact q2, ?_⟩
        rw [if_neg e]
        exact q3
    · have hi : i = 9 := by omega
      rw [hi] at HEV HALL
      clear hi
      have HT0 : Hid (Told (newD 9) SA LA E) := Lib.hid (by
        have g5 := HEV.out.2.1.a5.1
        have g6 := HEV.out.2.1.a6.1
        have hm0 : ∀ k, k < 9 → ((newD 9).sure.map fullB)[k]? = some f0 := fun k hk => by
          show ((List.replicate 9 ByteArray.empty).map fullB)[k]? = _
          rw [List.map_replicate, List.getElem?_replicate, if_pos hk, HFE.out]
        have hle : ((newD 9).sure.map fullB).length = 9 := rfl
        have e1 : ∀ L : List ByteArray, L.length = 9 → (∀ k, k < 9 → L[k]? = some f0) → L = (newD 9).sure.map fullB := fun L hl h => by
          apply List.ext_getElem?
          intro k
          by_cases hk : k < 9
          · rw [h k hk, hm0 k hk]
          · rw [List.getElem?_eq_none (by omega), List.getElem?_eq_none (by omega)]
        refine ⟨rfl, e1 SA g5 (fun k hk => (HALL.out k hk).1), e1 LA g6 (fun k hk => (HALL.out k hk).2.1), fun k s hs => ?_, fun q hq => (by cases hq)⟩
        have hs : (List.replicate 9 ByteArray.empty)[k]? = some s := hs
        rw [List.getElem?_replicate] at hs
        split at hs
        · rename_i hk
          injection hs with hs
          rw [← hs, ← HFE.out]
          exact (HALL.out k hk).2.2
        · cases hs)
      have HP0 : Hid ((newD 9).pend.length ≤ 0) := Lib.hid (Nat.le_refl 0)
      clear HALL HFE hf0s HF0
      go_wp2_with fail
      go_loopw [55] (fun jv wr => ∃ (j c : Nat) (D : Dk) (SA LA : List ByteArray) (E : Nat → ByteArray → Prop), jv = .int .i64 (j : Nat) ∧ j ≤ m ∧ j ≤ 80 ∧ c ≤ 9 + j ∧ Hid (Ev w2 wr p b5 b6 me 9 c mb D SA LA E) ∧ Hid (Told D SA LA E) ∧ Hid (D.pend.length ≤ j)) (fun jv _ => m - (intOf jv).toNat)
      case atStart => exact ⟨0, 9, newD 9, SA, LA, E, rfl, Nat.zero_le _, Nat.zero_le _, by omega, HEV, HT0, HP0⟩
      case round => as_aux_lemma =>
        obtain ⟨j, c, D, SA, LA, E, rfl, hjm, hj80, hc9, HEV, HTD, HPJ⟩ := hrel
        have HPL : Hid (D.pend.length ≤ 1000000) := Lib.hid (by have := HPJ.out; omega)
        by_cases hlt : j < m
        · as_aux_lemma =>
          obtain ⟨a, ha⟩ : ∃ a, xs[j]? = some a := ⟨xs[j]'(by rw [← HM.out]; exact hlt), by simp⟩
          have hfi := HX.out a (List.mem_of_getElem? ha)
          have hbw : Below w.heap.size w wr := HB2.out.trans (HEV.out.2.2.2.mono HB2.out.size)
          obtain ⟨xb, xo, kv, rfl, hxl, hxc1, hxc2, d0, d1, d2, d3, hkv⟩ := (HA.out.below hbw).at ha
          obtain ⟨_, _, kv2, hxe, _, _, _, e0, e1, e2, e3, hkv0⟩ := HA.out.at ha
          have hkve : kv2 = kv := by
            simp only [Option.some.injEq, Addr.mk.injEq] at hxe
            obtain ⟨rfl, rfl, _⟩ := hxe
            have := (hbw.cell (p := ⟨xb, xo + j * 4 + 3, none⟩) (cell_lt e3)).trans e3
            rw [d3] at this
            exact (Option.some.inj this).symm
          subst hkve
          obtain ⟨ka, kcc, hkf⟩ := hkv.form
          obtain ⟨kl, hkl⟩ : ∃ kl, kl = a.keep.length := ⟨_, rfl⟩
          rw [← hkl] at hkf
          subst hkf
          obtain ⟨wt, at_, tx, kp⟩ := a
          simp only at d0 d1 d2 d3 hkv hkv0
          obtain ⟨hf1, hf2, hf3, hf4⟩ := hfi
          simp only at hf1 hf2 hf3 hf4
          obtain ⟨z, hz⟩ : ∃ z, z = wr.heap.size := ⟨_, rfl⟩
          obtain ⟨ob, hob⟩ : ∃ ob, ob = Obj.cells #[.int .i64 wt, .int .i64 at_, .string tx, .slice ka kl kcc] 36 := ⟨_, rfl⟩
          obtain ⟨wz, hwz⟩ : ∃ wz, wz = wr.alloc (.cells #[.int .i64 wt, .int .i64 at_, .string tx, .slice ka kl kcc] 36) := ⟨_, rfl⟩
          have htz : EvZ w2 wz p b5 b6 me 9 c z mb ob D SA LA E := by rw [hwz, hz, hob]; exact HEV.out.watch _
          have HKV : Hid (∀ W, Below w2.heap.size w2 W → RB W (.slice ka kl kcc) kp) := Lib.hid (fun W hb => hkv0.below (HB2.out.trans (hb.mono HB2.out.size)))
          have HKZ : Hid (kp ≠ [] → ∀ b o n c, Value.slice ka kl kcc = .slice (some ⟨b, o, none⟩) n c → b < w2.heap.size) := Lib.hid (fun hne b o n c e => Nat.lt_of_lt_of_le (hkv0.lt hne b o n c e) HB2.out.size)
          have HOB : Hid (∀ W : World, W.heap[z]? = some ob → W.cell? ⟨z, 0, none⟩ = some (.int .i64 wt) ∧ W.cell? ⟨z, 1, none⟩ = some (.int .i64 at_) ∧ W.cell? ⟨z, 2, none⟩ = some (.string tx) ∧ W.cell? ⟨z, 3, none⟩ = some (.slice ka kl kcc)) := Lib.hid (fun W h => by
            rw [hob] at h
            exact ⟨ob_cell h rfl, ob_cell h rfl, ob_cell h rfl, ob_cell h rfl⟩)
          have HTZ := Lib.hid htz
          obtain ⟨z0, z1, z2, z3⟩ := HOB.out wz htz.2.2.2.2.1
          have HWZ := Lib.hid hwz
          unfold maxLen at hxc2
          clear ha hbw hkv hkv0 hxe e0 e1 e2 e3 htz hob hwz hxl hkl
          by_cases h80 : j = 80
          · have hjb : ((j : Int) == (80 : Int)) = true := by rw [beq_iff_eq]; omega
            have HDF := Lib.hid HTZ.out.ev
            have HTF := HTD
            clear h80
            as_aux_lemma =>
            go_wp2_with fail
            rw [← HWZ.out]
            refine (vfall HDF.out HPL.out).mono ?_
            rintro e w20 ⟨rfl, hv⟩
            have HV := Lib.hid hv
            have HRE : Hid (∀ k : Nat, k < 9 → ∃ s, SA[k]? = some (fullB s) ∧ readD (fallD (fun j => ([] : List Bool).getD j false) D) (k : Int) = (fullB s, 0)) := Lib.hid (fun k hk => by
              have hsl : (fallD (fun j => ([] : List Bool).getD j false) D).sure.length = 9 := by rw [fall_none]; exact HTF.out.1
              obtain ⟨s, hs, hr⟩ := read_on hsl rfl rfl hk
              rw [fall_none] at hs
              refine ⟨s, ?_, hr⟩
              rw [HTF.out.2.1, List.getElem?_map, hs]; rfl)
            clear hv
            go_wp2_with fail
            go_loopw [151] (fun iv wr => ∃ i : Nat, iv = .int .i64 (i : Nat) ∧ i ≤ 9 ∧ Hid (Ev w2 wr p b5 b6 me 9 c mb (fallD (fun j => ([] : List Bool).getD j false) D) SA LA E)) (fun iv _ => 9 - (intOf iv).toNat)
            case atStart => exact ⟨0, rfl, Nat.zero_le _, HV⟩
            case round => as_aux_lemma =>
              obtain ⟨i, rfl, hi9, HEV⟩ := hrel
              by_cases hil : i < 9
              · obtain ⟨s, hs, hr⟩ := HRE.out i hil
                have RD := Lib.hid (vread HEV.out (i : Int))
                obtain ⟨fs, hfs⟩ : ∃ fs, fs = fullB s := ⟨_, rfl⟩
                rw [hr, E0, ← hfs] at RD
                rw [← hfs] at hs
                have HS := Lib.hid hs
                have hsx := same_str fs
                clear hs hr hfs
                go_wp2_with fail
                refine RD.out.mono ?_
                rintro e w21 ⟨rfl, hb⟩
                have hev := HEV.out.below hb
                obtain ⟨x5, _⟩ := hev.2.1.a5.2.2 i fs HS.out
                have HEV2 := Lib.hid hev
                clear hb hev RD
                go_wp2_with fail
                exact ⟨⟨i + 1, by go_num, by omega, HEV2⟩, by simp [intOf]; omega⟩
              · have hie : i = 9 := by omega
                have HBF := Lib.hid (HB2.out.trans (HEV.out.2.2.2.mono HB2.out.size))
                subst hie
                go_wp2_with fail
                go_ret
                exact ⟨rfl, HBF.out⟩
          have hjb : ((j : Int) == (80 : Int)) = false := by rw [beq_eq_false_iff_ne]; omega
          have hj79 : j ≤ 79 := by omega
          clear h80
          go_upto_block 4 with fail
          rw [← hz, ← HWZ.out]
          clear hz d0 d1 d2 d3
          by_cases h0 : wt = 0
          · as_aux_lemma =>
            have b0 : (wt == (0 : Int)) = true := by rw [beq_iff_eq]; exact h0
            have TW := Lib.hid (zwrite HTZ.out at_ tx HPL.out hf3)
            clear h0
            rcases told_write HTD.out at_ tx with ⟨hn0, htd, hpe⟩ | ⟨hn0, hs5, hpe, k, rfl, hk9, hrd, htd⟩
            · rw [errS_pos hn0] at TW
              obtain ⟨en, hen⟩ : ∃ en, en = (writeD D at_ tx).2 := ⟨_, rfl⟩
              obtain ⟨D2, hD2⟩ : ∃ D2, D2 = (writeD D at_ tx).1 := ⟨_, rfl⟩
              rw [← hen, ← hD2] at TW
              rw [← hD2] at htd hpe
              have HTD2 := Lib.hid htd
              have HPE : Hid (D2.pend.length ≤ j + 1) := Lib.hid (by rw [hpe]; have := HPJ.out; omega)
              clear hn0 htd hpe hen hD2
              go_wp2_with fail
              refine TW.out.mono ?_
              rintro e w7 ⟨rfl, ht⟩
              have HEV2 := Lib.hid ht.ev
              clear ht TW
              go_wp2_with fail
              exact ⟨⟨j + 1, c, D2, SA, LA, E, by go_num, by omega, by omega, by omega, HEV2, HTD2, HPE⟩, by simp [intOf]; omega⟩
            · rw [hn0, E0] at TW
              obtain ⟨D2, hD2⟩ : ∃ D2, D2 = (writeD D (k : Int) tx).1 := ⟨_, rfl⟩
              rw [← hD2] at TW htd hpe hrd
              obtain ⟨fs, hfs⟩ : ∃ fs, fs = fullB tx := ⟨_, rfl⟩
              rw [← hfs] at htd hrd
              have hfz : fs.size = 512 := by rw [hfs]; exact fullB_size hs5
              have hex : fs.extract 0 tx.size = tx := by rw [hfs]; exact full_head hs5
              have HTD2 := Lib.hid htd
              have HPE : Hid (D2.pend.length ≤ j + 1) := Lib.hid (by rw [hpe]; have := HPJ.out; omega)
              have HRD := Lib.hid hrd
              have hsx := same_str tx
              clear hn0 htd hpe hD2 hfs hrd
              go_wp2_with fail
              refine TW.out.mono ?_
              rintro e w7 ⟨rfl, ht⟩
              obtain ⟨y0, y1, y2, y3⟩ := HOB.out w7 ht.2.2.2.2.1
              have RD := Lib.hid (vread ht.ev (k : Int))
              rw [HRD.out, E0] at RD
              have HT7 := Lib.hid ht
              clear ht TW
              go_wp2_with fail
              refine RD.out.mono ?_
              rintro e w8 ⟨rfl, hb8⟩
              have ht8 := HT7.out.below hb8
              obtain ⟨u0, u1, u2, u3⟩ := HOB.out w8 ht8.2.2.2.2.1
              have a6 := ht8.2.1.a6
              obtain ⟨y6, hy6⟩ : ∃ y6, LA[k]? = some y6 := ⟨LA[k]'(by rw [a6.1]; exact hk9), by simp⟩
              obtain ⟨x6, g6⟩ := a6.2.2 k y6 hy6
              have hx2 := ht8.2.1.set6 hk9 fs
              obtain ⟨w9, hw9⟩ : ∃ w9, w9 = w8.setCell ⟨b6, k, none⟩ (.string fs) := ⟨_, rfl⟩
              rw [← hw9] at hx2
              have ho9 : Off (Yb b5 b6 me 9 mb) w8 w9 := by rw [hw9]; exact (Off.refl (Yb b5 b6 me 9 mb) w8).setCell (p := ⟨b6, k, none⟩) (.inr (.inr (.inl rfl))) _
              have ht9 := ht8.oth ho9 hx2
              obtain ⟨v0, v1, v2, v3⟩ := HOB.out w9 ht9.2.2.2.2.1
              have hlk := ht9.2.1.mm.look hk9 (Nat.le_refl 9)
              obtain ⟨wA, hrA, hmA, hoA⟩ := (ht9.2.1.mt k hk9).put (s := fs) (by omega) (by omega)
              have htA := ht9.oth (hoA.mono (fun i hi => .inr (.inr (.inr ⟨k, hk9, hi⟩)))) (ht9.2.1.told hk9 hmA hoA)
              obtain ⟨t0, t1, t2, t3⟩ := HOB.out wA htA.2.2.2.2.1
              have HTA := Lib.hid htA
              have HW9 := Lib.hid hw9
              have HLA : Hid (∀ m, (wA.drewN m).cell? ⟨z, 2, none⟩ = some (.string tx)) := Lib.hid (fun m => t2)
              clear hb8 ht8 a6 hy6 hx2 hw9 ho9 ht9 hmA hoA htA RD y0 y1 y2 y3
              go_upto_region 25 with fail
              rw [← HW9.out]
              go_wp2_with fail
              go_quiet (fail)
              go_wp2_with fail
              exact ⟨⟨j + 1, c + 1, D2, SA, LA.set k fs, _, by go_num, by omega, by omega, by omega, Lib.hid (HTA.out.ev.below (Below.drewN (Below.refl _ _))), HTD2, HPE⟩, by simp [intOf]; omega⟩
          have b0 : (wt == (0 : Int)) = false := by rw [beq_eq_false_iff_ne]; exact h0
          by_cases h1 : wt = 1
          · as_aux_lemma =>
            have b1 : (wt == (1 : Int)) = true := by rw [beq_iff_eq]; exact h1
            have TW := Lib.hid (zflush HTZ.out HPL.out)
            clear h0 h1
            obtain ⟨D2, hD2⟩ : ∃ D2, D2 = (flushD D).1 := ⟨_, rfl⟩
            rcases told_flush HTD.out with ⟨hn0, htd, hpe⟩ | ⟨hn0, htd, hpe⟩
            · rw [errS_pos hn0] at TW
              obtain ⟨en, hen⟩ : ∃ en, en = (flushD D).2 := ⟨_, rfl⟩
              rw [← hen, ← hD2] at TW
              rw [← hD2] at htd hpe
              have HTD2 := Lib.hid htd
              have HPE : Hid (D2.pend.length ≤ j + 1) := Lib.hid (by rw [hpe]; have := HPJ.out; omega)
              clear hn0 htd hpe hen hD2
              go_wp2_with fail
              refine TW.out.mono ?_
              rintro e w7 ⟨rfl, ht⟩
              have HEV2 := Lib.hid ht.ev
              clear ht TW
              go_wp2_with fail
              exact ⟨⟨j + 1, c, D2, SA, LA, E, by go_num, by omega, by omega, by omega, HEV2, HTD2, HPE⟩, by simp [intOf]; omega⟩
            · rw [hn0, E0, ← hD2] at TW
              rw [← hD2] at htd hpe
              have HTD2 := Lib.hid htd
              have HPE : Hid (D2.pend.length ≤ j + 1) := Lib.hid (by rw [hpe]; show 0 ≤ _; omega)
              clear hn0 htd hpe hD2
              go_wp2_with fail
              refine TW.out.mono ?_
              rintro e w7 ⟨rfl, ht⟩
              obtain ⟨cs, hcs⟩ : ∃ cs, cs = sv LA := ⟨_, rfl⟩
              have hcl : cs.length = 9 := by rw [hcs, sv_len]; exact ht.2.1.a6.1
              have HRG : Hid (w7.rangeAt b6 0 cs) := Lib.hid (fun j v hv => by
                rw [hcs] at hv
                rw [Nat.zero_add]
                exact sv_cell ht.2.1.a6 hv)
              have HTH : Hid (w7.there b5 0 cs.toArray.size) := Lib.hid (fun j hj => by
                rw [Nat.zero_add]
                exact sv_there ht.2.1.a5 (by simpa [hcl] using hj))
              have HI1 : Hid ((Try.prog.info? 29).map (·.size) = some cs.length) := Lib.hid (by rw [hcl]; kernel_rfl)
              have HI2 : Hid ((Try.prog.info? 29).map (·.size) = some cs.toArray.size) := Lib.hid (by rw [List.size_toArray, hcl]; kernel_rfl)
              have HON : Hid (cs.toArray.all (·.oneCell') = true) := Lib.hid (by
                rw [Array.all_eq_true_iff_forall_mem]
                intro x hx
                rw [hcs] at hx
                obtain ⟨s, _, rfl⟩ := List.mem_map.1 (by simpa using hx)
                rfl)
              have hx := ht.2.1.copy
              rw [← hcs] at hx
              have ho := (off_setCells cs b5 0 w7).mono (Z' := Yb b5 b6 me 9 mb) (fun i hi => .inl hi)
              have HEV2 := Lib.hid (ht.oth ho hx).ev
              have HCL := Lib.hid hcl
              have HCS := Lib.hid hcs
              clear ht TW hx ho hcs hcl
              go_upto_region 31 with fail
              refine wp_region_lit ?_
              refine wpList_load_mid rfl 29 (.tmp 6) rfl b6 0 rfl cs _ HRG.out Try.underlying29 rfl HI1.out ?_
              refine wpList_store_mid rfl 29 (.tmp 5) (.tmp 109) rfl b5 0 cs.toArray rfl rfl HTH.out HI2.out HON.out ?_
              refine wpList_nil ?_
              rw [show cs.toArray.toList = cs by simp]
              go_wp2_with fail
              exact ⟨⟨j + 1, c, D2, LA, LA, E, by go_num, by omega, by omega, by omega, HEV2, HTD2, HPE⟩, by simp [intOf]; omega⟩
          have b1 : (wt == (1 : Int)) = false := by rw [beq_eq_false_iff_ne]; exact h1
          by_cases h2 : wt = 2
          · as_aux_lemma =>
            have b2 : (wt == (2 : Int)) = true := by rw [beq_iff_eq]; exact h2
            have TW := Lib.hid (zfuel HTZ.out at_ hf1)
            clear h0 h1 h2
            go_wp2_with fail
            refine TW.out.mono ?_
            rintro e w7 ⟨rfl, ht⟩
            have HEV2 := Lib.hid ht.ev
            have HTD2 := Lib.hid (told_fuel HTD.out at_)
            have HPE : Hid ((fuelD D at_).pend.length ≤ j + 1) := Lib.hid (Nat.le_succ_of_le HPJ.out)
            clear ht TW
            go_wp2_with fail
            exact ⟨⟨j + 1, c, fuelD D at_, SA, LA, E, by go_num, by omega, by omega, by omega, HEV2, HTD2, HPE⟩, by simp [intOf]; omega⟩
          have b2 : (wt == (2 : Int)) = false := by rw [beq_eq_false_iff_ne]; exact h2
          by_cases h3 : wt = 3
          · as_aux_lemma =>
            have b3 : (wt == (3 : Int)) = true := by rw [beq_iff_eq]; exact h3
            have TW := Lib.hid (zfall HTZ.out kp (.slice ka kl kcc) HPL.out (HKV.out wz HTZ.out.2.2.2.2.2) HKZ.out)
            clear h0 h1 h2 h3
            obtain ⟨K, hK⟩ : ∃ K : Nat → Bool, K = fun j => kp.getD j false := ⟨_, rfl⟩
            rw [← hK] at TW
            have hsl : (fallD K D).sure.length = 9 := by show (sk _ _ _ _).length = 9; rw [sk_len]; exact HTD.out.1
            have HSL := Lib.hid hsl
            have HRE : Hid (∀ k : Nat, k < 9 → ∃ s, (fallD K D).sure[k]? = some s ∧ readD (fallD K D) (k : Int) = (fullB s, 0) ∧ s.size ≤ 512 ∧ E k (fullB s)) := Lib.hid (fun k hk => by
              obtain ⟨s, hs, hr⟩ := read_on hsl rfl rfl hk
              obtain ⟨⟨Z, hdx, _⟩, _⟩ := HTZ.out
              exact ⟨s, hs, hr, (fall_ok hdx.ok K).sl s (List.mem_of_getElem? hs), told_shown HTD.out K hs⟩)
            clear hK hsl
            go_wp2_with fail
            refine TW.out.mono ?_
            rintro e w7 ⟨rfl, ht⟩
            have HEV7 := Lib.hid ht.ev
            clear ht TW
            go_wp2_with fail
            go_loopw [122] (fun iv wr => ∃ (i : Nat) (SB LB : List ByteArray), iv = .int .i64 (i : Nat) ∧ i ≤ 9 ∧ Hid (Ev w2 wr p b5 b6 me 9 c mb (fallD K D) SB LB E) ∧ Hid (∀ k s, k < i → (fallD K D).sure[k]? = some s → SB[k]? = some (fullB s) ∧ LB[k]? = some (fullB s))) (fun iv _ => 9 - (intOf iv).toNat)
            case atStart => exact ⟨0, SA, LA, rfl, Nat.zero_le _, HEV7, Lib.hid (fun k s hk => absurd hk (Nat.not_lt_zero _))⟩
            case round => as_aux_lemma =>
              obtain ⟨i, SB, LB, rfl, hi9, HEI, HALL⟩ := hrel
              by_cases hil : i < 9
              · obtain ⟨s, hs, hr, hsz, hE⟩ := HRE.out i hil
                obtain ⟨fs, hfs⟩ : ∃ fs, fs = fullB s := ⟨_, rfl⟩
                have hfz : fs.size ≤ 140737488355328 := by rw [hfs, fullB_size hsz]; omega
                have RD := Lib.hid (vread HEI.out (i : Int))
                rw [hr, E0, ← hfs] at RD
                rw [← hfs] at hE
                have HS := Lib.hid hs
                have HFS := Lib.hid hfs
                have HE := Lib.hid hE
                clear hs hr hfs hE
                go_wp2_with fail
                refine RD.out.mono ?_
                rintro e w8 ⟨rfl, hb8⟩
                have hev := HEI.out.below hb8
                have hlk1 := hev.2.1.mm.look hil (Nat.le_refl 9)
                have hlk2 := (hev.2.1.mt i hil).look hfz HE.out
                have a5 := hev.2.1.a5
                have a6 := hev.2.1.a6
                obtain ⟨y5, hy5⟩ : ∃ y5, SB[i]? = some y5 := ⟨SB[i]'(by rw [a5.1]; exact hil), by simp⟩
                obtain ⟨y6, hy6⟩ : ∃ y6, LB[i]? = some y6 := ⟨LB[i]'(by rw [a6.1]; exact hil), by simp⟩
                obtain ⟨x5, g5⟩ := a5.2.2 i y5 hy5
                obtain ⟨x6, g6⟩ := a6.2.2 i y6 hy6
                have hx2 := (hev.2.1.set5 hil fs).set6 hil fs
                have ho7 := ((Off.refl (Yb b5 b6 me 9 mb) w8).setCell (p := ⟨b5, i, none⟩) (.inr (.inl rfl)) (.string fs)).setCell (p := ⟨b6, i, none⟩) (.inr (.inr (.inl rfl))) (.string fs)
                have HEV8 := Lib.hid (hev.oth ho7 hx2)
                have h56 : b5 ≠ b6 := hev.2.1.d56
                have HLL := Lib.hid (And.intro a5.1 a6.1)
                clear hb8 hev a5 a6 hy5 hy6 hx2 ho7 RD
                go_wp2_with fail
                refine ⟨⟨i + 1, SB.set i fs, LB.set i fs, by go_num, by omega, HEV8, Lib.hid (fun k s2 hk hs2 => ?_)⟩, by simp [intOf]; omega⟩
                by_cases e : k = i
                · subst e
                  rw [HS.out] at hs2
                  injection hs2 with hs2
                  rw [← hs2, ← HFS.out]
                  exact ⟨List.getElem?_set_self (by rw [HLL.out.1]; exact hil), List.getElem?_set_self (by rw [HLL.out.2]; exact hil)⟩
                · obtain ⟨q1, q2⟩ := HALL.out k s2 (by omega) hs2
                  exact ⟨by rw [List.getElem?_set_ne (fun h => e h.symm)]; exact q1, by rw [List.getElem?_set_ne (fun h => e h.symm)]; exact q2⟩
              · have hie : i = 9 := by omega
                subst hie
                have heq : SB = LB := by
                  apply List.ext_getElem?
                  intro k
                  have g5 := HEI.out.2.1.a5.1
                  have g6 := HEI.out.2.1.a6.1
                  by_cases hk : k < 9
                  · obtain ⟨s, hs, _⟩ := HRE.out k hk
                    obtain ⟨q1, q2⟩ := HALL.out k s hk hs
                    rw [q1, q2]
                  · rw [List.getElem?_eq_none (by omega), List.getElem?_eq_none (by omega)]
                have HTD2 : Hid (Told (fallD K D) SB LB E) := Lib.hid (by
                  rw [← heq]
                  exact told_fall HTD.out K SB HEI.out.2.1.a5.1 (fun k s hk hs => (HALL.out k s hk hs).1))
                have HPE : Hid ((fallD K D).pend.length ≤ j + 1) := Lib.hid (by show ([] : Pnd).length ≤ _; simp)
                clear heq
                go_wp2_with fail
                exact ⟨⟨j + 1, c, fallD K D, SB, LB, E, by go_num, by omega, by omega, by omega, HEI, HTD2, HPE⟩, by simp [intOf]; omega⟩
          as_aux_lemma =>
          have b3 : (wt == (3 : Int)) = false := by rw [beq_eq_false_iff_ne]; exact h3
          have HEV2 := Lib.hid HTZ.out.ev
          have HPE : Hid (D.pend.length ≤ j + 1) := Lib.hid (Nat.le_succ_of_le HPJ.out)
          clear h0 h1 h2 h3
          go_wp2_with fail
          exact ⟨⟨j + 1, c, D, SA, LA, E, by go_num, by omega, by omega, by omega, HEV2, HTD, HPE⟩, by simp [intOf]; omega⟩
        · have hjj : m = j := by omega
          have HDF := HEV
          have HTF := HTD
          subst hjj
          as_aux_lemma =>
          go_wp2_with fail
          refine (vfall HDF.out HPL.out).mono ?_
          rintro e w20 ⟨rfl, hv⟩
          have HV := Lib.hid hv
          have HRE : Hid (∀ k : Nat, k < 9 → ∃ s, SA[k]? = some (fullB s) ∧ readD (fallD (fun j => ([] : List Bool).getD j false) D) (k : Int) = (fullB s, 0)) := Lib.hid (fun k hk => by
            have hsl : (fallD (fun j => ([] : List Bool).getD j false) D).sure.length = 9 := by rw [fall_none]; exact HTF.out.1
            obtain ⟨s, hs, hr⟩ := read_on hsl rfl rfl hk
            rw [fall_none] at hs
            refine ⟨s, ?_, hr⟩
            rw [HTF.out.2.1, List.getElem?_map, hs]; rfl)
          clear hv
          go_wp2_with fail
          go_loopw [151] (fun iv wr => ∃ i : Nat, iv = .int .i64 (i : Nat) ∧ i ≤ 9 ∧ Hid (Ev w2 wr p b5 b6 me 9 c mb (fallD (fun j => ([] : List Bool).getD j false) D) SA LA E)) (fun iv _ => 9 - (intOf iv).toNat)
          case atStart => exact ⟨0, rfl, Nat.zero_le _, HV⟩
          case round => as_aux_lemma =>
            obtain ⟨i, rfl, hi9, HEV⟩ := hrel
            by_cases hil : i < 9
            · obtain ⟨s, hs, hr⟩ := HRE.out i hil
              have RD := Lib.hid (vread HEV.out (i : Int))
              obtain ⟨fs, hfs⟩ : ∃ fs, fs = fullB s := ⟨_, rfl⟩
              rw [hr, E0, ← hfs] at RD
              rw [← hfs] at hs
              have HS := Lib.hid hs
              have hsx := same_str fs
              clear hs hr hfs
              go_wp2_with fail
              refine RD.out.mono ?_
              rintro e w21 ⟨rfl, hb⟩
              have hev := HEV.out.below hb
              obtain ⟨x5, _⟩ := hev.2.1.a5.2.2 i fs HS.out
              have HEV2 := Lib.hid hev
              clear hb hev RD
              go_wp2_with fail
              exact ⟨⟨i + 1, by go_num, by omega, HEV2⟩, by simp [intOf]; omega⟩
            · have hie : i = 9 := by omega
              have HBF := Lib.hid (HB2.out.trans (HEV.out.2.2.2.mono HB2.out.size))
              subst hie
              go_wp2_with fail
              go_ret
              exact ⟨rfl, HBF.out⟩
end Go.Proofs.Ytbicecbcloellaa
