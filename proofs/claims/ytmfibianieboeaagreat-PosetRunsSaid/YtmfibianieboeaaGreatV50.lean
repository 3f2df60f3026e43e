/- What Runs answers of a whole order: the runs stand ahead of each other, a run of several has for each thing one that it isn't comparable with. The law PosetRuns, walked. -/
import Derived.Test.YtmfibianieboeaaGreatV49
set_option linter.unusedVariables false
set_option linter.unusedSimpArgs false
namespace Go.Proofs.YtmfibianieboeaaGreat
open Go.ChangeShapes Go.WideShapes Go.ChangeAt Go.RowKit

section
variable {n : Int} {F : EdN} {A : List Nat} {L : List Int} {s : Nat → Bool} {P : Int → Int} {l : List Int}
def aOf (L : List Int) (p : Nat) : Nat := (L.getD p 0).toNat
def tOf (A : List Nat) (L : List Int) (p : Nat) : Nat := A.getD (aOf L p) 0
theorem xOf_t (A : List Nat) (L : List Int) (p : Nat) : xOf A L p = (tOf A L p : Int) := rfl
theorem RunsK.at (h : RunsK n F A L s) {p : Nat} (hp : p < A.length) : L[p]? = some (aOf L p : Int) ∧ aOf L p < A.length ∧ A[aOf L p]? = some (tOf A L p) := by
  have hl : p < L.length := by rw [h.len]; exact hp
  have e : L[p]? = some L[p] := List.getElem?_eq_getElem hl
  obtain ⟨u, hu, e2⟩ := (reach_tame h.line).2 L[p] (List.getElem_mem hl)
  have e3 : aOf L p = u := by
    unfold aOf
    rw [List.getD_eq_getElem?_getD, e, e2]
    simp
  refine ⟨by rw [e, e2, e3], by rw [e3]; exact hu, ?_⟩
  unfold tOf
  rw [e3, List.getD_eq_getElem?_getD, List.getElem?_eq_getElem hu]
  rfl
theorem RunsK.inj (h : RunsK n F A L s) {p q : Nat} (hp : p < A.length) (hq : q < A.length) (e : aOf L p = aOf L q) : p = q := by
  have h1 := (h.at hp).1
  have h2 := (h.at hq).1
  rw [e] at h1
  have hl : p < L.length := by rw [h.len]; exact hp
  exact (List.getElem?_inj hl (reach_tame h.line).1).1 (h1.trans h2.symm)
theorem RunsK.up (h : RunsK n F A L s) {p q : Nat} (hp : p < A.length) (hq : q < A.length) (hr : AheadK (EdR F) (tOf A L p) (tOf A L q)) : p < q := by
  obtain ⟨a1, a2, a3⟩ := h.at hp
  obtain ⟨b1, b2, b3⟩ := h.at hq
  obtain ⟨j, hj, ej⟩ := reach_beh h.line q _ b1 (aOf L p : Int) (mem_needE.2 ⟨(aOf L p, aOf L q), mem_pairA.2 ⟨a2, b2, hr⟩, rfl, rfl⟩)
  have hl : p < L.length := by rw [h.len]; exact hp
  have := (List.getElem?_inj hl (reach_tame h.line).1).1 (a1.trans ej.symm)
  omega
theorem RunsK.one (h : RunsK n F A L s) {p : Nat} (hp : p < A.length) : s p = true ↔ ∀ q, q < A.length → (p < q → AheadK (EdR F) (tOf A L p) (tOf A L q)) ∧ (q < p → AheadK (EdR F) (tOf A L q) (tOf A L p)) := by
  rw [h.single p _ (h.at hp).1]
  constructor
  · intro hs q hq
    exact hs q _ (h.at hq).1
  · intro hs q j hj
    have hq : q < A.length := by rw [← h.len]; exact (List.getElem?_eq_some_iff.1 hj).1
    have e := (h.at hq).1
    rw [hj] at e
    have e2 : j = aOf L q := by injection e with e; omega
    rw [e2]
    exact hs q hq
theorem RunsK.two (h : RunsK n F A L s) {i j p q : Nat} {a b : List Nat} (hij : i < j) (ha : (runL s id A.length)[i]? = some a) (hb : (runL s id A.length)[j]? = some b) (hp : p ∈ a) (hq : q ∈ b) : p < A.length ∧ q < A.length ∧ AheadK (EdR F) (tOf A L p) (tOf A L q) := by
  have hI := runI_all s A.length
  have hmem : ∀ {i a p}, (runL s id A.length)[i]? = some a → p ∈ a → p < A.length := fun {i a p} ha hp => by
    have : p ∈ (runL s id A.length).flatten := List.mem_flatten.2 ⟨a, List.mem_of_getElem? ha, hp⟩
    rw [hI.flat] at this
    exact List.mem_range.1 this
  have hp1 := hmem ha hp
  have hq1 := hmem hb hq
  have hpq : p < q := by
    have h1 : (runL s id A.length).flatten.Pairwise (· < ·) := by rw [hI.flat]; exact List.pairwise_lt_range
    have h2 := (List.pairwise_flatten.1 h1).2
    obtain ⟨hi, rfl⟩ := List.getElem?_eq_some_iff.1 ha
    obtain ⟨hj, rfl⟩ := List.getElem?_eq_some_iff.1 hb
    exact List.pairwise_iff_getElem.1 h2 i j hi hj hij p hp q hq
  refine ⟨hp1, hq1, ?_⟩
  obtain ⟨r, h1, h2, h3⟩ := hI.two i j a b p q hij ha hb hp hq
  have hr : r < A.length := by omega
  have hs := (h.one hr).1 h3
  by_cases e1 : p = r
  · subst e1
    exact (hs q hq1).1 hpq
  · by_cases e2 : r = q
    · subst e2
      exact (hs p hp1).2 hpq
    · exact ahead_trans ((hs p hp1).2 (by omega)) ((hs q hq1).1 (by omega))
theorem RunsK.has (h : RunsK n F A L s) (hA : AskS n P l A) {p : Nat} (hp : p < A.length) : 0 ≤ (tOf A L p : Int) ∧ (tOf A L p : Int) < n := ⟨by omega, hA.lt _ (List.mem_of_getElem? (h.at hp).2.2)⟩
theorem runs_ahead (h : RunsK n F A L s) (hA : AskS n P l A) {i j : Nat} {a b : List Int} {x y : Int} (hij : i < j) (ha : (runL s (xOf A L) A.length)[i]? = some a) (hb : (runL s (xOf A L) A.length)[j]? = some b) (hx : x ∈ a) (hy : y ∈ b) : ahB n F x y = true := by
  have e : runL s (xOf A L) A.length = (runL s id A.length).map (List.map (xOf A L)) := by rw [runL_map]; rfl
  rw [e, List.getElem?_map] at ha hb
  obtain ⟨a0, ha0, rfl⟩ := Option.map_eq_some_iff.1 ha
  obtain ⟨b0, hb0, rfl⟩ := Option.map_eq_some_iff.1 hb
  obtain ⟨p, hp, rfl⟩ := List.mem_map.1 hx
  obtain ⟨q, hq, rfl⟩ := List.mem_map.1 hy
  obtain ⟨h1, h2, h3⟩ := h.two hij ha0 hb0 hp hq
  obtain ⟨a1, a2⟩ := h.has hA h1
  obtain ⟨b1, b2⟩ := h.has hA h2
  rw [xOf_t, xOf_t]
  exact ahB_iff.2 ⟨a1, a2, b1, b2, by rw [Int.toNat_natCast, Int.toNat_natCast]; exact h3⟩
theorem runs_odd (h : RunsK n F A L s) (hA : AskS n P l A) (hP : ∀ x y : Nat, P (x : Int) = P (y : Int) ↔ Knot (EdR F) x y) {a : List Int} {x : Int} (ha : a ∈ runL s (xOf A L) A.length) (hx : x ∈ a) : (∃ y ∈ a, cpB n F x y = false) ↔ 1 < a.length := by
  have e : runL s (xOf A L) A.length = (runL s id A.length).map (List.map (xOf A L)) := by rw [runL_map]; rfl
  rw [e] at ha
  obtain ⟨g, hg, rfl⟩ := List.mem_map.1 ha
  obtain ⟨i, hi⟩ := List.getElem?_of_mem hg
  obtain ⟨p, hp, rfl⟩ := List.mem_map.1 hx
  have hI := runI_all s A.length
  have hmem : ∀ {i g p}, (runL s id A.length)[i]? = some g → p ∈ g → p < A.length := fun {i a p} ha hp => by
    have : p ∈ (runL s id A.length).flatten := List.mem_flatten.2 ⟨a, List.mem_of_getElem? ha, hp⟩
    rw [hI.flat] at this
    exact List.mem_range.1 this
  have hp1 := hmem hi hp
  obtain ⟨a1, a2⟩ := h.has hA hp1
  rw [List.length_map]
  constructor
  · rintro ⟨y, hy, hc⟩
    obtain ⟨q, hq, rfl⟩ := List.mem_map.1 hy
    have hpq : p ≠ q := fun e => by
      subst e
      rw [xOf_t] at hc
      have := cpB_iff.2 ⟨a1, a2, a1, a2, .inl (Knot.refl (E := EdR F) _)⟩
      rw [hc] at this
      cases this
    rcases g with _ | ⟨u, _ | ⟨v, g⟩⟩
    · cases hp
    · rw [List.mem_singleton] at hp hq
      exact absurd (hp.trans hq.symm) hpq
    · simp
  · intro hlen
    have hs := hI.odd g hg hlen p hp
    have hns : ¬ s p = true := by rw [hs]; simp
    rw [h.one hp1] at hns
    have : ∃ q, q < A.length ∧ ((p < q ∧ ¬ AheadK (EdR F) (tOf A L p) (tOf A L q)) ∨ (q < p ∧ ¬ AheadK (EdR F) (tOf A L q) (tOf A L p))) := by
      apply Classical.byContradiction
      intro hne
      refine hns fun q hq => ⟨fun h1 => ?_, fun h1 => ?_⟩
      · apply Classical.byContradiction
        intro h2
        exact hne ⟨q, hq, .inl ⟨h1, h2⟩⟩
      · apply Classical.byContradiction
        intro h2
        exact hne ⟨q, hq, .inr ⟨h1, h2⟩⟩
    obtain ⟨q, hq, hd⟩ := this
    have hqm : q ∈ (runL s id A.length).flatten := by rw [hI.flat]; exact List.mem_range.2 hq
    obtain ⟨g', hg', hqg⟩ := List.mem_flatten.1 hqm
    obtain ⟨j, hj⟩ := List.getElem?_of_mem hg'
    have hij : i = j := by
      rcases Nat.lt_trichotomy i j with hlt | heq | hgt
      · have h1 := (h.two hlt hi hj hp hqg).2.2
        have h2 := h.up hp1 hq h1
        rcases hd with ⟨_, hd⟩ | ⟨hd, _⟩
        · exact absurd h1 hd
        · omega
      · exact heq
      · have h1 := (h.two hgt hj hi hqg hp).2.2
        have h2 := h.up hq hp1 h1
        rcases hd with ⟨hd, _⟩ | ⟨_, hd⟩
        · omega
        · exact absurd h1 hd
    subst hij
    rw [hi] at hj
    injection hj with hj
    subst hj
    refine ⟨xOf A L q, List.mem_map.2 ⟨q, hqg, rfl⟩, Bool.eq_false_iff.2 fun hc => ?_⟩
    rw [xOf_t, xOf_t] at hc
    obtain ⟨_, _, _, _, hc⟩ := cpB_iff.1 hc
    rw [Int.toNat_natCast, Int.toNat_natCast] at hc
    have hpq : p ≠ q := by rcases hd with ⟨h1, _⟩ | ⟨h1, _⟩ <;> omega
    rcases hc with hc | hc | hc
    · have := hA.inj _ _ _ _ (h.at hp1).2.2 (h.at hq).2.2 ((hP _ _).2 hc)
      exact hpq (h.inj hp1 hq this)
    · have := h.up hp1 hq hc
      rcases hd with ⟨_, hd⟩ | ⟨hd, _⟩
      · exact hd hc
      · omega
    · have := h.up hq hp1 hc
      rcases hd with ⟨hd, _⟩ | ⟨_, hd⟩
      · omega
      · exact hd hc
end
end Go.Proofs.YtmfibianieboeaaGreat
set_option linter.unusedVariables false
set_option linter.unusedSimpArgs false
namespace Go.Proofs.YtmfibianieboeaaGreat
open Go.ChangeShapes Go.WideShapes Go.ChangeAt Go.RowKit

noncomputable def oddB (n : Int) (F : EdN) (x : Int) (l : List Int) : Bool := l.any fun y => !cpB n F x y
theorem odd_step {n : Int} {F : EdN} {x y : Int} {l : List Int} {q : Nat} (h : l[q]? = some y) : oddB n F x (l.take (q + 1)) = (oddB n F x (l.take q) || !cpB n F x y) := by
  unfold oddB
  rw [List.take_add_one, h, List.any_append]
  simp
theorem odd_iff {n : Int} {F : EdN} {x : Int} {l : List Int} : oddB n F x l = true ↔ ∃ y ∈ l, cpB n F x y = false := by
  unfold oddB
  rw [List.any_eq_true]
  simp
set_option maxHeartbeats 8000000 in
set_option maxRecDepth 100000 in
theorem pruns_law (n : Int) (es : Ed) (v : Value) (w : World) (hr : RE w v es) (hl : es.length ≤ 140737488355328) (hn1 : -9223372036854775808 ≤ n) (hn2 : n ≤ 9223372036854775807) :
    Calls Tryz.prog 4 #[.int .i64 n, v] w fun e w' => e = .returned (.bool true) ∧ Below w.heap.size w w' := by
  obtain ⟨va, vc, rfl⟩ := hr.form
  obtain ⟨E, hE⟩ : ∃ E, E = es.length := ⟨_, rfl⟩
  rw [← hE] at hr hl ⊢
  have AW := Lib.hid (paw_any w)
  have HR := Lib.hid hr
  have HE := Lib.hid hE
  clear hr hE
  go_enter Tryz.func4, Tryz.ntmps4
  go_wp2_with fail
  refine AW.out.mono ?_
  rintro e w2 ⟨rfl, hb2⟩
  have HB2 := Lib.hid hb2
  clear hb2 AW
  by_cases hg1 : n < 1
  · go_wp2_with fail
    go_ret
    exact ⟨rfl, HB2.out⟩
  by_cases hg2 : 60 < n
  · go_wp2_with fail
    go_ret
    exact ⟨rfl, HB2.out⟩
  by_cases hg3 : 300 < E
  · have hg3I : (300 : Int) < (E : Int) := by omega
    go_wp2_with fail
    go_ret
    exact ⟨rfl, HB2.out⟩
  have hg3I : ¬ (300 : Int) < (E : Int) := by omega
  have hE3 : E ≤ 300 := by omega
  obtain ⟨N, rfl⟩ : ∃ N : Nat, n = (N : Int) := ⟨n.toNat, by omega⟩
  have hN1 : 1 ≤ N := by omega
  have hN9 : N ≤ 60 := by omega
  have S1 := Lib.hid (fun W (h : Below w2.heap.size w2 W) => newX_any (N : Int) es (.slice va E vc) W ((HR.out.below HB2.out).below h) (by rw [← HE.out]; omega) (by omega) (by omega))
  go_wp2_with fail
  go_loopw [5, 34] (fun lv jv wr => ∃ j : Nat, jv = .int .i64 (j : Nat) ∧ j ≤ N ∧ Hid (Row 1 w2.heap.size wr lv j (iv (nl (List.range j)))) ∧ Hid (Below w2.heap.size w2 wr)) (fun _ jv _ => N - (intOf jv).toNat)
  case atStart => exact ⟨0, rfl, Nat.zero_le _, Lib.hid (Row.nil _ _ _), Lib.hid (Below.refl _ _)⟩
  case round =>
    obtain ⟨j, rfl, hjN, HO, HB⟩ := hrel
    obtain ⟨oa, oc, hof⟩ := HO.out.form
    subst hof
    by_cases hlj : j < N
    · have HSRC := Lib.hid (show Src Tryz.prog 1 23 (.slice (some ⟨wr.heap.size, 0, none⟩) 1 1) 1 [.int .i64 (j : Int)] (wr.alloc (.cells #[.int .i64 (j : Int)] 3)) from src_new Tryz.underlying23 [.int .i64 (j : Int)] 1 3 1 rfl oneIk)
      have HRA := Lib.hid (HO.out.alloc (.cells #[.int .i64 (j : Int)] 3))
      have HSZW : w2.heap.size ≤ (wr.alloc (.cells #[.int .i64 (j : Int)] 3)).heap.size := by have := HB.out.size; simp; omega
      have HBA := Lib.hid (HB.out.alloc HB.out.size (.cells #[.int .i64 (j : Int)] 3))
      have HOWN := Lib.hid (fun b hb => (HO.out.lt b hb).1)
      go_wp2_with (at_builtin; refine wpList_append_row rfl (.tmp 37) (.tmp 39) 23 23 rfl 1 3 (.int .i64 0) 8 Tryz.underlying23 infoIk rfl w2.heap.size (.slice oa j oc) j (iv (nl (List.range j))) (by simp [Act.eval]) HRA.out (.slice (some ⟨wr.heap.size, 0, none⟩) 1 1) (by simp [Act.eval]) 1 [.int .i64 (j : Int)] HSRC.out HSZW (by omega) (by decide) ?_; intro v8 w8 hr8 ho8 hw8; obtain ⟨a8, c8, hv8⟩ := hr8.form; subst hv8; have HR8 := Lib.hid hr8; have HO8 := Lib.hid ho8; clear hr8 ho8 hw8)
      have HR9 : Hid (Row 1 w2.heap.size w8 (.slice a8 (j + 1) c8) (j + 1) (iv (nl (List.range (j + 1))))) := Lib.hid (by
        have e : iv (nl (List.range (j + 1))) = iv (nl (List.range j)) ++ [.int .i64 (j : Int)] := by simp [List.range_succ, nl, iv]
        rw [e]
        exact HR8.out)
      exact ⟨⟨j + 1, by go_num, by omega, HR9, Lib.hid (HBA.out.trans (HO8.out.below (B := w2.heap.size) HOWN.out HSZW))⟩, by simp [intOf]; omega⟩
    · have hje : N = j := by omega
      have HLR : Hid (RI wr (.slice oa N oc) (nl (List.range N))) := Lib.hid (by
        refine RI.ofRow (B := w2.heap.size) ?_
        have e : (nl (List.range N)).length = N := by simp [nl]
        rw [e, hje]
        exact HO.out)
      obtain ⟨wl, rfl⟩ : ∃ wl, wl = wr := ⟨wr, rfl⟩
      have HBL := Lib.hid (HB2.out.trans (HB.out.mono HB2.out.size))
      have S2 := Lib.hid (S1.out wl HB.out)
      subst hje
      clear HO HB S1
      go_wp2_with fail
      refine S2.out.mono ?_
      rintro e w3 ⟨p, T, pl, W, rfl, hO, hb3⟩
      obtain ⟨F, hF⟩ : ∃ F, F = edN (N : Int) es := ⟨_, rfl⟩
      rw [← hF] at hO
      obtain ⟨P, hP⟩ : ∃ P, P = plI T pl := ⟨_, rfl⟩
      have HPK : Hid (∀ x y : Nat, P (x : Int) = P (y : Int) ↔ Knot (EdR F) x y) := Lib.hid (fun x y => by rw [hP]; exact plI_same hO.ok)
      have hS3 := runsO_any (nl (List.range N)) _ w3 hO (HLR.out.below hb3) (by simp [nl]; omega)
      have hAS := askN_is (N : Int) P (nl (List.range N))
      rw [← hP] at hS3
      obtain ⟨A, hA⟩ : ∃ A, A = askN (hasB (N : Int)) P (nl (List.range N)) := ⟨_, rfl⟩
      rw [← hA] at hS3 hAS
      have S3 := Lib.hid hS3
      have HAS := Lib.hid hAS
      have HOX := Lib.hid hO
      have HB3 := Lib.hid (HBL.out.trans (hb3.mono HBL.out.size))
      clear hO hb3 hF S2 hS3 hAS hA hP
      go_wp2_with fail
      refine S3.out.mono ?_
      rintro e w4 ⟨gv, L, s, rfl, hK, hG, hb4⟩
      have HAH := Lib.hid (fun (a b : Int) W' (h : Below w4.heap.size w4 W') => (ahead_any a b W' ((HOX.out.below hb4).below h)).mono (R' := fun e w' => e = .returned (.bool (ahB (N : Int) F a b)) ∧ Hid (Below w4.heap.size w4 w')) (fun e w' he => ⟨he.1, Lib.hid (h.trans (he.2.mono h.size))⟩))
      have HCP := Lib.hid (fun (a b : Int) W' (h : Below w4.heap.size w4 W') => (comp_any a b W' ((HOX.out.below hb4).below h)).mono (R' := fun e w' => e = .returned (.bool (cpB (N : Int) F a b)) ∧ Hid (Below w4.heap.size w4 w')) (fun e w' he => ⟨he.1, Lib.hid (h.trans (he.2.mono h.size))⟩))
      have HB4 := Lib.hid (HB3.out.trans (hb4.mono HB3.out.size))
      have HGA := Lib.hid (fun (i j : Nat) (a b : List Int) (x y : Int) (hij : i < j) (ha : (runL s (xOf A L) A.length)[i]? = some a) (hb : (runL s (xOf A L) A.length)[j]? = some b) (hx : x ∈ a) (hy : y ∈ b) => runs_ahead hK HAS.out hij ha hb hx hy)
      have HGO := Lib.hid (fun (a : List Int) (x : Int) (ha : a ∈ runL s (xOf A L) A.length) (hx : x ∈ a) => runs_odd hK HAS.out HPK.out ha hx)
      obtain ⟨G, hGG⟩ : ∃ G, G = runL s (xOf A L) A.length := ⟨_, rfl⟩
      rw [← hGG] at hG HGA HGO
      obtain ⟨ga, gc, hgf⟩ := hG.form
      obtain ⟨gn, hgn⟩ : ∃ gn, gn = G.length := ⟨_, rfl⟩
      rw [← hgn] at hgf
      subst hgf
      have HG := Lib.hid hG
      have HGN := Lib.hid hgn
      clear hK hG hb4 hGG hgn S3 HOX
      go_wp2_with fail
      go_loopw [50] (fun jv wr => ∃ i : Nat, jv = .int .i64 (i : Nat) ∧ i ≤ gn ∧ Hid (Below w4.heap.size w4 wr)) (fun jv _ => gn - (intOf jv).toNat)
      case atStart => exact ⟨0, rfl, Nat.zero_le _, Lib.hid (Below.refl _ _)⟩
      case round =>
        obtain ⟨i, rfl, hi, HBI⟩ := hrel
        obtain ⟨wi, rfl⟩ : ∃ wi, wi = wr := ⟨wr, rfl⟩
        by_cases hli : i < gn
        · obtain ⟨a, ha⟩ : ∃ a, G[i]? = some a := ⟨G[i]'(by rw [← HGN.out]; exact hli), by simp⟩
          obtain ⟨gb, go, ua, rfl, hgb, hgc1, hgc2, cu, hua⟩ := HG.out.at ha
          have cu := (HBI.out.cell (p := ⟨gb, _, none⟩) hgb).trans cu
          obtain ⟨aa, ac, huf⟩ := hua.form
          obtain ⟨an, han⟩ : ∃ an, an = a.length := ⟨_, rfl⟩
          rw [← han] at huf
          subst huf
          have HUA := Lib.hid hua
          have HAN := Lib.hid han
          have HA9 := Lib.hid ha
          have HGB := Lib.hid hgb
          unfold maxLen at hgc2
          clear ha hua han hgb
          go_wp2_with fail
          clear cu
          go_loopw [57] (fun jv wr => ∃ p1 : Nat, jv = .int .i64 (p1 : Nat) ∧ p1 ≤ an ∧ Hid (Below w4.heap.size w4 wr)) (fun jv _ => an - (intOf jv).toNat)
          case atStart => exact ⟨0, rfl, Nat.zero_le _, HBI⟩
          case round =>
            obtain ⟨p1, rfl, hp1, HBP⟩ := hrel
            obtain ⟨wp, rfl⟩ : ∃ wp, wp = wr := ⟨wr, rfl⟩
            by_cases hlp : p1 < an
            · obtain ⟨x, hx⟩ : ∃ x, a[p1]? = some x := ⟨a[p1]'(by rw [← HAN.out]; exact hlp), by simp⟩
              obtain ⟨ab, ao, rfl, hab, hac1, hac2, cx⟩ := HUA.out.at hx
              have cx := (HBP.out.cell (p := ⟨ab, _, none⟩) hab).trans cx
              have HX := Lib.hid (List.mem_of_getElem? hx)
              have HAB := Lib.hid hab
              unfold maxLen at hac2
              clear hx hab
              go_wp2_with fail
              clear cx
              go_loopw [13, 63] (fun bv jv wr => ∃ q : Nat, jv = .int .i64 (q : Nat) ∧ q ≤ an ∧ bv = .bool (oddB (N : Int) F x (a.take q)) ∧ Hid (Below w4.heap.size w4 wr)) (fun _ jv _ => an - (intOf jv).toNat)
              case atStart => exact ⟨0, rfl, Nat.zero_le _, rfl, HBP⟩
              case round =>
                obtain ⟨q, rfl, hq, rfl, HBQ⟩ := hrel
                obtain ⟨wq, rfl⟩ : ∃ wq, wq = wr := ⟨wr, rfl⟩
                by_cases hlq : q < an
                · obtain ⟨y, hy⟩ : ∃ y, a[q]? = some y := ⟨a[q]'(by rw [← HAN.out]; exact hlq), by simp⟩
                  obtain ⟨ab', ao', he', _, _, _, cy⟩ := HUA.out.at hy
                  injection he' with he'
                  injection he' with e1 e2 _
                  subst e1
                  subst e2
                  have cy := (HBQ.out.cell (p := ⟨ab, _, none⟩) HAB.out).trans cy
                  have HST := Lib.hid (odd_step (n := (N : Int)) (F := F) (x := x) hy)
                  have HC := Lib.hid (HCP.out x y)
                  obtain ⟨o, ho⟩ : ∃ o, o = oddB (N : Int) F x (a.take q) := ⟨_, rfl⟩
                  rw [← ho] at HST ⊢
                  clear hy ho
                  cases o with
                  | true =>
                    have HS2 : Hid (oddB (N : Int) F x (a.take (q + 1)) = true) := Lib.hid (by rw [HST.out]; rfl)
                    go_wp2_with fail
                    exact ⟨⟨q + 1, by go_num, by omega, by rw [HS2.out], HBQ⟩, by simp [intOf]; omega⟩
                  | false =>
                    have HS2 : Hid (oddB (N : Int) F x (a.take (q + 1)) = !cpB (N : Int) F x y) := Lib.hid (by rw [HST.out]; rfl)
                    go_wp2_with fail
                    refine (HC.out _ HBQ.out).mono ?_
                    rintro e r1 ⟨rfl, HR1⟩
                    go_wp2_with fail
                    exact ⟨⟨q + 1, by go_num, by omega, by rw [HS2.out], HR1⟩, by simp [intOf]; omega⟩
                · have hqe : an = q := by omega
                  have HFO : Hid (oddB (N : Int) F x (a.take q) = decide ((1 : Int) < (an : Int))) := Lib.hid (by
                    rw [List.take_of_length_le (by rw [← HAN.out]; omega), Bool.eq_iff_iff, odd_iff, HGO.out a x (List.mem_of_getElem? HA9.out) HX.out, ← HAN.out, decide_eq_true_iff]
                    omega)
                  rw [HFO.out]
                  subst hqe
                  by_cases hvi : gc = i + 1
                  · go_wp2_with fail
                    generalize hd : gn - (i + 1) = d
                    have hdg : d ≤ gn := by omega
                    have HD := Lib.hid hd
                    clear hd
                    go_loopw [86] (fun jv wr => ∃ k : Nat, jv = .int .i64 (k : Nat) ∧ k ≤ d ∧ Hid (Below w4.heap.size w4 wr)) (fun jv _ => d - (intOf jv).toNat)
                    case atStart => exact ⟨0, rfl, Nat.zero_le _, HBQ⟩
                    case round =>
                      obtain ⟨k, rfl, hk, HBK⟩ := hrel
                      obtain ⟨wk, rfl⟩ : ∃ wk, wk = wr := ⟨wr, rfl⟩
                      by_cases hlk : k < d
                      · exfalso
                        have := HD.out
                        omega
                      · have hke : d = k := by omega
                        go_wp2_with fail
                        exact ⟨⟨p1 + 1, by go_num, by omega, HBK⟩, by simp [intOf]; omega⟩
                  · go_wp2_with fail
                    generalize hd : gn - (i + 1) = d
                    have hdg : d ≤ gn := by omega
                    have HD := Lib.hid hd
                    clear hd
                    go_loopw [86] (fun jv wr => ∃ k : Nat, jv = .int .i64 (k : Nat) ∧ k ≤ d ∧ Hid (Below w4.heap.size w4 wr)) (fun jv _ => d - (intOf jv).toNat)
                    case atStart => exact ⟨0, rfl, Nat.zero_le _, HBQ⟩
                    case round =>
                      obtain ⟨k, rfl, hk, HBK⟩ := hrel
                      obtain ⟨wk, rfl⟩ : ∃ wk, wk = wr := ⟨wr, rfl⟩
                      by_cases hlk : k < d
                      · have hik : i + 1 + k < gn := by have := HD.out; omega
                        obtain ⟨b2, hb2⟩ : ∃ b2, G[i + 1 + k]? = some b2 := ⟨G[i + 1 + k]'(by rw [← HGN.out]; exact hik), by simp⟩
                        obtain ⟨gb', go', ub, he', _, _, _, cb, hub⟩ := HG.out.at hb2
                        injection he' with he'
                        injection he' with e1 e2 _
                        subst e1
                        subst e2
                        have cb := (HBK.out.cell (p := ⟨gb, _, none⟩) HGB.out).trans cb
                        rw [← Nat.add_assoc] at cb
                        obtain ⟨ba, bc, hbf⟩ := hub.form
                        obtain ⟨bn, hbn⟩ : ∃ bn, bn = b2.length := ⟨_, rfl⟩
                        rw [← hbn] at hbf
                        subst hbf
                        have HUB := Lib.hid hub
                        have HBN := Lib.hid hbn
                        have HXY := Lib.hid (fun y (hy : y ∈ b2) => HGA.out i (i + 1 + k) a b2 x y (by omega) HA9.out hb2 HX.out hy)
                        clear hub hbn hb2 hik
                        go_wp2_with fail
                        clear cb
                        go_loopw [92] (fun jv wr => ∃ r : Nat, jv = .int .i64 (r : Nat) ∧ r ≤ bn ∧ Hid (Below w4.heap.size w4 wr)) (fun jv _ => bn - (intOf jv).toNat)
                        case atStart => exact ⟨0, rfl, Nat.zero_le _, HBK⟩
                        case round =>
                          obtain ⟨r, rfl, hr, HBY⟩ := hrel
                          by_cases hlr : r < bn
                          · obtain ⟨y, hy⟩ : ∃ y, b2[r]? = some y := ⟨b2[r]'(by rw [← HBN.out]; exact hlr), by simp⟩
                            obtain ⟨bb, bo, rfl, hbb, hbc1, hbc2, cy⟩ := HUB.out.at hy
                            have cy := (HBY.out.cell (p := ⟨bb, _, none⟩) hbb).trans cy
                            have HA2 := Lib.hid (HAH.out x y)
                            rw [HXY.out y (List.mem_of_getElem? hy)] at HA2
                            unfold maxLen at hbc2
                            clear hy
                            go_wp2_with fail
                            refine (HA2.out _ HBY.out).mono ?_
                            rintro e r1 ⟨rfl, HR1⟩
                            go_wp2_with fail
                            exact ⟨⟨r + 1, by go_num, by omega, HR1⟩, by simp [intOf]; omega⟩
                          · have hre : bn = r := by omega
                            subst hre
                            go_wp2_with fail
                            exact ⟨⟨k + 1, by go_num, by omega, HBY⟩, by simp [intOf]; omega⟩
                      · have hke : d = k := by omega
                        go_wp2_with fail
                        exact ⟨⟨p1 + 1, by go_num, by omega, HBK⟩, by simp [intOf]; omega⟩
            · have hpe : an = p1 := by omega
              subst hpe
              go_wp2_with fail
              exact ⟨⟨i + 1, by go_num, by omega, HBP⟩, by simp [intOf]; omega⟩
        · have hie : gn = i := by omega
          subst hie
          go_wp2_with fail
          go_ret
          exact ⟨rfl, HB4.out.trans (HBI.out.mono HB4.out.size)⟩
end Go.Proofs.YtmfibianieboeaaGreat
