/- What Runs answers of a whole order: the runs stand ahead of each other, a run of several has for each thing one that it isn't comparable with. Of package poset: Sides of an order. What Sides answers of a whole order: each thing asked for stands on one side, once; things of unlike sides aren't comparable. -/
import Derived.Test.YtfpepoebammeoaaGreatV45
import Derived.Test.YtfpepoebammeoaaGreatV47
set_option linter.unusedVariables false
set_option linter.unusedSimpArgs false
namespace Go.Proofs.YtfpepoebammeoaaGreat
open Go.ChangeShapes Go.WideShapes Go.ChangeAt Go.RowKit

section
variable {n : Int} {F : EdN} {A : List Nat} {L : List Int} {s : Nat → Bool} {P : Int → Int} {l : List Int}
def aOf (L : List Int) (p : Nat) : Nat := (L.getD p 0).toNat
def tOf (A : List Nat) (L : List Int) (p : Nat) : Nat := A.getD (aOf L p) 0
theorem xOf_t (A : List Nat) (L : List Int) (p : Nat) : xOf A L p = (tOf A L p : Int) := rfl
theorem RunsK.at (h : RunsK n F A L s) {p : Nat} (hp : p < A.length) : L[p]? = some (aOf L p : Int) ∧ aOf L p < A.length ∧ A[aOf L p]? = some (tOf A L p) := by
  have hl : p < L.length := by rw [h.len]; exact hp
  have e : L[p]? = some L[p] := List.getElem?_eq_getElem hl
  obtain ⟨u, hu, e2⟩ := (reach_tame h.line).2 L[p] (List.getElem_mem hl)
  have e3 : aOf L p = u := by
    unfold aOf
    rw [List.getD_eq_getElem?_getD, e, e2]
    simp
  refine ⟨by rw [e, e2, e3], by rw [e3]; exact hu, ?_⟩
  unfold tOf
  rw [e3, List.getD_eq_getElem?_getD, List.getElem?_eq_getElem hu]
  rfl
theorem RunsK.inj (h : RunsK n F A L s) {p q : Nat} (hp : p < A.length) (hq : q < A.length) (e : aOf L p = aOf L q) : p = q := by
  have h1 := (h.at hp).1
  have h2 := (h.at hq).1
  rw [e] at h1
  have hl : p < L.length := by rw [h.len]; exact hp
  exact (List.getElem?_inj hl (reach_tame h.line).1).1 (h1.trans h2.symm)
theorem RunsK.up (h : RunsK n F A L s) {p q : Nat} (hp : p < A.length) (hq : q < A.length) (hr : AheadK (EdR F) (tOf A L p) (tOf A L q)) : p < q := by
  obtain ⟨a1, a2, a3⟩ := h.at hp
  obtain ⟨b1, b2, b3⟩ := h.at hq
  obtain ⟨j, hj, ej⟩ := reach_beh h.line q _ b1 (aOf L p : Int) (mem_needE.2 ⟨(aOf L p, aOf L q), mem_pairA.2 ⟨a2, b2, hr⟩, rfl, rfl⟩)
  have hl : p < L.length := by rw [h.len]; exact hp
  have := (List.getElem?_inj hl (reach_tame h.line).1).1 (a1.trans ej.symm)
  omega
theorem RunsK.one (h : RunsK n F A L s) {p : Nat} (hp : p < A.length) : s p = true ↔ ∀ q, q < A.length → (p < q → AheadK (EdR F) (tOf A L p) (tOf A L q)) ∧ (q < p → AheadK (EdR F) (tOf A L q) (tOf A L p)) := by
  rw [h.single p _ (h.at hp).1]
  constructor
  · intro hs q hq
    exact hs q _ (h.at hq).1
  · intro hs q j hj
    have hq : q < A.length := by rw [← h.len]; exact (List.getElem?_eq_some_iff.1 hj).1
    have e := (h.at hq).1
    rw [hj] at e
    have e2 : j = aOf L q := by injection e with e; omega
    rw [e2]
    exact hs q hq
theorem RunsK.two (h : RunsK n F A L s) {i j p q : Nat} {a b : List Nat} (hij : i < j) (ha : (runL s id A.length)[i]? = some a) (hb : (runL s id A.length)[j]? = some b) (hp : p ∈ a) (hq : q ∈ b) : p < A.length ∧ q < A.length ∧ AheadK (EdR F) (tOf A L p) (tOf A L q) := by
  have hI := runI_all s A.length
  have hmem : ∀ {i a p}, (runL s id A.length)[i]? = some a → p ∈ a → p < A.length := fun {i a p} ha hp => by
    have : p ∈ (runL s id A.length).flatten := List.mem_flatten.2 ⟨a, List.mem_of_getElem? ha, hp⟩
    rw [hI.flat] at this
    exact List.mem_range.1 this
  have hp1 := hmem ha hp
  have hq1 := hmem hb hq
  have hpq : p < q := by
    have h1 : (runL s id A.length).flatten.Pairwise (· < ·) := by rw [hI.flat]; exact List.pairwise_lt_range
    have h2 := (List.pairwise_flatten.1 h1).2
    obtain ⟨hi, rfl⟩ := List.getElem?_eq_some_iff.1 ha
    obtain ⟨hj, rfl⟩ := List.getElem?_eq_some_iff.1 hb
    exact List.pairwise_iff_getElem.1 h2 i j hi hj hij p hp q hq
  refine ⟨hp1, hq1, ?_⟩
  obtain ⟨r, h1, h2, h3⟩ := hI.two i j a b p q hij ha hb hp hq
  have hr : r < A.length := by omega
  have hs := (h.one hr).1 h3
  by_cases e1 : p = r
  · subst e1
    exact (hs q hq1).1 hpq
  · by_cases e2 : r = q
    · subst e2
      exact (hs p hp1).2 hpq
    · exact ahead_trans ((hs p hp1).2 (by omega)) ((hs q hq1).1 (by omega))
theorem RunsK.has (h : RunsK n F A L s) (hA : AskS n P l A) {p : Nat} (hp : p < A.length) : 0 ≤ (tOf A L p : Int) ∧ (tOf A L p : Int) < n := ⟨by omega, hA.lt _ (List.mem_of_getElem? (h.at hp).2.2)⟩
theorem runs_ahead (h : RunsK n F A L s) (hA : AskS n P l A) {i j : Nat} {a b : List Int} {x y : Int} (hij : i < j) (ha : (runL s (xOf A L) A.length)[i]? = some a) (hb : (runL s (xOf A L) A.length)[j]? = some b) (hx : x ∈ a) (hy : y ∈ b) : ahB n F x y = true := by
  have e : runL s (xOf A L) A.length = (runL s id A.length).map (List.map (xOf A L)) := by rw [runL_map]; rfl
  rw [e, List.getElem?_map] at ha hb
  obtain ⟨a0, ha0, rfl⟩ := Option.map_eq_some_iff.1 ha
  obtain ⟨b0, hb0, rfl⟩ := Option.map_eq_some_iff.1 hb
  obtain ⟨p, hp, rfl⟩ := List.mem_map.1 hx
  obtain ⟨q, hq, rfl⟩ := List.mem_map.1 hy
  obtain ⟨h1, h2, h3⟩ := h.two hij ha0 hb0 hp hq
  obtain ⟨a1, a2⟩ := h.has hA h1
  obtain ⟨b1, b2⟩ := h.has hA h2
  rw [xOf_t, xOf_t]
  exact ahB_iff.2 ⟨a1, a2, b1, b2, by rw [Int.toNat_natCast, Int.toNat_natCast]; exact h3⟩
theorem runs_odd (h : RunsK n F A L s) (hA : AskS n P l A) (hP : ∀ x y : Nat, P (x : Int) = P (y : Int) ↔ Knot (EdR F) x y) {a : List Int} {x : Int} (ha : a ∈ runL s (xOf A L) A.length) (hx : x ∈ a) : (∃ y ∈ a, cpB n F x y = false) ↔ 1 < a.length := by
  have e : runL s (xOf A L) A.length = (runL s id A.length).map (List.map (xOf A L)) := by rw [runL_map]; rfl
  rw [e] at ha
  obtain ⟨g, hg, rfl⟩ := List.mem_map.1 ha
  obtain ⟨i, hi⟩ := List.getElem?_of_mem hg
  obtain ⟨p, hp, rfl⟩ := List.mem_map.1 hx
  have hI := runI_all s A.length
  have hmem : ∀ {i g p}, (runL s id A.length)[i]? = some g → p ∈ g → p < A.length := fun {i a p} ha hp => by
    have : p ∈ (runL s id A.length).flatten := List.mem_flatten.2 ⟨a, List.mem_of_getElem? ha, hp⟩
    rw [hI.flat] at this
    exact List.mem_range.1 this
  have hp1 := hmem hi hp
  obtain ⟨a1, a2⟩ := h.has hA hp1
  rw [List.length_map]
  constructor
  · rintro ⟨y, hy, hc⟩
    obtain ⟨q, hq, rfl⟩ := List.mem_map.1 hy
    have hpq : p ≠ q := fun e => by
      subst e
      rw [xOf_t] at hc
      have := cpB_iff.2 ⟨a1, a2, a1, a2, .inl (Knot.refl (E := EdR F) _)⟩
      rw [hc] at this
      cases this
    rcases g with _ | ⟨u, _ | ⟨v, g⟩⟩
    · cases hp
    · rw [List.mem_singleton] at hp hq
      exact absurd (hp.trans hq.symm) hpq
    · simp
  · intro hlen
    have hs := hI.odd g hg hlen p hp
    have hns : ¬ s p = true := by rw [hs]; simp
    rw [h.one hp1] at hns
    have : ∃ q, q < A.length ∧ ((p < q ∧ ¬ AheadK (EdR F) (tOf A L p) (tOf A L q)) ∨ (q < p ∧ ¬ AheadK (EdR F) (tOf A L q) (tOf A L p))) := by
      apply Classical.byContradiction
      intro hne
      refine hns fun q hq => ⟨fun h1 => ?_, fun h1 => ?_⟩
      · apply Classical.byContradiction
        intro h2
        exact hne ⟨q, hq, .inl ⟨h1, h2⟩⟩
      · apply Classical.byContradiction
        intro h2
        exact hne ⟨q, hq, .inr ⟨h1, h2⟩⟩
    obtain ⟨q, hq, hd⟩ := this
    have hqm : q ∈ (runL s id A.length).flatten := by rw [hI.flat]; exact List.mem_range.2 hq
    obtain ⟨g', hg', hqg⟩ := List.mem_flatten.1 hqm
    obtain ⟨j, hj⟩ := List.getElem?_of_mem hg'
    have hij : i = j := by
      rcases Nat.lt_trichotomy i j with hlt | heq | hgt
      · have h1 := (h.two hlt hi hj hp hqg).2.2
        have h2 := h.up hp1 hq h1
        rcases hd with ⟨_, hd⟩ | ⟨hd, _⟩
        · exact absurd h1 hd
        · omega
      · exact heq
      · have h1 := (h.two hgt hj hi hqg hp).2.2
        have h2 := h.up hq hp1 h1
        rcases hd with ⟨hd, _⟩ | ⟨_, hd⟩
        · omega
        · exact absurd h1 hd
    subst hij
    rw [hi] at hj
    injection hj with hj
    subst hj
    refine ⟨xOf A L q, List.mem_map.2 ⟨q, hqg, rfl⟩, Bool.eq_false_iff.2 fun hc => ?_⟩
    rw [xOf_t, xOf_t] at hc
    obtain ⟨_, _, _, _, hc⟩ := cpB_iff.1 hc
    rw [Int.toNat_natCast, Int.toNat_natCast] at hc
    have hpq : p ≠ q := by rcases hd with ⟨h1, _⟩ | ⟨h1, _⟩ <;> omega
    rcases hc with hc | hc | hc
    · have := hA.inj _ _ _ _ (h.at hp1).2.2 (h.at hq).2.2 ((hP _ _).2 hc)
      exact hpq (h.inj hp1 hq this)
    · have := h.up hp1 hq hc
      rcases hd with ⟨_, hd⟩ | ⟨hd, _⟩
      · exact hd hc
      · omega
    · have := h.up hq hp1 hc
      rcases hd with ⟨hd, _⟩ | ⟨_, hd⟩
      · omega
      · exact hd hc
end
end Go.Proofs.YtfpepoebammeoaaGreat
set_option linter.unusedVariables false
set_option linter.unusedSimpArgs false
namespace Go.Proofs.YtfpepoebammeoaaGreat
open Go.ChangeShapes Go.WideShapes Go.ChangeAt Go.RowKit

structure SidesK (es : EdN) (A : List Nat) (L : List Int) (D : Nat) (r : Nat → Nat) : Prop where
  line : ReachK (needE (pairA (fun i j => AheadK (EdR es) (A.getD i 0) (A.getD j 0)) A.length)) A.length L
  len : L.length = A.length
  conn : ∀ i j, i < A.length → j < A.length → (r (D + i) = r (D + j) ↔ Conn (fun i j => AheadK (EdR es) (A.getD i 0) (A.getD j 0)) A.length i j)
section
variable {p : Nat} {n : Int} {es : EdN} {T : List Nat} {pl : Nat → Nat} {W : EdN}
theorem askN_len (n : Int) (P : Int → Int) (l : List Int) : (askN (hasB n) P l).length ≤ l.length := by
  unfold askN
  rw [List.length_map, (sortI_perm _).length_eq]
  have := ask_len (hasB n) P l l.length
  rw [List.take_length] at this
  exact this
set_option maxHeartbeats 2000000 in
theorem sidesO_any (l : List Int) (v : Value) (w : World) (h : OrdX w p n es T pl W) (hr : RI w v l) (hl : l.length ≤ 100000) :
    Calls Tryz.prog 17 #[.pointer (some ⟨p, 0, none⟩), v] w fun e w' => ∃ ov L D r, e = .returned ov ∧ SidesK es (askN (hasB n) (plI T pl) l) L D r ∧ RG w' ov (sdG r D (hdL r D (askN (hasB n) (plI T pl) l).length) (askN (hasB n) (plI T pl) l) L) ∧ Below w.heap.size w w' := by
  have HL := Lib.hid (lay_any l v w h hr hl)
  have hAL := askN_len n (plI T pl) l
  obtain ⟨A, hA⟩ : ∃ A, A = askN (hasB n) (plI T pl) l := ⟨_, rfl⟩
  rw [← hA] at HL hAL ⊢
  clear hA h hr
  go_enter Tryz.func17, Tryz.ntmps17
  go_wp2_with fail
  refine HL.out.mono ?_
  rintro e w2 ⟨bv, D, rk, E, rfl, hM, hB, hD, hE, hb2⟩
  have HR := Lib.hid (sides_any bv w2 hM hB hD (by omega) hE)
  have HB := Lib.hid hB
  have HB2 := Lib.hid hb2
  clear hM hB hb2
  go_wp2_with fail
  refine HR.out.mono ?_
  rintro e w3 ⟨ov, L, r, rfl, hK, hLm, hS, hG, hb3⟩
  go_wp2_with fail
  go_ret
  exact ⟨_, L, D, r, rfl, ⟨hK, hLm, fun i j hi hj => hS.conn HB.out hi hj⟩, hG, HB2.out.trans (hb3.mono HB2.out.size)⟩
end
end Go.Proofs.YtfpepoebammeoaaGreat
set_option linter.unusedVariables false
set_option linter.unusedSimpArgs false
namespace Go.Proofs.YtfpepoebammeoaaGreat
open Go.ChangeShapes Go.WideShapes Go.ChangeAt Go.RowKit

section
variable {n : Int} {F : EdN} {A : List Nat} {L : List Int} {D : Nat} {r : Nat → Nat} {P : Int → Int} {l : List Int}
theorem SidesK.perm (h : SidesK F A L D r) : L.Perm ((List.range A.length).map fun i : Nat => (i : Int)) := by
  obtain ⟨h1, h2⟩ := reach_tame h.line
  refine (List.perm_ext_iff_of_nodup h1 ?_).2 fun x => ?_
  · exact List.Pairwise.map _ (fun a b hab e => hab (by omega)) List.nodup_range
  · rw [List.mem_map]
    constructor
    · intro hx
      obtain ⟨u, hu, e⟩ := h2 x hx
      exact ⟨u, List.mem_range.2 hu, e.symm⟩
    · rintro ⟨u, hu, rfl⟩
      exact nodupI_all h1 (fun x hx => by obtain ⟨u, hu, e⟩ := h2 x hx; omega) h.len u (List.mem_range.1 hu)
theorem SidesK.side (h : SidesK F A L D r) {i : Nat} {a : List Int} (ha : (sdG r D (hdL r D A.length) A L)[i]? = some a) : ∃ k, k < A.length ∧ (hdL r D A.length)[i]? = some ((r (D + k) : Nat) : Int) ∧ a = (L.filter fun x => decide (((r (D + x.toNat) : Nat) : Int) = ((r (D + k) : Nat) : Int))).map (thgI A) := by
  unfold sdG at ha
  rw [List.getElem?_map] at ha
  obtain ⟨q, hq, rfl⟩ := Option.map_eq_some_iff.1 ha
  obtain ⟨k, hk, e⟩ := hdL_mem.1 (List.mem_of_getElem? hq)
  subst e
  exact ⟨k, hk, hq, rfl⟩
theorem SidesK.inside (h : SidesK F A L D r) {k : Nat} {x : Int} (hx : x ∈ (L.filter fun x => decide (((r (D + x.toNat) : Nat) : Int) = ((r (D + k) : Nat) : Int))).map (thgI A)) : ∃ u : Nat, u < A.length ∧ x = (A.getD u 0 : Nat) ∧ r (D + u) = r (D + k) := by
  obtain ⟨y, hy, rfl⟩ := List.mem_map.1 hx
  obtain ⟨h1, h2⟩ := List.mem_filter.1 hy
  obtain ⟨u, hu, rfl⟩ := (reach_tame h.line).2 y h1
  have := of_decide_eq_true h2
  rw [Int.toNat_natCast] at this
  exact ⟨u, hu, rfl, by omega⟩
theorem getD_at {A : List Nat} {u : Nat} (hu : u < A.length) : A[u]? = some (A.getD u 0) := by
  rw [List.getD_eq_getElem?_getD, List.getElem?_eq_getElem hu]; rfl
theorem sides_apart (h : SidesK F A L D r) (hA : AskS n P l A) (hP : ∀ x y : Nat, P (x : Int) = P (y : Int) ↔ Knot (EdR F) x y) {i j : Nat} {a b : List Int} {x y : Int} (hij : i < j) (ha : (sdG r D (hdL r D A.length) A L)[i]? = some a) (hb : (sdG r D (hdL r D A.length) A L)[j]? = some b) (hx : x ∈ a) (hy : y ∈ b) : cpB n F x y = false := by
  obtain ⟨k1, hk1, e1, rfl⟩ := h.side ha
  obtain ⟨k2, hk2, e2, rfl⟩ := h.side hb
  obtain ⟨u, hu, rfl, hru⟩ := h.inside hx
  obtain ⟨v, hv, rfl, hrv⟩ := h.inside hy
  have hne : r (D + u) ≠ r (D + v) := fun e => by
    rw [hru, hrv] at e
    obtain ⟨l1, m1⟩ := List.getElem?_eq_some_iff.1 e1
    obtain ⟨l2, m2⟩ := List.getElem?_eq_some_iff.1 e2
    exact List.pairwise_iff_getElem.1 (hdL_nodup (r := r) (D := D) A.length) i j l1 l2 hij (by rw [m1, m2, e])
  refine Bool.eq_false_iff.2 fun hc => hne ?_
  obtain ⟨_, _, _, _, hc⟩ := cpB_iff.1 hc
  rw [Int.toNat_natCast, Int.toNat_natCast] at hc
  rw [h.conn u v hu hv]
  rcases hc with hc | hc | hc
  · have := hA.inj _ _ _ _ (getD_at hu) (getD_at hv) ((hP _ _).2 hc)
    rw [this]
    exact .refl _
  · exact .on hu hv hc (.refl _)
  · exact .back hu hv hc (.refl _)
theorem sides_once (h : SidesK F A L D r) (hA : AskS n P l A) : (sdG r D (hdL r D A.length) A L).flatten.Nodup := by
  rw [List.nodup_iff_pairwise_ne, List.pairwise_flatten]
  have hinj : ∀ {u v : Nat}, u < A.length → v < A.length → A.getD u 0 = A.getD v 0 → u = v := fun {u v} hu hv e => by
    refine hA.inj _ _ _ _ (getD_at hu) (getD_at hv) (by rw [e])
  constructor
  · intro a ha
    obtain ⟨i, hi⟩ := List.getElem?_of_mem ha
    obtain ⟨k, hk, _, rfl⟩ := h.side hi
    refine List.pairwise_map.2 ?_
    refine List.Pairwise.imp_of_mem ?_ ((reach_tame h.line).1.filter _)
    intro x y hx hy hne e
    obtain ⟨u, hu, rfl⟩ := (reach_tame h.line).2 x (List.mem_filter.1 hx).1
    obtain ⟨v, hv, rfl⟩ := (reach_tame h.line).2 y (List.mem_filter.1 hy).1
    unfold thgI at e
    rw [Int.toNat_natCast, Int.toNat_natCast] at e
    exact hne (by rw [hinj hu hv (by omega)])
  · rw [List.pairwise_iff_getElem]
    intro i j hi hj hij x hx y hy e
    subst e
    obtain ⟨k1, hk1, e1, ea⟩ := h.side (List.getElem?_eq_getElem hi)
    obtain ⟨k2, hk2, e2, eb⟩ := h.side (List.getElem?_eq_getElem hj)
    rw [ea] at hx
    rw [eb] at hy
    obtain ⟨u, hu, eu, hru⟩ := h.inside hx
    obtain ⟨v, hv, ev, hrv⟩ := h.inside hy
    have : u = v := hinj hu hv (by omega)
    subst this
    obtain ⟨l1, m1⟩ := List.getElem?_eq_some_iff.1 e1
    obtain ⟨l2, m2⟩ := List.getElem?_eq_some_iff.1 e2
    exact List.pairwise_iff_getElem.1 (hdL_nodup (r := r) (D := D) A.length) i j l1 l2 hij (by rw [m1, m2, ← hru, ← hrv])
theorem sides_all (h : SidesK F A L D r) {u : Nat} (hu : u < A.length) : ((A.getD u 0 : Nat) : Int) ∈ (sdG r D (hdL r D A.length) A L).flatten := by
  have hm : ((r (D + u) : Nat) : Int) ∈ hdL r D A.length := hdL_mem.2 ⟨u, hu, rfl⟩
  refine List.mem_flatten.2 ⟨_, List.mem_map.2 ⟨_, hm, rfl⟩, List.mem_map.2 ⟨(u : Int), List.mem_filter.2 ⟨?_, by simp⟩, by simp [thgI]⟩⟩
  exact (h.perm.mem_iff).2 (List.mem_map.2 ⟨u, List.mem_range.2 hu, rfl⟩)
theorem sides_has (h : SidesK F A L D r) (hA : AskS n P l A) {x : Int} (hx : x ∈ (sdG r D (hdL r D A.length) A L).flatten) : 0 ≤ x ∧ x < n := by
  obtain ⟨a, ha, hx⟩ := List.mem_flatten.1 hx
  obtain ⟨i, hi⟩ := List.getElem?_of_mem ha
  obtain ⟨k, hk, _, rfl⟩ := h.side hi
  obtain ⟨u, hu, rfl, _⟩ := h.inside hx
  exact ⟨by omega, hA.lt _ (List.mem_of_getElem? (getD_at hu))⟩
theorem sides_find (h : SidesK F A L D r) (hA : AskS n P l A) (hP : ∀ x y : Nat, P (x : Int) = P (y : Int) ↔ Knot (EdR F) x y) {x : Nat} (hx : (x : Int) ∈ l) (hn : (x : Int) < n) : ∃ y ∈ (sdG r D (hdL r D A.length) A L).flatten, cpB n F x y = true ∧ ahB n F x y = false ∧ ahB n F y x = false := by
  obtain ⟨y, hy, e⟩ := hA.all (x : Int) hx (hasB_iff.2 ⟨by omega, hn⟩)
  obtain ⟨u, hu⟩ := List.getElem?_of_mem hy
  have hul := (List.getElem?_eq_some_iff.1 hu).1
  have ey : y = A.getD u 0 := by have := getD_at hul; rw [hu] at this; exact Option.some.inj this
  have hk : Knot (EdR F) x y := (hP _ _).1 e.symm
  have hyn := hA.lt y hy
  have na : ∀ {a b : Nat}, Knot (EdR F) a b → ahB n F (a : Int) (b : Int) = false := fun {a b} hk => Bool.eq_false_iff.2 fun hc => by
    obtain ⟨_, _, _, _, hc⟩ := ahB_iff.1 hc
    rw [Int.toNat_natCast, Int.toNat_natCast] at hc
    rcases hk.2 with e | h2
    · subst e; exact ahead_irr hc
    · exact hc.2 h2
  refine ⟨(y : Int), by rw [ey]; exact sides_all h hul, cpB_iff.2 ⟨by omega, hn, by omega, hyn, .inl (by rw [Int.toNat_natCast, Int.toNat_natCast]; exact hk)⟩, na hk, na (Knot.symm hk)⟩
end
end Go.Proofs.YtfpepoebammeoaaGreat
