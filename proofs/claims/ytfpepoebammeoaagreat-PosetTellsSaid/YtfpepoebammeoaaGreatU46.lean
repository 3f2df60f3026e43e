/- What Runs answers of a whole order: the runs stand ahead of each other, a run of several has for each thing one that it isn't comparable with. Of package poset: Sides of an order. What Sides answers of a whole order: each thing asked for stands on one side, once; things of unlike sides aren't comparable. -/
import Derived.Test.YtfpepoebammeoaaGreatU41
import Derived.Test.YtfpepoebammeoaaGreatU45
set_option linter.unusedVariables false
set_option linter.unusedSimpArgs false
namespace Go.Proofs.YtfpepoebammeoaaGreat
open Go.ChangeShapes Go.WideShapes Go.ChangeAt Go.RowKit

section
variable {n : Int} {F : EdN} {A : List Nat} {L : List Int} {s : Nat → Bool} {P : Int → Int} {l : List Int}
def aOf (L : List Int) (p : Nat) : Nat := (L.getD p 0).toNat
def tOf (A : List Nat) (L : List Int) (p : Nat) : Nat := A.getD (aOf L p) 0
theorem xOf_t (A : List Nat) (L : List Int) (p : Nat) : xOf A L p = (tOf A L p : Int) := rfl
theorem RunsK.at (h : RunsK n F A L s) {p : Nat} (hp : p < A.length) : L[p]? = some (aOf L p : Int) ∧ aOf L p < A.length ∧ A[aOf L p]? = some (tOf A L p) := by
  have hl : p < L.length := by rw [h.len]; exact hp
  have e : L[p]? = some L[p] := List.getElem?_eq_getElem hl
  obtain ⟨u, hu, e2⟩ := (reach_tame h.line).2 L[p] (List.getElem_mem hl)
  have e3 : aOf L p = u := by
    unfold aOf
    rw [List.getD_eq_getElem?_getD, e, e2]
    simp
  refine ⟨by rw [e, e2, e3], by rw [e3]; exact hu, ?_⟩
  unfold tOf
  rw [e3, List.getD_eq_getElem?_getD, List.getElem?_eq_getElem hu]
  rfl
theorem RunsK.inj (h : RunsK n F A L s) {p q : Nat} (hp : p < A.length) (hq : q < A.length) (e : aOf L p = aOf L q) : p = q := by
  have h1 := (h.at hp).1
  have h2 := (h.at hq).1
  rw [e] at h1
  have hl : p < L.length := by rw [h.len]; exact hp
  exact (List.getElem?_inj hl (reach_tame h.line).1).1 (h1.trans h2.symm)
theorem RunsK.up (h : RunsK n F A L s) {p q : Nat} (hp : p < A.length) (hq : q < A.length) (hr : AheadK (EdR F) (tOf A L p) (tOf A L q)) : p < q := by
  obtain ⟨a1, a2, a3⟩ := h.at hp
  obtain ⟨b1, b2, b3⟩ := h.at hq
  obtain ⟨j, hj, ej⟩ := reach_beh h.line q _ b1 (aOf L p : Int) (mem_needE.2 ⟨(aOf L p, aOf L q), mem_pairA.2 ⟨a2, b2, hr⟩, rfl, rfl⟩)
  have hl : p < L.length := by rw [h.len]; exact hp
  have := (List.getElem?_inj hl (reach_tame h.line).1).1 (a1.trans ej.symm)
  omega
theorem RunsK.one (h : RunsK n F A L s) {p : Nat} (hp : p < A.length) : s p = true ↔ ∀ q, q < A.length → (p < q → AheadK (EdR F) (tOf A L p) (tOf A L q)) ∧ (q < p → AheadK (EdR F) (tOf A L q) (tOf A L p)) := by
  rw [h.single p _ (h.at hp).1]
  constructor
  · intro hs q hq
    exact hs q _ (h.at hq).1
  · intro hs q j hj
    have hq : q < A.length := by rw [← h.len]; exact (List.getElem?_eq_some_iff.1 hj).1
    have e := (h.at hq).1
    rw [hj] at e
    have e2 : j = aOf L q := by injection e with e; omega
    rw [e2]
    exact hs q hq
theorem RunsK.two (h : RunsK n F A L s) {i j p q : Nat} {a b : List Nat} (hij : i < j) (ha : (runL s id A.length)[i]? = some a) (hb : (runL s id A.length)[j]? = some b) (hp : p ∈ a) (hq : q ∈ b) : p < A.length ∧ q < A.length ∧ AheadK (EdR F) (tOf A L p) (tOf A L q) := by
  have hI := runI_all s A.length
  have hmem : ∀ {i a p}, (runL s id A.length)[i]? = some a → p ∈ a → p < A.length := fun {i a p} ha hp => by
    have : p ∈ (runL s id A.length).flatten := List.mem_flatten.2 ⟨a, List.mem_of_getElem? ha, hp⟩
    rw [hI.flat] at this
    exact List.mem_range.1 this
  have hp1 := hmem ha hp
  have hq1 := hmem hb hq
  have hpq : p < q := by
    have h1 : (runL s id A.length).flatten.Pairwise (· < ·) := by rw [hI.flat]; exact List.pairwise_lt_range
    have h2 := (List.pairwise_flatten.1 h1).2
    obtain ⟨hi, rfl⟩ := List.getElem?_eq_some_iff.1 ha
    obtain ⟨hj, rfl⟩ := List.getElem?_eq_some_iff.1 hb
    exact List.pairwise_iff_getElem.1 h2 i j hi hj hij p hp q hq
  refine ⟨hp1, hq1, ?_⟩
  obtain ⟨r, h1, h2, h3⟩ := hI.two i j a b p q hij ha hb hp hq
  have hr : r < A.length := by omega
  have hs := (h.one hr).1 h3
  by_cases e1 : p = r
  · subst e1
    exact (hs q hq1).1 hpq
  · by_cases e2 : r = q
    · subst e2
      exact (hs p hp1).2 hpq
    · exact ahead_trans ((hs p hp1).2 (by omega)) ((hs q hq1).1 (by omega))
theorem RunsK.has (h : RunsK n F A L s) (hA : AskS n P l A) {p : Nat} (hp : p < A.length) : 0 ≤ (tOf A L p : Int) ∧ (tOf A L p : Int) < n := ⟨by omega, hA.lt _ (List.mem_of_getElem? (h.at hp).2.2)⟩
end
end Go.Proofs.YtfpepoebammeoaaGreat
set_option linter.unusedVariables false
set_option linter.unusedSimpArgs false
namespace Go.Proofs.YtfpepoebammeoaaGreat
open Go.ChangeShapes Go.WideShapes Go.ChangeAt Go.RowKit

structure SidesK (es : EdN) (A : List Nat) (L : List Int) (D : Nat) (r : Nat → Nat) : Prop where
  line : ReachK (needE (pairA (fun i j => AheadK (EdR es) (A.getD i 0) (A.getD j 0)) A.length)) A.length L
  len : L.length = A.length
  conn : ∀ i j, i < A.length → j < A.length → (r (D + i) = r (D + j) ↔ Conn (fun i j => AheadK (EdR es) (A.getD i 0) (A.getD j 0)) A.length i j)
section
variable {p : Nat} {n : Int} {es : EdN} {T : List Nat} {pl : Nat → Nat} {W : EdN}
theorem askN_len (n : Int) (P : Int → Int) (l : List Int) : (askN (hasB n) P l).length ≤ l.length := by
  unfold askN
  rw [List.length_map, (sortI_perm _).length_eq]
  have := ask_len (hasB n) P l l.length
  rw [List.take_length] at this
  exact this
set_option maxHeartbeats 2000000 in
theorem sidesO_any (l : List Int) (v : Value) (w : World) (h : OrdX w p n es T pl W) (hr : RI w v l) (hl : l.length ≤ 100000) :
    Calls Tryz.prog 17 #[.pointer (some ⟨p, 0, none⟩), v] w fun e w' => ∃ ov L D r, e = .returned ov ∧ SidesK es (askN (hasB n) (plI T pl) l) L D r ∧ RG w' ov (sdG r D (hdL r D (askN (hasB n) (plI T pl) l).length) (askN (hasB n) (plI T pl) l) L) ∧ Below w.heap.size w w' := by
  have HL := Lib.hid (lay_any l v w h hr hl)
  have hAL := askN_len n (plI T pl) l
  obtain ⟨A, hA⟩ : ∃ A, A = askN (hasB n) (plI T pl) l := ⟨_, rfl⟩
  rw [← hA] at HL hAL ⊢
  clear hA h hr
  go_enter Tryz.func17, Tryz.ntmps17
  go_wp2_with fail
  refine HL.out.mono ?_
  rintro e w2 ⟨bv, D, rk, E, rfl, hM, hB, hD, hE, hb2⟩
  have HR := Lib.hid (sides_any bv w2 hM hB hD (by omega) hE)
  have HB := Lib.hid hB
  have HB2 := Lib.hid hb2
  clear hM hB hb2
  go_wp2_with fail
  refine HR.out.mono ?_
  rintro e w3 ⟨ov, L, r, rfl, hK, hLm, hS, hG, hb3⟩
  go_wp2_with fail
  go_ret
  exact ⟨_, L, D, r, rfl, ⟨hK, hLm, fun i j hi hj => hS.conn HB.out hi hj⟩, hG, HB2.out.trans (hb3.mono HB2.out.size)⟩
end
end Go.Proofs.YtfpepoebammeoaaGreat
set_option linter.unusedVariables false
set_option linter.unusedSimpArgs false
namespace Go.Proofs.YtfpepoebammeoaaGreat
open Go.ChangeShapes Go.WideShapes Go.ChangeAt Go.RowKit

section
variable {n : Int} {F : EdN} {A : List Nat} {L : List Int} {D : Nat} {r : Nat → Nat} {P : Int → Int} {l : List Int}
theorem SidesK.perm (h : SidesK F A L D r) : L.Perm ((List.range A.length).map fun i : Nat => (i : Int)) := by
  obtain ⟨h1, h2⟩ := reach_tame h.line
  refine (List.perm_ext_iff_of_nodup h1 ?_).2 fun x => ?_
  · exact List.Pairwise.map _ (fun a b hab e => hab (by omega)) List.nodup_range
  · rw [List.mem_map]
    constructor
    · intro hx
      obtain ⟨u, hu, e⟩ := h2 x hx
      exact ⟨u, List.mem_range.2 hu, e.symm⟩
    · rintro ⟨u, hu, rfl⟩
      exact nodupI_all h1 (fun x hx => by obtain ⟨u, hu, e⟩ := h2 x hx; omega) h.len u (List.mem_range.1 hu)
theorem SidesK.side (h : SidesK F A L D r) {i : Nat} {a : List Int} (ha : (sdG r D (hdL r D A.length) A L)[i]? = some a) : ∃ k, k < A.length ∧ (hdL r D A.length)[i]? = some ((r (D + k) : Nat) : Int) ∧ a = (L.filter fun x => decide (((r (D + x.toNat) : Nat) : Int) = ((r (D + k) : Nat) : Int))).map (thgI A) := by
  unfold sdG at ha
  rw [List.getElem?_map] at ha
  obtain ⟨q, hq, rfl⟩ := Option.map_eq_some_iff.1 ha
  obtain ⟨k, hk, e⟩ := hdL_mem.1 (List.mem_of_getElem? hq)
  subst e
  exact ⟨k, hk, hq, rfl⟩
theorem SidesK.inside (h : SidesK F A L D r) {k : Nat} {x : Int} (hx : x ∈ (L.filter fun x => decide (((r (D + x.toNat) : Nat) : Int) = ((r (D + k) : Nat) : Int))).map (thgI A)) : ∃ u : Nat, u < A.length ∧ x = (A.getD u 0 : Nat) ∧ r (D + u) = r (D + k) := by
  obtain ⟨y, hy, rfl⟩ := List.mem_map.1 hx
  obtain ⟨h1, h2⟩ := List.mem_filter.1 hy
  obtain ⟨u, hu, rfl⟩ := (reach_tame h.line).2 y h1
  have := of_decide_eq_true h2
  rw [Int.toNat_natCast] at this
  exact ⟨u, hu, rfl, by omega⟩
theorem getD_at {A : List Nat} {u : Nat} (hu : u < A.length) : A[u]? = some (A.getD u 0) := by
  rw [List.getD_eq_getElem?_getD, List.getElem?_eq_getElem hu]; rfl
end
end Go.Proofs.YtfpepoebammeoaaGreat
