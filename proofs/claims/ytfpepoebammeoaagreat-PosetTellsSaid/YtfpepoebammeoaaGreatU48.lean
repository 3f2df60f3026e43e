/- The document's Sides (mathematics): the least thing that one comes to by comparable ones tells a side. The document's Sides (mathematics): what is comparable, and the groups. The document's Sides, walked. -/
import Derived.StillTailTactics
import Derived.Test.YtfpepoebammeoaaGreatU44
import Derived.Test.YtfpepoebammeoaaGreatU46
import Derived.Test.YtfpepoebammeoaaGreatU47
set_option linter.unusedVariables false
set_option linter.unusedSimpArgs false
namespace Go.Proofs.YtfpepoebammeoaaGreat

def sumF (f : Int → Int) (T : List Int) : Nat := (T.map fun x => (f x).toNat).sum
theorem sumF_le {f g : Int → Int} : ∀ {T : List Int}, (∀ x ∈ T, (g x).toNat ≤ (f x).toNat) → sumF g T ≤ sumF f T
  | [], _ => Nat.le_refl _
  | a :: T, h => by
    have h1 := h a List.mem_cons_self
    have h2 := sumF_le (f := f) (g := g) (T := T) (fun x hx => h x (List.mem_cons_of_mem _ hx))
    unfold sumF at h2 ⊢
    simp only [List.map_cons, List.sum_cons]
    omega
theorem sumF_lt {f g : Int → Int} : ∀ {T : List Int}, (∀ x ∈ T, (g x).toNat ≤ (f x).toNat) → (∃ x ∈ T, (g x).toNat < (f x).toNat) → sumF g T < sumF f T
  | [], _, ⟨x, hx, _⟩ => by cases hx
  | a :: T, h, ⟨x, hx, hl⟩ => by
    have h1 := h a List.mem_cons_self
    have h2 := sumF_le (f := f) (g := g) (T := T) (fun x hx => h x (List.mem_cons_of_mem _ hx))
    rcases List.mem_cons.1 hx with e | hx
    · subst e
      unfold sumF at h2 ⊢
      simp only [List.map_cons, List.sum_cons]
      omega
    · have h3 := sumF_lt (f := f) (g := g) (T := T) (fun x hx => h x (List.mem_cons_of_mem _ hx)) ⟨x, hx, hl⟩
      unfold sumF at h3 ⊢
      simp only [List.map_cons, List.sum_cons]
      omega
structure SInv (T : List Int) (cl : Int → Nat) (f : Int → Int) : Prop where
  mem : ∀ x ∈ T, f x ∈ T
  le : ∀ x ∈ T, f x ≤ x
  cl : ∀ x ∈ T, cl (f x) = cl x
theorem SInv.first (T : List Int) (cl : Int → Nat) : SInv T cl fun x => x := ⟨fun x h => h, fun x h => Int.le_refl _, fun x h => rfl⟩
theorem SInv.step {T : List Int} {cl : Int → Nat} {f : Int → Int} {a b : Int} (h : SInv T cl f) (ha : a ∈ T) (hb : b ∈ T) (hc : cl a = cl b) (hl : f a < f b) : SInv T cl (fun y => if y = b then f a else f y) := by
  refine ⟨fun x hx => ?_, fun x hx => ?_, fun x hx => ?_⟩
  · show (if x = b then f a else f x) ∈ T
    split
    · exact h.mem a ha
    · exact h.mem x hx
  · show (if x = b then f a else f x) ≤ x
    split
    · rename_i e
      subst e
      have := h.le x hb
      omega
    · exact h.le x hx
  · show cl (if x = b then f a else f x) = cl x
    split
    · rename_i e
      subst e
      rw [h.cl a ha, hc]
    · exact h.cl x hx
theorem sum_step {T : List Int} {f : Int → Int} {a b : Int} (hb : b ∈ T) (h0 : 0 ≤ f a) (hl : f a < f b) : sumF (fun y => if y = b then f a else f y) T < sumF f T := by
  refine sumF_lt (fun x hx => ?_) ⟨b, hb, ?_⟩
  · show (if x = b then f a else f x).toNat ≤ _
    split
    · rename_i e; subst e; omega
    · exact Nat.le_refl _
  · show (if b = b then f a else f b).toNat < _
    rw [if_pos rfl]
    omega
theorem side_least {T : List Int} {cl : Int → Nat} {f : Int → Int} (h : SInv T cl f) (hc : ∀ x ∈ T, ∀ y ∈ T, cl x = cl y → f x = f y) {x y : Int} (hx : x ∈ T) (hy : y ∈ T) (he : cl x = cl y) : f x ≤ y := by
  have := h.le y hy
  rw [hc x hx y hy he]
  exact this
def sdD (f : Int → Int) (T : List Int) : Nat → List (List Int)
  | 0 => []
  | s + 1 => if (T.filter fun x => decide (f x = (s : Int))) = [] then sdD f T s else sdD f T s ++ [T.filter fun x => decide (f x = (s : Int))]
theorem sdD_in {f : Int → Int} {T : List Int} {s : Nat} (h : (T.filter fun x => decide (f x = (s : Int))) = []) : sdD f T (s + 1) = sdD f T s := if_pos h
theorem sdD_out {f : Int → Int} {T : List Int} {s : Nat} (h : (T.filter fun x => decide (f x = (s : Int))) ≠ []) : sdD f T (s + 1) = sdD f T s ++ [T.filter fun x => decide (f x = (s : Int))] := if_neg h
theorem sdD_len (f : Int → Int) (T : List Int) : ∀ s, (sdD f T s).length ≤ s
  | 0 => Nat.le_refl _
  | s + 1 => by
    have := sdD_len f T s
    by_cases h : (T.filter fun x => decide (f x = (s : Int))) = []
    · rw [sdD_in h]; omega
    · rw [sdD_out h, List.length_append]; simp; omega
theorem sdD_is (f : Int → Int) (T : List Int) : ∀ s, sdD f T s = ((List.range s).filter fun u : Nat => decide ((T.filter fun x => decide (f x = (u : Int))) ≠ [])).map fun u : Nat => T.filter fun x => decide (f x = (u : Int))
  | 0 => rfl
  | s + 1 => by
    rw [List.range_succ, List.filter_append, List.map_append, ← sdD_is f T s]
    by_cases h : (T.filter fun x => decide (f x = (s : Int))) = []
    · have hd : decide ((T.filter fun x => decide (f x = (s : Int))) ≠ []) = false := decide_eq_false (fun c => c h)
      rw [sdD_in h]
      simp only [List.filter_cons, List.filter_nil, hd]
      simp
    · have hd : decide ((T.filter fun x => decide (f x = (s : Int))) ≠ []) = true := decide_eq_true h
      rw [sdD_out h]
      simp only [List.filter_cons, List.filter_nil, hd]
      simp
theorem asc_same : ∀ {a b : List Nat}, a.Pairwise (· < ·) → b.Pairwise (· < ·) → (∀ x, x ∈ a ↔ x ∈ b) → a = b
  | [], [], _, _, _ => rfl
  | [], y :: b, _, _, h => by have := (h y).2 List.mem_cons_self; cases this
  | x :: a, [], _, _, h => by have := (h x).1 List.mem_cons_self; cases this
  | x :: a, y :: b, ha, hb, h => by
    obtain ⟨a1, a2⟩ := List.pairwise_cons.1 ha
    obtain ⟨b1, b2⟩ := List.pairwise_cons.1 hb
    have hxy : x = y := by
      rcases List.mem_cons.1 ((h x).1 List.mem_cons_self) with e | h1
      · exact e
      · rcases List.mem_cons.1 ((h y).2 List.mem_cons_self) with e | h2
        · exact e.symm
        · have := b1 x h1
          have := a1 y h2
          omega
    subst hxy
    congr 1
    refine asc_same a2 b2 fun z => ?_
    constructor
    · intro hz
      rcases List.mem_cons.1 ((h z).1 (List.mem_cons_of_mem _ hz)) with e | h1
      · subst e; have := a1 z hz; omega
      · exact h1
    · intro hz
      rcases List.mem_cons.1 ((h z).2 (List.mem_cons_of_mem _ hz)) with e | h1
      · subst e; have := b1 z hz; omega
      · exact h1
section
variable {r : Nat → Nat} {D : Nat} {A : List Nat} {L : List Int} {f : Int → Int} {N : Nat}
def leadB (r : Nat → Nat) (D u : Nat) : Bool := (List.range u).all fun v => decide (r (D + v) ≠ r (D + u))
theorem leadB_iff {u : Nat} : leadB r D u = true ↔ ∀ v, v < u → r (D + v) ≠ r (D + u) := by
  unfold leadB
  rw [List.all_eq_true]
  constructor
  · intro h v hv
    simpa using h v (List.mem_range.2 hv)
  · intro h v hv
    simpa using h v (List.mem_range.1 hv)
theorem hdL_is : ∀ i, hdL r D i = ((List.range i).filter fun u => leadB r D u).map fun u => ((r (D + u) : Nat) : Int)
  | 0 => rfl
  | i + 1 => by
    rw [List.range_succ, List.filter_append, List.map_append, ← hdL_is i]
    by_cases h : ((r (D + i) : Nat) : Int) ∈ hdL r D i
    · rw [hdL_in h]
      obtain ⟨k, hk, e⟩ := hdL_mem.1 h
      have : leadB r D i = false := Bool.eq_false_iff.2 fun hl => leadB_iff.1 hl k hk (by omega)
      simp [this]
    · rw [hdL_out h]
      have : leadB r D i = true := leadB_iff.2 fun v hv e => h (hdL_mem.2 ⟨v, hv, by rw [e]⟩)
      simp [this]
theorem sides_doc (hA : A.Pairwise (· < ·)) (hN : ∀ x ∈ A, x < N) (hL : ∀ x ∈ L, ∃ u : Nat, u < A.length ∧ x = u) (hall : ∀ u : Nat, u < A.length → (u : Int) ∈ L)
    (hf : ∀ u, u < A.length → ∃ v, v < A.length ∧ f (thgI A (u : Int)) = thgI A (v : Int) ∧ r (D + v) = r (D + u)) (hle : ∀ u v, u < A.length → v < A.length → r (D + u) = r (D + v) → f (thgI A (u : Int)) ≤ thgI A (v : Int)) :
    sdD f (L.map (thgI A)) N = sdG r D (hdL r D A.length) A L := by
  -- of a first number: its own thing
  have hlead : ∀ u, u < A.length → ∃ v, v < A.length ∧ leadB r D v = true ∧ r (D + v) = r (D + u) ∧ f (thgI A (u : Int)) = thgI A (v : Int) := fun u hu => by
    obtain ⟨v, hv, e, hr⟩ := hf u hu
    refine ⟨v, hv, leadB_iff.2 fun k hk hk2 => ?_, hr, e⟩
    have h1 := hle u k hu (by omega) (by omega)
    rw [e, thgI_nat, thgI_nat] at h1
    have := asc_at hA (by omega) hv hk
    omega
  have hone : ∀ u v, u < A.length → v < A.length → leadB r D v = true → (f (thgI A (u : Int)) = thgI A (v : Int) ↔ r (D + u) = r (D + v)) := fun u v hu hv hl => by
    obtain ⟨k, hk, hkl, hkr, hke⟩ := hlead u hu
    rw [hke]
    constructor
    · intro e
      rw [thgI_nat, thgI_nat] at e
      have := asc_inj hA hk hv (by omega)
      subst this
      exact hkr.symm
    · intro e
      have : k = v := by
        rcases Nat.lt_trichotomy k v with c | c | c
        · exact absurd (hkr.trans e) (leadB_iff.1 hl k c)
        · exact c
        · exact absurd (e.symm.trans hkr.symm) (leadB_iff.1 hkl v c)
      rw [this]
  have hidx : ((List.range N).filter fun s : Nat => decide (((L.map (thgI A)).filter fun x => decide (f x = (s : Int))) ≠ [])) = ((List.range A.length).filter fun u => leadB r D u).map fun u => A.getD u 0 := by
    refine asc_same (List.pairwise_lt_range.filter _) ?_ fun s => ?_
    · refine List.pairwise_map.2 (List.Pairwise.imp_of_mem ?_ (List.pairwise_lt_range.filter _))
      intro a b ha hb hab
      exact asc_at hA (List.mem_range.1 (List.mem_filter.1 ha).1) (List.mem_range.1 (List.mem_filter.1 hb).1) hab
    · rw [List.mem_filter, List.mem_map, decide_eq_true_iff]
      constructor
      · rintro ⟨_, hne⟩
        obtain ⟨y, hy⟩ := List.exists_mem_of_ne_nil _ hne
        obtain ⟨h1, h2⟩ := List.mem_filter.1 hy
        obtain ⟨x, hx, rfl⟩ := List.mem_map.1 h1
        obtain ⟨u, hu, rfl⟩ := hL x hx
        obtain ⟨v, hv, hvl, _, e⟩ := hlead u hu
        refine ⟨v, List.mem_filter.2 ⟨List.mem_range.2 hv, hvl⟩, ?_⟩
        have h3 := of_decide_eq_true h2
        rw [e, thgI_nat] at h3
        omega
      · rintro ⟨v, hv, rfl⟩
        obtain ⟨h1, h2⟩ := List.mem_filter.1 hv
        have hvl := List.mem_range.1 h1
        have hmem : A.getD v 0 ∈ A := by
          rw [List.getD_eq_getElem?_getD, List.getElem?_eq_getElem hvl]
          exact List.getElem_mem hvl
        refine ⟨List.mem_range.2 (hN _ hmem), fun hnil => ?_⟩
        have : thgI A (v : Int) ∈ (L.map (thgI A)).filter fun x => decide (f x = ((A.getD v 0 : Nat) : Int)) := by
          refine List.mem_filter.2 ⟨List.mem_map.2 ⟨_, hall v hvl, rfl⟩, decide_eq_true ?_⟩
          rw [← thgI_nat]
          exact (hone v v hvl hvl h2).2 rfl
        rw [hnil] at this
        cases this
  rw [sdD_is, hidx]
  unfold sdG
  rw [hdL_is, List.map_map, List.map_map]
  refine List.map_congr_left fun u hu => ?_
  obtain ⟨h1, h2⟩ := List.mem_filter.1 hu
  have hul := List.mem_range.1 h1
  show ((L.map (thgI A)).filter fun x => decide (f x = ((A.getD u 0 : Nat) : Int))) = (L.filter fun x => decide (((r (D + x.toNat) : Nat) : Int) = ((r (D + u) : Nat) : Int))).map (thgI A)
  rw [List.filter_map]
  congr 1
  refine List.filter_congr fun x hx => ?_
  obtain ⟨k, hk, rfl⟩ := hL x hx
  show decide (f (thgI A (k : Int)) = ((A.getD u 0 : Nat) : Int)) = _
  rw [← thgI_nat, Int.toNat_natCast, decide_eq_decide, hone k u hk hul h2]
  omega
end
end Go.Proofs.YtfpepoebammeoaaGreat
set_option linter.unusedVariables false
set_option linter.unusedSimpArgs false
namespace Go.Proofs.YtfpepoebammeoaaGreat

def clT (r : Nat → Nat) (D : Nat) (A : List Nat) (x : Int) : Nat := r (D + A.idxOf x.toNat)
section
variable {n : Int} {F : EdN} {A : List Nat} {L : List Int} {D : Nat} {r : Nat → Nat} {P : Int → Int} {l : List Int}
theorem clT_at (hA : A.Pairwise (· < ·)) {u : Nat} (hu : u < A.length) : clT r D A (thgI A (u : Int)) = r (D + u) := by
  unfold clT
  rw [thgI_nat, Int.toNat_natCast]
  have h1 : A.getD u 0 ∈ A := by
    rw [List.getD_eq_getElem?_getD, List.getElem?_eq_getElem hu]
    exact List.getElem_mem hu
  have h2 := List.idxOf_lt_length_of_mem h1
  have h3 : A.getD (A.idxOf (A.getD u 0)) 0 = A.getD u 0 := by
    rw [List.getD_eq_getElem?_getD, List.getElem?_eq_getElem h2, List.getElem_idxOf]
    rfl
  rw [asc_inj hA h2 hu h3]
theorem SidesK.things (h : SidesK F A L D r) {x : Int} : x ∈ L.map (thgI A) ↔ ∃ u : Nat, u < A.length ∧ x = thgI A (u : Int) := by
  constructor
  · intro hx
    obtain ⟨y, hy, rfl⟩ := List.mem_map.1 hx
    obtain ⟨u, hu, rfl⟩ := (reach_tame h.line).2 y hy
    exact ⟨u, hu, rfl⟩
  · rintro ⟨u, hu, rfl⟩
    exact List.mem_map.2 ⟨_, (h.perm.mem_iff).2 (List.mem_map.2 ⟨u, List.mem_range.2 hu, rfl⟩), rfl⟩
theorem cp_at (hA : AskS n P l A) (hP : ∀ x y : Nat, P (x : Int) = P (y : Int) ↔ Knot (EdR F) x y) {u v : Nat} (hu : u < A.length) (hv : v < A.length) : cpB n F (thgI A (u : Int)) (thgI A (v : Int)) = true ↔ (u = v ∨ AheadK (EdR F) (A.getD u 0) (A.getD v 0) ∨ AheadK (EdR F) (A.getD v 0) (A.getD u 0)) := by
  have hb : ∀ u, u < A.length → ((A.getD u 0 : Nat) : Int) < n := fun u hu => hA.lt _ (List.mem_of_getElem? (getD_at hu))
  rw [thgI_nat, thgI_nat, cpB_iff, Int.toNat_natCast, Int.toNat_natCast]
  constructor
  · rintro ⟨_, _, _, _, hc⟩
    rcases hc with hc | hc
    · exact .inl (hA.inj _ _ _ _ (getD_at hu) (getD_at hv) ((hP _ _).2 hc))
    · exact .inr hc
  · intro hc
    refine ⟨by omega, hb u hu, by omega, hb v hv, ?_⟩
    rcases hc with e | hc
    · subst e; exact .inl (Knot.refl _)
    · exact .inr hc
theorem cl_cp (h : SidesK F A L D r) (hA : AskS n P l A) (hP : ∀ x y : Nat, P (x : Int) = P (y : Int) ↔ Knot (EdR F) x y) {x y : Int} (hx : x ∈ L.map (thgI A)) (hy : y ∈ L.map (thgI A)) (hc : cpB n F x y = true) : clT r D A x = clT r D A y := by
  obtain ⟨u, hu, rfl⟩ := h.things.1 hx
  obtain ⟨v, hv, rfl⟩ := h.things.1 hy
  rw [clT_at hA.asc hu, clT_at hA.asc hv, h.conn u v hu hv]
  rcases (cp_at hA hP hu hv).1 hc with e | hc | hc
  · subst e; exact .refl _
  · exact .on hu hv hc (.refl _)
  · exact .back hu hv hc (.refl _)
theorem cp_sym {x y : Int} (hc : cpB n F x y = true) : cpB n F y x = true := by
  obtain ⟨h1, h2, h3, h4, h5⟩ := cpB_iff.1 hc
  refine cpB_iff.2 ⟨h3, h4, h1, h2, ?_⟩
  rcases h5 with h | h | h
  · exact .inl h.symm
  · exact .inr (.inr h)
  · exact .inr (.inl h)
theorem sides_fin (h : SidesK F A L D r) (hA : AskS n P l A) (hP : ∀ x y : Nat, P (x : Int) = P (y : Int) ↔ Knot (EdR F) x y) {N : Nat} (hn : n = (N : Int)) {f : Int → Int} (hf : SInv (L.map (thgI A)) (clT r D A) f) (hd : ∀ x ∈ L.map (thgI A), ∀ y ∈ L.map (thgI A), cpB n F x y = true → ¬ f x < f y) :
    sdD f (L.map (thgI A)) N = sdG r D (hdL r D A.length) A L := by
  have hT : ∀ u : Nat, u < A.length → thgI A (u : Int) ∈ L.map (thgI A) := fun u hu => h.things.2 ⟨u, hu, rfl⟩
  have heq : ∀ u v, u < A.length → v < A.length → cpB n F (thgI A (u : Int)) (thgI A (v : Int)) = true → f (thgI A (u : Int)) = f (thgI A (v : Int)) := fun u v hu hv hc => by
    have h1 := hd _ (hT u hu) _ (hT v hv) hc
    have h2 := hd _ (hT v hv) _ (hT u hu) (cp_sym hc)
    omega
  have hcon : ∀ {u v : Nat}, Conn (fun i j => AheadK (EdR F) (A.getD i 0) (A.getD j 0)) A.length u v → u < A.length → v < A.length → f (thgI A (u : Int)) = f (thgI A (v : Int)) := by
    intro u v hc
    induction hc with
    | refl => exact fun _ _ => rfl
    | @on a b c ha hb hr _ ih => exact fun _ hv => (heq a b ha hb ((cp_at hA hP ha hb).2 (.inr (.inl hr)))).trans (ih hb hv)
    | @back a b c ha hb hr _ ih => exact fun _ hv => (heq a b ha hb ((cp_at hA hP ha hb).2 (.inr (.inr hr)))).trans (ih hb hv)
  have hcl : ∀ x ∈ L.map (thgI A), ∀ y ∈ L.map (thgI A), clT r D A x = clT r D A y → f x = f y := fun x hx y hy e => by
    obtain ⟨u, hu, rfl⟩ := h.things.1 hx
    obtain ⟨v, hv, rfl⟩ := h.things.1 hy
    rw [clT_at hA.asc hu, clT_at hA.asc hv] at e
    exact hcon ((h.conn u v hu hv).1 e) hu hv
  refine sides_doc hA.asc (fun x hx => by have := hA.lt x hx; omega) (fun x hx => (reach_tame h.line).2 x hx) (fun u hu => (h.perm.mem_iff).2 (List.mem_map.2 ⟨u, List.mem_range.2 hu, rfl⟩)) (fun u hu => ?_) (fun u v hu hv e => ?_)
  · obtain ⟨v, hv, e⟩ := h.things.1 (hf.mem _ (hT u hu))
    refine ⟨v, hv, e, ?_⟩
    have := hf.cl _ (hT u hu)
    rw [e, clT_at hA.asc hu, clT_at hA.asc hv] at this
    exact this
  · exact side_least hf hcl (hT u hu) (hT v hv) (by rw [clT_at hA.asc hu, clT_at hA.asc hv, e])
end
end Go.Proofs.YtfpepoebammeoaaGreat
set_option linter.unusedVariables false
set_option linter.unusedSimpArgs false
namespace Go.Proofs.YtfpepoebammeoaaGreat
open Go.ChangeShapes Go.WideShapes Go.ChangeAt Go.RowKit Go.WideMaps Go.Maps

theorem look_int {w : World} {t : TypeId} {b n : Nat} {D : DU} {key : Value} {kl : Lit} {c : Int} (hown : w.ownsMap Tryz.prog 3 (plainElem Tryz.prog 3) b n D) (ht : Tryz.prog.underlying t = some (.map 3 3)) (hkey : keyOf Tryz.prog 3 key = some kl) (hc : D.atKey kl (.lit (.int .i64 0)) = .lit (.int .i64 c)) : (Instr.lookup t (.map (some b)) key false).run Tryz.prog w = .ok (.int .i64 c) w := by
  obtain ⟨c', hrun, hat, _⟩ := hown.lookup_int ilaw ht Tryz.underlying3 (zeroI9 w) hkey
  rw [hrun, lit_i (hat.symm.trans hc)]
def intOfR : Result Value → Int
  | .ok (.int _ c) _ => c
  | _ => 0
noncomputable def valM (W : World) (b : Nat) (x : Int) : Int := intOfR ((Instr.lookup 63 (.map (some b)) (.int .i64 x) false).run Tryz.prog W)
theorem valM_is {W : World} {b : Nat} {ks : List Int} {f : Int → Int} (h : MFn W b ks f) {x : Int} (hx : x ∈ ks) (h1 : -9223372036854775808 ≤ x) (h2 : x ≤ 9223372036854775807) : (Instr.lookup 63 (.map (some b)) (.int .i64 x) false).run Tryz.prog W = .ok (.int .i64 (f x)) W ∧ valM W b x = f x := by
  obtain ⟨D, h3, _, h5, _⟩ := h
  have e := look_int h3 Tryz.underlying63 (li_key h1 h2) (h5 x hx)
  exact ⟨e, congrArg intOfR e⟩
theorem sumM_is {W : World} {b : Nat} {T : List Int} {f : Int → Int} (h : MFn W b T f) (hb : ∀ x ∈ T, -9223372036854775808 ≤ x ∧ x ≤ 9223372036854775807) : sumF (valM W b) T = sumF f T := by
  have e : (T.map fun x => (valM W b x).toNat) = T.map fun x => (f x).toNat := List.map_congr_left fun x hx => congrArg Int.toNat (valM_is h hx (hb x hx).1 (hb x hx).2).2
  exact congrArg List.sum e
def OkRow (cp : Int → Int → Bool) (f : Int → Int) (x : Int) (l : List Int) : Prop := ∀ c ∈ l, cp x c = true → ¬ f x < f c
def OkAll (ag : Bool) (cp : Int → Int → Bool) (f : Int → Int) (T : List Int) : Prop := ag = false → ∀ x ∈ T, OkRow cp f x T
def OkUpto (ag : Bool) (cp : Int → Int → Bool) (f f0 : Int → Int) (T : List Int) (i : Nat) : Prop := ag = false → f = f0 ∧ ∀ a ∈ T.take i, OkRow cp f a T
def OkIn (ag : Bool) (cp : Int → Int → Bool) (f f0 : Int → Int) (T : List Int) (i : Nat) (x : Int) (k : Nat) : Prop := ag = false → f = f0 ∧ (∀ a ∈ T.take i, OkRow cp f a T) ∧ OkRow cp f x (T.take k)
def SumL (ag : Bool) (f : Int → Int) (T : List Int) (s0 : Nat) : Prop := ag = true → sumF f T < s0
def bN : Value → Nat
  | .bool true => 1
  | _ => 0
set_option maxHeartbeats 8000000 in
set_option maxRecDepth 100000 in
theorem rsides_any (p N : Nat) (F : EdN) (hF : ∀ e ∈ F, e.1 < N ∧ e.2 < N) (P : Int → Int) (hP : ∀ x y : Nat, P (x : Int) = P (y : Int) ↔ Knot (EdR F) x y) (l : List Int) (lv : Value) (w : World) (h : ROrd w p N (viaB (edB F) N)) (hr : RI w lv l) (hl : l.length ≤ 60)
    (hlb : ∀ x ∈ l, -9223372036854775808 ≤ x ∧ x ≤ 9223372036854775807) (hN : N ≤ 2000) (A : List Nat) (hA : A = askN (hasB (N : Int)) P l) (L : List Int) (D : Nat) (r : Nat → Nat) (hK : SidesK F A L D r) :
    Calls Tryz.prog 18 #[.pointer (some ⟨p, 0, none⟩), lv] w fun e w' => ∃ ov, e = .returned ov ∧ RG w' ov (sdG r D (hdL r D A.length) A L) ∧ Below w.heap.size w w' := by
  have HT := Lib.hid (rtold_any p N F hF P hP l lv w h hr hl hlb hN A hA L hK.line hK.len)
  have hAS := askN_is (N : Int) P l
  rw [← hA] at hAS
  have hA60 : A.length ≤ 60 := by
    have h1 := askN_len (N : Int) P l
    rw [hA]; omega
  have HFIN := Lib.hid (fun (f : Int → Int) hf hd => sides_fin hK hAS hP rfl (f := f) hf hd)
  have HCL := Lib.hid (fun (x y : Int) hx hy hc => cl_cp hK hAS hP (x := x) (y := y) hx hy hc)
  have HTB : Hid (∀ x ∈ L.map (thgI A), 0 ≤ x ∧ x < (N : Int)) := Lib.hid (fun x hx => by
    obtain ⟨u, hu, rfl⟩ := hK.things.1 hx
    rw [thgI_nat]
    exact ⟨by omega, hAS.lt _ (List.mem_of_getElem? (getD_at hu))⟩)
  have HTN : Hid ((L.map (thgI A)).Nodup) := Lib.hid (by
    rw [List.nodup_iff_pairwise_ne, List.pairwise_map]
    refine List.Pairwise.imp_of_mem ?_ (List.nodup_iff_pairwise_ne.1 (reach_tame hK.line).1)
    intro a b ha hb hab e
    obtain ⟨u, hu, rfl⟩ := (reach_tame hK.line).2 a ha
    obtain ⟨v, hv, rfl⟩ := (reach_tame hK.line).2 b hb
    rw [thgI_nat, thgI_nat] at e
    exact hab (by rw [asc_inj hAS.asc hu hv (by omega)]))
  have HCP := Lib.hid (fun (a b : Int) (ha : 0 ≤ a ∧ a < (N : Int)) (hb : 0 ≤ b ∧ b < (N : Int)) W (hW : Below w.heap.size w W) => rcomp_any p N F hF a b W (h.below hW) hN (by omega) (by omega) (by omega) (by omega))
  have HBX : Hid (∃ (oa : Option Addr) (oc : Nat), p < w.heap.size ∧ w.cell? ⟨p, 0, none⟩ = some (.slice oa N oc)) := Lib.hid (by
    obtain ⟨B, ov, rb, h1, h2⟩ := h.tab
    obtain ⟨oa, oc, e⟩ := h2.len
    exact ⟨oa, oc, h.lt, by rw [h1, e]⟩)
  have hTL : (L.map (thgI A)).length = A.length := by rw [List.length_map]; exact hK.len
  obtain ⟨T, hTe⟩ : ∃ T, T = L.map (thgI A) := ⟨_, rfl⟩
  obtain ⟨cl, hcl⟩ : ∃ cl, cl = clT r D A := ⟨_, rfl⟩
  obtain ⟨G, hG⟩ : ∃ G, G = sdG r D (hdL r D A.length) A L := ⟨_, rfl⟩
  obtain ⟨m, hm⟩ : ∃ m, m = A.length := ⟨_, rfl⟩
  rw [← hTe] at HT HFIN HCL HTB HTN hTL
  rw [← hcl] at HFIN HCL
  rw [← hG] at HFIN ⊢
  rw [← hm] at hTL hA60
  have HTL := Lib.hid hTL
  obtain ⟨la, lc, rfl⟩ := hr.form
  clear hTL hTe hcl hG hm hAS hK h hr hA hF hP hlb
  go_enter Tryz.func18, Tryz.ntmps18
  go_wp2_with fail
  refine HT.out.mono ?_
  rintro e w3 ⟨tv, rfl, hT, hb3⟩
  obtain ⟨ta, tc, htf⟩ := hT.form
  rw [HTL.out] at htf
  subst htf
  obtain ⟨S, hS⟩ : ∃ S, S = w3.heap.size := ⟨_, rfl⟩
  have HRT := Lib.hid hT
  have HB3 := Lib.hid hb3
  have HS := Lib.hid hS
  have HM0 := Lib.hid (show MFn (w3.alloc (.map #[] 0)) S (T.take 0) (fun x => x) by rw [hS, List.take_zero]; exact MFn.made w3 _)
  have HB0 := Lib.hid ((Below.refl w3.heap.size w3).alloc (Nat.le_refl _) (.map #[] 0))
  have HKEY := Lib.hid (fun z (hz : z ∈ T) => show keyOf Tryz.prog 3 (.int .i64 z) = some (li z) from li_key (by have := HTB.out z hz; omega) (by have := HTB.out z hz; omega))
  have HWF := Lib.hid (fun z (hz : 0 ≤ z ∧ z < (N : Int)) => plainElem_int (H := Unit) (P := Tryz.prog) Tryz.underlying3 (li_wf (x := z) (by omega) (by omega)))
  have hmm := @run_makeMap Tryz.prog
  clear hT hb3 HT
  go_wp2_with fail
  rw [← hS]
  clear hS hmm
  go_loopw [6] (fun nv wr => ∃ i : Nat, nv = .int .i64 (i : Nat) ∧ i ≤ m ∧ Hid (MFn wr S (T.take i) (fun x => x)) ∧ Hid (Below S w3 wr)) (fun nv _ => m - (intOf nv).toNat)
  case atStart => exact ⟨0, rfl, Nat.zero_le _, HM0, Lib.hid (by rw [HS.out]; exact HB0.out)⟩
  case round =>
    clear HM0 HB0
    obtain ⟨i, rfl, hi, HM, HB⟩ := hrel
    by_cases hli : i < m
    · obtain ⟨x, hx⟩ : ∃ x, T[i]? = some x := ⟨T[i]'(by rw [HTL.out]; exact hli), by simp⟩
      have hxT := List.mem_of_getElem? hx
      obtain ⟨vb, vo, rfl, hvb, hvc1, hvc2, cx⟩ := HRT.out.at hx
      have cx := (HB.out.cell (p := ⟨vb, _, none⟩) (by rw [HS.out]; exact hvb)).trans cx
      obtain ⟨Dm, hown, hhas, hat, hsz⟩ := HM.out
      obtain ⟨nK, hnK⟩ : ∃ nK, nK = (T.take i).length := ⟨_, rfl⟩
      have hnk60 : nK ≤ 60 := by rw [hnK, List.length_take]; omega
      rw [← hnK] at hown
      have HOWN := Lib.hid hown
      have HKX := Lib.hid (HKEY.out x hxT)
      have HWX := Lib.hid (HWF.out x (HTB.out x hxT))
      have HMF : Hid (∀ w9 : World, w9.ownsMap Tryz.prog 3 (plainElem Tryz.prog 3) S (nK + 1) (Dm.put (li x) (.lit (.int .i64 x))) → MFn w9 S (T.take (i + 1)) (fun x => x)) := Lib.hid (fun w9 h9 => by
        have h := MFn.put (W0 := wr) (D := Dm) (n := nK) HOWN.out hhas hat hsz h9
        have hni : x ∉ T.take i := fun hmem => by
          obtain ⟨q, hq, e⟩ := List.getElem_of_mem hmem
          rw [List.length_take] at hq
          rw [List.getElem_take] at e
          obtain ⟨hkl, e3⟩ := List.getElem?_eq_some_iff.1 hx
          exact List.pairwise_iff_getElem.1 (List.nodup_iff_pairwise_ne.1 HTN.out) q i (by omega) hkl (by omega) (by rw [e, e3])
        rw [if_neg hni] at h
        rw [List.take_add_one, hx]
        exact h.congr (fun y _ => by
          show (if y = x then x else y) = y
          split
          · rename_i e; exact e.symm
          · rfl))
      have HBD : Hid (Below S w3 wr.drew) := Lib.hid HB.out.drew
      have HOWD := Lib.hid (show World.ownsMap wr.drew Tryz.prog 3 (plainElem Tryz.prog 3) S nK Dm from HOWN.out.drew)
      have HSZW : Hid (S ≤ wr.drew.heap.size) := Lib.hid (by rw [HS.out]; exact HB.out.size)
      unfold maxLen at hvc2
      clear hx hxT hown hhas hat hsz hnK hvb
      go_wp2_with fail
      go_still_tail 9, (by kernel_rfl)
      change wpList _ _ _ _ _ wr.drew
      generalize hwx : wr.drew = wx
      have cx : wx.cell? ⟨vb, vo + i, none⟩ = some (.int .i64 x) := by rw [← hwx]; exact cx
      rw [hwx] at HBD HOWD HSZW
      clear hwx
      go_wp2_with (at_mapUpdate; refine wpList_mapUpdate_own _ rfl _ _ _ 63 rfl 3 3 ilaw Tryz.underlying63 _ S nK Dm rfl HOWD.out (by unfold maxLen; omega) _ _ _ rfl rfl HKX.out _ [] HWX.out ?_; intro w9 hown9 hg9; have HM9 := Lib.hid (HMF.out w9 hown9); have HB9 := Lib.hid (HBD.out.grown hg9 HSZW.out (fun b hb => by cases hb; exact Nat.le_refl _)); clear hown9 hg9)
      exact ⟨⟨i + 1, by go_num, by omega, HM9, HB9⟩, by simp [intOf]; omega⟩
    · have hie : m = i := by omega
      have HMT : Hid (MFn wr S T (fun x => x)) := Lib.hid (by
        have h := HM.out
        rw [List.take_of_length_le (by rw [HTL.out]; omega)] at h
        exact h)
      have HTI : Hid (∀ x ∈ T, -9223372036854775808 ≤ x ∧ x ≤ 9223372036854775807) := Lib.hid (fun x hx => by have := HTB.out x hx; omega)
      subst hie
      clear HM
      go_wp2_with fail
      go_loopw [7] (fun av wr => ∃ (ag : Bool) (f : Int → Int), av = .bool ag ∧ Hid (MFn wr S T f) ∧ Hid (SInv T cl f) ∧ Hid (OkAll ag (cpB (N : Int) F) f T) ∧ Hid (Below S w3 wr)) (fun av wr => 2 * sumF (valM wr S) T + bN av)
      case atStart => exact ⟨true, fun x => x, rfl, HMT, Lib.hid (SInv.first T cl), Lib.hid (fun h => by cases h), HB⟩
      case round =>
        clear HMT HB
        obtain ⟨ag, f0, rfl, HM0, HI0, HAG0, HB0⟩ := hrel
        obtain ⟨wg, rfl⟩ : ∃ wg, wg = wr := ⟨wr, rfl⟩
        cases ag with
        | true =>
          have HS0 := Lib.hid (sumM_is HM0.out HTI.out)
          rw [HS0.out]
          obtain ⟨s0, hs0⟩ : ∃ s0, s0 = sumF f0 T := ⟨_, rfl⟩
          rw [← hs0]
          have HSE := Lib.hid hs0
          clear hs0 HS0
          go_wp2_with fail
          go_loopw [7, 8] (fun av nv W => ∃ (i : Nat) (ag : Bool) (f : Int → Int), nv = .int .i64 (i : Nat) ∧ i ≤ m ∧ av = .bool ag ∧ Hid (MFn W S T f) ∧ Hid (SInv T cl f) ∧ Hid (SumL ag f T s0) ∧ Hid (OkUpto ag (cpB (N : Int) F) f f0 T i) ∧ Hid (Below S w3 W)) (fun _ nv _ => m - (intOf nv).toNat)
          case atStart => exact ⟨0, false, f0, rfl, Nat.zero_le _, rfl, HM0, HI0, Lib.hid (fun h => by cases h), Lib.hid (fun _ => ⟨rfl, fun a ha => by cases ha⟩), HB0⟩
          case round =>
            clear HM0 HI0 HAG0 HB0
            obtain ⟨i, ag, f, rfl, hi, rfl, HM, HI, HT1, HF1, HB⟩ := hrel
            obtain ⟨wi, rfl⟩ : ∃ wi, wi = wr := ⟨wr, rfl⟩
            by_cases hli : i < m
            · obtain ⟨x, hx⟩ : ∃ x, T[i]? = some x := ⟨T[i]'(by rw [HTL.out]; exact hli), by simp⟩
              have hxT := List.mem_of_getElem? hx
              obtain ⟨vb, vo, rfl, hvb, hvc1, hvc2, cx⟩ := HRT.out.at hx
              have HCX : Hid (∀ W, Below S w3 W → W.cell? ⟨vb, vo + i, none⟩ = some (.int .i64 x)) := Lib.hid (fun W hW => (hW.cell (p := ⟨vb, _, none⟩) (by rw [HS.out]; exact hvb)).trans cx)
              have HXT := Lib.hid hxT
              have HTK : Hid (T.take (i + 1) = T.take i ++ [x]) := Lib.hid (by rw [List.take_add_one, hx]; rfl)
              have HVB := Lib.hid hvb
              have HF2 : Hid (OkIn ag (cpB (N : Int) F) f f0 T i x 0) := Lib.hid (fun h => ⟨(HF1.out h).1, (HF1.out h).2, fun c hc => by cases hc⟩)
              unfold maxLen at hvc2
              clear hx hxT cx hvb HF1
              go_wp2_with fail
              go_loopw [7, 9] (fun av nv W => ∃ (k : Nat) (ag : Bool) (f : Int → Int), nv = .int .i64 (k : Nat) ∧ k ≤ m ∧ av = .bool ag ∧ Hid (MFn W S T f) ∧ Hid (SInv T cl f) ∧ Hid (SumL ag f T s0) ∧ Hid (OkIn ag (cpB (N : Int) F) f f0 T i x k) ∧ Hid (Below S w3 W)) (fun _ nv _ => m - (intOf nv).toNat)
              case atStart => exact ⟨0, ag, f, rfl, Nat.zero_le _, rfl, HM, HI, HT1, HF2, HB⟩
              case round =>
                clear HM HI HT1 HF2 HB
                obtain ⟨k, ag, f, rfl, hk, rfl, HM, HI, HT1, HF1, HB⟩ := hrel
                by_cases hlk : k < m
                · obtain ⟨y, hy⟩ : ∃ y, T[k]? = some y := ⟨T[k]'(by rw [HTL.out]; exact hlk), by simp⟩
                  have hyT := List.mem_of_getElem? hy
                  obtain ⟨vb', vo', he', _, _, _, cy⟩ := HRT.out.at hy
                  injection he' with he'
                  injection he' with e1 e2 _
                  subst e1
                  subst e2
                  have cy := (HB.out.cell (p := ⟨vb, _, none⟩) (by rw [HS.out]; exact HVB.out)).trans cy
                  have cx := HCX.out wr HB.out
                  have HTKY : Hid (T.take (k + 1) = T.take k ++ [y]) := Lib.hid (by rw [List.take_add_one, hy]; rfl)
                  have HYT := Lib.hid hyT
                  obtain ⟨c, hc⟩ : ∃ c, c = cpB (N : Int) F x y := ⟨_, rfl⟩
                  have HC : Hid (∀ mm, Calls Tryz.prog 13 #[.pointer (some ⟨p, 0, none⟩), .int .i64 x, .int .i64 y] (wr.drewN mm) fun e w' => e = .returned (.bool c) ∧ w' = wr.drewN mm) := Lib.hid (fun mm => by
                    rw [hc]
                    exact HCP.out x y (HTB.out x HXT.out) (HTB.out y hyT) _ (below_drewN (HB3.out.trans (HB.out.mono (by rw [HS.out]; exact HB3.out.size)))))
                  have HCE := Lib.hid hc
                  clear hy hyT hc
                  cases c with
                  | false =>
                    have HF9 : Hid (OkIn ag (cpB (N : Int) F) f f0 T i x (k + 1)) := Lib.hid (fun h => ⟨(HF1.out h).1, (HF1.out h).2.1, fun z hz hcz => by
                      rw [HTKY.out] at hz
                      rcases List.mem_append.1 hz with hz | hz
                      · exact (HF1.out h).2.2 z hz hcz
                      · rw [List.mem_singleton.1 hz, ← HCE.out] at hcz; cases hcz⟩)
                    have HM9 : Hid (∀ mm, MFn (wr.drewN mm) S T f) := Lib.hid (fun mm => HM.out.below (below_drewN (Below.refl _ _)))
                    go_wp2_with fail
                    go_quiet (first | (go_at_call 13; with_reducible exact Calls.quiet_of_same (HC.out _)))
                    go_wp2_with fail
                    exact ⟨⟨k + 1, ag, f, by go_num, by omega, rfl, Lib.hid (HM9.out _), HI, HT1, HF9, Lib.hid (below_drewN HB.out)⟩, by simp [intOf]; omega⟩
                  | true =>
                    obtain ⟨hlx0, _⟩ := valM_is HM.out HXT.out (HTI.out x HXT.out).1 (HTI.out x HXT.out).2
                    obtain ⟨fx, hfx⟩ : ∃ fx, fx = f x := ⟨_, rfl⟩
                    obtain ⟨fy, hfy⟩ : ∃ fy, fy = f y := ⟨_, rfl⟩
                    have hlx : ∀ mm, (Instr.lookup 63 (.map (some S)) (.int .i64 x) false).run Tryz.prog (wr.drewN mm) = .ok (.int .i64 fx) (wr.drewN mm) := fun mm => by
                      rw [hfx]
                      exact (valM_is (HM.out.below (below_drewN (Below.refl _ _))) HXT.out (HTI.out x HXT.out).1 (HTI.out x HXT.out).2).1
                    have hly : ∀ mm, (Instr.lookup 63 (.map (some S)) (.int .i64 y) false).run Tryz.prog (wr.drewN mm) = .ok (.int .i64 fy) (wr.drewN mm) := fun mm => by
                      rw [hfy]
                      exact (valM_is (HM.out.below (below_drewN (Below.refl _ _))) HYT.out (HTI.out y HYT.out).1 (HTI.out y HYT.out).2).1
                    have HM9 : Hid (∀ mm, MFn (wr.drewN mm) S T f) := Lib.hid (fun mm => HM.out.below (below_drewN (Below.refl _ _)))
                    have HFX := Lib.hid hfx
                    have HFY := Lib.hid hfy
                    clear hlx0 hfx hfy
                    by_cases hxy : fx < fy
                    · have hdl : decide (fx < fy) = true := decide_eq_true hxy
                      go_wp2_with fail
                      go_quiet (first | (go_at_call 13; with_reducible exact Calls.quiet_of_same (HC.out _)))
                      clear hly
                      go_wp2_with fail
                      obtain ⟨wd, hwd⟩ : ∃ wd, wd = wr.drewN nq := ⟨_, rfl⟩
                      rw [← hwd]
                      have HBd : Hid (Below wr.heap.size wr wd) := Lib.hid (by rw [hwd]; exact below_drewN (Below.refl _ _))
                      have cx := HCX.out wd (HB.out.trans (HBd.out.mono (by have := HB.out.size; rw [HS.out]; exact this)))
                      have cy : wd.cell? ⟨vb, vo + k, none⟩ = some (.int .i64 y) := by rw [hwd]; exact cy
                      clear hwd hlx
                      have HBD : Hid (Below S w3 wd.drew) := Lib.hid ((HB.out.trans (HBd.out.mono (by have := HB.out.size; rw [HS.out]; exact this))).drew)
                      have HMD : Hid (MFn wd.drew S T f) := Lib.hid (HM.out.below HBd.out.drew)
                      obtain ⟨Dm, hown, hhas, hat, hsz⟩ := HMD.out
                      obtain ⟨nK, hnK⟩ : ∃ nK, nK = T.length := ⟨_, rfl⟩
                      have hnk60 : nK ≤ 60 := by rw [hnK, HTL.out]; omega
                      rw [← hnK] at hown
                      have HKX := Lib.hid (HKEY.out x HXT.out)
                      have HKY := Lib.hid (HKEY.out y HYT.out)
                      have HWX := Lib.hid (HWF.out fx (by rw [HFX.out]; exact HTB.out _ (HI.out.mem x HXT.out)))
                      have HATX : Hid (Dm.atKey (li x) (.lit (.int .i64 0)) = .lit (.int .i64 fx)) := Lib.hid (by rw [HFX.out]; exact hat x HXT.out)
                      have HLIT : Hid (∀ c : Int, Dm.atKey (li x) (.lit (.int .i64 0)) = .lit (.int .i64 c) → c = fx) := Lib.hid (fun c hc => lit_i (hc.symm.trans HATX.out))
                      have HI9 : Hid (SInv T cl (fun z => if z = y then f x else f z)) := Lib.hid (HI.out.step HXT.out HYT.out (HCL.out x y HXT.out HYT.out HCE.out.symm) (by rw [← HFX.out, ← HFY.out]; exact hxy))
                      have HS9 : Hid (SumL true (fun z => if z = y then f x else f z) T s0) := Lib.hid (fun _ => by
                        have h1 := sum_step (f := f) (a := x) HYT.out (HTB.out _ (HI.out.mem x HXT.out)).1 (by rw [← HFX.out, ← HFY.out]; exact hxy)
                        cases ag with
                        | true => have := HT1.out rfl; omega
                        | false =>
                          have h2 := (HF1.out rfl).1
                          rw [h2] at h1 ⊢
                          rw [← HSE.out] at h1
                          exact h1)
                      have HMF : Hid (∀ w9 : World, w9.ownsMap Tryz.prog 3 (plainElem Tryz.prog 3) S (nK + 1) (Dm.put (li y) (.lit (.int .i64 fx))) → MFn w9 S T (fun z => if z = y then f x else f z)) := Lib.hid (fun w9 h9 => by
                        rw [HFX.out] at h9
                        have h := MFn.put (W0 := wd.drew) (D := Dm) (n := nK) (f := f) hown hhas hat hsz h9
                        rw [if_pos HYT.out] at h
                        exact h)
                      have HOWN := Lib.hid hown
                      have HSZW : Hid (S ≤ wd.drew.heap.size) := Lib.hid (by have := HBD.out.size; rw [HS.out]; exact this)
                      clear hown hhas hat hsz hnK hdl
                      have hlx2 : (Instr.lookup 63 (.map (some S)) (.int .i64 x) false).run Tryz.prog wd.drew = .ok (.int .i64 fx) wd.drew := look_int (n := nK) (D := Dm) HOWN.out Tryz.underlying63 HKX.out HATX.out
                      go_still_tail 11, (by kernel_rfl)
                      clear hlx2
                      change wpList _ _ _ _ _ wd.drew
                      generalize hwx : wd.drew = wx
                      have cx : wx.cell? ⟨vb, vo + i, none⟩ = some (.int .i64 x) := by rw [← hwx]; exact cx
                      have cy : wx.cell? ⟨vb, vo + k, none⟩ = some (.int .i64 y) := by rw [← hwx]; exact cy
                      rw [hwx] at HBD HOWN HSZW
                      clear hwx HMD
                      go_wp2_with (first | (at_lookup; refine wpList_lookup_own_int _ rfl _ _ 63 rfl 3 3 .i64 ilaw Tryz.underlying63 Tryz.underlying3 (zeroI9 _) S nK Dm rfl HOWN.out _ _ rfl HKX.out ?_; intro c9 hc1 hc2; obtain rfl := HLIT.out c9 hc1; clear hc1 hc2) | (at_mapUpdate; refine wpList_mapUpdate_own _ rfl _ _ _ 63 rfl 3 3 ilaw Tryz.underlying63 _ S nK Dm rfl HOWN.out (by unfold maxLen; omega) _ _ _ rfl rfl HKY.out _ [] HWX.out ?_; intro w9 hown9 hg9; have HM9 := Lib.hid (HMF.out w9 hown9); have HB9 := Lib.hid (HBD.out.grown hg9 HSZW.out (fun b hb => by cases hb; exact Nat.le_refl _)); clear hown9 hg9))
                      exact ⟨⟨k + 1, true, _, by go_num, by omega, rfl, HM9, HI9, HS9, Lib.hid (fun h => by cases h), HB9⟩, by simp [intOf]; omega⟩
                    · have hdl : decide (fx < fy) = false := decide_eq_false hxy
                      have HF9 : Hid (OkIn ag (cpB (N : Int) F) f f0 T i x (k + 1)) := Lib.hid (fun h => ⟨(HF1.out h).1, (HF1.out h).2.1, fun z hz hcz => by
                        rw [HTKY.out] at hz
                        rcases List.mem_append.1 hz with hz | hz
                        · exact (HF1.out h).2.2 z hz hcz
                        · rw [List.mem_singleton.1 hz, ← HFX.out, ← HFY.out]; exact hxy⟩)
                      go_wp2_with fail
                      go_quiet (first | (go_at_call 13; with_reducible exact Calls.quiet_of_same (HC.out _)))
                      go_wp2_with fail
                      exact ⟨⟨k + 1, ag, f, by go_num, by omega, rfl, Lib.hid (HM9.out _), HI, HT1, HF9, Lib.hid (below_drewN HB.out)⟩, by simp [intOf]; omega⟩
                · have hke : m = k := by omega
                  have HF9 : Hid (OkUpto ag (cpB (N : Int) F) f f0 T (i + 1)) := Lib.hid (fun h => ⟨(HF1.out h).1, fun a ha c hc hcp => by
                    rw [HTK.out] at ha
                    rcases List.mem_append.1 ha with ha | ha
                    · exact (HF1.out h).2.1 a ha c hc hcp
                    · rw [List.mem_singleton.1 ha] at hcp ⊢
                      have h3 := (HF1.out h).2.2 c
                      rw [List.take_of_length_le (by rw [HTL.out]; omega)] at h3
                      exact h3 hc hcp⟩)
                  subst hke
                  go_wp2_with fail
                  exact ⟨⟨i + 1, ag, f, by go_num, by omega, rfl, HM, HI, HT1, HF9, HB⟩, by simp [intOf]; omega⟩
            · have hie : m = i := by omega
              have HF9 : Hid (OkAll ag (cpB (N : Int) F) f T) := Lib.hid (fun h a ha c hc hcp => by
                have h3 := (HF1.out h).2 a
                rw [List.take_of_length_le (by rw [HTL.out]; omega)] at h3
                exact h3 ha c hc hcp)
              have HME : Hid (2 * sumF (valM wi S) T + bN (.bool ag) < 2 * s0 + bN (.bool true)) := Lib.hid (by
                rw [sumM_is HM.out HTI.out]
                cases ag with
                | true =>
                  have := HT1.out rfl
                  show 2 * sumF f T + 1 < 2 * s0 + 1
                  omega
                | false =>
                  have h1 := (HF1.out rfl).1
                  rw [h1, ← HSE.out]
                  show 2 * s0 + 0 < 2 * s0 + 1
                  omega)
              subst hie
              go_wp2_with fail
              exact ⟨⟨ag, f, rfl, HM, HI, HF9, HB⟩, HME.out⟩
        | false =>
          have HGE : Hid (sdD f0 T N = G) := Lib.hid (HFIN.out f0 HI0.out (fun x hx y hy hc => Int.not_lt.1 (HAG0.out rfl x hx y hy hc)))
          obtain ⟨oa, oc, hpw, cp0⟩ := HBX.out
          have HBg : Hid (Below w.heap.size w wg) := Lib.hid (HB3.out.trans (HB0.out.mono (by rw [HS.out]; exact HB3.out.size)))
          have HCP0 : Hid (∀ W, Below wg.heap.size wg W → W.cell? ⟨p, 0, none⟩ = some (.slice oa N oc)) := Lib.hid (fun W hW => ((HBg.out.trans (hW.mono HBg.out.size)).cell (p := ⟨p, 0, none⟩) hpw).trans cp0)
          obtain ⟨Z, hZ⟩ : ∃ Z, Z = wg.heap.size := ⟨_, rfl⟩
          have HZ := Lib.hid hZ
          have HSg : Hid (S < wg.heap.size) := Lib.hid HM0.out.lt
          clear hpw cp0 hZ HFIN HCL HI0 HAG0
          go_wp2_with fail
          go_loopw [10, 11] (fun ov nv wr => ∃ (s : Nat) (V : List Value), nv = .int .i64 (s : Nat) ∧ s ≤ N ∧ Hid (Gr Z wr ov V (sdD f0 T s)) ∧ Hid (Below wg.heap.size wg wr)) (fun _ nv _ => N - (intOf nv).toNat)
          case atStart => exact ⟨0, [], rfl, Nat.zero_le _, Lib.hid (Gr.nil _ _), Lib.hid (Below.refl _ _)⟩
          case round =>
            obtain ⟨s, V, rfl, hs, HGR, HBR⟩ := hrel
            obtain ⟨va, vc, hvf⟩ := HGR.out.row.form
            obtain ⟨n, hn⟩ : ∃ n, n = V.length := ⟨_, rfl⟩
            rw [← hn] at hvf
            subst hvf
            have HNV := Lib.hid hn
            have hns : n ≤ s := by rw [hn, HGR.out.len]; exact sdD_len f0 T s
            obtain ⟨wb, rfl⟩ : ∃ wb, wb = wr := ⟨wr, rfl⟩
            have cp0 := HCP0.out wb HBR.out
            have HZb : Hid (Z ≤ wb.heap.size) := Lib.hid (by rw [HZ.out]; exact HBR.out.size)
            clear hn
            by_cases hls : s < N
            · go_wp2_with fail
              go_loopw [12, 13] (fun uv nv W => ∃ (i q : Nat), nv = .int .i64 (i : Nat) ∧ i ≤ m ∧ q ≤ i ∧ Hid (q = ((T.take i).filter fun x => decide (f0 x = (s : Int))).length) ∧ Hid (Row 1 wb.heap.size W uv q (iv ((T.take i).filter fun x => decide (f0 x = (s : Int))))) ∧ Hid (Below wb.heap.size wb W)) (fun _ nv _ => m - (intOf nv).toNat)
              case atStart => exact ⟨0, 0, rfl, Nat.zero_le _, Nat.le_refl _, Lib.hid rfl, Lib.hid (Row.nil _ _ _), Lib.hid (Below.refl _ _)⟩
              case round =>
                obtain ⟨i, q, rfl, hi, hqi, HQ, HU, HBU⟩ := hrel
                obtain ⟨ua, uc, rfl⟩ := HU.out.form
                by_cases hli : i < m
                · obtain ⟨x, hx⟩ : ∃ x, T[i]? = some x := ⟨T[i]'(by rw [HTL.out]; exact hli), by simp⟩
                  have hxT := List.mem_of_getElem? hx
                  obtain ⟨vb, vo, rfl, hvb, hvc1, hvc2, cx⟩ := HRT.out.at hx
                  have HBW : Hid (Below wg.heap.size wg wr) := Lib.hid (HBR.out.trans (HBU.out.mono HBR.out.size))
                  have cx := ((HB0.out.trans (HBW.out.mono (Nat.le_of_lt HSg.out))).cell (p := ⟨vb, _, none⟩) (by rw [HS.out]; exact hvb)).trans cx
                  obtain ⟨Dm, hown, hhas, hat, hsz⟩ := HM0.out.below HBW.out
                  obtain ⟨nK, hnK⟩ : ∃ nK, nK = T.length := ⟨_, rfl⟩
                  rw [← hnK] at hown
                  have HOWN := Lib.hid hown
                  have HKX := Lib.hid (HKEY.out x hxT)
                  obtain ⟨fx, hfx⟩ : ∃ fx, fx = f0 x := ⟨_, rfl⟩
                  have HLIT : Hid (∀ c : Int, Dm.atKey (li x) (.lit (.int .i64 0)) = .lit (.int .i64 c) → c = fx) := Lib.hid (fun c hc => by rw [hfx]; exact lit_i (hc.symm.trans (hat x hxT)))
                  have HTK : Hid (((T.take (i + 1)).filter fun x => decide (f0 x = (s : Int))) = ((T.take i).filter fun x => decide (f0 x = (s : Int))) ++ if fx = (s : Int) then [x] else []) := Lib.hid (by
                    rw [List.take_add_one, hx, List.filter_append, hfx]
                    congr 1
                    by_cases e : f0 x = (s : Int) <;> simp [e])
                  unfold maxLen at hvc2
                  clear hx hxT hvb hown hhas hat hsz hnK hfx
                  by_cases hfs : fx = (s : Int)
                  · have hfb : (fx == (s : Int)) = true := by simp [hfs]
                    have HT9 : Hid (((T.take (i + 1)).filter fun x => decide (f0 x = (s : Int))) = ((T.take i).filter fun x => decide (f0 x = (s : Int))) ++ [x]) := Lib.hid (by rw [HTK.out, if_pos hfs])
                    have HSRC := Lib.hid (show Src Tryz.prog 1 23 (.slice (some ⟨wr.heap.size, 0, none⟩) 1 1) 1 [.int .i64 x] (wr.alloc (.cells #[.int .i64 x] 3)) from src_new Tryz.underlying23 [.int .i64 x] 1 3 1 rfl oneIk)
                    have HUA := Lib.hid (HU.out.alloc (.cells #[.int .i64 x] 3))
                    have HBA := Lib.hid (HBU.out.alloc HBU.out.size (.cells #[.int .i64 x] 3))
                    have HSZ : Hid (wb.heap.size ≤ (wr.alloc (.cells #[.int .i64 x] 3)).heap.size) := Lib.hid HBA.out.size
                    have HOZ : Hid (∀ b, (Value.slice ua q uc).ownBlock = some b → wb.heap.size ≤ b) := Lib.hid (fun b hb => (HU.out.lt b hb).1)
                    clear hfs
                    go_wp2_with (first | (at_lookup; refine wpList_lookup_own_int _ rfl _ _ 63 rfl 3 3 .i64 ilaw Tryz.underlying63 Tryz.underlying3 (zeroI9 _) S nK Dm rfl HOWN.out _ _ rfl HKX.out ?_; intro c9 hc1 hc2; obtain rfl := HLIT.out c9 hc1; clear hc1 hc2) | (at_builtin; refine wpList_append_row rfl (.tmp 105) (.tmp 110) 23 23 rfl 1 3 (.int .i64 0) 8 Tryz.underlying23 infoIk rfl wb.heap.size (.slice ua q uc) q (iv ((T.take i).filter fun x => decide (f0 x = (s : Int)))) (by simp [Act.eval]) HUA.out (.slice (some ⟨wr.heap.size, 0, none⟩) 1 1) (by simp [Act.eval]) 1 [.int .i64 x] HSRC.out HSZ.out (by omega) (by decide) ?_; intro v8 w8 hr8 ho8 hw8; obtain ⟨a8, c8, hv8⟩ := hr8.form; subst hv8; have HR8 := Lib.hid hr8; have HO8 := Lib.hid ho8; clear hr8 ho8 hw8))
                    have HR9 : Hid (Row 1 wb.heap.size w8 (.slice a8 (q + 1) c8) (q + 1) (iv ((T.take (i + 1)).filter fun x => decide (f0 x = (s : Int))))) := Lib.hid (by
                      rw [HT9.out]
                      have e : ∀ O : List Int, iv (O ++ [x]) = iv O ++ [.int .i64 x] := fun O => by simp [iv]
                      rw [e]
                      exact HR8.out)
                    exact ⟨⟨i + 1, q + 1, by go_num, by omega, by omega, Lib.hid (by rw [HT9.out, List.length_append, ← HQ.out]; rfl), HR9, Lib.hid (HBA.out.trans (HO8.out.below (B := wb.heap.size) HOZ.out HSZ.out))⟩, by simp [intOf]; omega⟩
                  · have hfb : (fx == (s : Int)) = false := beq_eq_false_iff_ne.2 hfs
                    have HT9 : Hid (((T.take (i + 1)).filter fun x => decide (f0 x = (s : Int))) = ((T.take i).filter fun x => decide (f0 x = (s : Int)))) := Lib.hid (by rw [HTK.out, if_neg hfs, List.append_nil])
                    clear hfs
                    go_wp2_with (at_lookup; refine wpList_lookup_own_int _ rfl _ _ 63 rfl 3 3 .i64 ilaw Tryz.underlying63 Tryz.underlying3 (zeroI9 _) S nK Dm rfl HOWN.out _ _ rfl HKX.out ?_; intro c9 hc1 hc2; obtain rfl := HLIT.out c9 hc1; clear hc1 hc2)
                    exact ⟨⟨i + 1, q, by go_num, by omega, by omega, Lib.hid (by rw [HT9.out]; exact HQ.out), Lib.hid (by rw [HT9.out]; exact HU.out), HBU⟩, by simp [intOf]; omega⟩
                · have hie : m = i := by omega
                  obtain ⟨own, hown⟩ : ∃ own, own = T.filter fun x => decide (f0 x = (s : Int)) := ⟨_, rfl⟩
                  have e0 : ((T.take i).filter fun x => decide (f0 x = (s : Int))) = own := by rw [hown, List.take_of_length_le (by rw [HTL.out]; omega)]
                  rw [e0] at HQ HU
                  have HOWN := Lib.hid hown
                  have HBW : Hid (Below wg.heap.size wg wr) := Lib.hid (HBR.out.trans (HBU.out.mono HBR.out.size))
                  have HGW := Lib.hid (HGR.out.below HBU.out)
                  have HWb : Hid (wb.heap.size ≤ wr.heap.size) := Lib.hid HBU.out.size
                  subst hie
                  clear hown e0
                  by_cases hq0 : q = 0
                  · have HS9 : Hid (sdD f0 T (s + 1) = sdD f0 T s) := Lib.hid (sdD_in (by rw [← HOWN.out]; exact List.length_eq_zero_iff.1 (by rw [← HQ.out]; exact hq0)))
                    subst hq0
                    go_wp2_with fail
                    exact ⟨⟨s + 1, V, by go_num, by omega, Lib.hid (by rw [HS9.out]; exact HGW.out), HBW⟩, by simp [intOf]; omega⟩
                  · have HS9 : Hid (sdD f0 T (s + 1) = sdD f0 T s ++ [own]) := Lib.hid (by
                      rw [HOWN.out]
                      exact sdD_out (by rw [← HOWN.out]; intro e; rw [e] at HQ; exact hq0 HQ.out))
                    have hqp : 0 < q := by omega
                    have hqI : (0 : Int) < (q : Int) := by omega
                    obtain ⟨wc, hwc⟩ : ∃ wc, wc = wr.alloc (.cells #[.slice ua q uc] 23) := ⟨_, rfl⟩
                    have hbwc : Below wr.heap.size wr wc := by rw [hwc]; exact (Below.refl _ _).alloc (Nat.le_refl _) _
                    have HGC := Lib.hid (HGW.out.below hbwc)
                    have HG6 : Hid (∀ v6 w6, Row 1 Z w6 v6 (n + 1) (V ++ [.slice ua q uc]) → Off (fun i => (Value.slice va n vc).ownBlock = some i) wc w6 → (v6.ownBlock = (Value.slice va n vc).ownBlock ∨ v6.ownBlock = some wc.heap.size) → Gr Z w6 v6 (V ++ [.slice ua q uc]) (sdD f0 T s ++ [own]) ∧ Below wg.heap.size wg w6) := Lib.hid (fun v6 w6 hr6 ho6 hw6 => by
                      refine ⟨HGC.out.more (g0 := own) (by rw [← HQ.out]; exact (HU.out.mono HZb.out).below hbwc) (fun b hb => ?_) (by rw [← HNV.out]; exact hr6) ho6 (hw6.imp id fun h => ⟨_, h, Nat.le_refl _⟩), ?_⟩
                      · have hbe := (HU.out.lt b hb).1
                        refine ⟨fun e => ?_, fun k u hu e => ?_⟩
                        · have := (HGR.out.row.lt b e).2
                          omega
                        · have hk := (List.getElem?_eq_some_iff.1 hu).1
                          have := ((HGR.out.each k u _ hu (List.getElem?_eq_getElem (by rw [← HGR.out.len]; exact hk))).lt b e).2
                          omega
                      · refine (HBW.out.trans (hbwc.mono HBW.out.size)).trans ((ho6.below (B := Z) (fun i hi => ?_) (Nat.le_trans HZb.out (Nat.le_trans HWb.out hbwc.size))).mono (by rw [HZ.out]; exact Nat.le_refl _))
                        exact (HGR.out.row.lt i hi).1)
                    have HRA0 := Lib.hid (show Row 1 Z wc (.slice va n vc) n V by
                      have h := HGC.out.row
                      rw [← HNV.out] at h
                      exact h)
                    have HSRC0 := Lib.hid (show Src Tryz.prog 1 31 (.slice (some ⟨wr.heap.size, 0, none⟩) 1 1) 1 [.slice ua q uc] wc by
                      rw [hwc]
                      exact src_new Tryz.underlying31 [.slice ua q uc] 1 23 1 rfl (by intro u hu; rw [List.mem_singleton.1 hu]; rfl))
                    have HSZ0 : Hid (Z ≤ wc.heap.size) := Lib.hid (Nat.le_trans HZb.out (Nat.le_trans HWb.out hbwc.size))
                    have HWC := Lib.hid hwc
                    clear hq0 hwc hbwc HGC
                    go_wp2_with (at_builtin; rw [← HWC.out]; refine wpList_append_row rfl (.tmp 115) (.tmp 117) 31 31 rfl 1 23 (.slice none 0 0) 24 Tryz.underlying31 infoSI rfl Z (.slice va n vc) n V (by simp [Act.eval]) HRA0.out (.slice (some ⟨wr.heap.size, 0, none⟩) 1 1) (by simp [Act.eval]) 1 [.slice ua q uc] HSRC0.out HSZ0.out (by omega) (by decide) ?_; intro v6 w6 hr6 ho6 hw6; have HR6 := Lib.hid (HG6.out _ w6 hr6 ho6 hw6); obtain ⟨a6, c6, hv6⟩ := hr6.form; subst hv6; clear hr6 ho6 hw6)
                    exact ⟨⟨s + 1, _, by go_num, by omega, Lib.hid (by rw [HS9.out]; exact HR6.out.1), Lib.hid HR6.out.2⟩, by simp [intOf]; omega⟩
            · have hse : N = s := by omega
              have HGF := Lib.hid (show RG wb (.slice va n vc) G by
                have h := HGR.out.reads
                rw [← hse, HGE.out] at h
                exact h)
              have HBE : Hid (Below w.heap.size w wb) := Lib.hid (HBg.out.trans (HBR.out.mono HBg.out.size))
              subst hse
              clear HGR
              go_wp2_with fail
              go_ret
              exact ⟨_, rfl, HGF.out, HBE.out⟩
end Go.Proofs.YtfpepoebammeoaaGreat
