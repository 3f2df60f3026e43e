/- A patch in its box. What the program's Inverse answers, as one. The mathematics of the law PatchTwice: the keys of the inverse of an inverse are those of the patch, in their order. Maps that count keys. -/
import Derived.Maps.RangeWalk
import Derived.Maps.OwnOps
import Derived.Maps.OwnSet
import Derived.Test.YtgjcblginkdinaaGreatDoorU39
import Derived.Test.YtgjcblginkdinaaGreatDoorU40
import Derived.Test.YtgjcblginkdinaaGreatDoorU47
set_option linter.unusedVariables false
namespace Go.Proofs.YtgjcblginkdinaaGreatDoor
open Go.ChangeShapes Go.WideShapes Go.ChangeAt Go.RowKit

theorem nothing_reads (w : World) : PReads w ByteArray.empty (.slice none 0 0) (.slice none 0 0) ⟨ByteArray.empty, [], []⟩ := ⟨rfl, .inl ⟨rfl, _, _, rfl⟩, .inl ⟨rfl, _, _, rfl⟩⟩
abbrev PB (W : World) (b : Nat) (t : ByteArray) (dv ov : Value) : Prop := W.cell? ⟨b, 0, none⟩ = some (.string t) ∧ W.cell? ⟨b, 1, none⟩ = some dv ∧ W.cell? ⟨b, 2, none⟩ = some ov
theorem pb_call {W W2 : World} {b : Nat} {t : ByteArray} {dv ov : Value} (hb : Below W.heap.size W W2) (h : PB W b t dv ov) : PB W2 b t dv ov :=
  ⟨(hb.cell (p := ⟨b, 0, none⟩) (cell_lt h.1)).trans h.1, (hb.cell (p := ⟨b, 1, none⟩) (cell_lt h.2.1)).trans h.2.1, (hb.cell (p := ⟨b, 2, none⟩) (cell_lt h.2.2)).trans h.2.2⟩
theorem pb_new (W : World) (t : ByteArray) (dv ov : Value) (ty : TypeId) : PB (W.alloc (.cells #[.string t, dv, ov] ty)) W.heap.size t dv ov :=
  ⟨World.cell?_alloc_at _ _ _ _ rfl, World.cell?_alloc_at _ _ _ _ rfl, World.cell?_alloc_at _ _ _ _ rfl⟩

end Go.Proofs.YtgjcblginkdinaaGreatDoor
set_option linter.unusedVariables false
namespace Go.Proofs.YtgjcblginkdinaaGreatDoor
open Go.ChangeShapes Go.WideShapes Go.ChangeAt Go.RowKit

theorem inv_names {p : Pt} : tx (nameP p) ∈ (invP p).deps := ((needs_spec p (tx (nameP p))).2 _).2 (by simp [needRaw])
noncomputable def ansI (p : Pt) : Pt := if rightP p = true ∧ rightP (invP p) = true then invP p else ⟨ByteArray.empty, [], []⟩
noncomputable def codeI (p : Pt) : Int := if rightP p = true then (if rightP (invP p) = true then 0 else 2) else 10
noncomputable def errI (p : Pt) : Value := if codeI p = 0 then .nilIface else errV (codeI p)
theorem ansI_yes {p : Pt} (h : codeI p = 0) : rightP p = true ∧ rightP (invP p) = true ∧ ansI p = invP p := by
  unfold codeI at h
  split at h
  · split at h
    · rename_i h1 h2; exact ⟨h1, h2, if_pos ⟨h1, h2⟩⟩
    · cases h
  · cases h
theorem pinv_ans (p : Pt) (dv ov : Value) (w : World) (hp : PReads w p.note dv ov p) (hf : p.fine) (ht : HasTab w) (hk : HasK w) :
    Calls Tryz.prog 23 #[ptV p.note dv ov] w fun e w' => (∃ qa ql qc oa ol oc, e = .returned (.tuple #[ptV (ansI p).note (.slice qa ql qc) (.slice oa ol oc), errI p]) ∧ PReads w' (ansI p).note (.slice qa ql qc) (.slice oa ol oc) (ansI p)) ∧ Below w.heap.size w w' := by
  refine (pinverse_any p dv ov w hp hf ht hk).mono ?_
  rintro e w' ⟨h, hb⟩
  refine ⟨?_, hb⟩
  rcases h with ⟨h1, rfl⟩ | ⟨h1, h2, rfl⟩ | ⟨h1, h2, dv', ov', rfl, hq⟩
  · have e1 : ansI p = ⟨ByteArray.empty, [], []⟩ := by unfold ansI; rw [if_neg (by simp [h1])]
    have e2 : errI p = errV 10 := by unfold errI codeI; rw [h1]; rfl
    rw [e1, e2]
    exact ⟨none, 0, 0, none, 0, 0, rfl, nothing_reads _⟩
  · have e1 : ansI p = ⟨ByteArray.empty, [], []⟩ := by unfold ansI; rw [if_neg (by simp [h2])]
    have e2 : errI p = errV 2 := by unfold errI codeI; rw [h1, h2]; rfl
    rw [e1, e2]
    exact ⟨none, 0, 0, none, 0, 0, rfl, nothing_reads _⟩
  · have e1 : ansI p = invP p := by unfold ansI; rw [if_pos ⟨h1, h2⟩]
    have e2 : errI p = .nilIface := by unfold errI codeI; rw [h1, h2]; rfl
    rw [e1, e2]
    obtain ⟨qa, qc, hqv, _⟩ := hq.deps.form
    obtain ⟨oa, oc, hov, _⟩ := hq.ops.form
    subst hqv; subst hov
    exact ⟨_, _, _, _, _, _, rfl, hq⟩
end Go.Proofs.YtgjcblginkdinaaGreatDoor
set_option linter.unusedVariables false
namespace Go.Proofs.YtgjcblginkdinaaGreatDoor
open Go.ChangeShapes Go.WideShapes Go.ChangeAt Go.RowKit

def keysP (deps : Lb) (nm : ByteArray) : Nat → List Opp → Lb
  | _, [] => []
  | m, o :: r => (if o.kind = 1 then (List.range o.lines.length).map fun j => keyB 5 deps nm ⟨-2, ((m + j : Nat) : Int)⟩ ⟨0, 0⟩ else [keyB o.kind deps nm o.a o.b]) ++ keysP deps nm (m + if o.kind = 1 then o.lines.length else 0) r
def keysR (deps : Lb) (l : List Opp) : Lb := l.map fun o => keyB o.kind deps ByteArray.empty o.a o.b

theorem idx_get (l : Lb) (x : ByteArray) (h : x ∈ l) : l.getD (Lib.idxOfS l x).toNat ByteArray.empty = x ∧ 0 ≤ Lib.idxOfS l x := by
  have hn := (Lib.idxOfS_nonneg_iff l x).2 h
  refine ⟨?_, hn⟩
  have gen : ∀ (zs : Lb) (i : Nat), x ∈ zs → ∃ j : Nat, Lib.idxFromS zs x i = ((i + j : Nat) : Int) ∧ zs.getD j ByteArray.empty = x := by
    intro zs
    induction zs with
    | nil => intro i h; cases h
    | cons z zs ih =>
      intro i h
      by_cases hz : z = x
      · subst hz
        exact ⟨0, by simp [Lib.idxFromS], by simp⟩
      · have hz' : ¬ x = z := fun e => hz e.symm
        rcases List.mem_cons.1 h with h | h
        · exact absurd h hz'
        · obtain ⟨j, h1, h2⟩ := ih (i + 1) h
          refine ⟨j + 1, ?_, by simpa using h2⟩
          have : Lib.idxFromS (z :: zs) x i = Lib.idxFromS zs x (i + 1) := by simp [Lib.idxFromS, hz]
          rw [this, h1]
          omega
  obtain ⟨j, h1, h2⟩ := gen l 0 h
  have e : Lib.idxOfS l x = ((0 + j : Nat) : Int) := h1
  rw [e, Nat.zero_add, Int.toNat_natCast]
  exact h2

theorem twice_ref {deps N1 N2 : Lb} {nm nm2 : ByteArray} {x : Rf} (hk : x.okR deps.length) (h1 : x.at_ = -2 → nm ∈ N1 ∧ nm ∈ N2) (h2 : 0 ≤ x.at_ → deps.getD x.at_.toNat ByteArray.empty ∈ N1 ∧ deps.getD x.at_.toNat ByteArray.empty ∈ N2) :
    sideB N2 ByteArray.empty (refI N1 N2 nm2 (refI deps N1 nm x)) = sideB deps nm x ∧ (refI N1 N2 nm2 (refI deps N1 nm x)).okR N2.length := by
  obtain ⟨a, n⟩ := x
  have far : ∀ d, d ∈ N1 → d ∈ N2 → refI N1 N2 nm2 (lineI N1 d n) = ⟨Lib.idxOfS N2 d, n⟩ := fun d g1 g2 => by
    obtain ⟨e1, p1⟩ := idx_get N1 d g1
    unfold refI lineI
    simp only
    rw [if_neg (by omega), if_neg (by omega), e1]
  have fin : ∀ d, d ∈ N2 → sideB N2 ByteArray.empty ⟨Lib.idxOfS N2 d, n⟩ = d ++ ⟨#[46]⟩ ++ tx [u8 (n / 256), u8 n] ∧ (⟨Lib.idxOfS N2 d, n⟩ : Rf).okR N2.length := fun d g2 => by
    obtain ⟨e2, p2⟩ := idx_get N2 d g2
    have hb := idx_bounds N2 d
    refine ⟨?_, .inr (.inr ⟨p2, hb.2⟩)⟩
    unfold sideB nameB
    simp only
    rw [if_pos p2, e2]
  rcases hk with h | h | h
  · simp only at h
    subst h
    have e : ∀ (A B : Lb) z, refI A B z ⟨-1, n⟩ = ⟨-1, n⟩ := fun A B z => if_pos rfl
    rw [e, e]
    exact ⟨rfl, .inl rfl⟩
  · simp only at h
    subst h
    obtain ⟨g1, g2⟩ := h1 rfl
    have e : refI deps N1 nm ⟨-2, n⟩ = lineI N1 nm n := by unfold refI; rw [if_neg (show ¬ ((-2 : Int) = -1) by decide), if_pos rfl]
    rw [e, far nm g1 g2]
    exact fin nm g2
  · simp only at h
    obtain ⟨g1, g2⟩ := h2 h.1
    simp only at g1 g2
    have e : refI deps N1 nm ⟨a, n⟩ = lineI N1 (deps.getD a.toNat ByteArray.empty) n := by unfold refI; simp only; rw [if_neg (by omega), if_neg (by omega)]
    rw [e, far _ g1 g2]
    have hf := fin _ g2
    refine ⟨hf.1.trans ?_, hf.2⟩
    unfold sideB nameB
    simp only
    rw [if_pos h.1]

theorem key_same {k : Int} {d1 d2 : Lb} {n1 n2 : ByteArray} {a b a' b' : Rf} (ha : sideB d1 n1 a = sideB d2 n2 a') (hb : k = 2 ∨ k = 3 → sideB d1 n1 b = sideB d2 n2 b') : keyB k d1 n1 a b = keyB k d2 n2 a' b' := by
  unfold keyB
  split
  · rename_i h
    rw [ha, hb h]
  · rw [ha]

theorem kinds5 {p : Pt} (h : rightP p = true) : ∀ o ∈ p.ops, o.kind = 1 ∨ o.kind = 2 ∨ o.kind = 3 ∨ o.kind = 4 ∨ o.kind = 5 := fun o ho => by
  obtain ⟨m, hm⟩ := opsB_mem _ _ (sound_ops (right_sound h)) o ho
  unfold opR at hm
  split at hm
  · rename_i h1; exact .inl h1
  · split at hm
    · rename_i h1; omega
    · split at hm
      · rename_i h1; omega
      · cases hm
theorem take_name {N1 : Lb} {d : ByteArray} (h : d ∈ N1) (n : Int) : d ∈ takeD N1 (lineI N1 d n) := by
  obtain ⟨e, p⟩ := idx_get N1 d h
  unfold takeD lineI
  simp only
  rw [if_pos p, e]
  simp
theorem raw_of {p : Pt} {nm : ByteArray} {o : Opp} {r : Rf} {d : ByteArray} (ho : o ∈ p.ops) (hr : r ∈ namedR o) (hd : d ∈ takeD p.deps r) : d ∈ needRaw p nm := by
  unfold needRaw needRs
  simp only [List.mem_cons, List.mem_flatMap]
  exact .inr ⟨o, ho, r, hr, hd⟩
theorem take_dep {deps : Lb} {r : Rf} (h : 0 ≤ r.at_) : deps.getD r.at_.toNat ByteArray.empty ∈ takeD deps r := by
  unfold takeD
  rw [if_pos h]; simp
theorem in_deps {p : Pt} {x : ByteArray} (h : x ∈ needRaw p (tx (nameP p))) : x ∈ (invP p).deps := ((needs_spec p (tx (nameP p))).2 _).2 h
theorem twice_named {p : Pt} {N2 : Lb} {nm2 : ByteArray} (hN : ∀ x, x ∈ needRaw (invP p) nm2 → x ∈ N2) {o z : Opp} {x : Rf} (ho : o ∈ p.ops) (hx : x ∈ namedR o) (hk : x.okR p.deps.length) (hz : z ∈ (invP p).ops) (hy : refI p.deps (invP p).deps (tx (nameP p)) x ∈ namedR z) :
    sideB N2 ByteArray.empty (refI (invP p).deps N2 nm2 (refI p.deps (invP p).deps (tx (nameP p)) x)) = sideB p.deps (tx (nameP p)) x ∧ (refI (invP p).deps N2 nm2 (refI p.deps (invP p).deps (tx (nameP p)) x)).okR N2.length := by
  obtain ⟨a, n⟩ := x
  refine twice_ref hk (fun h => ⟨inv_names, hN _ (raw_of hz hy ?_)⟩) (fun h => ?_)
  · simp only at h
    subst h
    have e : refI p.deps (invP p).deps (tx (nameP p)) ⟨-2, n⟩ = lineI (invP p).deps (tx (nameP p)) n := by unfold refI; rw [if_neg (show ¬ ((-2 : Int) = -1) by decide), if_pos rfl]
    rw [e]
    exact take_name inv_names n
  · have h1 : p.deps.getD a.toNat ByteArray.empty ∈ (invP p).deps := in_deps (raw_of ho hx (take_dep h))
    refine ⟨h1, hN _ (raw_of hz hy ?_)⟩
    simp only at h
    have e : refI p.deps (invP p).deps (tx (nameP p)) ⟨a, n⟩ = lineI (invP p).deps (p.deps.getD a.toNat ByteArray.empty) n := by unfold refI; simp only; rw [if_neg (by omega), if_neg (by omega)]
    rw [e]
    exact take_name h1 n

theorem twice_op {p : Pt} {N2 : Lb} {nm2 : ByteArray} (hr : rightP p = true) (hN : ∀ x, x ∈ needRaw (invP p) nm2 → x ∈ N2) {o : Opp} (ho : o ∈ p.ops) (h1 : o.kind ≠ 1) (hq : opI p.deps (invP p).deps (tx (nameP p)) o ∈ (invP p).ops) :
    keyB (opI (invP p).deps N2 nm2 (opI p.deps (invP p).deps (tx (nameP p)) o)).kind N2 ByteArray.empty (opI (invP p).deps N2 nm2 (opI p.deps (invP p).deps (tx (nameP p)) o)).a (opI (invP p).deps N2 nm2 (opI p.deps (invP p).deps (tx (nameP p)) o)).b = keyB o.kind p.deps (tx (nameP p)) o.a o.b := by
  obtain ⟨hka, hkb⟩ := (right_refs hr o ho).2 h1
  obtain ⟨K, a, b, ls⟩ := o
  simp only at h1 hka hkb
  rcases kinds5 hr _ ho with h | h | h | h | h
  · exact absurd h h1
  all_goals (simp only at h; subst h)
  · have e1 : opI p.deps (invP p).deps (tx (nameP p)) ⟨2, a, b, ls⟩ = ⟨3, refI p.deps (invP p).deps (tx (nameP p)) a, refI p.deps (invP p).deps (tx (nameP p)) b, []⟩ := rfl
    rw [e1] at hq ⊢
    exact key_same (twice_named hN ho (by simp [namedR]) hka hq (by simp [namedR])).1 (fun _ => (twice_named hN ho (by simp [namedR]) (hkb (.inl rfl)) hq (by simp [namedR])).1)
  · have e1 : opI p.deps (invP p).deps (tx (nameP p)) ⟨3, a, b, ls⟩ = ⟨2, refI p.deps (invP p).deps (tx (nameP p)) a, refI p.deps (invP p).deps (tx (nameP p)) b, []⟩ := rfl
    rw [e1] at hq ⊢
    exact key_same (twice_named hN ho (by simp [namedR]) hka hq (by simp [namedR])).1 (fun _ => (twice_named hN ho (by simp [namedR]) (hkb (.inr rfl)) hq (by simp [namedR])).1)
  · have e1 : opI p.deps (invP p).deps (tx (nameP p)) ⟨4, a, b, ls⟩ = ⟨5, refI p.deps (invP p).deps (tx (nameP p)) a, ⟨0, 0⟩, []⟩ := rfl
    rw [e1] at hq ⊢
    exact key_same (twice_named hN ho (by simp [namedR]) hka hq (by simp [namedR])).1 (fun h => absurd h (by show ¬ ((4 : Int) = 2 ∨ (4 : Int) = 3); decide))
  · have e1 : opI p.deps (invP p).deps (tx (nameP p)) ⟨5, a, b, ls⟩ = ⟨4, refI p.deps (invP p).deps (tx (nameP p)) a, ⟨0, 0⟩, []⟩ := rfl
    rw [e1] at hq ⊢
    exact key_same (twice_named hN ho (by simp [namedR]) hka hq (by simp [namedR])).1 (fun h => absurd h (by show ¬ ((5 : Int) = 2 ∨ (5 : Int) = 3); decide))
theorem twice_del {p : Pt} {N2 : Lb} {nm2 : ByteArray} (hN : ∀ x, x ∈ needRaw (invP p) nm2 → x ∈ N2) (i : Int) (hq : delI (invP p).deps (tx (nameP p)) i ∈ (invP p).ops) :
    keyB (opI (invP p).deps N2 nm2 (delI (invP p).deps (tx (nameP p)) i)).kind N2 ByteArray.empty (opI (invP p).deps N2 nm2 (delI (invP p).deps (tx (nameP p)) i)).a (opI (invP p).deps N2 nm2 (delI (invP p).deps (tx (nameP p)) i)).b = keyB 5 p.deps (tx (nameP p)) ⟨-2, i⟩ ⟨0, 0⟩ := by
  have e0 : refI p.deps (invP p).deps (tx (nameP p)) ⟨-2, i⟩ = lineI (invP p).deps (tx (nameP p)) i := by unfold refI; rw [if_neg (show ¬ ((-2 : Int) = -1) by decide), if_pos rfl]
  have h := twice_ref (deps := p.deps) (N1 := (invP p).deps) (N2 := N2) (nm := tx (nameP p)) (nm2 := nm2) (x := ⟨-2, i⟩) (.inr (.inl rfl)) (fun _ => ⟨inv_names, hN _ (raw_of hq (r := lineI (invP p).deps (tx (nameP p)) i) (by unfold delI; simp [namedR]) (take_name inv_names i))⟩) (fun h => absurd h (by show ¬ ((0 : Int) ≤ -2); decide))
  rw [e0] at h
  exact key_same h.1 (fun h => absurd h (by show ¬ ((5 : Int) = 2 ∨ (5 : Int) = 3); decide))

theorem invI_no1 (deps needs : Lb) (nm : ByteArray) : ∀ (l : List Opp) (m : Nat), ∀ z ∈ invI deps needs nm m l, z.kind ≠ 1
  | [], _, z, h => by cases h
  | o :: r, m, z, h => by
    simp only [invI, List.mem_append] at h
    rcases h with h | h
    · exact invI_no1 deps needs nm r _ z h
    · unfold oneI at h
      split at h
      · obtain ⟨j, _, rfl⟩ := List.mem_map.1 h
        show ¬ ((4 : Int) = 1); decide
      · rw [List.mem_singleton] at h
        subst h
        unfold opI
        split
        · show ¬ ((3 : Int) = 1); decide
        · split
          · show ¬ ((2 : Int) = 1); decide
          · split
            · show ¬ ((5 : Int) = 1); decide
            · show ¬ ((4 : Int) = 1); decide
theorem invI_flat (deps needs : Lb) (nm : ByteArray) : ∀ (l : List Opp) (m : Nat), (∀ z ∈ l, z.kind ≠ 1) → invI deps needs nm m l = (l.map (opI deps needs nm)).reverse
  | [], _, _ => rfl
  | o :: r, m, h => by
    simp only [invI, List.map_cons, List.reverse_cons]
    rw [invI_flat deps needs nm r _ (fun z hz => h z (by simp [hz]))]
    unfold oneI
    rw [if_neg (h o (by simp))]

theorem twice_list {p : Pt} {N2 : Lb} {nm2 : ByteArray} (hr : rightP p = true) (hN : ∀ x, x ∈ needRaw (invP p) nm2 → x ∈ N2) : ∀ (l : List Opp) (m : Nat), (∀ o ∈ l, o ∈ p.ops) → (∀ z ∈ invI p.deps (invP p).deps (tx (nameP p)) m l, z ∈ (invP p).ops) →
    ((invI p.deps (invP p).deps (tx (nameP p)) m l).reverse.map (opI (invP p).deps N2 nm2)).map (fun o => keyB o.kind N2 ByteArray.empty o.a o.b) = keysP p.deps (tx (nameP p)) m l
  | [], _, _, _ => rfl
  | o :: r, m, ho, hq => by
    simp only [invI] at hq ⊢
    rw [List.reverse_append, List.map_append, List.map_append, twice_list hr hN r _ (fun z hz => ho z (by simp [hz])) (fun z hz => hq z (by simp [hz]))]
    simp only [keysP]
    congr 1
    by_cases h1 : o.kind = 1
    · rw [if_pos h1]
      have hq1 : ∀ j, j < o.lines.length → delI (invP p).deps (tx (nameP p)) ((m + j : Nat) : Int) ∈ (invP p).ops := fun j hj => hq _ (by
        refine List.mem_append.2 (.inr ?_)
        unfold oneI
        rw [if_pos h1]
        refine List.mem_map.2 ⟨o.lines.length - 1 - j, List.mem_range.2 (by omega), ?_⟩
        congr 1
        omega)
      unfold oneI
      rw [if_pos h1]
      have hrev : ((List.range o.lines.length).map fun j => delI (invP p).deps (tx (nameP p)) (((m + o.lines.length : Nat) : Int) - 1 - (j : Nat))).reverse = (List.range o.lines.length).map fun j => delI (invP p).deps (tx (nameP p)) ((m + j : Nat) : Int) := by
        apply List.ext_getElem
        · simp
        · intro i h1 h2
          simp only [List.getElem_reverse, List.getElem_map, List.getElem_range, List.length_map, List.length_range]
          simp at h2
          congr 1
          omega
      rw [hrev, List.map_map, List.map_map]
      refine List.map_congr_left (fun j hj => ?_)
      exact twice_del hN _ (hq1 j (List.mem_range.1 hj))
    · rw [if_neg h1]
      unfold oneI
      rw [if_neg h1]
      simp only [List.reverse_cons, List.reverse_nil, List.nil_append, List.map_cons, List.map_nil]
      congr 1
      exact twice_op hr hN (ho o (by simp)) h1 (hq _ (by refine List.mem_append.2 (.inr ?_); unfold oneI; rw [if_neg h1]; simp))
theorem twice_keys {p : Pt} (hr : rightP p = true) : keysR (invP (invP p)).deps (invP (invP p)).ops = keysP p.deps (tx (nameP p)) 0 p.ops := by
  have hq : (invP p).ops = invI p.deps (invP p).deps (tx (nameP p)) 0 p.ops := rfl
  have hro : (invP (invP p)).ops = ((invP p).ops.map (opI (invP p).deps (invP (invP p)).deps (tx (nameP (invP p))))).reverse := invI_flat _ _ _ _ _ (by rw [hq]; exact invI_no1 _ _ _ _ _)
  unfold keysR
  rw [hro, ← List.map_reverse]
  have h := twice_list (N2 := (invP (invP p)).deps) (nm2 := tx (nameP (invP p))) hr (fun x hx => in_deps hx) p.ops 0 (fun o h => h) (fun z hz => hz)
  rw [← hq] at h
  exact h
end Go.Proofs.YtgjcblginkdinaaGreatDoor
set_option linter.unusedVariables false
namespace Go.Proofs.YtgjcblginkdinaaGreatDoor
open Go.ChangeShapes Go.WideShapes Go.ChangeAt Go.RowKit Go.WideMaps Go.Maps

theorem mlaw : Keyed Tryz.prog 9 := string_keyed Tryz.underlying9
theorem zeroI (w : World) : (zeroValue 3).run Tryz.prog w = .ok (.int .i64 0) w := by kernel_rfl
abbrev kl (s : ByteArray) : Lit := .string s.data.toList
def cOf (D : DataW Unit) (s : ByteArray) : Int := match D.atKey (kl s) (.lit (.int .i64 0)) with | .lit (.int _ c) => c | _ => 0
def tickK (D : DataW Unit) (s : ByteArray) : DataW Unit := D.put (kl s) (.lit (.int .i64 (wrap64 (cOf D s + 1))))
theorem tick_of {D : DataW Unit} {s : ByteArray} {c : Int} (hat : D.atKey (kl s) (.lit (.int .i64 0)) = .lit (.int .i64 c)) : D.put (kl s) (.lit (.int .i64 (wrap64 (c + 1)))) = tickK D s := by
  unfold tickK cOf; rw [hat]
def cntD (ks : Lb) : DataW Unit := ks.foldl tickK (.map [])
theorem cnt_snoc (ks : Lb) (s : ByteArray) : cntD (ks ++ [s]) = tickK (cntD ks) s := by unfold cntD; rw [List.foldl_append]; rfl
def OM (W : World) (b : Nat) (ks : Lb) : Prop := W.ownsMap Tryz.prog 9 (plainElem (H := Unit) Tryz.prog 3) b ks.length (cntD ks)
theorem om_below {W W' : World} {b : Nat} {ks : Lb} (h : OM W b ks) (hb : Below W.heap.size W W') : OM W' b ks := by
  have hlt := World.ownsMap.lt h
  obtain ⟨es, clock, h0, F, hs, hD⟩ := h
  exact ⟨es, clock, (hb.block b hlt).trans h0, F, hs, hD⟩
theorem om_other {W W' : World} {b b' : Nat} {ks : Lb} (h : OM W b ks) (hg : W.grownBy W' (some b')) (hne : b ≠ b') : OM W' b ks := World.ownsMap.kept h hg (by simp [hne])
theorem om_made (W : World) : OM (W.alloc (.map #[] 0)) W.heap.size [] := World.ownsMap_made _ _ _ _
theorem gb_below {B b : Nat} {w W W' : World} (h : Below B w W) (hg : W.grownBy W' (some b)) (hB : B ≤ b) (hw : B ≤ W.heap.size) : Below B w W' := h.grown hg hw (fun j hj => by cases hj; exact hB)
theorem om_lt {W : World} {b : Nat} {ks : Lb} (h : OM W b ks) : b < W.heap.size := World.ownsMap.lt h
theorem key_size {k : Int} {deps : Lb} {nm : ByteArray} {a b : Rf} (ha : (nameB deps nm a).size ≤ 140737488355328) (hb : k = 2 ∨ k = 3 → (nameB deps nm b).size ≤ 140737488355328) : (keyB k deps nm a b).size ≤ 1000000000000000 := by
  have h1 : (kindB k).size = 1 := rfl
  have h2 := side_size deps nm a
  have h3 := side_size deps nm b
  unfold keyB
  split
  · rename_i h
    have := hb h
    rw [ByteArray.size_append, ByteArray.size_append, ByteArray.size_append]
    have h4 : (⟨#[45]⟩ : ByteArray).size = 1 := rfl
    omega
  · rw [ByteArray.size_append]
    omega
theorem name_size {deps : Lb} {nm : ByteArray} (hd : ∀ x ∈ deps, x.size ≤ 140737488355328) (hn : nm.size ≤ 140737488355328) (r : Rf) : (nameB deps nm r).size ≤ 140737488355328 := by
  unfold nameB
  split
  · rw [List.getD_eq_getElem?_getD]
    cases h : deps[r.at_.toNat]? with
    | none => simp
    | some x => exact hd x (List.mem_of_getElem? h)
  · split
    · exact hn
    · decide
theorem keysP_app (deps : Lb) (nm : ByteArray) : ∀ (l1 l2 : List Opp) (m : Nat), keysP deps nm m (l1 ++ l2) = keysP deps nm m l1 ++ keysP deps nm (m + madeN l1) l2
  | [], l2, m => by simp [keysP, madeN]
  | o :: r, l2, m => by
    simp only [List.cons_append, keysP, madeN]
    rw [keysP_app deps nm r l2, List.append_assoc]
    congr 2
    congr 1
    omega
theorem keysP_len (deps : Lb) (nm : ByteArray) : ∀ (l : List Opp) (m : Nat), (keysP deps nm m l).length ≤ l.length + linesN l
  | [], _ => Nat.le_refl _
  | o :: r, m => by
    have := keysP_len deps nm r (m + if o.kind = 1 then o.lines.length else 0)
    simp only [keysP, List.length_append, linesN, List.length_cons]
    by_cases h : o.kind = 1
    · rw [if_pos h] at this ⊢
      rw [if_pos h, List.length_map, List.length_range]
      omega
    · rw [if_neg h] at this ⊢
      rw [if_neg h, List.length_singleton]
      omega
theorem madeN_tk {l : List Opp} {k : Nat} {o : Opp} (h : l[k]? = some o) : madeN (l.take (k + 1)) = madeN (l.take k) + (if o.kind = 1 then o.lines.length else 0) := by
  rw [take_snoc h]
  generalize l.take k = xs
  induction xs with
  | nil => simp [madeN]
  | cons x r ih => simp only [List.cons_append, madeN, ih]; omega
theorem keysP_take {deps : Lb} {nm : ByteArray} {l : List Opp} {k : Nat} {o : Opp} (h : l[k]? = some o) : keysP deps nm 0 (l.take (k + 1)) = keysP deps nm 0 (l.take k) ++ (if o.kind = 1 then (List.range o.lines.length).map fun j => keyB 5 deps nm ⟨-2, ((madeN (l.take k) + j : Nat) : Int)⟩ ⟨0, 0⟩ else [keyB o.kind deps nm o.a o.b]) := by
  rw [take_snoc h, keysP_app]
  simp only [keysP, List.append_nil, Nat.zero_add]
theorem keysR_take {deps : Lb} {l : List Opp} {k : Nat} {o : Opp} (h : l[k]? = some o) : keysR deps (l.take (k + 1)) = keysR deps (l.take k) ++ [keyB o.kind deps ByteArray.empty o.a o.b] := by
  unfold keysR
  rw [take_snoc h, List.map_append]; rfl
theorem om_step {W : World} {b : Nat} {ks : Lb} {s : ByteArray} {c : Int} (hat : (cntD ks).atKey (kl s) (.lit (.int .i64 0)) = .lit (.int .i64 c)) (h : W.ownsMap Tryz.prog 9 (plainElem (H := Unit) Tryz.prog 3) b (ks.length + 1) ((cntD ks).put (kl s) (.lit (.int .i64 (wrap64 (c + 1)))))) : OM W b (ks ++ [s]) := by
  unfold OM
  rw [List.length_append, List.length_singleton, cnt_snoc, ← tick_of hat]
  exact h
theorem om_open {W : World} {b : Nat} {ks : Lb} (h : OM W b ks) : W.ownsMap Tryz.prog 9 (plainElem (H := Unit) Tryz.prog 3) b ks.length (cntD ks) := h
theorem made_keys (deps : Lb) (nm : ByteArray) : ∀ (l : List Opp) (m : Nat), madeN l ≤ (keysP deps nm m l).length
  | [], _ => Nat.le_refl _
  | o :: r, m => by
    have := made_keys deps nm r (m + if o.kind = 1 then o.lines.length else 0)
    simp only [keysP, List.length_append, madeN]
    by_cases h : o.kind = 1
    · rw [if_pos h] at this ⊢
      rw [if_pos h, List.length_map, List.length_range]
      omega
    · rw [if_neg h] at this ⊢
      rw [if_neg h, List.length_singleton]
      omega
theorem keyOf_str_inv {k : TypeId} (hk : Tryz.prog.underlying k = some .string) : ∀ (key : Value) (l : Lit), keyOf Tryz.prog k key = some l → ∃ x : ByteArray, key = .string x := by
  intro key l h
  rw [keyOf_string hk] at h
  cases key <;> simp [mapKey, hk] at h
  exact ⟨_, rfl⟩
end Go.Proofs.YtgjcblginkdinaaGreatDoor
