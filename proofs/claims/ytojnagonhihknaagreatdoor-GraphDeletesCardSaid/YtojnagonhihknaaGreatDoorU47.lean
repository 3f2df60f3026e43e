/- Elements of a slice of named patches that a law has made. What the graph's laws share: remainders, comparisons of errors, the form of Build's answer. A set that is appended from, and one patch more behind it: memory. -/
import Derived.Test.YtojnagonhihknaaGreatDoorU15
import Derived.Test.YtojnagonhihknaaGreatDoorU17
import Derived.Test.YtojnagonhihknaaGreatDoorU30
import Derived.Test.YtojnagonhihknaaGreatDoorU44
import Derived.Test.YtojnagonhihknaaGreatDoorU46
set_option linter.unusedVariables false
set_option linter.unusedSimpArgs false
namespace Go.Proofs.YtojnagonhihknaaGreatDoor
open Go.ChangeShapes Go.WideShapes Go.ChangeAt Go.RowKit

structure El7 where
  nm : ByteArray
  P : Pt
  dv : Value
  ov : Value
def El7.cells (e : El7) : List Value := [.string e.nm, .string e.P.note, e.dv, e.ov]
def El7.key (e : El7) : ByteArray × Pt := (e.nm, e.P)
theorem el7_at : ∀ {els : List El7} {j : Nat} {e : El7} {i : Nat} {v : Value}, els[j]? = some e → (El7.cells e)[i]? = some v → (els.flatMap El7.cells)[j * 4 + i]? = some v
  | [], j, e, i, v, h, _ => by simp at h
  | y :: r, 0, e, i, v, h, hv => by
    simp at h; subst h
    have hi : i < 4 := (List.getElem?_eq_some_iff.1 hv).1
    rw [List.flatMap_cons, List.getElem?_append_left (by show _ < 4; omega), Nat.zero_mul, Nat.zero_add]
    exact hv
  | y :: r, j + 1, e, i, v, h, hv => by
    have h' : r[j]? = some e := by simpa using h
    rw [List.flatMap_cons, List.getElem?_append_right (by show 4 ≤ _; omega), show (j + 1) * 4 + i - (El7.cells y).length = j * 4 + i by show (j + 1) * 4 + i - 4 = _; omega]
    exact el7_at h' hv
theorem els7_reads {B : Nat} {w : World} {v : Value} {els : List El7} (h : Row 4 B w v els.length (els.flatMap El7.cells)) (hp : ∀ e ∈ els, PReads w e.P.note e.dv e.ov e.P) : GReads w v (els.map El7.key) := by
  rcases Nat.eq_zero_or_pos els.length with h0 | hpos
  · obtain ⟨a, c, rfl⟩ := h.form
    rw [h0]
    exact .inl ⟨by rw [List.length_eq_zero_iff.1 h0]; rfl, _, _, rfl⟩
  · obtain ⟨b, cap, rfl, h2, h3, h4, h5, h6, h7⟩ := h.pos hpos
    refine .inr ⟨fun e => by rw [List.map_eq_nil_iff] at e; rw [e] at hpos; simp at hpos, b, 0, cap, by rw [List.length_map], by rw [List.length_map]; exact h4, (by unfold maxLen at h5; omega), h3, fun j p hj => ?_⟩
    rw [List.getElem?_map] at hj
    obtain ⟨e, he, rfl⟩ := Option.map_eq_some_iff.1 hj
    rw [Nat.zero_add]
    exact ⟨e.dv, e.ov, h7 _ _ (el7_at (i := 0) he rfl), h7 _ _ (el7_at (i := 1) he rfl), h7 _ _ (el7_at (i := 2) he rfl), h7 _ _ (el7_at (i := 3) he rfl), hp e (List.mem_of_getElem? he)⟩
end Go.Proofs.YtojnagonhihknaaGreatDoor
set_option linter.unusedVariables false
set_option linter.unusedSimpArgs false
namespace Go.Proofs.YtojnagonhihknaaGreatDoor
open Go.ChangeShapes Go.WideShapes Go.ChangeAt Go.RowKit

theorem infoN7g : (Tryz.prog.info? 49).map (fun i => (i.zero, i.size, i.bytes)) = some (some (.agg #[.string ByteArray.empty, .string ByteArray.empty, .slice none 0 0, .slice none 0 0]), 4, 80) := by kernel_rfl
theorem rem_place7 (x : Int) {n : Nat} (hn : 0 < n) : ∃ r : Int, ∃ j : Nat, x.tmod (n : Int) = r ∧ -(n : Int) < r ∧ r < n ∧ (r + n).tmod (n : Int) = (j : Int) ∧ j < n := by
  refine ⟨_, ((x.tmod n + n).tmod n).toNat, rfl, Int.lt_tmod_of_pos _ (by omega), Int.tmod_lt_of_pos _ (by omega), ?_, ?_⟩
  · have h1 := Int.lt_tmod_of_pos x (show (0 : Int) < n by omega)
    have : 0 ≤ (x.tmod n + n).tmod n := Int.tmod_nonneg _ (by omega)
    omega
  · have h1 := Int.lt_tmod_of_pos x (show (0 : Int) < n by omega)
    have h2 : 0 ≤ (x.tmod n + n).tmod n := Int.tmod_nonneg _ (by omega)
    have h3 := Int.tmod_lt_of_pos (x.tmod n + n) (show (0 : Int) < n by omega)
    omega
theorem neIfNil (t : TypeId) (v : Value) (w : World) : (binOp .neq 32 (.iface t v) .nilIface).run Tryz.prog w = .ok (.bool true) w := by kernel_rfl
theorem neNilNil (w : World) : (binOp .neq 32 .nilIface .nilIface).run Tryz.prog w = .ok (.bool false) w := by kernel_rfl
theorem bu_form {A : Prop} {S : SetP} {w' : World} {vv ev : Value} {k : Int} (h1 : k = 0 → (∃ V E, Row 8 0 w' vv V.length (vxs (V.map vxG)) ∧ RE w' ev (prI E) ∧ GraphS ltB nil0 (gsetS S) V E) ∧ A) (h2 : k ≠ 0 → vv = .slice none 0 0 ∧ ev = .slice none 0 0) : (∃ a n c, vv = .slice a n c) ∧ ∃ a n c, ev = .slice a n c := by
  by_cases h : k = 0
  · obtain ⟨⟨V, E, h3, h4, _⟩, _⟩ := h1 h
    obtain ⟨a, c, e⟩ := h3.form
    obtain ⟨a2, c2, e2⟩ := h4.form
    exact ⟨⟨_, _, _, e⟩, _, _, _, e2⟩
  · obtain ⟨e, e2⟩ := h2 h
    exact ⟨⟨_, _, _, e⟩, _, _, _, e2⟩
end Go.Proofs.YtojnagonhihknaaGreatDoor
set_option linter.unusedVariables false
set_option linter.unusedSimpArgs false
namespace Go.Proofs.YtojnagonhihknaaGreatDoor
open Go.ChangeShapes Go.WideShapes Go.ChangeAt Go.RowKit

theorem gels_of {w : World} {b : Nat} : ∀ (S : SetP) (o : Nat), (∀ j p, S[j]? = some p → NPAt w b (o + j * 4) p) → ∃ els : List El7, els.map El7.key = S ∧ (∀ e ∈ els, PReads w e.P.note e.dv e.ov e.P) ∧ (∀ j u, (els.flatMap El7.cells)[j]? = some u → w.cell? ⟨b, o + j, none⟩ = some u) ∧ ∀ u ∈ els.flatMap El7.cells, u.oneCell' = true
  | [], o, _ => ⟨[], rfl, fun _ h => by simp at h, fun _ _ h => by simp at h, fun _ h => by simp at h⟩
  | (nm, P) :: S, o, h => by
    obtain ⟨els, e1, e2, e3, e4⟩ := gels_of (w := w) (b := b) S (o + 4) (fun j p hp => by
      have := h (j + 1) p (by simpa using hp)
      rw [show o + (j + 1) * 4 = o + 4 + j * 4 by omega] at this
      exact this)
    obtain ⟨dv, ov, m0, m1, m2, m3, hpr⟩ := h 0 (nm, P) rfl
    rw [Nat.zero_mul, Nat.add_zero] at m0 m1 m2 m3
    obtain ⟨da, dc, hdv, _⟩ := hpr.deps.form
    obtain ⟨oa, oc, hov, _⟩ := hpr.ops.form
    refine ⟨⟨nm, P, dv, ov⟩ :: els, by rw [List.map_cons, e1]; rfl, fun e he => ?_, fun j u hu => ?_, fun u hu => ?_⟩
    · rcases List.mem_cons.1 he with rfl | he
      · exact hpr
      · exact e2 e he
    · rw [List.flatMap_cons] at hu
      by_cases hj : j < 4
      · rw [List.getElem?_append_left (by show j < 4; exact hj)] at hu
        match j, hj, hu with
        | 0, _, hu => simp [El7.cells] at hu; subst hu; exact m0
        | 1, _, hu => simp [El7.cells] at hu; subst hu; exact m1
        | 2, _, hu => simp [El7.cells] at hu; subst hu; exact m2
        | 3, _, hu => simp [El7.cells] at hu; subst hu; exact m3
      · rw [List.getElem?_append_right (by show 4 ≤ j; omega)] at hu
        have := e3 (j - 4) u hu
        rw [show o + 4 + (j - 4) = o + j by omega] at this
        exact this
    · rw [List.flatMap_cons] at hu
      rcases List.mem_append.1 hu with h1 | h1
      · simp only [El7.cells, List.mem_cons, List.not_mem_nil, or_false] at h1
        rcases h1 with rfl | rfl | rfl | rfl
        · rfl
        · rfl
        · simp only at hdv; rw [hdv]; rfl
        · simp only at hov; rw [hov]; rfl
      · exact e4 u h1
theorem gsrc {w : World} {a : Option Addr} {n c : Nat} {S : SetP} (h : GReads w (.slice a n c) S) : ∃ els : List El7, els.map El7.key = S ∧ (∀ e ∈ els, PReads w e.P.note e.dv e.ov e.P) ∧ ∀ w', (∀ b i, b < w.heap.size → w'.cell? ⟨b, i, none⟩ = w.cell? ⟨b, i, none⟩) → Src Tryz.prog 4 22 (.slice a n c) n (els.flatMap El7.cells) w' := by
  rcases h with ⟨rfl, a', c', e⟩ | ⟨hn, b, o, c', e, hc, hm, hb, hx⟩
  · simp only [Value.slice.injEq] at e
    obtain ⟨rfl, rfl, rfl⟩ := e
    refine ⟨[], rfl, fun _ h => by simp at h, fun w' _ => ?_⟩
    cases a with
    | none => exact Src.ofNil w' Tryz.underlying22 _
    | some b => exact Src.ofSlice w' Tryz.underlying22 b 0 c [] rfl (by simp) (by simp)
  · simp only [Value.slice.injEq] at e
    obtain ⟨rfl, rfl, rfl⟩ := e
    obtain ⟨els, e1, e2, e3, e4⟩ := gels_of S o hx
    have hl : els.length = S.length := by rw [← e1, List.length_map]
    have hfl : (els.flatMap El7.cells).length = S.length * 4 := by
      rw [← hl]
      clear e1 e2 e3 e4 hl
      induction els with
      | nil => rfl
      | cons x r ih => rw [List.flatMap_cons, List.length_append, ih, List.length_cons]; show 4 + _ = _; omega
    refine ⟨els, e1, e2, fun w' hw => Src.ofSlice w' Tryz.underlying22 _ S.length c _ hfl (fun j u hj => ?_) e4⟩
    rw [show (⟨b, o, none⟩ : Addr).add j = ⟨b, o + j, none⟩ by unfold Addr.add; simp, hw b _ hb]
    exact e3 j u hj
theorem row_none {k B : Nat} {w : World} {b : Nat} (h : B ≤ b) (hl : b < w.heap.size) : Row k B w (.slice (some ⟨b, 0, none⟩) 0 0) 0 [] := ⟨by simp, .inr ⟨b, 0, rfl, h, hl, Nat.le_refl _, by unfold maxLen; omega, fun j hj => by omega, fun j u hu => by simp at hu⟩⟩
theorem addD_reads {B : Nat} {w : World} {v : Value} {S : SetP} {els : List El7} (hk : els.map El7.key = S) (hp : ∀ e ∈ els, PReads w e.P.note e.dv e.ov e.P) {d : ByteArray} {k n : Int} {q1 q2 m : Nat} (hm : m = els.length + 1)
    (hrow : Row 4 B w v m (els.flatMap El7.cells ++ [.string ownN, .string ⟨#[]⟩, .slice (some ⟨q1, 0, none⟩) 1 1, .slice (some ⟨q2, 0, none⟩) 1 1]))
    (h1 : w.cell? ⟨q1, 0, none⟩ = some (.string d)) (h2 : w.cell? ⟨q2, 0, none⟩ = some (.int .i64 k) ∧ w.cell? ⟨q2, 1, none⟩ = some (.int .i64 0) ∧ w.cell? ⟨q2, 2, none⟩ = some (.int .i64 n) ∧ w.cell? ⟨q2, 3, none⟩ = some (.int .i64 0) ∧ w.cell? ⟨q2, 4, none⟩ = some (.int .i64 0) ∧ w.cell? ⟨q2, 5, none⟩ = some (.slice none 0 0)) :
    GReads w v (addD S d k n) := by
  obtain ⟨c0, c1, c2, c3, c4, c5⟩ := h2
  have hl1 := cell_lt h1
  have hl2 := cell_lt c0
  have h := els7_reads (B := B) (w := w) (v := v) (els := els ++ [⟨ownN, ptD d k n, .slice (some ⟨q1, 0, none⟩) 1 1, .slice (some ⟨q2, 0, none⟩) 1 1⟩]) (by
    rw [List.length_append, List.flatMap_append, List.flatMap_cons, List.flatMap_nil, List.append_nil]
    rw [hm] at hrow
    exact hrow) (fun e he => by
      rcases List.mem_append.1 he with he | he
      · exact hp e he
      · rw [List.mem_singleton] at he
        subst he
        refine ⟨rfl, .inr ⟨by simp [ptD], q1, 0, 1, rfl, Nat.le_refl _, by omega, hl1, fun j x hx => ?_⟩, .inr ⟨by simp [ptD], q2, 0, 1, rfl, Nat.le_refl _, by omega, hl2, fun j x hx => ?_⟩⟩
        · match j, hx with
          | 0, hx => simp [ptD] at hx; subst hx; exact h1
          | j + 1, hx => simp [ptD] at hx
        · match j, hx with
          | 0, hx => simp [ptD] at hx; subst hx; exact ⟨.slice none 0 0, c0, c1, c2, c3, c4, c5, .inl ⟨rfl, none, 0, rfl⟩⟩
          | j + 1, hx => simp [ptD] at hx)
  rw [List.map_append, hk] at h
  exact h
end Go.Proofs.YtojnagonhihknaaGreatDoor
