/- Edges in memory: slices of pairs that are read; which of them name things. No function of the program is named here. An argument that is a slice of pairs of numbers, opened. The contract of among. -/
import Derived.Deep.Slices
import Derived.Deep.Fields
import Derived.Deep.OwnRows
import Derived.Test.YtfpepoebammeoaaGreatV11
import Derived.Test.YtfpepoebammeoaaGreatV9
set_option linter.unusedVariables false
namespace Go.Proofs.YtfpepoebammeoaaGreat
open Go.ChangeShapes Go.WideShapes Go.ChangeAt Go.RowKit

abbrev Ed := List (Int × Int)
def RE (w : World) (v : Value) (es : Ed) : Prop :=
  (es = [] ∧ ∃ a c, v = .slice a 0 c) ∨ (es ≠ [] ∧ ∃ b o c, v = .slice (some ⟨b, o, none⟩) es.length c ∧ es.length ≤ c ∧ c ≤ maxLen ∧ b < w.heap.size ∧ ∀ (j : Nat) e, es[j]? = some e → w.cell? ⟨b, o + j * 2, none⟩ = some (.int .i64 e.1) ∧ w.cell? ⟨b, o + j * 2 + 1, none⟩ = some (.int .i64 e.2))
theorem RE.below {w w' : World} {v : Value} {es : Ed} (h : RE w v es) (hb : Below w.heap.size w w') : RE w' v es := by
  rcases h with h | ⟨hn, b, o, c, h1, h2, h3, h4, h5⟩
  · exact .inl h
  · exact .inr ⟨hn, b, o, c, h1, h2, h3, Nat.lt_of_lt_of_le h4 hb.size, fun j e he => ⟨(hb.cell (p := ⟨b, o + j * 2, none⟩) h4).trans (h5 j e he).1, (hb.cell (p := ⟨b, o + j * 2 + 1, none⟩) h4).trans (h5 j e he).2⟩⟩
theorem RE.form {w : World} {v : Value} {es : Ed} (h : RE w v es) : ∃ a c, v = .slice a es.length c := by
  rcases h with ⟨rfl, a, c, rfl⟩ | ⟨hn, b, o, c, rfl, _⟩
  · exact ⟨_, _, rfl⟩
  · exact ⟨_, _, rfl⟩
theorem RE.at {w : World} {a : Option Addr} {n c : Nat} {es : Ed} (h : RE w (.slice a n c) es) {j : Nat} {e : Int × Int} (he : es[j]? = some e) : ∃ b o, a = some ⟨b, o, none⟩ ∧ b < w.heap.size ∧ n ≤ c ∧ c ≤ maxLen ∧ w.cell? ⟨b, o + j * 2, none⟩ = some (.int .i64 e.1) ∧ w.cell? ⟨b, o + j * 2 + 1, none⟩ = some (.int .i64 e.2) := by
  rcases h with ⟨rfl, a', c', e'⟩ | ⟨hn, b, o, c', e', hc, hm, hl, hx⟩
  · simp at he
  · simp only [Value.slice.injEq] at e'
    obtain ⟨rfl, rfl, rfl⟩ := e'
    exact ⟨b, o, rfl, hl, hc, hm, hx j e he⟩
def evs (es : Ed) : List Value := es.flatMap fun e => [.int .i64 e.1, .int .i64 e.2]
theorem evs_snoc (es : Ed) (e : Int × Int) : evs (es ++ [e]) = evs es ++ [.int .i64 e.1, .int .i64 e.2] := by simp [evs]
theorem evs_len (es : Ed) : (evs es).length = es.length * 2 := by
  induction es with
  | nil => rfl
  | cons e es ih =>
    have : evs (e :: es) = [.int .i64 e.1, .int .i64 e.2] ++ evs es := by simp [evs]
    rw [this, List.length_append, ih, List.length_cons]
    simp; omega
theorem evs_at : ∀ {es : Ed} {j : Nat} {e : Int × Int}, es[j]? = some e → (evs es)[j * 2]? = some (.int .i64 e.1) ∧ (evs es)[j * 2 + 1]? = some (.int .i64 e.2)
  | e0 :: es, 0, e, h => by
    simp at h; subst h
    simp [evs]
  | e0 :: es, j + 1, e, h => by
    rw [List.getElem?_cons_succ] at h
    obtain ⟨h1, h2⟩ := evs_at h
    have : evs (e0 :: es) = [.int .i64 e0.1, .int .i64 e0.2] ++ evs es := by simp [evs]
    rw [this]
    constructor
    · rw [List.getElem?_append_right (by simp; omega)]
      rw [show (j + 1) * 2 - ([Value.int .i64 e0.1, Value.int .i64 e0.2] : List Value).length = j * 2 by simp; omega]
      exact h1
    · rw [List.getElem?_append_right (by simp; omega)]
      rw [show (j + 1) * 2 + 1 - ([Value.int .i64 e0.1, Value.int .i64 e0.2] : List Value).length = j * 2 + 1 by simp; omega]
      exact h2
theorem RE.ofRow {B : Nat} {w : World} {v : Value} {es : Ed} (h : Row 2 B w v es.length (evs es)) : RE w v es := by
  rcases Nat.eq_zero_or_pos es.length with h0 | hp
  · obtain ⟨a, c, rfl⟩ := h.form
    rw [h0]
    exact .inl ⟨List.length_eq_zero_iff.1 h0, _, _, rfl⟩
  · obtain ⟨b, cap, rfl, h2, h3, h4, h5, h6, h7⟩ := h.pos hp
    exact .inr ⟨fun e => by rw [e] at hp; simp at hp, b, 0, cap, rfl, h4, h5, h3, fun j e he => by
      rw [Nat.zero_add]
      exact ⟨h7 _ _ (evs_at he).1, h7 _ _ (evs_at he).2⟩⟩
theorem evs_set {es : Ed} {j : Nat} {e e' : Int × Int} (h : es[j]? = some e) : ((evs es).set (j * 2) (.int .i64 e'.1)).set (j * 2 + 1) (.int .i64 e'.2) = evs (es.set j e') := by
  induction es generalizing j with
  | nil => simp at h
  | cons e0 es ih =>
    have hc : ∀ e1 es1, evs (e1 :: es1) = .int .i64 e1.1 :: .int .i64 e1.2 :: evs es1 := fun e1 es1 => by simp [evs]
    cases j with
    | zero => simp [hc]
    | succ j =>
      rw [List.getElem?_cons_succ] at h
      rw [hc, List.set_cons_succ, hc, ← ih h, show (j + 1) * 2 = (j * 2 + 1) + 1 by omega]
      simp [List.set_cons_succ]

def rightP (n : Int) (e : Int × Int) : Bool := decide (0 ≤ min e.1 e.2) && decide (max e.1 e.2 < n)
def amongL (n : Int) (es : Ed) : Ed := es.filter (rightP n)
def toN (es : Ed) : List (Nat × Nat) := es.map fun e => (e.1.toNat, e.2.toNat)
def toI (es : List (Nat × Nat)) : Ed := es.map fun e => ((e.1 : Int), (e.2 : Int))
theorem rightP_iff {n : Int} {e : Int × Int} : rightP n e = true ↔ 0 ≤ e.1 ∧ 0 ≤ e.2 ∧ e.1 < n ∧ e.2 < n := by
  simp only [rightP, Bool.and_eq_true, decide_eq_true_eq]
  omega
theorem amongL_take {n : Int} {es : Ed} {j : Nat} {e : Int × Int} (h : es[j]? = some e) : amongL n (es.take (j + 1)) = amongL n (es.take j) ++ if rightP n e then [e] else [] := by
  unfold amongL
  rw [List.take_add_one, h, List.filter_append]
  cases hp : rightP n e <;> simp [hp]
theorem toI_toN {n : Int} {es : Ed} : toI (toN (amongL n es)) = amongL n es := by
  unfold toI toN amongL
  rw [List.map_map]
  refine (List.map_congr_left (g := id) fun e he => ?_).trans (List.map_id _)
  obtain ⟨h1, h2, _⟩ := rightP_iff.1 (List.mem_filter.1 he).2
  simp only [Function.comp_apply, id]
  ext <;> simp <;> omega
theorem toN_lt {n : Nat} {es : Ed} : ∀ e ∈ toN (amongL (n : Int) es), e.1 < n ∧ e.2 < n := by
  intro e he
  obtain ⟨e0, h0, rfl⟩ := List.mem_map.1 he
  obtain ⟨h1, h2, h3, h4⟩ := rightP_iff.1 (List.mem_filter.1 h0).2
  simp only
  omega
end Go.Proofs.YtfpepoebammeoaaGreat
set_option linter.unusedVariables false
namespace Go.Proofs.YtfpepoebammeoaaGreat
open Go.ChangeShapes Go.WideShapes Go.ChangeAt Go.RowKit Go.Deep

theorem mem_weightsAllE {H : Type} {P : Program} {e : TypeId} {d : DataW H} {n : Nat} (hn : n ∈ d.weights P e) : ∀ {l : List (DataW H)}, d ∈ l → n ∈ DataW.weightsAll P e l
  | x :: r, h => by
    simp only [DataW.weightsAll, List.mem_append]
    cases List.mem_cons.1 h with
    | inl h => subst h; exact .inl hn
    | inr h => exact .inr (mem_weightsAllE hn h)

theorem trod_arrayE {H : Type} {enc : TypeId × Value → H} {P : Program} {w : World} {base : Nat} {spare : Nat → Bool} {held : Bool} {t e : TypeId} {fuel : Nat} {c0 c1 : Value} {x : DataW H × List MemPlace} (ht : P.underlying t = some (.array 2 e)) (hce : P.cellsOf e = 1)
    (h : DataW.trod enc P w base spare held fuel t [c0, c1] = some x) :
    ∃ y0 y1 n, x = (.agg [y0.1, y1.1], y0.2 ++ y1.2) ∧ DataW.trod enc P w base spare held n e [c0] = some y0 ∧ DataW.trod enc P w base spare held n e [c1] = some y1 := by
  cases fuel with
  | zero => simp [DataW.trod] at h
  | succ n =>
    unfold DataW.trod at h
    rw [ht] at h
    have r2 : List.range 2 = [0, 1] := rfl
    simp [r2, hce] at h
    obtain ⟨_, h⟩ := h
    cases h0 : DataW.trod enc P w base spare held n e [c0] with
    | none => simp [h0] at h
    | some y0 =>
      cases h1 : DataW.trod enc P w base spare held n e [c1] with
      | none => simp [h0, h1] at h
      | some y1 =>
        simp [h0, h1] at h
        exact ⟨y0, y1, n, h.symm, h0, h1⟩

theorem wfE {n : Int} (h : (Lit.int .i64 n).wf = true) : -9223372036854775808 ≤ n ∧ n ≤ 9223372036854775807 := by
  simp only [Lit.wf, Bool.and_eq_true, decide_eq_true_eq] at h
  exact h
theorem list_ofE {α : Type} (Q : Nat → α → Prop) : ∀ n, (∀ i, i < n → ∃ x, Q i x) → ∃ l : List α, l.length = n ∧ ∀ i x, l[i]? = some x → Q i x
  | 0, _ => ⟨[], rfl, fun i x h => by simp at h⟩
  | n + 1, h => by
    obtain ⟨l, hl, hq⟩ := list_ofE Q n (fun i hi => h i (by omega))
    obtain ⟨y, hy⟩ := h n (by omega)
    refine ⟨l ++ [y], by simp [hl], fun i x hx => ?_⟩
    by_cases hi : i < n
    · rw [List.getElem?_append_left (by omega)] at hx
      exact hq i x hx
    · rw [List.getElem?_append_right (by omega)] at hx
      have hz : i - l.length = 0 := by
        have := (List.getElem?_eq_some_iff.1 hx).1
        simp at this
        omega
      obtain rfl : i = n := by omega
      rw [hz] at hx
      obtain rfl : y = x := by simpa using hx
      exact hy

set_option maxRecDepth 100000 in
theorem open_edArg {H : Type} {enc : TypeId × Value → H} {W : World} {b0 : Nat} {r : Reach} {t : TypeId} {v : Value} {d : DataW H} {p : List MemPlace}
    (ht : Tryz.prog.underlying t = some (.slice 36)) (hval : Value.okWide Tryz.prog W r b0 t v) (h : DataW.Trod enc Tryz.prog W 0 (fun _ => true) true t v d p)
    (hw : ∀ n ∈ d.weights Tryz.prog t, n ≤ reachBytes) : ∃ es : Ed, RE W v es ∧ es.length ≤ 140737488355328 := by
  have hreach : reachBytes ≤ 140737488355328 := by decide
  have hc2 : Tryz.prog.cellsOf 36 = 2 := by kernel_rfl
  have hby : 0 < Tryz.prog.bytesOf 36 := of_decide_eq_true (by kernel_rfl)
  obtain ⟨a0, len, cap, rfl⟩ := okWide_slice ht hval
  obtain ⟨fuel, hf⟩ := h
  rcases open_slice ht hf with ⟨hcs, hx⟩ | ⟨a, len', cap', m, n, D, Pl, hcs, _, hl, hm, hmm, hx, hi⟩
  · simp [Value.cells] at hcs
    obtain ⟨rfl, rfl, rfl⟩ := hcs
    exact ⟨[], .inl ⟨rfl, _, _, rfl⟩, by simp⟩
  · simp [Value.cells] at hcs
    obtain ⟨rfl, rfl, rfl⟩ := hcs
    have hd : d = .slice ((List.range len).map D) ((List.range (m - len)).map fun j => D (len + j)) := (Prod.mk.inj hx).1
    subst hd
    simp only [if_true] at hmm
    subst hmm
    rw [hc2] at hi
    have hel : ∀ i, i < len → ∃ q : Int × Int, W.cell? (a.add (i * 2)) = some (.int .i64 q.1) ∧ W.cell? ((a.add (i * 2)).add 1) = some (.int .i64 q.2) := by
      intro i hil
      obtain ⟨cs', hc, ht'⟩ := hi i (by omega)
      obtain ⟨_, _, _, _, hlen, _⟩ := DataW.trod_array Tryz.underlying36 ht'
      rw [hc2] at hlen
      obtain ⟨c0, c1, rfl⟩ : ∃ c0 c1, cs' = [c0, c1] := by
        match cs', hlen with
        | [c0, c1], _ => exact ⟨c0, c1, rfl⟩
      obtain ⟨y0, y1, n', -, h0, h1⟩ := trod_arrayE Tryz.underlying36 (by kernel_rfl) ht'
      obtain ⟨lo, e0, -, -⟩ := DataW.trod_int Tryz.underlying3 h0
      obtain ⟨hi', e1, -, -⟩ := DataW.trod_int Tryz.underlying3 h1
      obtain ⟨_, _, hat⟩ := World.cells?_some hc
      have g0 := hat 0 (by omega)
      have g1 := hat 1 (by omega)
      rw [show (a.add (i * 2)).add 0 = a.add (i * 2) by rw [Go.Deep.add_add]; rfl] at g0
      injection e0 with e0 _
      injection e1 with e1 _
      subst e0; subst e1
      exact ⟨(lo, hi'), g0, g1⟩
    obtain ⟨ps, hpl, hps⟩ := list_ofE _ len hel
    have hlen : len ≤ 140737488355328 := by
      have h1 := hw _ (by simp only [DataW.weights, ht]; exact List.mem_cons_self)
      have h2 : len ≤ ((List.range len).map D).length + ((List.range (m - len)).map fun j => D (len + j)).length := by simp
      have h3 := Nat.le_mul_of_pos_right (((List.range len).map D).length + ((List.range (m - len)).map fun j => D (len + j)).length) hby
      omega
    refine ⟨ps, ?_, by omega⟩
    by_cases e : ps = []
    · left
      subst e
      simp at hpl
      subst hpl
      exact ⟨rfl, _, _, rfl⟩
    · right
      have hpos : 0 < len := by
        rcases Nat.eq_zero_or_pos len with h | h
        · exact absurd (List.length_eq_zero_iff.1 (by omega)) e
        · exact h
      obtain ⟨b, off, spot⟩ := a
      obtain ⟨h00, _⟩ := hps 0 (ps[0]'(by omega)) (by simp)
      have hspot : spot = none := by simpa [Addr.add] using World.cell?_spot h00
      subst hspot
      have hadd : ∀ (o k : Nat), (⟨b, o, none⟩ : Addr).add k = ⟨b, o + k, none⟩ := fun o k => Addr.add_lit ..
      refine ⟨e, b, off, m, by rw [hpl], by omega, by unfold maxLen at hm ⊢; omega, ?_, fun j q hq => ?_⟩
      · rw [hadd] at h00
        exact cell_lt (o := off + 0 * 2) h00
      · obtain ⟨c0, c1⟩ := hps j q hq
        rw [hadd] at c0
        rw [hadd, hadd] at c1
        exact ⟨c0, c1⟩
end Go.Proofs.YtfpepoebammeoaaGreat
set_option linter.unusedVariables false
namespace Go.Proofs.YtfpepoebammeoaaGreat
open Go.ChangeShapes Go.WideShapes Go.ChangeAt Go.RowKit

theorem infoPr : (Tryz.prog.info? 36).map (fun i => (i.zero, i.size, i.bytes)) = some (some (.agg #[.int .i64 0, .int .i64 0]), 2, 16) := by kernel_rfl
theorem onePr {j k : IntKind} {x y : Int} : ∀ u ∈ [Value.int j x, Value.int k y], u.oneCell' = true := by
  intro u hu
  simp at hu
  rcases hu with rfl | rfl <;> rfl
theorem make_pr (n : Nat) (hn : n ≤ 1000000) (w : World) :
    (Instr.makeSlice 22 (.int .i64 0) (.int .i64 (n : Int))).run Tryz.prog w = .ok (.slice (some ⟨w.heap.size, 0, none⟩) 0 n) (w.alloc (.cells (madeCells #[.int .i64 0, .int .i64 0] (n * 2)) 36)) := by
  obtain ⟨i, hi, hzz⟩ := Option.map_eq_some_iff.1 infoPr
  simp only [Prod.mk.injEq] at hzz
  obtain ⟨hz, hsize, hby⟩ := hzz
  have hr := run_make (P := Tryz.prog) w 22 36 i _ Tryz.underlying22 hi hz .i64 .i64 0 n (Int.le_refl _) (by omega) (by rw [hby]; omega) (by omega)
  simp only [Int.toNat_natCast, hsize] at hr
  exact hr
theorem make_ik (n : Nat) (hn : n ≤ 10000000) (w : World) :
    (Instr.makeSlice 23 (.int .i64 0) (.int .i64 (n : Int))).run Tryz.prog w = .ok (.slice (some ⟨w.heap.size, 0, none⟩) 0 n) (w.alloc (.cells (madeCells #[.int .i64 0] n) 3)) := by
  obtain ⟨i, hi, hzz⟩ := Option.map_eq_some_iff.1 infoIk
  simp only [Prod.mk.injEq] at hzz
  obtain ⟨hz, hsize, hby⟩ := hzz
  have hr := run_make (P := Tryz.prog) w 23 3 i _ Tryz.underlying23 hi hz .i64 .i64 0 n (Int.le_refl _) (by omega) (by rw [hby]; omega) (by omega)
  simp only [Int.toNat_natCast, hsize, Nat.mul_one] at hr
  exact hr
set_option maxHeartbeats 2000000 in
set_option maxRecDepth 100000 in
theorem among_any (n : Int) (es : Ed) (v : Value) (w : World) (hr : RE w v es) (hl : es.length ≤ 1000000) :
    Calls Tryz.prog 43 #[.int .i64 n, v] w fun e W' => ∃ ov, e = .returned ov ∧ Row 2 w.heap.size W' ov (amongL n es).length (evs (amongL n es)) ∧ Below w.heap.size w W' := by
  obtain ⟨va, vc, rfl⟩ := hr.form
  obtain ⟨m, hm⟩ : ∃ m, m = es.length := ⟨_, rfl⟩
  rw [← hm] at hr hl ⊢
  have HR := Lib.hid hr
  have HM := Lib.hid hm
  have mk1 := make_pr m hl
  clear hr hm
  go_enter Tryz.func43, Tryz.ntmps43
  go_wp2_with fail
  have hr0 : Row 2 w.heap.size (w.alloc (.cells (madeCells #[.int .i64 0, .int .i64 0] (m * 2)) 36)) (.slice (some ⟨w.heap.size, 0, none⟩) 0 m) 0 [] := row_new (Nat.le_refl _) rfl (Nat.zero_le _) (by unfold maxLen; omega) (by simp [size_madeCells]) (.inl rfl) (fun j u hu => by simp at hu)
  have HR0 := Lib.hid hr0
  have HB0 := Lib.hid ((Below.refl _ w).alloc (Nat.le_refl _) (.cells (madeCells #[.int .i64 0, .int .i64 0] (m * 2)) 36))
  clear hr0
  go_loopw [5, 13] (fun ov jv wr => ∃ i k : Nat, jv = .int .i64 (i : Nat) ∧ i ≤ m ∧ Hid (k = (amongL n (es.take i)).length) ∧ Hid (Row 2 w.heap.size wr ov k (evs (amongL n (es.take i)))) ∧ Hid (Below w.heap.size w wr)) (fun _ jv _ => m - (intOf jv).toNat)
  case atStart => exact ⟨0, 0, rfl, Nat.zero_le _, Lib.hid (by simp [amongL]), Lib.hid (by simpa [amongL, evs] using HR0.out), HB0⟩
  case round =>
    obtain ⟨i, k, rfl, him, HK, HW, HB⟩ := hrel
    obtain ⟨oa, oc, rfl⟩ := HW.out.form
    by_cases hlt : i < m
    · obtain ⟨e, he⟩ : ∃ e, es[i]? = some e := ⟨es[i]'(by rw [← HM.out]; exact hlt), by simp⟩
      obtain ⟨e1, e2⟩ := e
      obtain ⟨b, o, rfl, hbl, hvc1, hvc2, d0, d1⟩ := (HR.out.below HB.out).at he
      simp only at d0 d1
      have hk6 : k ≤ 1000000 := by
        have h1 : (amongL n (es.take i)).length ≤ (es.take i).length := List.length_filter_le _ _
        rw [List.length_take, ← HK.out] at h1
        omega
      unfold maxLen at hvc2
      rcases Int.lt_or_le e2 e1 with hle | hle
      · have hle2 : ¬ e1 < e2 := by omega
        have hle3 : ¬ e1 ≤ e2 := by omega
        by_cases hA : 0 ≤ e2
        · by_cases hB : e1 < n
          · have hB2 : ¬ n ≤ e1 := by omega
            have hst : amongL n (es.take (i + 1)) = amongL n (es.take i) ++ [(e1, e2)] := by rw [amongL_take he, show rightP n (e1, e2) = true from rightP_iff.2 ⟨by omega, by omega, by omega, by omega⟩]; rfl
            have HST := Lib.hid hst
            have hsrc : Src Tryz.prog 2 22 (.slice (some ⟨wr.heap.size + 1, 0, none⟩) 1 1) 1 [.int .i64 e1, .int .i64 e2] ((wr.alloc (.cells #[.int .i64 e1, .int .i64 e2] 36)).alloc (.cells #[.int .i64 e1, .int .i64 e2] 36)) := by
              have h := src_new (k := 2) (w := wr.alloc (.cells #[.int .i64 e1, .int .i64 e2] 36)) Tryz.underlying22 [.int .i64 e1, .int .i64 e2] 1 36 1 rfl onePr
              simpa using h
            have HSRC := Lib.hid hsrc
            have HRA := Lib.hid ((HW.out.alloc (.cells #[.int .i64 e1, .int .i64 e2] 36)).alloc (.cells #[.int .i64 e1, .int .i64 e2] 36))
            have hszw : w.heap.size ≤ ((wr.alloc (.cells #[.int .i64 e1, .int .i64 e2] 36)).alloc (.cells #[.int .i64 e1, .int .i64 e2] 36)).heap.size := by have := HB.out.size; simp; omega
            have HBA := Lib.hid ((HB.out.alloc HB.out.size (.cells #[.int .i64 e1, .int .i64 e2] 36)).alloc (by have := HB.out.size; simp; omega) (.cells #[.int .i64 e1, .int .i64 e2] 36))
            clear hst hsrc he
            go_wp2_with (at_builtin; refine wpList_append_row rfl (.tmp 32) (.tmp 34) 22 22 rfl 2 36 (.agg #[.int .i64 0, .int .i64 0]) 16 Tryz.underlying22 infoPr rfl w.heap.size (.slice oa k oc) k (evs (amongL n (es.take i))) (by simp [Act.eval]) HRA.out (.slice (some ⟨wr.heap.size + 1, 0, none⟩) 1 1) (by simp [Act.eval]) 1 [.int .i64 e1, .int .i64 e2] HSRC.out hszw (by omega) (by decide) ?_; intro v6 w6 hr6 ho6 hw6; obtain ⟨a6, c6, hv6⟩ := hr6.form; subst hv6; have HR6 := Lib.hid hr6; have HO6 := Lib.hid ho6; clear hr6 ho6 hw6)
            refine ⟨⟨i + 1, k + 1, by go_num, by omega, Lib.hid (by rw [HST.out, List.length_append, ← HK.out]; rfl), Lib.hid (by rw [HST.out, evs_snoc]; exact HR6.out), Lib.hid (HBA.out.trans (HO6.out.below (B := w.heap.size) (fun b hb => (HW.out.lt b hb).1) hszw))⟩, by simp [intOf]; omega⟩
          · have hB2 : n ≤ e1 := by omega
            have hst : amongL n (es.take (i + 1)) = amongL n (es.take i) := by rw [amongL_take he, show rightP n (e1, e2) = false from Bool.eq_false_iff.2 (fun h => by have := rightP_iff.1 h; omega)]; simp
            have HST := Lib.hid hst
            clear hst he
            go_wp2_with fail
            exact ⟨⟨i + 1, k, by go_num, by omega, Lib.hid (by rw [HST.out]; exact HK.out), Lib.hid (by rw [HST.out]; exact HW.out.alloc _), Lib.hid (HB.out.alloc HB.out.size _)⟩, by simp [intOf]; omega⟩
        · have hA2 : e2 < 0 := by omega
          have hst : amongL n (es.take (i + 1)) = amongL n (es.take i) := by rw [amongL_take he, show rightP n (e1, e2) = false from Bool.eq_false_iff.2 (fun h => by have := rightP_iff.1 h; omega)]; simp
          have HST := Lib.hid hst
          clear hst he
          go_wp2_with fail
          exact ⟨⟨i + 1, k, by go_num, by omega, Lib.hid (by rw [HST.out]; exact HK.out), Lib.hid (by rw [HST.out]; exact HW.out.alloc _), Lib.hid (HB.out.alloc HB.out.size _)⟩, by simp [intOf]; omega⟩
      · have hle2 : ¬ e2 < e1 := by omega
        by_cases hA : 0 ≤ e1
        · by_cases hB : e2 < n
          · have hB2 : ¬ n ≤ e2 := by omega
            have hst : amongL n (es.take (i + 1)) = amongL n (es.take i) ++ [(e1, e2)] := by rw [amongL_take he, show rightP n (e1, e2) = true from rightP_iff.2 ⟨by omega, by omega, by omega, by omega⟩]; rfl
            have HST := Lib.hid hst
            have hsrc : Src Tryz.prog 2 22 (.slice (some ⟨wr.heap.size + 1, 0, none⟩) 1 1) 1 [.int .i64 e1, .int .i64 e2] ((wr.alloc (.cells #[.int .i64 e1, .int .i64 e2] 36)).alloc (.cells #[.int .i64 e1, .int .i64 e2] 36)) := by
              have h := src_new (k := 2) (w := wr.alloc (.cells #[.int .i64 e1, .int .i64 e2] 36)) Tryz.underlying22 [.int .i64 e1, .int .i64 e2] 1 36 1 rfl onePr
              simpa using h
            have HSRC := Lib.hid hsrc
            have HRA := Lib.hid ((HW.out.alloc (.cells #[.int .i64 e1, .int .i64 e2] 36)).alloc (.cells #[.int .i64 e1, .int .i64 e2] 36))
            have hszw : w.heap.size ≤ ((wr.alloc (.cells #[.int .i64 e1, .int .i64 e2] 36)).alloc (.cells #[.int .i64 e1, .int .i64 e2] 36)).heap.size := by have := HB.out.size; simp; omega
            have HBA := Lib.hid ((HB.out.alloc HB.out.size (.cells #[.int .i64 e1, .int .i64 e2] 36)).alloc (by have := HB.out.size; simp; omega) (.cells #[.int .i64 e1, .int .i64 e2] 36))
            clear hst hsrc he
            go_wp2_with (at_builtin; refine wpList_append_row rfl (.tmp 32) (.tmp 34) 22 22 rfl 2 36 (.agg #[.int .i64 0, .int .i64 0]) 16 Tryz.underlying22 infoPr rfl w.heap.size (.slice oa k oc) k (evs (amongL n (es.take i))) (by simp [Act.eval]) HRA.out (.slice (some ⟨wr.heap.size + 1, 0, none⟩) 1 1) (by simp [Act.eval]) 1 [.int .i64 e1, .int .i64 e2] HSRC.out hszw (by omega) (by decide) ?_; intro v6 w6 hr6 ho6 hw6; obtain ⟨a6, c6, hv6⟩ := hr6.form; subst hv6; have HR6 := Lib.hid hr6; have HO6 := Lib.hid ho6; clear hr6 ho6 hw6)
            refine ⟨⟨i + 1, k + 1, by go_num, by omega, Lib.hid (by rw [HST.out, List.length_append, ← HK.out]; rfl), Lib.hid (by rw [HST.out, evs_snoc]; exact HR6.out), Lib.hid (HBA.out.trans (HO6.out.below (B := w.heap.size) (fun b hb => (HW.out.lt b hb).1) hszw))⟩, by simp [intOf]; omega⟩
          · have hB2 : n ≤ e2 := by omega
            have hst : amongL n (es.take (i + 1)) = amongL n (es.take i) := by rw [amongL_take he, show rightP n (e1, e2) = false from Bool.eq_false_iff.2 (fun h => by have := rightP_iff.1 h; omega)]; simp
            have HST := Lib.hid hst
            clear hst he
            go_wp2_with fail
            exact ⟨⟨i + 1, k, by go_num, by omega, Lib.hid (by rw [HST.out]; exact HK.out), Lib.hid (by rw [HST.out]; exact HW.out.alloc _), Lib.hid (HB.out.alloc HB.out.size _)⟩, by simp [intOf]; omega⟩
        · have hA2 : e1 < 0 := by omega
          have hst : amongL n (es.take (i + 1)) = amongL n (es.take i) := by rw [amongL_take he, show rightP n (e1, e2) = false from Bool.eq_false_iff.2 (fun h => by have := rightP_iff.1 h; omega)]; simp
          have HST := Lib.hid hst
          clear hst he
          go_wp2_with fail
          exact ⟨⟨i + 1, k, by go_num, by omega, Lib.hid (by rw [HST.out]; exact HK.out), Lib.hid (by rw [HST.out]; exact HW.out.alloc _), Lib.hid (HB.out.alloc HB.out.size _)⟩, by simp [intOf]; omega⟩
    · have hie : m = i := by omega
      subst hie
      have hf := HW.out
      rw [HM.out, List.take_length] at hf
      have HF := Lib.hid hf
      have hkk := HK.out
      rw [HM.out, List.take_length] at hkk
      have HKK := Lib.hid hkk
      clear hf hkk
      go_wp2_with fail
      go_ret
      exact ⟨_, rfl, by rw [← HKK.out]; exact HF.out, HB.out⟩
end Go.Proofs.YtfpepoebammeoaaGreat
