/- Pages as an argument; the places that redo's closures tell; right. An argument that is a slice of pages, opened; also within another. -/
import Derived.Deep.Slices
import Derived.Deep.Fields
import Derived.Deep.DeepHandedRow
import Derived.Test.YthamfbfeokmhgaaGreatDoorU3
import Derived.Test.YthamfbfeokmhgaaGreatDoorU31
set_option linter.unusedVariables false
set_option linter.unusedSimpArgs false
namespace Go.Proofs.YthamfbfeokmhgaaGreatDoor
open Go.ChangeShapes Go.WideShapes Go.ChangeAt Go.RowKit

abbrev RawP := List (Int × ByteArray)
def PgR (w : World) (v : Value) (l : RawP) : Prop :=
  (l = [] ∧ ∃ a c, v = .slice a 0 c) ∨ (l ≠ [] ∧ ∃ b o c, v = .slice (some ⟨b, o, none⟩) l.length c ∧ l.length ≤ c ∧ c ≤ maxLen ∧ b < w.heap.size ∧ ∀ (j : Nat) x, l[j]? = some x → w.cell? ⟨b, o + j * 2, none⟩ = some (.int .i64 x.1) ∧ w.cell? ⟨b, o + j * 2 + 1, none⟩ = some (.string x.2))
def PgZ (Z : Nat → Prop) (v : Value) : Prop := ∀ b o n c, v = .slice (some ⟨b, o, none⟩) n c → ¬ Z b
theorem PgR.off {Z : Nat → Prop} {w w' : World} {v : Value} {l : RawP} (h : PgR w v l) (ho : Off Z w w') (hv : PgZ Z v) : PgR w' v l := by
  rcases h with h | ⟨hn, b, o, c, h1, h2, h3, h4, h5⟩
  · exact .inl h
  · have hz := hv b o _ c h1
    exact .inr ⟨hn, b, o, c, h1, h2, h3, Nat.lt_of_lt_of_le h4 ho.size, fun j x hx => ⟨(ho.cell (p := ⟨b, o + j * 2, none⟩) h4 hz).trans (h5 j x hx).1, (ho.cell (p := ⟨b, o + j * 2 + 1, none⟩) h4 hz).trans (h5 j x hx).2⟩⟩
theorem PgR.below {w w' : World} {v : Value} {l : RawP} (h : PgR w v l) (hb : Below w.heap.size w w') : PgR w' v l := h.off (Z := fun _ => False) (Off.of_below hb) (fun _ _ _ _ _ h => h)
theorem PgR.form {w : World} {v : Value} {l : RawP} (h : PgR w v l) : ∃ a c, v = .slice a l.length c := by
  rcases h with ⟨rfl, a, c, rfl⟩ | ⟨hn, b, o, c, rfl, _⟩
  · exact ⟨_, _, rfl⟩
  · exact ⟨_, _, rfl⟩
theorem PgR.at {w : World} {a : Option Addr} {n c : Nat} {l : RawP} (h : PgR w (.slice a n c) l) {j : Nat} {x : Int × ByteArray} (hx : l[j]? = some x) : ∃ b o, a = some ⟨b, o, none⟩ ∧ b < w.heap.size ∧ n ≤ c ∧ c ≤ maxLen ∧ w.cell? ⟨b, o + j * 2, none⟩ = some (.int .i64 x.1) ∧ w.cell? ⟨b, o + j * 2 + 1, none⟩ = some (.string x.2) := by
  rcases h with ⟨rfl, a', c', e⟩ | ⟨hn, b, o, c', e, hc, hm, hl, hx'⟩
  · simp at hx
  · simp only [Value.slice.injEq] at e
    obtain ⟨rfl, rfl, rfl⟩ := e
    exact ⟨b, o, rfl, hl, hc, hm, (hx' j x hx).1, (hx' j x hx).2⟩
theorem PgR.lt {w : World} {v : Value} {l : RawP} (h : PgR w v l) (hl : l ≠ []) {b o n c : Nat} (e : v = .slice (some ⟨b, o, none⟩) n c) : b < w.heap.size := by
  rcases h with ⟨rfl, _⟩ | ⟨hn, b', o', c', rfl, _, _, h4, _⟩
  · exact absurd rfl hl
  · simp only [Value.slice.injEq, Option.some.injEq, Addr.mk.injEq] at e
    obtain ⟨⟨rfl, _⟩, _⟩ := e
    exact h4
theorem commit1_any (j : Nat) (W : World) (hj : j ≤ 1000000) : Calls Tryz.prog 30 #[.int .i64 (j : Int)] W fun e w' => e = .returned (.int .i64 (1 + j : Int)) ∧ w' = W := by
  have e1 : IntKind.i64.wrap (1 + (j : Int)) = 1 + j := by rw [IntKind.wrap_i64]; omega
  go_enter Tryz.func30, Tryz.ntmps30
  go_wp2_with (first | (rw [e1]) | fail)
  go_ret
  refine ⟨?_, ?_⟩
  · simp
  · rfl
theorem settle1_any (j k : Nat) (v : Value) (l : RawP) (x : Int × ByteArray) (W : World) (hc : W.cell? ⟨k, 0, none⟩ = some v) (hl : PgR W v l) (hx : l[j]? = some x) (hl9 : l.length ≤ 1000000) (h0 : 0 ≤ x.1) (h1 : x.1 ≤ 5000) : Calls Tryz.prog 40 #[.int .i64 (j : Int), .pointer (some ⟨k, 0, none⟩)] W fun e w' => e = .returned (.int .i64 (64 + x.1)) ∧ w' = W := by
  obtain ⟨a, c, rfl⟩ := hl.form
  obtain ⟨b, o, rfl, hb, hle, hm, c0, c1⟩ := hl.at hx
  have hj : j < l.length := (List.getElem?_eq_some_iff.1 hx).1
  obtain ⟨n, hn⟩ : ∃ n, n = l.length := ⟨_, rfl⟩
  rw [← hn] at hc hj hle hl9
  obtain ⟨i, s⟩ := x
  simp only at c0 c1 h0 h1 ⊢
  have e1 : IntKind.i64.wrap (64 + i) = 64 + i := by rw [IntKind.wrap_i64]; omega
  have hjI : (j : Int) < n := by omega
  clear hl hx hn
  go_enter Tryz.func40, Tryz.ntmps40
  go_wp2_with (first | (rw [e1]) | fail)
  go_ret
  refine ⟨?_, ?_⟩
  · simp
  · rfl
end Go.Proofs.YthamfbfeokmhgaaGreatDoor
set_option linter.unusedVariables false
namespace Go.Proofs.YthamfbfeokmhgaaGreatDoor
open Go.ChangeShapes Go.WideShapes Go.ChangeAt Go.RowKit Go.Deep

set_option maxRecDepth 100000 in
theorem open_page {H : Type} {enc : TypeId × Value → H} {W : World} {fuel : Nat} {cs : List Value} {x : DataW H × List MemPlace} (h : DataW.trod enc Tryz.prog W 0 (fun _ => true) true fuel 49 cs = some x) :
    ∃ (i : Int) (s : ByteArray), cs = [.int .i64 i, .string s] := by
  have hu := Tryz.underlying49
  have hc2 : Tryz.prog.cellsOf 49 = 2 := by kernel_rfl
  have cs1 : Tryz.prog.cellsOf 9 = 1 := by kernel_rfl
  have ci : Tryz.prog.cellsOf 3 = 1 := by kernel_rfl
  obtain ⟨xs, n, _, hx, hlen, hxl, hf⟩ := DataW.trod_struct hu h
  rw [hc2] at hlen
  obtain ⟨v0, v1, rfl⟩ : ∃ v0 v1, cs = [v0, v1] := by
    match cs, hlen with
    | [v0, v1], _ => exact ⟨v0, v1, rfl⟩
  obtain ⟨y0, y1, rfl⟩ : ∃ y0 y1, xs = [y0, y1] := by
    match xs, hxl with
    | [y0, y1], _ => exact ⟨y0, y1, rfl⟩
  have f0 : DataW.trod enc Tryz.prog W 0 (fun _ => true) true n 3 (([v0, v1].drop 0).take (Tryz.prog.cellsOf 3)) = [y0, y1][0]? := hf 0 _ rfl
  have f1 : DataW.trod enc Tryz.prog W 0 (fun _ => true) true n 9 (([v0, v1].drop 1).take (Tryz.prog.cellsOf 9)) = [y0, y1][1]? := hf 1 _ rfl
  rw [ci] at f0
  rw [cs1] at f1
  obtain ⟨A, e0, -, -⟩ := DataW.trod_int (k := .i64) (x := y0) Tryz.underlying3 (by simpa using f0)
  obtain ⟨nm, e1, -, -⟩ := DataW.trod_string (x := y1) Tryz.underlying9 (by simpa using f1)
  refine ⟨A, nm, ?_⟩
  have a0 : v0 = .int .i64 A := by simpa using e0
  have a1 : v1 = .string nm := by simpa using e1
  rw [a0, a1]
set_option maxRecDepth 100000 in
theorem open_pages {H : Type} {enc : TypeId × Value → H} {W : World} {t : TypeId} {fuel len : Nat} {a0 : Option Addr} {cap : Nat} {x : DataW H × List MemPlace}
    (ht : Tryz.prog.underlying t = some (.slice 49)) (hf : DataW.trod enc Tryz.prog W 0 (fun _ => true) true fuel t [.slice a0 len cap] = some x)
    (hw : ∀ n ∈ x.1.weights Tryz.prog t, n ≤ reachBytes) : ∃ l : RawP, PgR W (.slice a0 len cap) l ∧ l.length ≤ 140737488355328 := by
  have hreach : reachBytes ≤ 140737488355328 := by decide
  have hc2 : Tryz.prog.cellsOf 49 = 2 := by kernel_rfl
  have hby : 0 < Tryz.prog.bytesOf 49 := of_decide_eq_true (by kernel_rfl)
  rcases open_slice ht hf with ⟨hcs, hx⟩ | ⟨a, len', cap', m, n, D, Pl, hcs, _, hl, hm, hmm, hx, hi⟩
  · simp at hcs
    obtain ⟨rfl, rfl, rfl⟩ := hcs
    exact ⟨[], .inl ⟨rfl, _, _, rfl⟩, by simp⟩
  · simp at hcs
    obtain ⟨rfl, rfl, rfl⟩ := hcs
    have hd : x.1 = .slice ((List.range len).map D) ((List.range (m - len)).map fun j => D (len + j)) := by rw [hx]
    rw [hd] at hw
    simp only [if_true] at hmm
    subst hmm
    rw [hc2] at hi
    have hel : ∀ i, i < len → ∃ q : Int × ByteArray, W.cell? (a.add (i * 2)) = some (.int .i64 q.1) ∧ W.cell? ((a.add (i * 2)).add 1) = some (.string q.2) := by
      intro i hil
      obtain ⟨cs', hc, ht'⟩ := hi i (by omega)
      obtain ⟨q, s, e0⟩ := open_page ht'
      subst e0
      obtain ⟨_, _, hat⟩ := World.cells?_some hc
      have g0 := hat 0 (by omega)
      have g1 := hat 1 (by omega)
      rw [show (a.add (i * 2)).add 0 = a.add (i * 2) by rw [Go.Deep.add_add]; rfl] at g0
      exact ⟨(q, s), g0, g1⟩
    obtain ⟨ps, hpl, hps⟩ := list_of _ len hel
    have hlen : len ≤ 140737488355328 := by
      have h1 := hw _ (by simp only [DataW.weights, ht]; exact List.mem_cons_self)
      have h2 : len ≤ ((List.range len).map D).length + ((List.range (m - len)).map fun j => D (len + j)).length := by simp
      have h3 := Nat.le_mul_of_pos_right (((List.range len).map D).length + ((List.range (m - len)).map fun j => D (len + j)).length) hby
      omega
    refine ⟨ps, ?_, by omega⟩
    by_cases e : ps = []
    · left
      subst e
      simp at hpl
      subst hpl
      exact ⟨rfl, _, _, rfl⟩
    · right
      have hpos : 0 < len := by
        rcases Nat.eq_zero_or_pos len with h | h
        · exact absurd (List.length_eq_zero_iff.1 (by omega)) e
        · exact h
      obtain ⟨b, off, spot⟩ := a
      obtain ⟨h00, _⟩ := hps 0 (ps[0]'(by omega)) (by simp)
      have hspot : spot = none := by simpa [Addr.add] using World.cell?_spot h00
      subst hspot
      have hadd : ∀ (o k : Nat), (⟨b, o, none⟩ : Addr).add k = ⟨b, o + k, none⟩ := fun o k => Addr.add_lit ..
      refine ⟨e, b, off, m, by rw [hpl], by omega, by unfold maxLen at hm ⊢; omega, ?_, fun j q hq => ?_⟩
      · rw [hadd] at h00
        exact cell_lt (o := off + 0 * 2) h00
      · obtain ⟨c0, c1⟩ := hps j q hq
        rw [hadd] at c0
        rw [hadd, hadd] at c1
        exact ⟨c0, c1⟩
set_option maxRecDepth 100000 in
theorem open_pgArg {H : Type} {enc : TypeId × Value → H} {W : World} {b0 : Nat} {r : Reach} {t : TypeId} {v : Value} {d : DataW H} {p : List MemPlace}
    (ht : Tryz.prog.underlying t = some (.slice 49)) (hval : Value.okWide Tryz.prog W r b0 t v) (h : DataW.Trod enc Tryz.prog W 0 (fun _ => true) true t v d p)
    (hw : ∀ n ∈ d.weights Tryz.prog t, n ≤ reachBytes) : ∃ l : RawP, PgR W v l ∧ l.length ≤ 140737488355328 := by
  obtain ⟨a0, len, cap, rfl⟩ := okWide_slice ht hval
  obtain ⟨fuel, hf⟩ := h
  have hf' : DataW.trod enc Tryz.prog W 0 (fun _ => true) true fuel t [.slice a0 len cap] = some (d, p) := by simpa [Value.cells] using hf
  exact open_pages ht hf' hw
end Go.Proofs.YthamfbfeokmhgaaGreatDoor
