/- An argument that is a slice of the redo's acts, opened. same and small of the redo's law. -/
import Derived.Test.YthamfbfeokmhgaaGreatDoorU19
import Derived.Test.YthamfbfeokmhgaaGreatDoorU3
import Derived.Test.YthamfbfeokmhgaaGreatDoorU32
import Derived.Test.YthamfbfeokmhgaaGreatDoorU37
import Derived.Test.YthamfbfeokmhgaaGreatDoorU47
import Derived.Test.YthamfbfeokmhgaaGreatDoorU7
set_option linter.unusedVariables false
namespace Go.Proofs.YthamfbfeokmhgaaGreatDoor
open Go.ChangeShapes Go.WideShapes Go.ChangeAt Go.RowKit Go.Deep

structure Rc where
  what : Int
  num : Int
  pages : RawP
  keep : List Bool
def Rc.fine (a : Rc) : Prop := a.num ≤ 9223372036854775807 ∧ -9223372036854775808 ≤ a.num ∧ a.pages.length ≤ 140737488355328 ∧ a.keep.length ≤ 140737488355328
def CReads (w : World) (v : Value) (xs : List Rc) : Prop :=
  (xs = [] ∧ ∃ a c, v = .slice a 0 c) ∨ (xs ≠ [] ∧ ∃ b o c, v = .slice (some ⟨b, o, none⟩) xs.length c ∧ xs.length ≤ c ∧ c ≤ maxLen ∧ b < w.heap.size ∧
    ∀ (j : Nat) x, xs[j]? = some x → ∃ pg kv, w.cell? ⟨b, o + j * 4, none⟩ = some (.int .i64 x.what) ∧ w.cell? ⟨b, o + j * 4 + 1, none⟩ = some (.int .i64 x.num) ∧ w.cell? ⟨b, o + j * 4 + 2, none⟩ = some pg ∧ w.cell? ⟨b, o + j * 4 + 3, none⟩ = some kv ∧ PgR w pg x.pages ∧ RB w kv x.keep)
theorem CReads.form {w : World} {v : Value} {xs : List Rc} (h : CReads w v xs) : ∃ a c, v = .slice a xs.length c := by
  rcases h with ⟨rfl, a, c, rfl⟩ | ⟨hn, b, o, c, rfl, _⟩
  · exact ⟨_, _, rfl⟩
  · exact ⟨_, _, rfl⟩
theorem CReads.below {w w' : World} {v : Value} {xs : List Rc} (h : CReads w v xs) (hb : Below w.heap.size w w') : CReads w' v xs := by
  rcases h with h | ⟨hn, b, o, c, h1, h2, h3, h4, h5⟩
  · exact .inl h
  · refine .inr ⟨hn, b, o, c, h1, h2, h3, Nat.lt_of_lt_of_le h4 hb.size, fun j x hx => ?_⟩
    obtain ⟨pg, kv, a0, a1, a2, a3, a5, a4⟩ := h5 j x hx
    exact ⟨pg, kv, (hb.cell (p := ⟨b, _, none⟩) h4).trans a0, (hb.cell (p := ⟨b, _, none⟩) h4).trans a1, (hb.cell (p := ⟨b, _, none⟩) h4).trans a2, (hb.cell (p := ⟨b, _, none⟩) h4).trans a3, a5.below hb, a4.below hb⟩
theorem CReads.at {w : World} {a : Option Addr} {n c : Nat} {xs : List Rc} (h : CReads w (.slice a n c) xs) {j : Nat} {x : Rc} (hx : xs[j]? = some x) : ∃ b o pg kv, a = some ⟨b, o, none⟩ ∧ b < w.heap.size ∧ n ≤ c ∧ c ≤ maxLen ∧
    w.cell? ⟨b, o + j * 4, none⟩ = some (.int .i64 x.what) ∧ w.cell? ⟨b, o + j * 4 + 1, none⟩ = some (.int .i64 x.num) ∧ w.cell? ⟨b, o + j * 4 + 2, none⟩ = some pg ∧ w.cell? ⟨b, o + j * 4 + 3, none⟩ = some kv ∧ PgR w pg x.pages ∧ RB w kv x.keep := by
  rcases h with ⟨rfl, a', c', e⟩ | ⟨hn, b, o, c', e, hc, hm, hl, hx'⟩
  · simp at hx
  · simp only [Value.slice.injEq] at e
    obtain ⟨rfl, rfl, rfl⟩ := e
    obtain ⟨pg, kv, r⟩ := hx' j x hx
    exact ⟨b, o, pg, kv, rfl, hl, hc, hm, r⟩
set_option maxRecDepth 100000 in
theorem open_rc1 {H : Type} {enc : TypeId × Value → H} {W : World} {fuel : Nat} {cs : List Value} {x : DataW H × List MemPlace} (h : DataW.trod enc Tryz.prog W 0 (fun _ => true) true fuel 40 cs = some x) (hw : ∀ n ∈ x.1.weights Tryz.prog 40, n ≤ reachBytes) :
    ∃ (q : Rc) (pg kv : Value), cs = [.int .i64 q.what, .int .i64 q.num, pg, kv] ∧ PgR W pg q.pages ∧ RB W kv q.keep ∧ q.fine := by
  have hreach : reachBytes ≤ 140737488355328 := by decide
  have hu := Tryz.underlying40
  have hc4 : Tryz.prog.cellsOf 40 = 4 := by kernel_rfl
  have cs1 : Tryz.prog.cellsOf 37 = 1 := by kernel_rfl
  have ci : Tryz.prog.cellsOf 3 = 1 := by kernel_rfl
  have cb : Tryz.prog.cellsOf 38 = 1 := by kernel_rfl
  obtain ⟨xs, n, _, hx, hlen, hxl, hf⟩ := DataW.trod_struct hu h
  rw [hc4] at hlen
  obtain ⟨v0, v1, v2, v3, rfl⟩ : ∃ v0 v1 v2 v3, cs = [v0, v1, v2, v3] := by
    match cs, hlen with
    | [v0, v1, v2, v3], _ => exact ⟨v0, v1, v2, v3, rfl⟩
  obtain ⟨y0, y1, y2, y3, rfl⟩ : ∃ y0 y1 y2 y3, xs = [y0, y1, y2, y3] := by
    match xs, hxl with
    | [y0, y1, y2, y3], _ => exact ⟨y0, y1, y2, y3, rfl⟩
  have f0 : DataW.trod enc Tryz.prog W 0 (fun _ => true) true n 3 (([v0, v1, v2, v3].drop 0).take (Tryz.prog.cellsOf 3)) = [y0, y1, y2, y3][0]? := hf 0 _ rfl
  have f1 : DataW.trod enc Tryz.prog W 0 (fun _ => true) true n 3 (([v0, v1, v2, v3].drop 1).take (Tryz.prog.cellsOf 3)) = [y0, y1, y2, y3][1]? := hf 1 _ rfl
  have f2 : DataW.trod enc Tryz.prog W 0 (fun _ => true) true n 37 (([v0, v1, v2, v3].drop 2).take (Tryz.prog.cellsOf 37)) = [y0, y1, y2, y3][2]? := hf 2 _ rfl
  have f3 : DataW.trod enc Tryz.prog W 0 (fun _ => true) true n 38 (([v0, v1, v2, v3].drop 3).take (Tryz.prog.cellsOf 38)) = [y0, y1, y2, y3][3]? := hf 3 _ rfl
  rw [ci] at f0 f1
  rw [cs1] at f2
  rw [cb] at f3
  obtain ⟨A, e0, -, -⟩ := DataW.trod_int (k := .i64) (x := y0) Tryz.underlying3 (by simpa using f0)
  obtain ⟨C, e1, -, hwf⟩ := DataW.trod_int (k := .i64) (x := y1) Tryz.underlying3 (by simpa using f1)
  have f2' : DataW.trod enc Tryz.prog W 0 (fun _ => true) true n 37 [v2] = some y2 := by simpa using f2
  have f3' : DataW.trod enc Tryz.prog W 0 (fun _ => true) true n 38 [v3] = some y3 := by simpa using f3
  have hdx : x.1 = .agg [y0.1, y1.1, y2.1, y3.1] := by rw [hx]; rfl
  have hwj : ∀ (j : Nat) (ty : TypeId) (d' : DataW H), [3, 3, 37, 38][j]? = some ty → [y0.1, y1.1, y2.1, y3.1][j]? = some d' → ∀ k ∈ d'.weights Tryz.prog ty, k ≤ reachBytes := by
    intro j ty d' hj hd k hk
    refine hw k ?_
    rw [hdx]
    simp only [DataW.weights, hu]
    exact DataW.weights_mem_each (j := j) hj hd k hk
  have ep : ∃ ao l c, v2 = .slice ao l c := by
    rcases open_slice Tryz.underlying37 f2' with ⟨e, _⟩ | ⟨a, l, c, _, _, _, _, e, _⟩
    · simp at e; exact ⟨_, _, _, e⟩
    · simp at e; exact ⟨_, _, _, e⟩
  obtain ⟨pa, pl, pc, rfl⟩ := ep
  obtain ⟨pgs, hpgs, hpl⟩ := open_pages Tryz.underlying37 f2' (hwj 2 _ _ rfl rfl)
  have ev : ∃ ao l c, v3 = .slice ao l c := by
    rcases open_slice Tryz.underlying38 f3' with ⟨e, _⟩ | ⟨a, l, c, _, _, _, _, e, _⟩
    · simp at e; exact ⟨_, _, _, e⟩
    · simp at e; exact ⟨_, _, _, e⟩
  obtain ⟨ao, l, c, rfl⟩ := ev
  obtain ⟨ks, hks, hkl⟩ := open_bools Tryz.underlying38 f3' (hwj 3 _ _ rfl rfl)
  have hwf2 : -9223372036854775808 ≤ C ∧ C ≤ 9223372036854775807 := by
    simp only [Lit.wf, Bool.and_eq_true, decide_eq_true_eq] at hwf
    exact hwf
  refine ⟨⟨A, C, pgs, ks⟩, .slice pa pl pc, .slice ao l c, ?_, hpgs, hks, hwf2.2, hwf2.1, hpl, hkl⟩
  have a0 : v0 = .int .i64 A := by simpa using e0
  have a1 : v1 = .int .i64 C := by simpa using e1
  rw [a0, a1]
set_option maxRecDepth 100000 in
theorem open_rcArg {H : Type} {enc : TypeId × Value → H} {W : World} {b0 : Nat} {r : Reach} {t : TypeId} {v : Value} {d : DataW H} {p : List MemPlace}
    (ht : Tryz.prog.underlying t = some (.slice 40)) (hval : Value.okWide Tryz.prog W r b0 t v) (h : DataW.Trod enc Tryz.prog W 0 (fun _ => true) true t v d p)
    (hw : ∀ n ∈ d.weights Tryz.prog t, n ≤ reachBytes) : ∃ xs : List Rc, CReads W v xs ∧ xs.length ≤ 140737488355328 ∧ ∀ a ∈ xs, a.fine := by
  have hreach : reachBytes ≤ 140737488355328 := by decide
  have hc4 : Tryz.prog.cellsOf 40 = 4 := by kernel_rfl
  have hby : 0 < Tryz.prog.bytesOf 40 := of_decide_eq_true (by kernel_rfl)
  obtain ⟨a0, len, cap, rfl⟩ := okWide_slice ht hval
  obtain ⟨fuel, hf⟩ := h
  rcases open_slice ht hf with ⟨hcs, hx⟩ | ⟨a, len', cap', m, n, D, Pl, hcs, _, hl, hm, hmm, hx, hi⟩
  · simp [Value.cells] at hcs
    obtain ⟨rfl, rfl, rfl⟩ := hcs
    exact ⟨[], .inl ⟨rfl, _, _, rfl⟩, by simp, fun p hp => (by cases hp)⟩
  · simp [Value.cells] at hcs
    obtain ⟨rfl, rfl, rfl⟩ := hcs
    have hd : d = .slice ((List.range len).map D) ((List.range (m - len)).map fun j => D (len + j)) := (Prod.mk.inj hx).1
    subst hd
    simp only [if_true] at hmm
    subst hmm
    rw [hc4] at hi
    have hwd : ∀ i, i < len → ∀ k ∈ (D i).weights Tryz.prog 40, k ≤ reachBytes := by
      intro i hil k hk
      refine hw k ?_
      simp only [DataW.weights, ht, List.mem_cons, List.mem_append]
      exact .inr (.inl (mem_weightsAllS hk (List.mem_map.2 ⟨i, List.mem_range.2 hil, rfl⟩)))
    have hel : ∀ i, i < len → ∃ q : Rc, (∃ pg kv, W.cell? (a.add (i * 4)) = some (.int .i64 q.what) ∧ W.cell? ((a.add (i * 4)).add 1) = some (.int .i64 q.num) ∧ W.cell? ((a.add (i * 4)).add 2) = some pg ∧ W.cell? ((a.add (i * 4)).add 3) = some kv ∧ PgR W pg q.pages ∧ RB W kv q.keep) ∧ q.fine := by
      intro i hil
      obtain ⟨cs', hc, ht'⟩ := hi i (by omega)
      obtain ⟨q, pg, kv, rfl, hpr, hr, hs⟩ := open_rc1 ht' (hwd i hil)
      obtain ⟨_, _, hat⟩ := World.cells?_some hc
      have h0 := hat 0 (by omega)
      have h1 := hat 1 (by omega)
      have h2 := hat 2 (by omega)
      have h3 := hat 3 (by omega)
      rw [show (a.add (i * 4)).add 0 = a.add (i * 4) by rw [Go.Deep.add_add]; rfl] at h0
      exact ⟨q, ⟨pg, kv, h0, h1, h2, h3, hpr, hr⟩, hs⟩
    obtain ⟨ps, hpl, hps⟩ := list_of _ len hel
    have hlen : len ≤ 140737488355328 := by
      have h1 := hw _ (by simp only [DataW.weights, ht]; exact List.mem_cons_self)
      have h2 : len ≤ ((List.range len).map D).length + ((List.range (m - len)).map fun j => D (len + j)).length := by simp
      have h3 := Nat.le_mul_of_pos_right (((List.range len).map D).length + ((List.range (m - len)).map fun j => D (len + j)).length) hby
      omega
    refine ⟨ps, ?_, by omega, fun q hq => ?_⟩
    · by_cases e : ps = []
      · left
        subst e
        simp at hpl
        subst hpl
        exact ⟨rfl, _, _, rfl⟩
      · right
        have hpos : 0 < len := by
          rcases Nat.eq_zero_or_pos len with h | h
          · exact absurd (List.length_eq_zero_iff.1 (by omega)) e
          · exact h
        obtain ⟨b, off, spot⟩ := a
        obtain ⟨_, _, h00, _⟩ := (hps 0 (ps[0]'(by omega)) (by simp)).1
        have hspot : spot = none := by simpa [Addr.add] using World.cell?_spot h00
        subst hspot
        have hadd : ∀ (o k : Nat), (⟨b, o, none⟩ : Addr).add k = ⟨b, o + k, none⟩ := fun o k => Addr.add_lit ..
        refine ⟨e, b, off, m, by rw [hpl], by omega, by unfold maxLen at hm ⊢; omega, ?_, fun j q hq => ?_⟩
        · rw [hadd] at h00
          exact cell_lt (o := off + 0 * 4) h00
        · obtain ⟨⟨pg, kv, c0, c1, c2, c3, c5, c4⟩, _⟩ := hps j q hq
          rw [hadd] at c0
          rw [hadd, hadd] at c1 c2 c3
          exact ⟨pg, kv, c0, c1, c2, c3, c5, c4⟩
    · obtain ⟨j, hj⟩ := List.getElem?_of_mem hq
      exact (hps j q hj).2
end Go.Proofs.YthamfbfeokmhgaaGreatDoor
set_option linter.unusedVariables false
set_option linter.unusedSimpArgs false
namespace Go.Proofs.YthamfbfeokmhgaaGreatDoor
open Go.ChangeShapes Go.WideShapes Go.ChangeAt Go.RowKit

def EqP (P : Nat → ByteArray) (S : List ByteArray) (n : Nat) : Prop := ∀ i, i < n → P i = fullB (S.getD i ByteArray.empty)
set_option maxHeartbeats 4000000 in
set_option maxRecDepth 100000 in
theorem rsame_any {w0 : World} {p q a mb k n : Nat} {D : Dk} {P : Nat → ByteArray} {S : List ByteArray} (w : World) (h : DR w0 w p q D) (ho : D.off = false) (hp : D.pend = []) (hc : Clean D.sure P) (hn : D.sure.length = n + 64) (hn4 : n ≤ 40) (hr : PR w a mb k n S) (hg : HasErr w) :
    Calls Tryz.prog 17 #[.pointer (some ⟨q, 0, none⟩), .pointer (some ⟨a, 0, none⟩)] w fun e w' => ∃ r : Bool, e = .returned (.bool r) ∧ (r = true ↔ EqP P S n) ∧ Below w.heap.size w w' := by
  have hS : S.length = n := hr.len
  have HRD : Hid (∀ W, Below w.heap.size w W → ∀ i : Int, Calls Tryz.prog 18 #[.pointer (some ⟨q, 0, none⟩), .int .i64 i] W fun e w' => e = .returned (.tuple #[.string (if 0 ≤ i ∧ i < (n : Int) then P i.toNat else ⟨#[]⟩), errS (if 0 ≤ i ∧ i < (n : Int) then 0 else 1)]) ∧ Below W.heap.size W w') := Lib.hid (fun W hW i => by
    have h1 := (h.below hW).readB i
    rw [pread_clean ho hp hc] at h1
    have e : ((D.sure.length - 64 : Nat) : Int) = (n : Int) := by rw [hn]; omega
    rw [e] at h1
    by_cases hi : 0 ≤ i ∧ i < (n : Int)
    · rw [if_pos hi] at h1 ⊢; rw [if_pos hi]; exact h1
    · rw [if_neg hi] at h1 ⊢; rw [if_neg hi]; exact h1)
  have HRF : Hid (∀ W, Below w.heap.size w W → ∀ i : Int, Calls Tryz.prog 34 #[.pointer (some ⟨a, 0, none⟩), .int .i64 i] W fun e w' => e = .returned (.tuple #[.string (if 0 ≤ i ∧ i < (n : Int) then fullB (S.getD i.toNat ByteArray.empty) else ⟨#[]⟩), .int .i64 (if 0 ≤ i ∧ i < (n : Int) then 0 else 1)]) ∧ Below W.heap.size W w') := Lib.hid (fun W hW i => by
    have h1 := r13read_any i W (hr.below hW) (by omega)
    unfold rdP at h1
    rw [hS] at h1
    by_cases hi : 0 ≤ i ∧ i < (n : Int)
    · rw [if_pos hi] at h1 ⊢; rw [if_pos hi]; exact h1
    · rw [if_neg hi] at h1 ⊢; rw [if_neg hi]; exact h1)
  have HCO : Hid (∀ W, Below w.heap.size w W → ∀ k, Calls Tryz.prog 9 #[errS k] W fun e w' => e = .returned (.int .i64 k) ∧ Below W.heap.size W w') := Lib.hid (fun W hW k => code_s k W (hg.below hW))
  have c0 := hr.c0
  have halt := hr.alt
  have hmin : min (n : Int) 40 = (n : Int) := by omega
  clear h ho hp hc hn hr hg hS
  go_enter Tryz.func17, Tryz.ntmps17
  go_wp2_with fail
  go_loopw [5] (fun jv wr => ∃ c : Nat, jv = .int .i64 ((c : Int) - 1) ∧ c ≤ n + 2 ∧ Hid (∀ i, i + 1 < c → i < n → P i = fullB (S.getD i ByteArray.empty)) ∧ Hid (Below w.heap.size w wr)) (fun jv _ => n + 2 - ((intOf jv) + 1).toNat)
  case atStart => exact ⟨0, rfl, by omega, Lib.hid (fun i hi => by omega), Lib.hid (Below.refl _ _)⟩
  case round =>
    obtain ⟨c, rfl, hcn, HP, HB⟩ := hrel
    have d0 := (HB.out.cell (p := ⟨a, 0, none⟩) halt).trans c0
    obtain ⟨i, hi⟩ : ∃ i : Int, i = (c : Int) - 1 := ⟨_, rfl⟩
    rw [← hi]
    by_cases hle : i ≤ (n : Int)
    · have hR := HRD.out wr HB.out i
      have hF := fun W hW => HRF.out W hW i
      have hnext : i + 1 = ((c + 1 : Nat) : Int) - 1 := by omega
      have hw1 : IntKind.i64.wrap (i + 1) = i + 1 := by rw [IntKind.wrap_i64]; omega
      by_cases hin : 0 ≤ i ∧ i < (n : Int)
      · simp only [if_pos hin, errS_zero] at hR hF
        obtain ⟨xa, hxa⟩ : ∃ xa, xa = P i.toNat := ⟨_, rfl⟩
        obtain ⟨xb, hxb⟩ : ∃ xb, xb = fullB (S.getD i.toNat ByteArray.empty) := ⟨_, rfl⟩
        rw [← hxa] at hR
        rw [← hxb] at hF
        have HR := Lib.hid hR
        have HF := Lib.hid hF
        have hC := fun W hW => HCO.out W hW 0
        simp only [errS_zero] at hC
        have HC := Lib.hid hC
        have HIN := Lib.hid hin
        have HXA := Lib.hid hxa
        have HXB := Lib.hid hxb
        have HI := Lib.hid hi
        clear hR hF hC hin hxa hxb hi
        by_cases heq : xa = xb
        · have HPN : Hid (∀ u, u + 1 < c + 1 → u < n → P u = fullB (S.getD u ByteArray.empty)) := Lib.hid (fun u hu hun => by
            by_cases e : u + 1 < c
            · exact HP.out u e hun
            · have : u = i.toNat := by have := HI.out; omega
              rw [this, ← HXA.out, ← HXB.out]; exact heq)
          subst heq
          go_wp2_with (first | (rw [hmin]) | fail)
          refine HR.out.mono ?_
          rintro e w1 ⟨rfl, hb1⟩
          have HB1 := Lib.hid (HB.out.trans (hb1.mono HB.out.size))
          clear hb1
          go_wp2_with fail
          refine (HF.out _ HB1.out).mono ?_
          rintro e w2 ⟨rfl, hb2⟩
          have HB2 := Lib.hid (HB1.out.trans (hb2.mono HB1.out.size))
          clear hb2
          go_wp2_with fail
          refine (HC.out _ HB2.out).mono ?_
          rintro e w3 ⟨rfl, hb3⟩
          have HB3 := Lib.hid (HB2.out.trans (hb3.mono HB2.out.size))
          clear hb3
          go_wp2_with (first | (rw [hw1]) | fail)
          exact ⟨⟨c + 1, by (have : (c : Int) = ((c + 1 : Nat) : Int) - 1 := by omega); rw [← this], by omega, HPN, HB3⟩, by simp [intOf]; omega⟩
        · have hneB := ba_neq heq
          have HNE := Lib.hid heq
          clear heq
          go_wp2_with (first | (rw [hmin]) | fail)
          refine HR.out.mono ?_
          rintro e w1 ⟨rfl, hb1⟩
          have HB1 := Lib.hid (HB.out.trans (hb1.mono HB.out.size))
          clear hb1
          go_wp2_with fail
          refine (HF.out _ HB1.out).mono ?_
          rintro e w2 ⟨rfl, hb2⟩
          have HB2 := Lib.hid (HB1.out.trans (hb2.mono HB1.out.size))
          clear hb2
          go_wp2_with fail
          go_ret
          refine ⟨false, rfl, ⟨fun h => (by cases h), fun h => ?_⟩, HB2.out⟩
          have h1 := h i.toNat (by have := HIN.out; omega)
          exact absurd (HXA.out.trans (h1.trans HXB.out.symm)) HNE.out
      · simp only [if_neg hin] at hR hF
        simp only [errS_ne (show ¬ (1 : Int) = 0 by decide)] at hR
        have HR := Lib.hid hR
        have HF := Lib.hid hF
        have hC := fun W hW => HCO.out W hW 1
        simp only [errS_ne (show ¬ (1 : Int) = 0 by decide)] at hC
        have HC := Lib.hid hC
        have HPN : Hid (∀ u, u + 1 < c + 1 → u < n → P u = fullB (S.getD u ByteArray.empty)) := Lib.hid (fun u hu hun => by
          by_cases e : u + 1 < c
          · exact HP.out u e hun
          · exact absurd (show 0 ≤ i ∧ i < (n : Int) by omega) hin)
        clear hR hF hC hin hi
        go_wp2_with (first | (rw [hmin]) | fail)
        refine HR.out.mono ?_
        rintro e w1 ⟨rfl, hb1⟩
        have HB1 := Lib.hid (HB.out.trans (hb1.mono HB.out.size))
        clear hb1
        go_wp2_with fail
        refine (HF.out _ HB1.out).mono ?_
        rintro e w2 ⟨rfl, hb2⟩
        have HB2 := Lib.hid (HB1.out.trans (hb2.mono HB1.out.size))
        clear hb2
        go_wp2_with fail
        refine (HC.out _ HB2.out).mono ?_
        rintro e w3 ⟨rfl, hb3⟩
        have HB3 := Lib.hid (HB2.out.trans (hb3.mono HB2.out.size))
        clear hb3
        go_wp2_with (first | (rw [hw1]) | fail)
        exact ⟨⟨c + 1, by (have : (c : Int) = ((c + 1 : Nat) : Int) - 1 := by omega); rw [← this], by omega, HPN, HB3⟩, by simp [intOf]; omega⟩
    · have hfin : EqP P S n := fun u hu => HP.out u (by omega) hu
      have HF := Lib.hid hfin
      clear hfin
      go_wp2_with (first | (rw [hmin]) | fail)
      go_ret
      exact .inr ⟨by simp, HF.out, HB.out⟩
theorem rsmall_any (xs : List Rc) (v : Value) (w : World) (hr : CReads w v xs) (hf : ∀ x ∈ xs, x.fine) (hl : xs.length ≤ 140737488355328) :
    Calls Tryz.prog 6 #[v] w fun e w' => ∃ r : Bool, e = .returned (.bool r) ∧ (r = true → ∀ x ∈ xs, x.pages.length ≤ 600) ∧ Below w.heap.size w w' := by
  obtain ⟨va, vc, rfl⟩ := hr.form
  obtain ⟨m, hm⟩ : ∃ m, m = xs.length := ⟨_, rfl⟩
  rw [← hm] at hr hl ⊢
  have HM := Lib.hid hm
  have HR := Lib.hid hr
  have HF := Lib.hid hf
  clear hr hm hf
  go_enter Tryz.func6, Tryz.ntmps6
  go_wp2_with fail
  go_loopw [3, 8] (fun sv jv wr => ∃ j s : Nat, jv = .int .i64 (j : Nat) ∧ sv = .int .i64 (s : Nat) ∧ j ≤ m ∧ s ≤ 600 ∧ Hid (∀ x ∈ xs.take j, x.pages.length ≤ 600) ∧ Hid (Below w.heap.size w wr)) (fun _ jv _ => m - (intOf jv).toNat)
  case atStart => exact ⟨0, 0, rfl, rfl, Nat.zero_le _, Nat.zero_le _, Lib.hid (by simp), Lib.hid (Below.refl _ _)⟩
  case round =>
    obtain ⟨j, s, rfl, rfl, hjm, hs6, HP, HB⟩ := hrel
    by_cases hlt : j < m
    · obtain ⟨x, hx⟩ : ∃ x, xs[j]? = some x := ⟨xs[j]'(by rw [← HM.out]; exact hlt), by simp⟩
      obtain ⟨b, o, pg, kv, rfl, hbl, hmc, hcm, d0, d1, d2, d3, hpg, hkv⟩ := (HR.out.below HB.out).at hx
      obtain ⟨pa, pc, rfl⟩ := hpg.form
      obtain ⟨ka, kc, rfl⟩ := hkv.form
      unfold maxLen at hcm
      have hxf := HF.out x (List.mem_of_getElem? hx)
      have HTK : Hid (xs.take (j + 1) = xs.take j ++ [x]) := Lib.hid (by rw [List.take_add_one, hx]; rfl)
      obtain ⟨l, hll⟩ : ∃ l, l = x.pages.length := ⟨_, rfl⟩
      have hl9 : l ≤ 140737488355328 := by rw [hll]; exact hxf.2.2.1
      rw [← hll] at d2
      have HLL := Lib.hid hll
      have hjI : (j : Int) < (m : Int) := by omega
      have hw1 : IntKind.i64.wrap ((s : Int) + (l : Int)) = ((s + l : Nat) : Int) := by rw [IntKind.wrap_i64]; omega
      obtain ⟨t, ht⟩ : ∃ t, t = s + l := ⟨_, rfl⟩
      rw [← ht] at hw1
      obtain ⟨wz, hwz⟩ : ∃ wz, wz = wr.alloc (.cells #[.int .i64 x.what, .int .i64 x.num, .slice pa l pc, .slice ka x.keep.length kc] 40) := ⟨_, rfl⟩
      have HBZ : Hid (Below w.heap.size w (wr.alloc (.cells #[.int .i64 x.what, .int .i64 x.num, .slice pa l pc, .slice ka x.keep.length kc] 40))) := Lib.hid (HB.out.alloc HB.out.size _)
      clear hx hbl hpg hkv hxf hll hwz
      by_cases h6 : 600 < t
      · have h6I : (600 : Int) < (t : Int) := by omega
        go_wp2_with (first | (rw [hw1]) | fail)
        go_ret
        exact ⟨false, rfl, fun h => (by cases h), HBZ.out⟩
      · have h6I : ¬ (600 : Int) < (t : Int) := by omega
        go_wp2_with (first | (rw [hw1]) | fail)
        exact ⟨⟨j + 1, t, by go_num, by go_num, by omega, by omega, Lib.hid (by
          rw [HTK.out]
          intro y hy
          rcases List.mem_append.1 hy with hy | hy
          · exact HP.out y hy
          · rw [List.mem_singleton] at hy; subst hy; rw [← HLL.out]; omega), HBZ⟩, by simp [intOf]; omega⟩
    · have hjj : m = j := by omega
      have hfin : ∀ x ∈ xs, x.pages.length ≤ 600 := fun x hx => HP.out x (by rw [List.take_of_length_le (by rw [← HM.out]; omega)]; exact hx)
      have HFI := Lib.hid hfin
      have hltI : ¬ (j : Int) < (m : Int) := by omega
      clear hfin hjj
      go_wp2_with fail
      go_ret
      exact .inr ⟨by simp, HFI.out, HB.out⟩
end Go.Proofs.YthamfbfeokmhgaaGreatDoor
