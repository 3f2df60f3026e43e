/- The contract of the program's sound: it ends, and turns nothing that was there. What it answers isn't said. The contracts of Write, Right, Made, Name, Commute. Which patch is right, how many lines it makes: walked. Which patch is right, in the document's order; how long its bytes are. Mathematics. -/
import Derived.Test.YtojnagonhihknaaGreatDoorV12
import Derived.Test.YtojnagonhihknaaGreatDoorV23
import Derived.Test.YtojnagonhihknaaGreatDoorV25
import Derived.Test.YtojnagonhihknaaGreatDoorV27
import Derived.Test.YtojnagonhihknaaGreatDoorV4
import Derived.Test.YtojnagonhihknaaGreatDoorV6
import Derived.Test.YtojnagonhihknaaGreatDoorV7
import Derived.Test.YtojnagonhihknaaGreatDoorV9
set_option linter.unusedVariables false
namespace Go.Proofs.YtojnagonhihknaaGreatDoor
open Go.ChangeShapes Go.WideShapes Go.ChangeAt Go.RowKit

theorem least_ex {p : Nat → Prop} (h : ∃ n, p n) : ∃ n, p n ∧ ∀ m, p m → n ≤ m := by
  have : ∀ k n, n ≤ k → p n → ∃ n, p n ∧ ∀ m, p m → n ≤ m := by
    intro k
    induction k with
    | zero => intro n hn hp; exact ⟨n, hp, fun m _ => by omega⟩
    | succ k ih =>
      intro n hn hp
      by_cases hx : ∃ m, p m ∧ m < n
      · obtain ⟨m, hm, hlt⟩ := hx
        exact ih m (by omega) hm
      · exact ⟨n, hp, fun m hm => by
          rcases Nat.lt_or_ge m n with h | h
          · exact absurd ⟨m, hm, h⟩ hx
          · exact h⟩
  obtain ⟨n, hn⟩ := h
  exact this n n (Nat.le_refl _) hn
open Classical in
noncomputable def leastN (p : Nat → Prop) : Nat := if h : ∃ n, p n ∧ ∀ m, p m → n ≤ m then Classical.choose h else 0
theorem leastN_spec {p : Nat → Prop} (h : ∃ n, p n) : p (leastN p) := by
  have h2 := least_ex h
  unfold leastN
  rw [dif_pos h2]
  exact (Classical.choose_spec h2).1
theorem leastN_le {p : Nat → Prop} {n : Nat} (h : p n) : leastN p ≤ n := by
  have h2 := least_ex ⟨n, h⟩
  unfold leastN
  rw [dif_pos h2]
  exact (Classical.choose_spec h2).2 n h

abbrev TD := Nat × Nat × Nat × List Tm
def TD.val (p : TD) : Value := .slice (some ⟨p.1, p.2.1, none⟩) p.2.2.2.length p.2.2.1
def TD.good (w w1 : World) (p : TD) : Prop :=
  (p.1 < w.heap.size ∨ p.1 = w.heap.size + 2) ∧ p.2.2.2.length ≤ p.2.2.1 ∧ p.2.2.1 ≤ maxLen ∧ ∀ j l t ys, p.2.2.2[j]? = some (.mk l t ys) → ∃ a c, w1.cell? ⟨p.1, p.2.1 + j * 3, none⟩ = some (.bool l) ∧
    w1.cell? ⟨p.1, p.2.1 + j * 3 + 1, none⟩ = some (.string t) ∧ w1.cell? ⟨p.1, p.2.1 + j * 3 + 2, none⟩ = some (.slice a ys.length c) ∧ t.size ≤ 140737488355328 ∧ SlG w (.slice a ys.length c) ys
def wtd : List TD → Nat
  | [] => 0
  | p :: r => wtd r + (2 * Tm.partss p.2.2.2 + 1)
theorem wtd_app (a b : List TD) : wtd (a ++ b) = wtd a + wtd b := by
  induction a with
  | nil => simp [wtd]
  | cons p r ih => simp only [List.cons_append, wtd, ih]; omega
theorem len_wtd (a : List TD) : a.length ≤ wtd a := by
  induction a with
  | nil => simp
  | cons p r ih => simp only [List.length_cons, wtd]; omega
theorem partss_drop (xs : List Tm) (k : Nat) : Tm.partss (xs.drop k) ≤ Tm.partss xs := by
  have h := congrArg Tm.partss (List.take_append_drop k xs)
  rw [Tm.partss_app] at h
  omega
theorem partss_at {xs : List Tm} {k : Nat} {x : Tm} (h : xs[k]? = some x) : Tm.partss (xs.drop k) = x.parts + Tm.partss (xs.drop (k + 1)) := by
  obtain ⟨hk, e⟩ := List.getElem?_eq_some_iff.1 h
  rw [List.drop_eq_getElem_cons hk, e, Tm.partss]

def IsN (v : Value) : Prop := ∃ z : Nat, v = .int .i64 (z : Nat) ∧ z ≤ 9223372036854775807

def Todo (w w1 : World) (W : Nat) (v : Value) (wr : World) : Prop :=
  ∃ qs : List TD, Row 1 w.heap.size wr v qs.length (qs.map TD.val) ∧ (∀ b, v.ownBlock = some b → b = w.heap.size + 3 ∨ w.heap.size + 4 ≤ b) ∧ (∀ q ∈ qs, TD.good w w1 q) ∧
    PMap wr IsN w.heap.size (w.heap.size + 1) ∧ Off (fun i => i = w.heap.size + 1 ∨ i = w.heap.size + 3) w1 wr ∧ wtd qs = W ∧ W ≤ 2000001

theorem Todo.below {w w1 wr wz : World} {W : Nat} {v : Value} (h : Todo w w1 W v wr) (hs1 : w1.heap.size = w.heap.size + 4) (hb : Below wr.heap.size wr wz) : Todo w w1 W v wz := by
  obtain ⟨qs, hrow, hown, hgood, hpm, hoff, hwt, hle⟩ := h
  have hsz := hoff.size
  exact ⟨qs, hrow.below hb, hown, hgood, hpm.carry (hb.block _ hpm.lt) (fun i hi => hb.block i (by omega)), hoff.trans (Off.of_below hb), hwt, hle⟩
theorem todo_push {w w1 w3 w6 w7 : World} {v v6 : Value} {qs : List TD} {q : TD} {W : Nat} (hs1 : w1.heap.size = w.heap.size + 4) (hown : ∀ b, v.ownBlock = some b → b = w.heap.size + 3 ∨ w.heap.size + 4 ≤ b)
    (hgood : ∀ q ∈ qs, TD.good w w1 q) (hq : TD.good w w1 q) (hoff3 : Off (fun i => i = w.heap.size + 1 ∨ i = w.heap.size + 3) w1 w3) (hr6 : Row 1 w.heap.size w6 v6 (qs.length + 1) (qs.map TD.val ++ [q.val])) (ho6 : Off (fun i => v.ownBlock = some i) w3 w6)
    (hw6 : v6.ownBlock = v.ownBlock ∨ v6.ownBlock = some w3.heap.size) (hp7 : PMap w7 IsN w.heap.size (w.heap.size + 1)) (ho7 : Off (· = w.heap.size + 1) w6 w7) (hW : wtd qs + (2 * Tm.partss q.2.2.2 + 1) = W) (hle : W ≤ 2000001) : Todo w w1 W v6 w7 := by
  have hsz := hoff3.size
  have hown6 : ∀ b, v6.ownBlock = some b → b = w.heap.size + 3 ∨ w.heap.size + 4 ≤ b := fun b hb => by
    rcases hw6 with e | e
    · exact hown b (by rw [← e]; exact hb)
    · rw [e] at hb
      injection hb with hb
      omega
  refine ⟨qs ++ [q], ?_, hown6, fun x hx => ?_, hp7, ?_, ?_, hle⟩
  · rw [List.length_append, List.map_append]
    exact hr6.off ho7 fun b hb e => by
      have := hown6 b hb
      omega
  · rcases List.mem_append.1 hx with hx | hx
    · exact hgood x hx
    · obtain rfl := List.mem_singleton.1 hx
      exact hq
  · refine (hoff3.trans' ho6 fun i hi e => ?_).trans' ho7 fun i hi e => .inl e
    have := hown i e
    omega
  · rw [wtd_app]
    simp only [wtd]
    omega
theorem shape_of_cell {w : World} {p : Addr} {v : Value} (h : w.cell? p = some v) : (w.shape? p.block).isSome = true := by
  unfold World.cell? at h
  unfold World.shape?
  split at h
  · rfl
  · cases h
theorem Tryz.zeroI (w : World) : (zeroValue 3).run Tryz.prog w = .ok (.int .i64 0) w := by
  obtain ⟨i, hi, hz⟩ : ∃ i, Tryz.prog.info? 3 = some i ∧ i.zero = some (.int .i64 0) := by
    have h : (Tryz.prog.info? 3).map (·.zero) = some (some (.int .i64 0)) := by kernel_rfl
    obtain ⟨i, h1, h2⟩ := Option.map_eq_some_iff.1 h
    exact ⟨i, h1, h2⟩
  simp [zeroValue, run_typeInfo w hi, hz]
theorem Tryz.infoF : ∃ i, Tryz.prog.info? 122 = some i := by
  have h : (Tryz.prog.info? 122).isSome = true := by kernel_rfl
  exact Option.isSome_iff_exists.1 h
theorem Tryz.cellsF : Tryz.prog.cellsOf 122 ≠ 0 := of_decide_eq_true (by kernel_rfl)

theorem Tryz.infoL : (Tryz.prog.info? 120).map (fun i => (i.zero, i.size, i.bytes)) = some (some (.slice none 0 0), 1, 24) := by kernel_rfl

set_option maxHeartbeats 4000000 in
set_option maxRecDepth 100000 in
theorem sound_any (l : Bool) (t : ByteArray) (ys : List Tm) (w : World) (a : Option Addr) (c : Nat) (hG : SlG w (.slice a ys.length c) ys) (hts : t.size ≤ 140737488355328) (hsm : (Tm.mk l t ys).parts ≤ 1000000) :
    Calls Tryz.prog 136 #[fv l t (.slice a ys.length c)] w (SoundP (fun _ => True) w) := by
  obtain ⟨n, hn⟩ : ∃ n, n = ys.length := ⟨_, rfl⟩
  obtain ⟨w1, hw1⟩ : ∃ w1, w1 = ((((w.alloc (Obj.cells #[Value.bool l, Value.string t, Value.slice a n c] 122)).alloc (Obj.map #[] 0)).alloc (Obj.cells #[Value.bool l, Value.string t, Value.slice a n c] 122)).alloc
      (Obj.cells #[Value.slice (some { block := w.heap.size + 1 + 1, off := 0 }) 1 1] 120)) := ⟨_, rfl⟩
  have hs1 : w1.heap.size = w.heap.size + 4 := by rw [hw1]; simp
  have hb1 : Below w.heap.size w w1 := by
    rw [hw1]
    exact ((((Below.refl _ _).alloc (Nat.le_refl _) _).alloc (by simp) _).alloc (by simp; omega) _).alloc (by simp; omega) _
  have h0 : Todo w w1 (2 * (Tm.mk l t ys).parts + 1) (.slice (some ⟨w.heap.size + 3, 0, none⟩) 1 1) w1 := by
    refine ⟨[(w.heap.size + 2, 0, 1, [.mk l t ys])], ?_, fun b hb => .inl (by simpa [Value.ownBlock] using hb.symm), fun q hq => ?_, ?_, Off.refl _ _, ?_, by omega⟩
    · rw [hw1]
      have := row_new (k := 1) (B := w.heap.size) (w := ((w.alloc (Obj.cells #[Value.bool l, Value.string t, Value.slice a n c] 122)).alloc (Obj.map #[] 0)).alloc (Obj.cells #[Value.bool l, Value.string t, Value.slice a n c] 122)) (e := 120) (n := 1) (cs := [.slice (some ⟨w.heap.size + 2, 0, none⟩) 1 1]) (cap := 1) (xs := #[Value.slice (some { block := w.heap.size + 1 + 1, off := 0 }) 1 1]) (fr := (0, 0)) (by simp; omega) rfl (Nat.le_refl _) (by decide) (by simp) (.inl rfl) (fun j u hu => by simpa using hu)
      have e3 : (((w.alloc (Obj.cells #[Value.bool l, Value.string t, Value.slice a n c] 122)).alloc (Obj.map #[] 0)).alloc (Obj.cells #[Value.bool l, Value.string t, Value.slice a n c] 122)).heap.size = w.heap.size + 3 := by simp
      rw [e3] at this
      exact this
    · obtain rfl := List.mem_singleton.1 hq
      refine ⟨.inr rfl, Nat.le_refl _, (show 1 ≤ maxLen by decide), fun j l' t' ys' hj => ?_⟩
      have hj0 : j = 0 := by
        have := (List.getElem?_eq_some_iff.1 hj).1
        simp at this
        exact this
      subst hj0
      cases hj
      have hc : ∀ k, w1.cell? ⟨w.heap.size + 2, k, none⟩ = #[Value.bool l, Value.string t, Value.slice a n c][k]? := fun k => by
        rw [hw1]
        refine (World.cell?_of_block (a := ⟨w.heap.size + 2, k, none⟩) (Below.heap_alloc _ _ _ (by simp))).trans (World.cell?_alloc_at _ _ _ _ (by simp))
      exact ⟨a, c, hc 0, hc 1, by rw [← hn]; exact hc 2, hts, hG⟩
    · refine ⟨#[], 0, ?_, by simp⟩
      rw [hw1]
      refine (Below.heap_alloc _ _ _ (by simp)).trans ((Below.heap_alloc _ _ _ (by simp)).trans ?_)
      have e : w.heap.size + 1 = (w.alloc (Obj.cells #[Value.bool l, Value.string t, Value.slice a n c] 122)).heap.size := by simp
      show ((w.alloc (Obj.cells #[Value.bool l, Value.string t, Value.slice a n c] 122)).heap.push (Obj.map #[] 0))[w.heap.size + 1]? = _
      rw [e]
      exact Array.getElem?_push_size
    · simp [wtd, Tm.partss]
  rw [← hn]
  have HN := Lib.hid hn
  have HG := Lib.hid hG
  have H0 := Lib.hid h0
  have HW1 := Lib.hid hw1
  clear hn hG h0 hts hsm
  have hmm := @run_makeMap Tryz.prog
  go_enter Tryz.func136, Tryz.ntmps136
  go_wp2_with fail
  refine Eq.mp (congrArg (Code.wp _ _ _ _) hw1) ?_
  clear hw1
  go_loopw [4] (fun v wr => ∃ W, Todo w w1 W v wr) (fun v wr => leastN fun W => Todo w w1 W v wr)
  case atStart => exact ⟨_, H0.out⟩
  case round =>
    have hs := leastN_spec hrel
    obtain ⟨M, hM⟩ : ∃ M, M = leastN (fun W => Todo w w1 W u4 wr) := ⟨_, rfl⟩
    rw [← hM] at hs
    have HM := Lib.hid hM
    clear hrel hM
    obtain ⟨qs, hrow, hown, hgood, hpm, hoff, hwt, hle⟩ := hs
    have hbel : Below w.heap.size w wr := hb1.trans (hoff.below (fun i hi => by omega) (by omega))
    have HB := Lib.hid hbel
    have HPM := Lib.hid hpm
    have HOFF := Lib.hid hoff
    clear hbel hpm hoff
    rcases List.eq_nil_or_concat qs with rfl | ⟨rs, p, rfl⟩
    · obtain ⟨a4, c4, rfl, -, -⟩ := hrow.form'
      clear hrow hown hgood hwt
      go_wp2_with fail
      go_ret
      exact ⟨true, rfl, trivial, HB.out⟩
    · obtain ⟨k, hk⟩ : ∃ k, k = rs.length := ⟨_, rfl⟩
      have hlen : (rs.concat p).length = k + 1 := by rw [List.length_concat, hk]
      rw [hlen] at hrow
      obtain ⟨bp, op, cp, xs⟩ := p
      obtain ⟨nx, hnx⟩ : ∃ nx, nx = xs.length := ⟨_, rfl⟩
      obtain ⟨b0, cap0, rfl, r1, r2, r3, r4, r5, r6⟩ := hrow.pos (by omega)
      have hpc : wr.cell? ⟨b0, k, none⟩ = some (.slice (some ⟨bp, op, none⟩) nx cp) := by
        refine r6 k _ ?_
        rw [List.concat_eq_append, List.map_append, List.getElem?_append_right (by simp; omega)]
        simp [TD.val, hk, hnx]
      have hrow2 : Row 1 w.heap.size wr (.slice (some ⟨b0, 0, none⟩) k cap0) k (rs.map TD.val) := by
        refine ⟨by simp [hk], .inr ⟨b0, cap0, rfl, r1, r2, by omega, r4, r5, fun j u hu => r6 j u ?_⟩⟩
        rw [List.concat_eq_append, List.map_append, List.getElem?_append_left]
        · exact hu
        · exact (List.getElem?_eq_some_iff.1 hu).1
      obtain ⟨g1, g2, g3, g4⟩ := hgood (bp, op, cp, xs) (by simp)
      have hwt2 : wtd rs + (2 * Tm.partss xs + 1) = M := by
        rw [← hwt, List.concat_eq_append, wtd_app]
        simp [wtd]
      have hgood2 : ∀ q ∈ rs, TD.good w w1 q := fun q hq => hgood q (by simp [hq])
      have hown2 : b0 = w.heap.size + 3 ∨ w.heap.size + 4 ≤ b0 := hown b0 rfl
      have hkM : k ≤ 2000001 := by
        have := len_wtd rs
        omega
      have HROW2 := Lib.hid hrow2
      have HG4 := Lib.hid g4
      have HWT2 := Lib.hid hwt2
      have HGOOD2 := Lib.hid hgood2
      have HK := Lib.hid hk
      have HNX := Lib.hid hnx
      clear hrow hown hgood hwt hrow2 g4 hwt2 hgood2 hk hnx hlen r6
      have r5k := r5 k (by omega)
      have r3' : k + 1 ≤ cap0 := r3
      unfold maxLen at r4 g3
      dsimp only at g1 g2 g3
      have hnx9 : nx ≤ cp := by have := HNX.out; omega
      have hk9 : (k : Int) + 1 - 1 = k := by omega
      have hk8 : RowKit.wrap64 ((k : Int) + 1 - 1) = k := by unfold RowKit.wrap64; omega
      clear r5 
      go_wp2_with fail
      obtain ⟨w0, hw0⟩ : ∃ w0, w0 = wr := ⟨wr, rfl⟩
      rw [← hw0] at hpc r2 r5k HROW2 HB HPM HOFF HM
      have HW0 := Lib.hid hw0
      clear hw0
      go_loopw [4, 30] (fun v i wr => ∃ (j : Nat) (W : Nat), j ≤ nx ∧ i = .int .i64 (j : Nat) ∧ Todo w w1 W v wr ∧ W + 2 * Tm.partss (xs.drop j) + 1 ≤ M) (fun v i wr => nx - (intOf i).toNat)
      case atStart =>
        refine ⟨0, wtd rs, Nat.zero_le _, rfl, ⟨rs, by rw [← HK.out, ← HW0.out]; exact HROW2.out, fun b hb => ?_, HGOOD2.out, by rw [← HW0.out]; exact HPM.out, by rw [← HW0.out]; exact HOFF.out, rfl, by have := HWT2.out; omega⟩, ?_⟩
        · have : b0 = b := by simpa [Value.ownBlock] using hb
          omega
        · rw [List.drop_zero]; have := HWT2.out; omega
      case round =>
        obtain ⟨j, W, hj, rfl, htodo, hW⟩ := hrel
        have HTODO := Lib.hid htodo
        obtain ⟨qs, hrow, hown, hgood, hpm, hoff, hwt, hle2⟩ := htodo
        have hbel : Below w.heap.size w wr := hb1.trans (hoff.below (fun i hi => by omega) (by omega))
        obtain ⟨m, hm⟩ : ∃ m, m = qs.length := ⟨_, rfl⟩
        rw [← hm] at hrow
        obtain ⟨a4, c4, rfl, q1, q2⟩ := hrow.form'
        have HROW := Lib.hid hrow
        have HOWN := Lib.hid hown
        have HGOOD := Lib.hid hgood
        have HPM1 := Lib.hid hpm
        have HOFF1 := Lib.hid hoff
        have HWT := Lib.hid hwt
        have HB1 := Lib.hid hbel
        have HMM := Lib.hid hm
        have hm6 : m ≤ 2000001 := by
          have := len_wtd qs
          omega
        clear hrow hown hgood hpm hwt hbel hm
        by_cases hjn : j < nx
        · have hjx : j < xs.length := by rw [← HNX.out]; exact hjn
          obtain ⟨x, hx⟩ : ∃ x, xs[j]? = some x := ⟨xs[j], List.getElem?_eq_getElem hjx⟩
          obtain ⟨l1, t1, ys1⟩ := x
          obtain ⟨a1, c1, e1, e2, e3, e4, hs1'⟩ := HG4.out j l1 t1 ys1 hx
          have hbp : bp < w1.heap.size := by omega
          have hbn : ¬ (bp = w.heap.size + 1 ∨ bp = w.heap.size + 3) := by omega
          have d1 := (hoff.cell (p := ⟨bp, op + j * 3, none⟩) hbp hbn).trans e1
          have d2 := (hoff.cell (p := ⟨bp, op + j * 3 + 1, none⟩) hbp hbn).trans e2
          have d3 := (hoff.cell (p := ⟨bp, op + j * 3 + 2, none⟩) hbp hbn).trans e3
          obtain ⟨n1, hn1⟩ : ∃ n1, n1 = ys1.length := ⟨_, rfl⟩
          rw [← hn1] at d3 hs1'
          have hp := partss_at hx
          rw [hp, Tm.parts] at hW
          have HS1 := Lib.hid hs1'
          have HN1 := Lib.hid hn1
          have hn1c : n1 ≤ c1 ∧ c1 ≤ maxLen := by
            rw [hn1] at hs1'
            obtain ⟨a', c', e, h1, h2⟩ := hs1'.form
            injection e with e1 e2 e3
            omega
          have hc := fun wz => fright_any l1 t1 a1 n1 c1 wz (by omega)
          have HC := Lib.hid hc
          clear e1 e2 e3 hs1' hn1 hoff hx hp hc
          unfold maxLen at hn1c q2
          go_wp2_with fail
          refine (HC.out _).mono ?_
          rintro e w2 ⟨rfl, hb2⟩
          have hb3 : Below wr.heap.size wr w2 := ((Below.refl _ _).alloc (Nat.le_refl _) _).trans (hb2.mono (by simp))
          have hcz : ∀ k, w2.cell? ⟨wr.heap.size, k, none⟩ = #[Value.bool l1, Value.string t1, Value.slice a1 n1 c1][k]? := fun k => (hb2.cell (p := ⟨wr.heap.size, k, none⟩) (by simp)).trans (World.cell?_alloc_at _ _ _ _ rfl)
          have z1 : w2.cell? ⟨wr.heap.size, 0, none⟩ = some (.bool l1) := hcz 0
          have z2 : w2.cell? ⟨wr.heap.size, 1, none⟩ = some (.string t1) := hcz 1
          have z3 : w2.cell? ⟨wr.heap.size, 2, none⟩ = some (.slice a1 n1 c1) := hcz 2
          have zl : wr.heap.size < w2.heap.size := by have := hb2.size; simp at this; omega
          have HB3 := Lib.hid hb3
          clear hb2 hcz hb3 d1 d2 d3
          cases hr : rightB l1 t1 n1 with
          | false =>
            clear hr
            go_wp2_with fail
            go_ret
            exact ⟨false, rfl, trivial, HB1.out.trans (HB3.out.mono (HB1.out.size))⟩
          | true =>
            clear hr
            by_cases hn0 : n1 = 0
            · have hz0 : ((n1 : Int) == 0) = true := by rw [beq_iff_eq]; omega
              have HN0 := Lib.hid hn0
              clear hn0
              go_wp2_with fail
              refine ⟨⟨j + 1, W, hjn, by go_num, HTODO.out.below hs1 HB3.out, by omega⟩, by simp [intOf]; omega⟩
            · have hz0 : ((n1 : Int) == 0) = false := by rw [beq_eq_false_iff_ne]; omega
              have hpos : 0 < n1 := by omega
              have hsg : SlG w (.slice a1 ys1.length c1) ys1 := by rw [← HN1.out]; exact HS1.out
              obtain ⟨b1, o1, c1', he1, -, -, hf1, hgr⟩ := hsg.pos (by rintro rfl; have := HN1.out; simp at this; omega)
              injection he1 with he1 _ he2
              subst he1
              subst he2
              have hb1w : b1 < w.heap.size := hgr.1
              have hsh : (w.shape? b1).isSome = true := by
                obtain ⟨y, r, hyr⟩ := List.exists_cons_of_ne_nil (l := ys1) (by rintro rfl; have := HN1.out; simp at this; omega)
                obtain ⟨ly, ty, yy⟩ := y
                obtain ⟨_, _, hc0, _⟩ := hgr.2 0 ly ty yy (by rw [hyr]; rfl)
                exact shape_of_cell hc0
              have hbw2 : Below w.heap.size w w2 := HB1.out.trans (HB3.out.mono (HB1.out.size))
              have hf2 : w2.frozen? ⟨b1, o1, none⟩ = false := (World.frozen?_of_block (w := w) (a := ⟨b1, o1, none⟩) (hbw2.block b1 hb1w)).trans hf1
              have hsh2 : (w2.shape? b1).isSome = true := by rw [shape_of_block (hbw2.block b1 hb1w)]; exact hsh
              have hpm2 : PMap w2 IsN w.heap.size (w.heap.size + 1) := by
                obtain ⟨_, _, _, _, h, _⟩ := HTODO.out.below hs1 HB3.out
                exact h
              obtain ⟨fi, hfi⟩ := Tryz.infoF
              obtain ⟨v9, nd, hrun, z, rfl, hz⟩ := run_lookup_ptr (P := Tryz.prog) (t := 247) Tryz.underlying247 Tryz.underlying249 hfi Tryz.cellsF Tryz.zeroI (V := IsN) ⟨0, rfl, by decide⟩ hpm2 hf2 hsh2
              have hmem1 : TD.good w w1 (b1, o1 + z * 3, c1 - z, ys1.drop z) := by
                refine ⟨.inl hb1w, ?_, ?_, fun i l' t' ys' hi => ?_⟩
                · show (ys1.drop z).length ≤ c1 - z
                  rw [List.length_drop, ← HN1.out]; omega
                · show c1 - z ≤ maxLen
                  unfold maxLen; omega
                · obtain ⟨a', c', f1, f2, f3, f4, f5⟩ := (hgr.drop z).2 i l' t' ys' hi
                  exact ⟨a', c', (hb1.cell (p := ⟨b1, o1 + z * 3 + i * 3, none⟩) hb1w).trans f1, (hb1.cell (p := ⟨b1, o1 + z * 3 + i * 3 + 1, none⟩) hb1w).trans f2, (hb1.cell (p := ⟨b1, o1 + z * 3 + i * 3 + 2, none⟩) hb1w).trans f3, f4, f5⟩
              have HF2 := Lib.hid hf2
              have HSH2 := Lib.hid hsh2
              have HPM2 := Lib.hid hpm2
              have HFI := Lib.hid hfi
              have HHB1 := Lib.hid hb1w
              have HQ := Lib.hid hmem1
              clear hsg hf1 hgr hsh hbw2 hf2 hsh2 hpm2 hfi hn0 hb1w hmem1
              by_cases hzn : z < n1
              · have hzi : (z : Int) < n1 := by omega
                have hzc : ¬ c1 = z := by omega
                have hsrc : Src Tryz.prog 1 248 (.slice (some ⟨w2.heap.size, 0, none⟩) 1 1) 1 [.slice (some ⟨b1, o1 + z * 3, none⟩) (n1 - z) (c1 - z)] ((w2.drewN nd).alloc (.cells #[.slice (some ⟨b1, o1 + z * 3, none⟩) (n1 - z) (c1 - z)] 120)) :=
                  src_new (P := Tryz.prog) (w := w2.drewN nd) (k := 1) Tryz.underlying248 [.slice (some ⟨b1, o1 + z * 3, none⟩) (n1 - z) (c1 - z)] 1 120 1 rfl (by intro u hu; obtain rfl := List.mem_singleton.1 hu; rfl)
                have hal : ∀ o, Below w2.heap.size w2 ((w2.drewN nd).alloc o) := fun o => (Below.drewN (Below.refl _ _)).alloc (by simp) o
                have hwr4 : w.heap.size + 4 ≤ wr.heap.size := by have := HOFF1.out.size; omega
                have hown' : ∀ b, (Value.slice a4 m c4).ownBlock = some b → b < wr.heap.size := fun b hb => (HROW.out.lt b hb).2
                have hlt1 : w.heap.size + 1 < w2.heap.size := by omega
                have HSRC := Lib.hid hsrc
                have HAL := Lib.hid hal
                have HOWN' := Lib.hid hown'
                clear hsrc hal hown'
                go_wp2_with (at_builtin; refine wpList_append_row rfl (.tmp 52) (.tmp 57) 248 248 rfl 1 120 (.slice none 0 0) 24 Tryz.underlying248 Tryz.infoL rfl w.heap.size (.slice a4 m c4) m (qs.map TD.val) (by simp [Act.eval]) (by exact (HROW.out.below (Below.drewN HB3.out)).alloc _) (.slice (some ⟨w2.heap.size, 0, none⟩) 1 1) (by simp [Act.eval]) 1 [.slice (some ⟨b1, o1 + z * 3, none⟩) (n1 - z) (c1 - z)] (by exact HSRC.out) (by simp; omega) (by omega) (by decide) ?_; intro v6 w6 hr6 ho6 hw6; have hblk : ∀ i, i < w2.heap.size → (i < w.heap.size ∨ i = w.heap.size + 1 ∨ i = wr.heap.size) → w6.heap[i]? = w2.heap[i]? := (fun i hi hor => (ho6.block i (by simp; omega) (fun e => by have h1 := HOWN.out _ e; have h2 := HOWN'.out _ e; omega)).trans ((HAL.out _).block i hi)); have k3 := (World.cell?_of_block (w := w2) (w' := w6) (a := ⟨wr.heap.size, 2, none⟩) (hblk _ zl (.inr (.inr rfl)))).trans z3; obtain ⟨w7, hrun7, hp7, ho7⟩ := run_mapUpdate_ptr (P := Tryz.prog) (t := 247) Tryz.underlying247 Tryz.underlying249 HFI.out Tryz.cellsF (V := IsN) (HPM2.out.carry (hblk _ hlt1 (.inr (.inl rfl))) (fun i hi => hblk i (by omega) (.inl hi))) ((World.frozen?_of_block (w := w2) (w' := w6) (a := ⟨b1, o1, none⟩) (hblk b1 (by have := HHB1.out; omega) (.inl HHB1.out))).trans HF2.out) (by rw [shape_of_block (hblk b1 (by have := HHB1.out; omega) (.inl HHB1.out))]; exact HSH2.out) HHB1.out (Nat.le_succ _) (v := .int .i64 (n1 : Nat)) ⟨n1, rfl, by omega⟩; have HR6 := Lib.hid hr6; have HO6 := Lib.hid ho6; have HW6 := Lib.hid hw6; have HP7 := Lib.hid hp7; have HO7 := Lib.hid ho7; clear hr6 ho6 hw6 hblk hp7 ho7)
                have hdp := partss_drop ys1 z
                have hzl : (ys1.drop z).length = n1 - z := by rw [List.length_drop, ← HN1.out]
                have hv9 : TD.val (b1, o1 + z * 3, c1 - z, ys1.drop z) = .slice (some ⟨b1, o1 + z * 3, none⟩) (n1 - z) (c1 - z) := by show Value.slice _ (ys1.drop z).length _ = _; rw [hzl]
                refine ⟨⟨j + 1, W + (2 * Tm.partss (ys1.drop z) + 1), hjn, by go_num, ?_, by omega⟩, by simp [intOf]; omega⟩
                refine todo_push hs1 HOWN.out HGOOD.out HQ.out (((HOFF1.out.trans (Off.of_below HB3.out)).drewN).alloc _) ?_ HO6.out HW6.out HP7.out HO7.out (by rw [HWT.out]) (by omega)
                rw [hv9, ← HMM.out]
                exact HR6.out
              · have hzi : ¬ (z : Int) < n1 := by omega
                go_wp2_with fail
                refine ⟨⟨j + 1, W, hjn, by go_num, HTODO.out.below hs1 (Below.drewN HB3.out), by omega⟩, by simp [intOf]; omega⟩
        · have hge : ¬ (j : Int) < nx := by omega
          have hjn2 : j = nx := by omega
          go_wp2_with fail
          refine ⟨⟨W, HTODO.out⟩, ?_⟩
          rw [← HW0.out, ← HM.out]
          exact Nat.lt_of_le_of_lt (leastN_le HTODO.out) (by omega)
end Go.Proofs.YtojnagonhihknaaGreatDoor
set_option linter.unusedVariables false
namespace Go.Proofs.YtojnagonhihknaaGreatDoor
open Go.ChangeShapes Go.WideShapes Go.ChangeAt Go.RowKit

noncomputable def wrV (p : Pt) : Value := if rightP p then .nilIface else errV 10

theorem sound_parts {p : Pt} (h : soundB p = true) : p.note.size ≤ 100 ∧ p.ops.length ≤ 400 ∧ p.deps.length ≤ 64 ∧ linesN p.ops ≤ 300 := by
  unfold soundB at h
  simp only [Bool.and_eq_true, decide_eq_true_eq] at h
  refine ⟨h.1.1.1, h.1.1.2, (risB_iff.1 h.1.2).1, ?_⟩
  have := ops_lines p.ops 0 (by omega) h.2
  omega

theorem liT_parts (xs : List Tm) : (liT xs).parts = Tm.partss xs + 1 := by unfold liT; rw [Tm.parts]
theorem txT_parts (t : ByteArray) : (txT t).parts = 1 := by unfold txT; rw [Tm.parts, Tm.partss]
theorem nuT_parts (n : Int) : (nuT n).parts = 1 := txT_parts _
theorem rfT_parts (r : Rf) : (rfT r).parts = 3 := by simp [rfT, liT_parts, Tm.partss, nuT_parts]
theorem tsT_parts (l : Lb) : (tsT l).parts = l.length + 1 := by
  rw [tsT, liT_parts]
  congr 1
  induction l with
  | nil => rfl
  | cons x r ih => simp only [List.map_cons, Tm.partss, txT_parts, ih, List.length_cons]; omega
theorem opT_parts (o : Opp) : (opT o).parts = o.lines.length + 9 := by
  simp only [opT, liT_parts, Tm.partss, nuT_parts, rfT_parts, tsT_parts]; omega
theorem ops_parts (l : List Opp) : Tm.partss (l.map opT) = 9 * l.length + linesN l := by
  induction l with
  | nil => rfl
  | cons x r ih => simp only [List.map_cons, Tm.partss, opT_parts, ih, List.length_cons, linesN]; omega
theorem ptT_parts (p : Pt) : (ptT p).parts = 5 + p.deps.length + 9 * p.ops.length + linesN p.ops := by
  simp only [ptT, liT_parts, Tm.partss, txT_parts, tsT_parts, ops_parts]; omega

theorem right_false {p : Pt} (h : soundB p = false ∨ ¬ CanW 0 [] (ptT p)) : rightP p = false := by
  unfold rightP
  rcases h with h | h
  · rw [h]; rfl
  · rw [can_iff] at h
    rw [decide_eq_false h, Bool.and_false]
theorem right_true {p : Pt} (h : soundB p = true) (h2 : CanW 0 [] (ptT p)) : rightP p = true := by
  unfold rightP
  rw [can_iff] at h2
  rw [h, decide_eq_true h2]; rfl

set_option maxHeartbeats 4000000 in
set_option maxRecDepth 100000 in
theorem pwrite_any (p : Pt) (dv ov : Value) (w : World) (hp : PReads w p.note dv ov p) (hf : p.fine) (ht : HasTab w) :
    Calls Tryz.prog 81 #[ptV p.note dv ov] w fun e w' => e = .returned (.tuple #[.string (tx (bytesP p)), wrV p]) ∧ Below w.heap.size w w' := by
  obtain ⟨da, dc, hdv, _⟩ := hp.deps.form
  obtain ⟨oa, oc, hov, _⟩ := hp.ops.form
  subst hdv
  subst hov
  obtain ⟨m, hm⟩ : ∃ m, m = p.deps.length := ⟨_, rfl⟩
  obtain ⟨n, hn⟩ : ∃ n, n = p.ops.length := ⟨_, rfl⟩
  obtain ⟨t, htt⟩ : ∃ t, t = p.note := ⟨_, rfl⟩
  have hb1 : ∀ o1, Below w.heap.size w (w.alloc o1) := fun o1 => (Below.refl _ _).alloc (Nat.le_refl _) _
  have c1 : ∀ wz, Below w.heap.size w wz → Calls Tryz.prog 111 #[ptV t (.slice da m dc) (.slice oa n oc)] wz fun e w' => e = .returned (.bool (soundB p)) ∧ Below wz.heap.size wz w' := fun wz hz => by
    rw [htt, hm, hn]; exact psound_any p _ _ wz (hp.below hz) hf
  have c2 : soundB p = true → ∀ wz, Below w.heap.size w wz → Calls Tryz.prog 113 #[ptV t (.slice da m dc) (.slice oa n oc)] wz fun e w' => ∃ v, e = .returned v ∧ IsV (fun i => wz.heap.size ≤ i) w' v (ptT p) ∧ Below wz.heap.size wz w' := fun hs wz hz => by
    obtain ⟨_, h2, h3, h4⟩ := sound_parts hs
    rw [htt, hm, hn]; exact pform_any _ p _ _ wz (hp.below hz) hf h3 h2 h4 (ht.below hz) (fun i hi => hi)
  rw [← hm, ← hn, ← htt]
  obtain ⟨S, hS⟩ : ∃ S, S = soundB p := ⟨_, rfl⟩
  rw [← hS] at c1 c2
  have C1 := Lib.hid c1
  have C2 := Lib.hid c2
  have HS := Lib.hid hS
  have HB1 := Lib.hid hb1
  have HTB := Lib.hid ht
  clear c1 c2 hS hb1 ht hm hn htt hp hf
  cases S with
  | false =>
    have hr := right_false (.inl HS.out.symm)
    have e1 : bytesP p = [] := by unfold bytesP; rw [hr]; rfl
    have e2 : wrV p = errV 10 := by unfold wrV; rw [hr]; rfl
    rw [e1, e2]
    clear hr e1 e2
    go_enter Tryz.func81, Tryz.ntmps81
    go_wp2_with fail
    refine (C1.out _ (HB1.out _)).mono ?_
    rintro e w1 ⟨rfl, hb⟩
    obtain ⟨_, qb, _⟩ := boxA1 hb
    have QB := Lib.hid qb
    clear hb qb
    go_wp2_with fail
    go_ret2
    exact ⟨rfl, QB.out⟩
  | true =>
    go_enter Tryz.func81, Tryz.ntmps81
    go_wp2_with fail
    refine (C1.out _ (HB1.out _)).mono ?_
    rintro e w1 ⟨rfl, hb⟩
    obtain ⟨q, qb, qs⟩ := boxA1 hb
    have q0 := q 0
    have q1 := q 1
    have q2 := q 2
    have QB := Lib.hid qb
    clear hb qb q qs
    go_wp2_with fail
    refine (C2.out trivial _ QB.out).mono ?_
    rintro e w2 ⟨v, rfl, ⟨l, t2, ys, a, k, c, rfl, hk, hT, hts, hsl⟩, hb⟩
    have QB2 := Lib.hid (QB.out.trans (hb.mono QB.out.size))
    clear hb q0 q1 q2
    have hpar : (Tm.mk l t2 ys).parts ≤ 1000000 := by
      rw [← hT, ptT_parts]
      obtain ⟨_, h2, h3, h4⟩ := sound_parts HS.out.symm
      omega
    have hwr := write_any l t2 ys (· < w2.heap.size) (fun _ => True) w2 a c (by rw [← hk]; exact hk ▸ hsl.g.sl) hts (fun i h => h) (HTB.out.below QB2.out) (fun _ wz hz => sound_any l t2 ys wz a c ((by rw [← hk]; exact hk ▸ hsl.g : SlG w2 (.slice a ys.length c) ys).keep hz) hts hpar)
    rw [← hk, ← hT] at hwr
    have HW := Lib.hid hwr
    clear hwr hpar hsl hk hT
    go_wp2_with fail
    refine HW.out.mono ?_
    rintro e w3 ⟨hb, hc⟩
    have QB3 := Lib.hid (QB2.out.trans (hb.mono QB2.out.size))
    clear hb
    rcases hc with ⟨hcan, rfl⟩ | ⟨hcan, r, -, rfl⟩
    · have hr := right_true HS.out.symm hcan
      have e1 : bytesP p = (ptT p).bytes := by unfold bytesP; rw [hr]; rfl
      have e2 : wrV p = .nilIface := by unfold wrV; rw [hr]; rfl
      have E1 := Lib.hid e1
      have E2 := Lib.hid e2
      clear hr e1 e2 hcan
      go_wp2_with fail
      go_ret2
      rw [E1.out, E2.out]
      exact ⟨rfl, QB3.out⟩
    · have hr := right_false (.inr hcan)
      have e1 : bytesP p = [] := by unfold bytesP; rw [hr]; rfl
      have e2 : wrV p = errV 10 := by unfold wrV; rw [hr]; rfl
      have E1 := Lib.hid e1
      have E2 := Lib.hid e2
      clear hr e1 e2 hcan
      go_wp2_with fail
      all_goals go_ret2
      all_goals rw [E1.out, E2.out]
      all_goals exact ⟨rfl, QB3.out⟩
end Go.Proofs.YtojnagonhihknaaGreatDoor
set_option linter.unusedVariables false
namespace Go.Proofs.YtojnagonhihknaaGreatDoor
open Go.ChangeShapes Go.WideShapes Go.ChangeAt Go.RowKit

theorem ba_tx (l : List UInt8) : (tx l).size = l.length := by show l.toArray.size = _; rw [List.size_toArray]
theorem bytesP_len (p : Pt) : (bytesP p).length ≤ 65536 := by
  unfold bytesP
  by_cases h : rightP p = true
  · rw [if_pos h]
    unfold rightP at h
    simp only [Bool.and_eq_true, decide_eq_true_eq] at h
    exact h.2
  · rw [if_neg h]; simp
set_option maxHeartbeats 2000000 in
theorem pright_any (p : Pt) (dv ov : Value) (w : World) (hp : PReads w p.note dv ov p) (hf : p.fine) (ht : HasTab w) :
    Calls Tryz.prog 45 #[ptV p.note dv ov] w fun e w' => e = .returned (.bool (rightP p)) ∧ Below w.heap.size w w' := by
  have hb1 : ∀ o1, Below w.heap.size w (w.alloc o1) := fun o1 => (Below.refl _ _).alloc (Nat.le_refl _) _
  obtain ⟨da, dc, hdv, _⟩ := hp.deps.form
  obtain ⟨oa, oc, hov, _⟩ := hp.ops.form
  subst hdv
  subst hov
  obtain ⟨m, hm⟩ : ∃ m, m = p.deps.length := ⟨_, rfl⟩
  obtain ⟨n, hn⟩ : ∃ n, n = p.ops.length := ⟨_, rfl⟩
  have c1 : ∀ wz, Below w.heap.size w wz → Calls Tryz.prog 81 #[ptV p.note (.slice da m dc) (.slice oa n oc)] wz fun e w' => e = .returned (.tuple #[.string (tx (bytesP p)), wrV p]) ∧ Below wz.heap.size wz w' := fun wz hz => by
    rw [hm, hn]; exact pwrite_any p _ _ wz (hp.below hz) hf (ht.below hz)
  rw [← hm, ← hn]
  obtain ⟨t, htt⟩ : ∃ t, t = p.note := ⟨_, rfl⟩
  rw [← htt] at c1 ⊢
  obtain ⟨r, hr⟩ : ∃ r, r = rightP p := ⟨_, rfl⟩
  have hw : wrV p = if r then .nilIface else errV 10 := by unfold wrV; rw [← hr]
  rw [hw] at c1
  rw [← hr]
  obtain ⟨X, hX⟩ : ∃ X, X = bytesP p := ⟨_, rfl⟩
  rw [← hX] at c1
  have C1 := Lib.hid c1
  have HB1 := Lib.hid hb1
  clear c1 hb1 hw hr hX hm hn htt hp hf ht
  cases r with
  | true =>
    go_enter Tryz.func45, Tryz.ntmps45
    go_wp2_with fail
    refine (C1.out _ (HB1.out _)).mono ?_
    rintro e w1 ⟨rfl, hb⟩
    obtain ⟨_, qb, _⟩ := boxA1 hb
    have QB := Lib.hid qb
    clear hb qb
    go_wp2_with fail
    go_ret
    exact ⟨rfl, QB.out⟩
  | false =>
    go_enter Tryz.func45, Tryz.ntmps45
    go_wp2_with fail
    refine (C1.out _ (HB1.out _)).mono ?_
    rintro e w1 ⟨rfl, hb⟩
    obtain ⟨_, qb, _⟩ := boxA1 hb
    have QB := Lib.hid qb
    clear hb qb
    go_wp2_with fail
    go_ret
    exact ⟨rfl, QB.out⟩
theorem madeN_snoc {l : List Opp} {k : Nat} {x : Opp} (hx : l[k]? = some x) : madeN (l.take (k + 1)) = madeN (l.take k) + (if x.kind = 1 then x.lines.length else 0) := by
  rw [take_snoc hx, madeN_app]; simp [madeN]
set_option maxHeartbeats 4000000 in
set_option maxRecDepth 100000 in
theorem pmade_any (p : Pt) (dv ov : Value) (w : World) (hp : PReads w p.note dv ov p) (hl : linesN p.ops ≤ 4611686018427387904) :
    Calls Tryz.prog 50 #[ptV p.note dv ov] w fun e w' => e = .returned (.int .i64 (madeN p.ops : Nat)) ∧ Below w.heap.size w w' := by
  obtain ⟨oa, oc, hov, hon⟩ := hp.ops.form
  subst hov
  have hord := hp.ops
  obtain ⟨t, htt⟩ : ∃ t, t = p.note := ⟨_, rfl⟩
  obtain ⟨n, hnn⟩ : ∃ n, n = p.ops.length := ⟨_, rfl⟩
  obtain ⟨da, dc, hdv, _⟩ := hp.deps.form
  subst hdv
  obtain ⟨m, hm⟩ : ∃ m, m = p.deps.length := ⟨_, rfl⟩
  have hb1 : ∀ o1, Below w.heap.size w (w.alloc o1) := fun o1 => (Below.refl _ _).alloc (Nat.le_refl _) _
  rw [← htt, ← hm]
  rw [← hnn] at hord hon ⊢
  have HN := Lib.hid hnn
  have HO := Lib.hid hord
  have HL := Lib.hid hl
  have HB1 := Lib.hid hb1
  have hml := madeN_le p.ops
  have HML := Lib.hid hml
  clear hnn hord hl hb1 htt hp hm hml
  go_enter Tryz.func50, Tryz.ntmps50
  go_wp2_with fail
  go_loopw [3, 9] (fun v i wr => ∃ k L : Nat, k ≤ n ∧ i = .int .i64 (k : Nat) ∧ v = .int .i64 (L : Nat) ∧ L ≤ 4611686018427387904 ∧ Hid (L = madeN (p.ops.take k)) ∧ Hid (Below w.heap.size w wr)) (fun _ i _ => n - (intOf i).toNat)
  case atStart => exact ⟨0, 0, Nat.zero_le _, rfl, rfl, by omega, Lib.hid (by simp [madeN]), Lib.hid (HB1.out _)⟩
  case round =>
    obtain ⟨k, L, hk, rfl, rfl, hL, HLL, HB⟩ := hrel
    by_cases hlt : k < n
    · obtain ⟨x, hx⟩ : ∃ x, p.ops[k]? = some x := ⟨p.ops[k]'(by rw [← HN.out]; exact hlt), by simp⟩
      obtain ⟨b, o, rfl, hnl, hcl⟩ := HO.out.at hx
      clear hnl
      obtain ⟨lv, d0, d1, d2, d3, d4, d5, d6⟩ := (hcl.below HB.out).2 k x hx
      obtain ⟨la, lc, hlv, hln⟩ := d6.form
      subst hlv
      obtain ⟨N, hN⟩ : ∃ N, N = x.lines.length := ⟨_, rfl⟩
      have hms := madeN_snoc hx
      have hle := madeN_take p.ops (k + 1)
      rw [← hN] at d5 hms
      have hnle : N ≤ 4611686018427387904 := by have h1 := lines_mem (List.mem_of_getElem? hx); have := HL.out; omega
      have HMS := Lib.hid hms
      have HLE := Lib.hid hle
      clear hx hcl d6 hln hN hms hle
      obtain ⟨K, ⟨ax, ay⟩, ⟨bx, bY⟩, ls⟩ := x
      simp only at d0 d1 d2 d3 d4
      by_cases hK : K = 1
      · have hL2 : L + N = madeN (p.ops.take (k + 1)) := by rw [HMS.out, ← HLL.out, if_pos hK]
        have hL3 : L + N ≤ 4611686018427387904 := by have h1 := HLE.out; have h2 := HML.out; have h3 := HL.out; omega
        have HL2 := Lib.hid hL2
        clear hL2
        subst hK
        go_wp2_with fail
        exact ⟨⟨k + 1, L + N, by omega, by go_num, by go_num, hL3, HL2, Lib.hid (HB.out.alloc HB.out.size _)⟩, by simp [intOf]; omega⟩
      · have hL2 : L = madeN (p.ops.take (k + 1)) := by rw [HMS.out, ← HLL.out, if_neg hK, Nat.add_zero]
        have HL2 := Lib.hid hL2
        have e1 := neI hK
        clear hL2 hK
        go_wp2_with fail
        exact ⟨⟨k + 1, L, by omega, by go_num, rfl, hL, HL2, Lib.hid (HB.out.alloc HB.out.size _)⟩, by simp [intOf]; omega⟩
    · have hke : n ≤ k := by omega
      have hL2 : L = madeN p.ops := by have := HLL.out; rwa [List.take_of_length_le (by rw [← HN.out]; exact hke)] at this
      have HL2 := Lib.hid hL2
      clear hL2 hke
      go_wp2
      go_ret
      exact ⟨by rw [← HL2.out]; rfl, HB.out⟩
end Go.Proofs.YtojnagonhihknaaGreatDoor
set_option linter.unusedVariables false
namespace Go.Proofs.YtojnagonhihknaaGreatDoor
open Go.Lib (itoa)

theorem textss_all {α : Type} (f : α → Tm) (g : α → Nat) : ∀ (l : List α), (∀ x ∈ l, (f x).texts ≤ g x) → Tm.textss (l.map f) ≤ (l.map g).sum
  | [], _ => by simp [Tm.textss]
  | x :: r, h => by
    have ih := textss_all f g r (fun y hy => h y (by simp [hy]))
    have := h x (by simp)
    simp only [List.map_cons, Tm.textss, List.sum_cons]
    omega
theorem txT_texts (t : ByteArray) : (txT t).texts = t.size := by simp [txT, Tm.texts, Tm.textss]
theorem liT_texts (xs : List Tm) : (liT xs).texts = Tm.textss xs := by
  unfold liT
  rw [Tm.texts]
  have : noText.size = 0 := rfl
  omega
theorem nuT_texts {n : Int} (h : wfI n) : (nuT n).texts ≤ 21 := by
  unfold nuT
  rw [txT_texts]
  have h3 := Lib.itoa_length_le n h.1 h.2
  show (itoa n).toArray.size ≤ 21
  rw [List.size_toArray]
  exact h3
theorem rfT_texts {r : Rf} (h : r.wf) : (rfT r).texts ≤ 42 := by
  have h1 := nuT_texts h.1
  have h2 := nuT_texts h.2
  unfold rfT
  rw [liT_texts]
  simp only [Tm.textss]
  omega
theorem sum_const {α : Type} (l : List α) (c : Nat) : (l.map fun _ => c).sum = c * l.length := by
  induction l with
  | nil => simp
  | cons x r ih => rw [List.map_cons, List.sum_cons, ih, List.length_cons, Nat.mul_add]; omega
theorem tsT_texts (l : Lb) (c : Nat) (h : ∀ x ∈ l, x.size ≤ c) : (tsT l).texts ≤ c * l.length := by
  unfold tsT
  rw [liT_texts]
  refine Nat.le_trans (textss_all txT (fun _ => c) l (fun x hx => by rw [txT_texts]; exact h x hx)) ?_
  rw [sum_const]; exact Nat.le_refl _
theorem opT_texts {o : Opp} (h : o.wf) (hl : ∀ x ∈ o.lines, x.size ≤ 500) : (opT o).texts ≤ 105 + 500 * o.lines.length := by
  have h1 := nuT_texts h.1
  have h2 := rfT_texts h.2.1
  have h3 := rfT_texts h.2.2
  have h4 := tsT_texts o.lines 500 hl
  unfold opT
  rw [liT_texts]
  simp only [Tm.textss]
  omega
theorem ops_texts : ∀ (l : List Opp), (∀ o ∈ l, o.wf) → (∀ o ∈ l, ∀ x ∈ o.lines, x.size ≤ 500) → Tm.textss (l.map opT) ≤ 105 * l.length + 500 * linesN l
  | [], _, _ => by simp [Tm.textss]
  | o :: r, h, k => by
    have ih := ops_texts r (fun y hy => h y (by simp [hy])) (fun y hy => k y (by simp [hy]))
    have h1 := opT_texts (h o (by simp)) (k o (by simp))
    simp only [List.map_cons, Tm.textss, linesN, List.length_cons]
    omega
theorem ptT_texts {p : Pt} (hw : p.wf) (hn : p.note.size ≤ 100) (hd : ∀ x ∈ p.deps, x.size ≤ 64) (hl : ∀ o ∈ p.ops, ∀ x ∈ o.lines, x.size ≤ 500) : (ptT p).texts ≤ 107 + 64 * p.deps.length + 105 * p.ops.length + 500 * linesN p.ops := by
  have h1 := tsT_texts p.deps 64 hd
  have h2 := ops_texts p.ops hw hl
  unfold ptT
  rw [liT_texts]
  simp only [Tm.textss, txT_texts, liT_texts]
  have : headB.size = 7 := rfl
  omega
theorem rightL_size {x : ByteArray} (h : rightL x.data.toList = true) : x.size ≤ 64 := by
  unfold rightL at h
  simp only [Bool.and_eq_true, decide_eq_true_eq] at h
  have : x.data.toList.length = x.size := Array.length_toList
  omega
theorem opR_sizes {n m : Nat} {o : Opp} (h : opR n m o = true) : ∀ x ∈ o.lines, x.size ≤ 500 := by
  unfold opR at h
  intro x hx
  split at h
  · simp only [Bool.and_eq_true, List.all_eq_true] at h
    have := h.1.2 x hx
    unfold lineB at this
    simp only [Bool.and_eq_true, decide_eq_true_eq] at this
    exact this.1.1
  · split at h
    · simp only [Bool.and_eq_true, decide_eq_true_eq] at h
      rw [List.length_eq_zero_iff.1 h.1] at hx; cases hx
    · split at h
      · simp only [Bool.and_eq_true, decide_eq_true_eq] at h
        rw [List.length_eq_zero_iff.1 h.1.1.1] at hx; cases hx
      · cases h
theorem opsR_mem {n : Nat} : ∀ (l : List Opp) (m : Nat), opsR n m l = true → ∀ o ∈ l, ∃ m', opR n m' o = true
  | [], _, _, o, h => by cases h
  | x :: r, m, h, o, ho => by
    simp only [opsR, Bool.and_eq_true] at h
    rcases List.mem_cons.1 ho with rfl | ho
    · exact ⟨m, h.1⟩
    · exact opsR_mem r _ h.2 o ho
theorem madeN_lines {n : Nat} : ∀ (l : List Opp) (m : Nat), opsR n m l = true → madeN l = linesN l
  | [], _, _ => rfl
  | o :: r, m, h => by
    simp only [opsR, Bool.and_eq_true] at h
    have e := opR_lines h.1
    have ih := madeN_lines r _ h.2
    simp only [madeN, linesN, e, ih]
theorem rightP_of {p : Pt} (h1 : p.note.size ≤ 100) (h2 : p.ops.length ≤ 400) (h3 : risB p.deps = true) (h4 : opsR p.deps.length 0 p.ops = true) (h5 : madeN p.ops ≤ 300) : rightP p = decide ((ptT p).bytes.length ≤ 65536) := by
  have hs : soundB p = true := sound_yes h1 h2 h3 ((opsB_iff _ _ 0 (by omega)).2 ⟨h4, by omega⟩)
  unfold rightP
  rw [hs, Bool.true_and]
theorem rightP_no {p : Pt} (h : ¬ (p.note.size ≤ 100 ∧ p.ops.length ≤ 400 ∧ risB p.deps = true ∧ opsR p.deps.length 0 p.ops = true ∧ madeN p.ops ≤ 300)) : rightP p = false := by
  have hs : soundB p = false := sound_no (fun k => h ⟨k.1, k.2.1, k.2.2.1, by
    have := (opsB_iff _ _ 0 (by omega)).1 k.2.2.2
    exact ⟨this.1, by omega⟩⟩)
  exact right_false (.inl hs)
theorem opsR_step {deps k : Nat} {l : List Opp} {x : Opp} (h : opsR deps 0 (l.take k) = true) (hx : l[k]? = some x) (hf : opR deps (madeN (l.take k)) x = true) : opsR deps 0 (l.take (k + 1)) = true := by
  rw [take_snoc hx, opsR_app, h]; simp [opsR, hf]
theorem opsR_no {deps k : Nat} {l : List Opp} {x : Opp} (hx : l[k]? = some x) (hf : opR deps (madeN (l.take k)) x = false) : opsR deps 0 l = false := by
  have e : l = l.take k ++ x :: l.drop (k + 1) := by
    obtain ⟨h1, h2⟩ := List.getElem?_eq_some_iff.1 hx
    subst h2
    rw [← List.drop_eq_getElem_cons h1, List.take_append_drop]
  rw [e, opsR_app, Nat.zero_add]
  simp [opsR, hf]

theorem small_right {p : Pt} (hw : p.wf) (h1 : p.note.size ≤ 100) (h2 : p.ops.length ≤ 1) (h3 : risB p.deps = true) (hd : p.deps.length ≤ 1) (hdz : ∀ x ∈ p.deps, x.size ≤ 64) (h4 : opsR p.deps.length 0 p.ops = true) (h5 : linesN p.ops ≤ 1) (hl : ∀ o ∈ p.ops, ∀ x ∈ o.lines, x.size ≤ 500) : rightP p = true := by
  have hm := madeN_le p.ops
  rw [rightP_of h1 (by omega) h3 h4 (by omega), decide_eq_true_eq]
  have hb := Tm.bytes_le (ptT p)
  have ht := ptT_texts hw h1 hdz hl
  have hp := ptT_parts p
  omega
end Go.Proofs.YtojnagonhihknaaGreatDoor
