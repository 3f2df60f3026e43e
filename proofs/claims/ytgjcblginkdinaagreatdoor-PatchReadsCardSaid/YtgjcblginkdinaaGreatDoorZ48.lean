/- The contract of the document's opOf. The mathematics of the document's Read: what it takes and what it refuses. What stands while the document's Read gathers its ops. -/
import Derived.Test.YtgjcblginkdinaaGreatDoorZ32
import Derived.Test.YtgjcblginkdinaaGreatDoorZ42
import Derived.Test.YtgjcblginkdinaaGreatDoorZ43
import Derived.Test.YtgjcblginkdinaaGreatDoorZ47
set_option linter.unusedVariables false
namespace Go.Proofs.YtgjcblginkdinaaGreatDoor
open Go.ChangeShapes Go.WideShapes Go.ChangeAt Go.RowKit

def Opp.rng (o : Opp) : Prop := 1 ≤ o.kind ∧ o.kind ≤ 5 ∧ o.a.rng ∧ o.b.rng
def OpT (T : Tm) (o : Opp) (b : Bool) : Prop := (b = true → T = opT o ∧ o.wf ∧ o.rng) ∧ (b = false → ∀ o' : Opp, o'.wf → o'.rng → T ≠ opT o')
def OpTP (T : Tm) (w : World) (e : Ending) (w' : World) : Prop := ∃ o lv b, e = .returned (.tuple #[opV o lv, .bool b]) ∧ OpT T o b ∧ (∀ s ∈ o.lines, s.size ≤ T.texts) ∧ ReadsZ (fun i => w.heap.size ≤ i) w' lv o.lines ∧ Below w.heap.size w w'
theorem opT_shape {T : Tm} (h : ¬ (T.l = true ∧ T.xs.length = 4)) (o : Opp) : T ≠ opT o := fun e => h (by rw [e]; exact ⟨rfl, rfl⟩)
theorem opT_of {T : Tm} (hok : T.ok = true) (hl : T.l = true) (h4 : T.xs.length = 4) {k x : Int} {r1 r2 : Rf} {b1 b2 b3 : Bool} {ls : Lb} (h0 : NumT (nth T.xs 0) 1 5 k x) (h1 : RefT (nth T.xs 1) r1 b1) (h2 : RefT (nth T.xs 2) r2 b2) (h3 : TextsT (nth T.xs 3) ls b3) :
    OpT T ⟨k, r1, r2, ls⟩ ((x == 0) && b1 && b2 && b3) := by
  have hb := list_back hok hl
  rw [list4 h4] at hb
  constructor
  · intro h
    simp only [Bool.and_eq_true, beq_iff_eq] at h
    obtain ⟨⟨⟨rfl, g1⟩, g2⟩, g3⟩ := h
    rcases h0 with ⟨e0, w0, p0, q0, _⟩ | ⟨_, h, _⟩
    · obtain ⟨e1, w1, p1⟩ := h1.1 g1
      obtain ⟨e2, w2, p2⟩ := h2.1 g2
      have e3 := h3.1 g3
      refine ⟨?_, ⟨w0, w1, w2⟩, p0, q0, p1, p2⟩
      rw [hb, e0, e1, e2, e3]; rfl
    · cases h
  · intro h o' hw hr e
    have hb2 := hb.symm.trans e
    have hx : [nth T.xs 0, nth T.xs 1, nth T.xs 2, nth T.xs 3] = [nuT o'.kind, rfT o'.a, rfT o'.b, tsT o'.lines] := by
      unfold opT liT at hb2
      injection hb2
    simp only [List.cons.injEq, and_true] at hx
    obtain ⟨x0, x1, x2, x3⟩ := hx
    rcases h0 with ⟨_, _, _, _, rfl⟩ | ⟨_, _, h0⟩
    · cases b1 with
      | false => exact h1.2 rfl _ hw.2.1 hr.2.2.1 x1
      | true =>
        cases b2 with
        | false => exact h2.2 rfl _ hw.2.2 hr.2.2.2 x2
        | true =>
          cases b3 with
          | false => exact h3.2 rfl _ x3
          | true => cases h
    · exact h0 o'.kind hw.1 hr.1 hr.2.1 x0

structure OpW (w : World) (s : ByteArray) (v : Value) (W : World) : Prop where
  f0 : W.cell? ⟨w.heap.size, 0, none⟩ = some (.bool true)
  f1 : W.cell? ⟨w.heap.size, 1, none⟩ = some (.string s)
  f2 : W.cell? ⟨w.heap.size, 2, none⟩ = some v
  r : ∀ i, i < 6 → (W.cell? ⟨w.heap.size + 1, i, none⟩).isSome = true
  z : ∀ i, W.frozen? ⟨w.heap.size + 1, i, none⟩ = false
  b : Below w.heap.size w W
  lt : w.heap.size + 1 < W.heap.size
theorem OpW.below {w W W2 : World} {s : ByteArray} {v : Value} (h : OpW w s v W) (hb : Below W.heap.size W W2) : OpW w s v W2 := by
  have k : ∀ q i, q ≤ w.heap.size + 1 → W2.cell? ⟨q, i, none⟩ = W.cell? ⟨q, i, none⟩ := fun q i hq => hb.cell (p := ⟨q, i, none⟩) (by have := h.lt; show q < W.heap.size; omega)
  exact ⟨(k _ _ (by omega)).trans h.f0, (k _ _ (by omega)).trans h.f1, (k _ _ (by omega)).trans h.f2, fun i hi => by rw [k _ _ (Nat.le_refl _)]; exact h.r i hi,
    fun i => (hb.frozen (p := ⟨w.heap.size + 1, i, none⟩) h.lt).trans (h.z i), h.b.trans (hb.mono h.b.size), Nat.lt_of_lt_of_le h.lt hb.size⟩
theorem opW_new (w : World) (s : ByteArray) (v : Value) (t1 t2 : TypeId) (u0 u1 u2 u3 u4 u5 : Value) : OpW w s v ((w.alloc (.cells #[.bool true, .string s, v] t1)).alloc (.cells #[u0, u1, u2, u3, u4, u5] t2)) := by
  have hb := boxA2 (Below.refl _ ((w.alloc (.cells #[.bool true, .string s, v] t1)).alloc (.cells #[u0, u1, u2, u3, u4, u5] t2)))
  obtain ⟨q1, q2, qb, _⟩ := hb
  refine ⟨(q1 0).trans rfl, (q1 1).trans rfl, (q1 2).trans rfl, fun i hi => ?_, fun i => World.frozen?_alloc_at _ _ _ _ (by simp), qb, by simp⟩
  rw [q2 i]
  rcases i with _ | _ | _ | _ | _ | _ | i <;> first | rfl | omega

set_option maxHeartbeats 4000000 in
set_option maxRecDepth 100000 in
theorem ropOf (Z : Nat → Prop) (T : Tm) (hok : T.ok = true) (hpar : T.parts ≤ 1000000) (a : Option Addr) (c : Nat) (w : World) (hsl : SlL Z w (.slice a T.xs.length c) T.xs) :
    Calls Tryz.prog 44 #[fv T.l T.t (.slice a T.xs.length c)] w (OpTP T w) := by
  have hb2 : ∀ o1 o2, Below w.heap.size w ((w.alloc o1).alloc o2) := fun o1 o2 => ((Below.refl _ _).alloc (Nat.le_refl _) _).alloc (by simp) _
  by_cases hs : T.l = true ∧ T.xs.length = 4
  case neg =>
    have hpost : ∀ w', Below w.heap.size w w' → OpTP T w (.returned (.tuple #[opV ⟨0, ⟨0, 0⟩, ⟨0, 0⟩, []⟩ (.slice none 0 0), .bool false])) w' := fun w' hb => ⟨_, _, _, rfl, ⟨fun h => (by cases h), fun _ o' _ _ => opT_shape hs o'⟩, by simp, .inl ⟨rfl, _, _, rfl⟩, hb⟩
    obtain ⟨Q, hQ⟩ : ∃ Q, Q = OpTP T w := ⟨_, rfl⟩
    rw [← hQ] at hpost ⊢
    obtain ⟨m, hm⟩ : ∃ m, m = T.xs.length := ⟨_, rfl⟩
    obtain ⟨s, hs'⟩ : ∃ m, m = T.t := ⟨_, rfl⟩
    obtain ⟨l, hl⟩ : ∃ m, m = T.l := ⟨_, rfl⟩
    rw [← hm, ← hl] at hs
    rw [← hm, ← hs', ← hl]
    have HP := Lib.hid hpost
    have HB2 := Lib.hid hb2
    clear hpost hb2 hQ hm hs' hl hok hsl hpar
    cases l with
    | false =>
      clear hs
      go_enter Tryz.func44, Tryz.ntmps44
      go_wp2_with fail
      exact bodyPost_ret (v := .tuple #[opV ⟨0, ⟨0, 0⟩, ⟨0, 0⟩, []⟩ (.slice none 0 0), .bool false]) (by simp [results, Tryz.results44, go_sem]) rfl (HP.out _ (by first | exact HB2.out _ _ | exact set6_below (HB2.out _ _) (by omega)))
    | true =>
      have n2 : ((m : Int) == 4) = false := by
        have : m ≠ 4 := fun e => hs ⟨rfl, e⟩
        simp; omega
      have n3 : ((m : Int) != 4) = true := by
        have : m ≠ 4 := fun e => hs ⟨rfl, e⟩
        simp; omega
      clear hs
      go_enter Tryz.func44, Tryz.ntmps44
      go_wp2_with fail
      exact bodyPost_ret (v := .tuple #[opV ⟨0, ⟨0, 0⟩, ⟨0, 0⟩, []⟩ (.slice none 0 0), .bool false]) (by simp [results, Tryz.results44, go_sem]) rfl (HP.out _ (by first | exact HB2.out _ _ | exact set6_below (HB2.out _ _) (by omega)))
  case pos =>
    obtain ⟨hl, h4⟩ := hs
    have hxo := ok_xs hok
    have hxp : ∀ x ∈ T.xs, x.parts ≤ 1000000 := fun x hx => by have h1 := Tm.parts_mem hx; have h2 := xs_parts T; omega
    obtain ⟨b, o, c', ha, _, _, hrow⟩ := hsl.pos (by intro h; rw [h] at h4; cases h4)
    injection ha with ha _ hc
    subst ha
    subst hc
    have hm : ∀ j, j < 4 → nth T.xs j ∈ T.xs := fun j hj => nth_mem (by omega)
    have hbz := hrow.2.1
    obtain ⟨a0, c0, d00, d01, d02, _, _⟩ := hrow.one (j := 0) (by omega)
    obtain ⟨a1, c1, d10, d11, d12, _, s1⟩ := hrow.one (j := 1) (by omega)
    obtain ⟨a2, c2, d20, d21, d22, _, s2⟩ := hrow.one (j := 2) (by omega)
    obtain ⟨a3, c3, d30, d31, d32, _, s3⟩ := hrow.one (j := 3) (by omega)
    rw [Nat.zero_mul, Nat.add_zero] at d00 d01 d02
    rw [Nat.one_mul] at d10 d11 d12
    rw [Nat.add_assoc] at d11 d12 d21 d22 d31 d32
    have k0 := fun wz => rnumT (nth T.xs 0) (hxo _ (hm 0 (by omega))) a0 c0 1 5 wz (by omega) (by omega) (by omega) (by omega)
    have k1 := fun wz (hz : Below w.heap.size w wz) => rrefOf Z (nth T.xs 1) (hxo _ (hm 1 (by omega))) a1 c1 wz (s1.keep hz)
    have k2 := fun wz (hz : Below w.heap.size w wz) => rrefOf Z (nth T.xs 2) (hxo _ (hm 2 (by omega))) a2 c2 wz (s2.keep hz)
    have k3 := fun wz (hz : Below w.heap.size w wz) => rtextsD Z (nth T.xs 3) (hxo _ (hm 3 (by omega))) (Nat.le_trans (xs_len _) (hxp _ (hm 3 (by omega)))) a3 c3 wz (s3.keep hz)
    have hfin : ∀ (k x : Int) (r1 r2 : Rf) (b1 b2 b3 : Bool) (ls : Lb) (lv : Value) w', NumT (nth T.xs 0) 1 5 k x → RefT (nth T.xs 1) r1 b1 → RefT (nth T.xs 2) r2 b2 → TextsT (nth T.xs 3) ls b3 → (∀ s ∈ ls, s.size ≤ (nth T.xs 3).texts) →
        ReadsZ (fun i => w.heap.size ≤ i) w' lv ls → Below w.heap.size w w' → OpTP T w (.returned (.tuple #[opV ⟨k, r1, r2, ls⟩ lv, .bool ((x == 0) && b1 && b2 && b3)])) w' := fun k x r1 r2 b1 b2 b3 ls lv w' h0 h1 h2 h3 hs hr hb =>
      ⟨_, _, _, rfl, opT_of hok hl h4 h0 h1 h2 h3, fun s h => Nat.le_trans (hs s h) (xs_texts T _ (hm 3 (by omega))), hr, hb⟩
    obtain ⟨Q, hQ⟩ : ∃ Q, Q = OpTP T w := ⟨_, rfl⟩
    rw [← hQ] at hfin ⊢
    rw [hl, h4]
    obtain ⟨s, hs'⟩ : ∃ m, m = T.t := ⟨_, rfl⟩
    rw [← hs']
    obtain ⟨x0, hx0⟩ : ∃ x, x = nth T.xs 0 := ⟨_, rfl⟩
    obtain ⟨x1, hx1⟩ : ∃ x, x = nth T.xs 1 := ⟨_, rfl⟩
    obtain ⟨x2, hx2⟩ : ∃ x, x = nth T.xs 2 := ⟨_, rfl⟩
    obtain ⟨x3, hx3⟩ : ∃ x, x = nth T.xs 3 := ⟨_, rfl⟩
    rw [← hx0] at d00 d01 d02 k0 hfin
    rw [← hx1] at d10 d11 d12 k1 hfin
    rw [← hx2] at d20 d21 d22 k2 hfin
    rw [← hx3] at d30 d31 d32 k3 hfin
    obtain ⟨l0, hl0⟩ : ∃ x, x = x0.l := ⟨_, rfl⟩
    obtain ⟨t0, ht0⟩ : ∃ x, x = x0.t := ⟨_, rfl⟩
    obtain ⟨n0, hn0⟩ : ∃ x, x = x0.xs.length := ⟨_, rfl⟩
    obtain ⟨l1, hl1⟩ : ∃ x, x = x1.l := ⟨_, rfl⟩
    obtain ⟨t1, ht1⟩ : ∃ x, x = x1.t := ⟨_, rfl⟩
    obtain ⟨n1, hn1⟩ : ∃ x, x = x1.xs.length := ⟨_, rfl⟩
    obtain ⟨l2, hl2⟩ : ∃ x, x = x2.l := ⟨_, rfl⟩
    obtain ⟨t2, ht2⟩ : ∃ x, x = x2.t := ⟨_, rfl⟩
    obtain ⟨n2, hn2⟩ : ∃ x, x = x2.xs.length := ⟨_, rfl⟩
    obtain ⟨l3, hl3⟩ : ∃ x, x = x3.l := ⟨_, rfl⟩
    obtain ⟨t3, ht3⟩ : ∃ x, x = x3.t := ⟨_, rfl⟩
    obtain ⟨n3, hn3⟩ : ∃ x, x = x3.xs.length := ⟨_, rfl⟩
    rw [← hl0] at d00 k0
    rw [← ht0] at d01 k0
    rw [← hn0] at d02 k0
    rw [← hl1] at d10 k1
    rw [← ht1] at d11 k1
    rw [← hn1] at d12 k1
    rw [← hl2] at d20 k2
    rw [← ht2] at d21 k2
    rw [← hn2] at d22 k2
    rw [← hl3] at d30 k3
    rw [← ht3] at d31 k3
    rw [← hn3] at d32 k3
    have hcz : ∀ W, Below w.heap.size w W → (W.cell? ⟨b, o, none⟩ = some (.bool l0) ∧ W.cell? ⟨b, o + 1, none⟩ = some (.string t0) ∧ W.cell? ⟨b, o + 2, none⟩ = some (.slice a0 n0 c0)) ∧ (W.cell? ⟨b, o + 3, none⟩ = some (.bool l1) ∧ W.cell? ⟨b, o + (3 + 1), none⟩ = some (.string t1) ∧ W.cell? ⟨b, o + (3 + 2), none⟩ = some (.slice a1 n1 c1)) ∧
        (W.cell? ⟨b, o + 2 * 3, none⟩ = some (.bool l2) ∧ W.cell? ⟨b, o + (2 * 3 + 1), none⟩ = some (.string t2) ∧ W.cell? ⟨b, o + (2 * 3 + 2), none⟩ = some (.slice a2 n2 c2)) ∧ (W.cell? ⟨b, o + 3 * 3, none⟩ = some (.bool l3) ∧ W.cell? ⟨b, o + (3 * 3 + 1), none⟩ = some (.string t3) ∧ W.cell? ⟨b, o + (3 * 3 + 2), none⟩ = some (.slice a3 n3 c3)) := fun W hW => by
      have k : ∀ i u, w.cell? ⟨b, i, none⟩ = some u → W.cell? ⟨b, i, none⟩ = some u := fun i u hu => (hW.cell (p := ⟨b, i, none⟩) hbz).trans hu
      exact ⟨⟨k _ _ d00, k _ _ d01, k _ _ d02⟩, ⟨k _ _ d10, k _ _ d11, k _ _ d12⟩, ⟨k _ _ d20, k _ _ d21, k _ _ d22⟩, k _ _ d30, k _ _ d31, k _ _ d32⟩
    simp only [Nat.reduceMul, Nat.reduceAdd] at hcz
    have HCZ := Lib.hid hcz
    have HFIN := Lib.hid hfin
    have K0 := Lib.hid k0
    have K1 := Lib.hid k1
    have K2 := Lib.hid k2
    have K3 := Lib.hid k3
    have H0 := Lib.hid (opW_new w s (.slice (some ⟨b, o, none⟩) 4 c) 61 56 (.int .i64 0) (.int .i64 0) (.int .i64 0) (.int .i64 0) (.int .i64 0) (.slice none 0 0))
    clear hcz hfin hb2 k0 k1 k2 k3 d00 d01 d02 d10 d11 d12 d20 d21 d22 d30 d31 d32 hbz hrow hm hxo hxp hok hsl hl h4 hQ hs' hx0 hx1 hx2 hx3 hl0 ht0 hn0 hl1 ht1 hn1 hl2 ht2 hn2 hl3 ht3 hn3 s1 s2 s3 hpar
    obtain ⟨⟨e00, e01, e02⟩, _, _, _⟩ := HCZ.out _ H0.out.b
    go_enter Tryz.func44, Tryz.ntmps44
    go_wp2_with fail
    refine (K0.out _).mono ?_
    rintro e w1 ⟨u, y, rfl, hn, hb⟩
    have H1 := Lib.hid (H0.out.below hb)
    have HN := Lib.hid hn
    clear hb hn e00 e01 e02
    obtain ⟨_, ⟨e10, e11, e12⟩, _, _⟩ := HCZ.out _ H1.out.b
    have f2 := H1.out.f2
    go_wp2_with fail
    refine (K1.out _ H1.out.b).mono ?_
    rintro e w2 ⟨⟨x1', y1'⟩, b1, rfl, hr, hb⟩
    have hal : Below w2.heap.size w2 (w2.alloc (.cells #[.int .i64 x1', .int .i64 y1'] 54)) := (Below.refl _ _).alloc (Nat.le_refl _) _
    have H2 := Lib.hid ((H1.out.below hb).below hal)
    have HR1 := Lib.hid hr
    have B2 : Hid ((w2.alloc (.cells #[.int .i64 x1', .int .i64 y1'] 54)).cell? ⟨w2.heap.size, 0, none⟩ = some (.int .i64 x1') ∧ (w2.alloc (.cells #[.int .i64 x1', .int .i64 y1'] 54)).cell? ⟨w2.heap.size, 1, none⟩ = some (.int .i64 y1')) := Lib.hid ⟨World.cell?_alloc_at _ _ _ _ rfl, World.cell?_alloc_at _ _ _ _ rfl⟩
    clear hb hr hal e10 e11 e12 f2
    obtain ⟨_, _, ⟨e20, e21, e22⟩, _⟩ := HCZ.out _ H2.out.b
    have f2 := H2.out.f2
    go_wp2_with fail
    refine (K2.out _ H2.out.b).mono ?_
    rintro e w3 ⟨⟨x2', y2'⟩, b2, rfl, hr, hb⟩
    have hal : Below w3.heap.size w3 (w3.alloc (.cells #[.int .i64 x2', .int .i64 y2'] 54)) := (Below.refl _ _).alloc (Nat.le_refl _) _
    have H3 := Lib.hid ((H2.out.below hb).below hal)
    have HR2 := Lib.hid hr
    have C2 : Hid ((w3.alloc (.cells #[.int .i64 x2', .int .i64 y2'] 54)).cell? ⟨w2.heap.size, 0, none⟩ = some (.int .i64 x1') ∧ (w3.alloc (.cells #[.int .i64 x2', .int .i64 y2'] 54)).cell? ⟨w2.heap.size, 1, none⟩ = some (.int .i64 y1')) := Lib.hid ((fun k => ⟨k _ _ B2.out.1, k _ _ B2.out.2⟩) (fun i v (hv : (w2.alloc (.cells #[.int .i64 x1', .int .i64 y1'] 54)).cell? ⟨w2.heap.size, i, none⟩ = some v) => (((hb.trans (hal.mono hb.size)).cell (p := ⟨w2.heap.size, i, none⟩) (cell_lt hv)).trans hv)))
    have B3 : Hid ((w3.alloc (.cells #[.int .i64 x2', .int .i64 y2'] 54)).cell? ⟨w3.heap.size, 0, none⟩ = some (.int .i64 x2') ∧ (w3.alloc (.cells #[.int .i64 x2', .int .i64 y2'] 54)).cell? ⟨w3.heap.size, 1, none⟩ = some (.int .i64 y2')) := Lib.hid ⟨World.cell?_alloc_at _ _ _ _ rfl, World.cell?_alloc_at _ _ _ _ rfl⟩
    clear hb hr hal e20 e21 e22 f2 B2
    obtain ⟨_, _, _, e30, e31, e32⟩ := HCZ.out _ H3.out.b
    have f2 := H3.out.f2
    go_wp2_with fail
    refine (K3.out _ H3.out.b).mono ?_
    rintro e w4 ⟨lv, ls, b3, rfl, ht, hts, hrz, hb⟩
    obtain ⟨la, lc, hlv⟩ := hrz.form
    obtain ⟨ll, hll⟩ : ∃ m, m = ls.length := ⟨_, rfl⟩
    rw [← hll] at hlv
    subst hlv
    have H4 := Lib.hid (H3.out.below hb)
    have k : ∀ i j v, (w3.alloc (.cells #[.int .i64 x2', .int .i64 y2'] 54)).cell? ⟨i, j, none⟩ = some v → w4.cell? ⟨i, j, none⟩ = some v := fun i j v hv => (hb.cell (p := ⟨i, j, none⟩) (cell_lt hv)).trans hv
    have p0 := k _ _ _ C2.out.1
    have p1 := k _ _ _ C2.out.2
    have p2 := k _ _ _ B3.out.1
    have p3 := k _ _ _ B3.out.2
    have r0 := cellAt_of (H4.out.r 0 (by omega))
    have r1 := cellAt_of (H4.out.r 1 (by omega))
    have r2 := cellAt_of (H4.out.r 2 (by omega))
    have r3 := cellAt_of (H4.out.r 3 (by omega))
    have r4 := cellAt_of (H4.out.r 4 (by omega))
    have r5 := cellAt_of (H4.out.r 5 (by omega))
    have z0 := H4.out.z 0
    have z1 := H4.out.z 1
    have z2 := H4.out.z 2
    have z3 := H4.out.z 3
    have z4 := H4.out.z 4
    have z5 := H4.out.z 5
    obtain ⟨g0, g1, g2, g3, g4, g5⟩ := set6_at (u0 := .int .i64 u) (u1 := .int .i64 x1') (u2 := .int .i64 y1') (u3 := .int .i64 x2') (u4 := .int .i64 y2') (u5 := .slice la ll lc) H4.out.r
    have hlt3 := H3.out.lt
    have HE := Lib.hid (HFIN.out u y ⟨x1', y1'⟩ ⟨x2', y2'⟩ b1 b2 b3 ls (.slice la ll lc) (set6 w4 (w.heap.size + 1) (.int .i64 u) (.int .i64 x1') (.int .i64 y1') (.int .i64 x2') (.int .i64 y2') (.slice la ll lc)) HN.out HR1.out HR2.out ht hts
      (hrz.off (Y := fun i => i = w.heap.size + 1) ((((((Off.refl (fun i => i = w.heap.size + 1) w4).setCell (p := ⟨w.heap.size + 1, 0, none⟩) (.inr rfl) _).setCell (p := ⟨w.heap.size + 1, 1, none⟩) (.inr rfl) _).setCell (p := ⟨w.heap.size + 1, 2, none⟩) (.inr rfl) _).setCell (p := ⟨w.heap.size + 1, 3, none⟩) (.inr rfl) _).setCell (p := ⟨w.heap.size + 1, 4, none⟩) (.inr rfl) _ |>.setCell (p := ⟨w.heap.size + 1, 5, none⟩) (.inr rfl) _) (fun i _ hi => ⟨fun e => by have : i = w.heap.size + 1 := e; omega, by omega⟩))
      (set6_below H4.out.b (by omega)))
    clear hb ht hts hrz hll k e30 e31 e32 f2 C2 B3 hlt3
    dsimp only [set6] at g0 g1 g2 g3 g4 g5 HE
    by_cases hy : y = 0
    · subst hy
      cases b1 <;> cases b2 <;> cases b3 <;> (go_wp2_with fail; exact bodyPost_ret (v := .tuple #[opV ⟨u, ⟨x1', y1'⟩, ⟨x2', y2'⟩, ls⟩ (.slice la ll lc), .bool _]) (by simp [results, Tryz.results44, go_sem, g0, g1, g2, g3, g4, g5]) rfl HE.out)
    · have n1 : (y == 0) = false := by simpa using hy
      rw [n1] at HE
      go_wp2_with fail
      exact bodyPost_ret (v := .tuple #[opV ⟨u, ⟨x1', y1'⟩, ⟨x2', y2'⟩, ls⟩ (.slice la ll lc), .bool false]) (by simp [results, Tryz.results44, go_sem, g0, g1, g2, g3, g4, g5]) rfl HE.out
end Go.Proofs.YtgjcblginkdinaaGreatDoor
set_option linter.unusedVariables false
namespace Go.Proofs.YtgjcblginkdinaaGreatDoor
open Go.ChangeShapes Go.WideShapes Go.ChangeAt Go.RowKit

theorem opsB_memL {n : Nat} : ∀ (l : List Opp) (m : Nat), opsB n m l = true → ∀ o ∈ l, ∃ m', m' ≤ m + linesN l ∧ opR n m' o = true
  | [], _, _, o, h => by cases h
  | x :: r, m, h, o, ho => by
    simp only [opsB, opB, Bool.and_eq_true] at h
    rcases List.mem_cons.1 ho with rfl | ho
    · exact ⟨m, by omega, h.1.1⟩
    · obtain ⟨m', hm, h'⟩ := opsB_memL r _ h.2 o ho
      exact ⟨m', by simp only [linesN]; omega, h'⟩
theorem refB_rng {n m : Nat} {r : Rf} (hn : n ≤ 64) (hm : m ≤ 300) (h : refB n m r = true) : r.rng := by
  unfold refB at h
  unfold Rf.rng
  split at h
  · rename_i e
    simp only [Bool.or_eq_true, decide_eq_true_eq] at h
    omega
  · split at h
    · rename_i e1 e
      simp only [Bool.and_eq_true, decide_eq_true_eq] at h
      omega
    · simp only [Bool.and_eq_true, decide_eq_true_eq] at h
      omega
theorem opR_rng {n m : Nat} {o : Opp} (hn : n ≤ 64) (hm : m ≤ 300) (h : opR n m o = true) : o.rng := by
  have hz : (⟨0, 0⟩ : Rf).rng := by unfold Rf.rng; simp
  have hB : ∀ {a b : Rf}, betwB n m a b = true → a.rng ∧ b.rng := fun h => by
    unfold betwB at h
    simp only [Bool.and_eq_true] at h
    exact ⟨refB_rng hn hm h.1.1.1.1, refB_rng hn hm h.1.1.1.2⟩
  unfold opR at h
  unfold Opp.rng
  split at h
  · rename_i e
    simp only [Bool.and_eq_true] at h
    exact ⟨by omega, by omega, hB h.2⟩
  · split at h
    · rename_i e1 e
      simp only [Bool.and_eq_true] at h
      exact ⟨by omega, by omega, hB h.2⟩
    · split at h
      · rename_i e1 e2 e
        simp only [Bool.and_eq_true, decide_eq_true_eq] at h
        exact ⟨by omega, by omega, refB_rng hn hm h.2, by rw [h.1.1.2]; exact hz⟩
      · cases h
theorem right_rng {p : Pt} (h : rightP p = true) : ∀ o ∈ p.ops, o.rng := fun o ho => by
  obtain ⟨h1, h2, h3⟩ := right_small h
  obtain ⟨m, hm, h'⟩ := opsB_memL _ _ (sound_ops (right_sound h)) o ho
  exact opR_rng h2 (by omega) h'
theorem lines_parts (l : List Opp) : linesN l ≤ Tm.partss (l.map opT) := by
  induction l with
  | nil => exact Nat.le_refl _
  | cons o r ih =>
    have h1 : o.lines.length ≤ (opT o).parts := by
      have e1 := xs_len (tsT o.lines)
      have e2 : (tsT o.lines).xs.length = o.lines.length := by show (o.lines.map txT).length = _; rw [List.length_map]
      have e3 : (tsT o.lines).parts ≤ Tm.partss (opT o).xs := Tm.parts_mem (by show tsT o.lines ∈ [nuT o.kind, rfT o.a, rfT o.b, tsT o.lines]; simp)
      have e4 := xs_parts (opT o)
      omega
    simp only [linesN, List.map_cons, Tm.partss]
    omega
theorem pt_small {p : Pt} {s : ByteArray} (hs : s.size ≤ 65536) (h : s.data.toList = (ptT p).bytes) : (ptT p).texts ≤ 65536 ∧ (ptT p).parts ≤ 65536 ∧ linesN p.ops ≤ 65536 := by
  have hb := bytes_bound (ptT p) (ptT_ok p)
  rw [← h, ba_len] at hb
  have h1 := lines_parts p.ops
  have h2 : (liT (p.ops.map opT)).parts ≤ Tm.partss (ptT p).xs := Tm.parts_mem (by show _ ∈ [txT headB, txT p.note, tsT p.deps, liT (p.ops.map opT)]; simp)
  have h3 := xs_parts (ptT p)
  have h4 := xs_parts (liT (p.ops.map opT))
  have h5 : (liT (p.ops.map opT)).xs = p.ops.map opT := rfl
  rw [h5] at h4
  omega
theorem pt_fine {p : Pt} {s : ByteArray} (hs : s.size ≤ 65536) (h : s.data.toList = (ptT p).bytes) (hw : p.wf) : p.fine := by
  have h1 := rdPt_fine (ptT p) (by have := (pt_small hs h).1; omega)
  rw [pt_forth hw] at h1
  exact h1

structure PtF (T : Tm) : Prop where
  four : T.xs.length = 4
  n0 : (nth T.xs 0).l = false
  h0 : (nth T.xs 0).t = headB
  n1 : (nth T.xs 1).l = false
  n3 : (nth T.xs 3).l = true
theorem len_list {T : Tm} (hok : T.ok = true) (h : T.xs ≠ []) : T.l = true := by
  cases hl : T.l with
  | true => rfl
  | false => exact absurd (text_xs hok hl) h
def Took (xs : List Tm) (es : List Opp) (b : Bool) : Prop := (b = true → xs = es.map opT ∧ ∀ o ∈ es, o.wf ∧ o.rng) ∧ (b = false → ∀ es' : List Opp, (∀ o ∈ es', o.wf ∧ o.rng) → xs ≠ es'.map opT)
theorem took_nil : Took [] [] true := ⟨fun _ => ⟨rfl, by simp⟩, fun h => (by cases h)⟩
theorem took_snoc {xs : List Tm} {es : List Opp} {b y : Bool} {x : Tm} {o : Opp} (h : Took xs es b) (g : OpT x o y) : Took (xs ++ [x]) (es ++ [o]) (b && y) := by
  constructor
  · intro e
    simp only [Bool.and_eq_true] at e
    obtain ⟨h1, h2⟩ := h.1 e.1
    obtain ⟨g1, g2, g3⟩ := g.1 e.2
    refine ⟨by rw [h1, g1]; simp, fun z hz => ?_⟩
    rcases List.mem_append.1 hz with hz | hz
    · exact h2 z hz
    · rw [List.mem_singleton] at hz; subst hz; exact ⟨g2, g3⟩
  · intro e es' hes ex
    have hl : 0 < es'.length := by
      have := congrArg List.length ex
      simp at this; omega
    obtain ⟨ys, z, rfl⟩ : ∃ ys z, es' = ys ++ [z] := by
      rcases eq_nil_or_snoc es' with h | h
      · rw [h] at hl; cases hl
      · exact h
    rw [List.map_append, List.map_cons, List.map_nil] at ex
    obtain ⟨e1, e2⟩ := List.append_inj' ex rfl
    injection e2 with e2
    cases b with
    | false => exact h.2 rfl ys (fun o ho => hes o (by simp [ho])) e1
    | true =>
      cases y with
      | false => exact g.2 rfl z (hes z (by simp)).1 (hes z (by simp)).2 e2
      | true => cases e
theorem took_yes {T : Tm} (hok : T.ok = true) (hf : PtF T) {ls : Lb} {es : List Opp} (h2 : TextsT (nth T.xs 2) ls true) (h3 : Took (nth T.xs 3).xs es true) : T = ptT ⟨(nth T.xs 1).t, ls, es⟩ ∧ (⟨(nth T.xs 1).t, ls, es⟩ : Pt).wf := by
  have hx := ok_xs hok
  have hm : ∀ j, j < 4 → (nth T.xs j).ok = true := fun j hj => hx _ (nth_mem (by rw [hf.four]; exact hj))
  refine ⟨?_, fun o ho => ((h3.1 rfl).2 o ho).1⟩
  have h := list_back hok (len_list hok (fun h => by have := hf.four; rw [h] at this; cases this))
  have e0 : nth T.xs 0 = txT headB := by rw [← hf.h0]; exact (text_back (hm 0 (by omega)) hf.n0).symm
  have e1 : nth T.xs 1 = txT (nth T.xs 1).t := (text_back (hm 1 (by omega)) hf.n1).symm
  have e2 := h2.1 rfl
  have e3 : nth T.xs 3 = liT (es.map opT) := by rw [← (h3.1 rfl).1]; exact list_back (hm 3 (by omega)) hf.n3
  have h4 : T.xs = [txT headB, txT (nth T.xs 1).t, tsT ls, liT (es.map opT)] := by rw [← e0, ← e1, ← e2, ← e3]; exact list4 hf.four
  refine h.trans ?_
  unfold ptT
  exact congrArg liT h4
theorem took_no {T : Tm} {ls : Lb} {es : List Opp} {b b' : Bool} (hb : (b && b') = false) (h2 : TextsT (nth T.xs 2) ls b) (h3 : Took (nth T.xs 3).xs es b') {p : Pt} (hw : p.wf) (hr : rightP p = true) : T ≠ ptT p := fun e => by
  cases b with
  | false => exact h2.2 rfl p.deps (by rw [e]; rfl)
  | true =>
    cases b' with
    | false => exact h3.2 rfl p.ops (fun o ho => ⟨hw o ho, right_rng hr o ho⟩) (by rw [e]; rfl)
    | true => cases hb
end Go.Proofs.YtgjcblginkdinaaGreatDoor
set_option linter.unusedVariables false
namespace Go.Proofs.YtgjcblginkdinaaGreatDoor
open Go.ChangeShapes Go.WideShapes Go.ChangeAt Go.RowKit

structure ResW (w W : World) : Prop where
  r0 : (W.cell? ⟨w.heap.size, 0, none⟩).isSome = true
  r1 : (W.cell? ⟨w.heap.size, 1, none⟩).isSome = true
  r2 : (W.cell? ⟨w.heap.size, 2, none⟩).isSome = true
  z : ∀ j, W.frozen? ⟨w.heap.size, j, none⟩ = false
  b : Below w.heap.size w W
  lt : w.heap.size < W.heap.size
theorem ResW.below {B : Nat} {w W W2 : World} (h : ResW w W) (hB : w.heap.size < B) (hb : Below B W W2) : ResW w W2 := by
  have k : ∀ j, W2.cell? ⟨w.heap.size, j, none⟩ = W.cell? ⟨w.heap.size, j, none⟩ := fun j => hb.cell (p := ⟨w.heap.size, j, none⟩) hB
  exact ⟨by rw [k]; exact h.r0, by rw [k]; exact h.r1, by rw [k]; exact h.r2, fun j => (hb.frozen (p := ⟨w.heap.size, j, none⟩) hB).trans (h.z j), h.b.trans (hb.mono (by omega)), Nat.lt_of_lt_of_le h.lt hb.size⟩
theorem ResW.next {w W W2 : World} (h : ResW w W) (hb : Below W.heap.size W W2) : ResW w W2 := h.below h.lt hb
theorem resW_new (w : World) (u0 u1 u2 : Value) (ty : TypeId) : ResW w (w.alloc (.cells #[u0, u1, u2] ty)) :=
  ⟨by rw [World.cell?_alloc_at _ _ _ _ rfl]; rfl, by rw [World.cell?_alloc_at _ _ _ _ rfl]; rfl, by rw [World.cell?_alloc_at _ _ _ _ rfl]; rfl, fun j => World.frozen?_alloc_at _ _ _ _ rfl, (Below.refl _ _).alloc (Nat.le_refl _) _, by simp⟩
theorem ResW.set {w W : World} (h : ResW w W) (u0 u1 u2 : Value) : Below w.heap.size w (((W.setCell ⟨w.heap.size, 0, none⟩ u0).setCell ⟨w.heap.size, 1, none⟩ u1).setCell ⟨w.heap.size, 2, none⟩ u2) :=
  (((h.b.setCell (p := ⟨w.heap.size, 0, none⟩) (Nat.le_refl _) _).setCell (p := ⟨w.heap.size, 1, none⟩) (Nat.le_refl _) _).setCell (p := ⟨w.heap.size, 2, none⟩) (Nat.le_refl _) _)

structure RL (w2 : World) (Bp : Nat) (t : ByteArray) (dv : Value) (ls : Lb) (v : Value) (es : List OE) (W : World) : Prop where
  b : Below w2.heap.size w2 W
  p0 : W.cell? ⟨Bp, 0, none⟩ = some (.string t)
  p1 : W.cell? ⟨Bp, 1, none⟩ = some dv
  p2 : W.cell? ⟨Bp, 2, none⟩ = some v
  z : ∀ j, W.frozen? ⟨Bp, j, none⟩ = false
  d : ReadsZ (fun i => w2.heap.size ≤ i ∧ i < Bp) W dv ls
  m : MadeO (Bp + 1) W v es
  lo : w2.heap.size ≤ Bp
theorem RL.lt {w2 W : World} {Bp : Nat} {t : ByteArray} {dv v : Value} {ls : Lb} {es : List OE} (h : RL w2 Bp t dv ls v es W) : Bp < W.heap.size := cell_lt h.p0
theorem madeO_below {B : Nat} {w w' : World} {v : Value} {es : List OE} (h : MadeO B w v es) (hb : Below w.heap.size w w') : MadeO B w' v es :=
  ⟨h.row.below hb, fun p hp => (h.sub p hp).off (Off.of_below (Z := fun i => w.heap.size ≤ i) hb) fun i hi hz => ⟨by omega, hz⟩⟩
theorem RL.next {w2 W W2 : World} {Bp : Nat} {t : ByteArray} {dv v : Value} {ls : Lb} {es : List OE} (h : RL w2 Bp t dv ls v es W) (hb : Below W.heap.size W W2) : RL w2 Bp t dv ls v es W2 := by
  have k : ∀ j, W2.cell? ⟨Bp, j, none⟩ = W.cell? ⟨Bp, j, none⟩ := fun j => hb.cell (p := ⟨Bp, j, none⟩) h.lt
  exact ⟨h.b.trans (hb.mono h.b.size), (k _).trans h.p0, (k _).trans h.p1, (k _).trans h.p2, fun j => (hb.frozen (p := ⟨Bp, j, none⟩) h.lt).trans (h.z j),
    h.d.off (Off.of_below (Z := fun i => W.heap.size ≤ i) hb) (fun i hi hz => ⟨by omega, hz⟩), madeO_below h.m hb, h.lo⟩
theorem rl_push {w2 W : World} {Bp : Nat} {t : ByteArray} {dv : Value} {ls : Lb} {va : Option Addr} {k vc : Nat} {es : List OE} (x : Opp) (s : Value) (h : RL w2 Bp t dv ls (.slice va k vc) es W) (hk : k = es.length) (hlen : k ≤ 1000000)
    (hs : ReadsZ (fun i => Bp + 1 ≤ i ∧ (Value.slice va k vc).ownBlock ≠ some i) W s x.lines) (hsc : s.oneCell' = true) :
    ∃ a7 c7 w7, (Builtin.append_ #[23, 23] 23 #[.slice va k vc, .slice (some ⟨W.heap.size, 0, none⟩) 1 1]).run Tryz.prog (W.alloc (.cells #[.int .i64 x.kind, .int .i64 x.a.at_, .int .i64 x.a.n, .int .i64 x.b.at_, .int .i64 x.b.n, s] 56)) = .ok (.slice a7 (k + 1) c7) w7 ∧
      w7.cell? ⟨Bp, 2, none⟩ = some (.slice va k vc) ∧ w7.frozen? ⟨Bp, 2, none⟩ = false ∧ RL w2 Bp t dv ls (.slice a7 (k + 1) c7) (es ++ [(x, s)]) (w7.setCell ⟨Bp, 2, none⟩ (.slice a7 (k + 1) c7)) ∧ W.heap.size ≤ w7.heap.size := by
  have hb : Below W.heap.size W (W.alloc (.cells #[.int .i64 x.kind, .int .i64 x.a.at_, .int .i64 x.a.n, .int .i64 x.b.at_, .int .i64 x.b.n, s] 56)) := (Below.refl _ _).alloc (Nat.le_refl _) _
  have hA := h.next hb
  have hsA := hs.off (Off.of_below (Z := fun i => W.heap.size ≤ i) hb) (Z' := fun i => Bp + 1 ≤ i ∧ (Value.slice va k vc).ownBlock ≠ some i) (fun i hi hz => ⟨by omega, hz⟩)
  have hsz := h.lt
  have hsrc := src_new (P := Tryz.prog) (w := W) (k := 6) Tryz.underlying23 [.int .i64 x.kind, .int .i64 x.a.at_, .int .i64 x.a.n, .int .i64 x.b.at_, .int .i64 x.b.n, s] 1 56 1 rfl (by intro u hu; simp only [List.mem_cons, List.not_mem_nil, or_false] at hu; rcases hu with rfl | rfl | rfl | rfl | rfl | rfl <;> first | rfl | exact hsc)
  obtain ⟨W2, hW2⟩ : ∃ W2, W2 = W.alloc (.cells #[.int .i64 x.kind, .int .i64 x.a.at_, .int .i64 x.a.n, .int .i64 x.b.at_, .int .i64 x.b.n, s] 56) := ⟨_, rfl⟩
  have hsrc' : Src Tryz.prog 6 23 (.slice (some ⟨W.heap.size, 0, none⟩) 1 1) 1 [.int .i64 x.kind, .int .i64 x.a.at_, .int .i64 x.a.n, .int .i64 x.b.at_, .int .i64 x.b.n, s] W2 := by rw [hW2]; exact hsrc
  have hs2 : W.heap.size < W2.heap.size := by rw [hW2]; simp
  rw [← hW2] at hb hA hsA ⊢
  clear hsrc hW2
  have hrow := hA.m.row
  rw [← hk] at hrow
  obtain ⟨v', w7, hr7, hrow7, ho7, hw7⟩ := run_append_row (P := Tryz.prog) (w := W2) 23 23 23 56 (.agg #[.int .i64 0, .int .i64 0, .int .i64 0, .int .i64 0, .int .i64 0, .slice none 0 0]) 64 Tryz.underlying23 Tryz.infoOp rfl hrow _ _ _ hsrc' (by omega) (by omega) (by decide)
  obtain ⟨a7, c7, hv7⟩ := hrow7.form
  subst hv7
  have hz : ∀ i, (Value.slice va k vc).ownBlock = some i → Bp + 1 ≤ i := fun i hi => (hrow.lt i hi).1
  have hnB : ¬ (Value.slice va k vc).ownBlock = some Bp := fun e => by have := hz _ e; omega
  have kc : ∀ j u, W2.cell? ⟨Bp, j, none⟩ = some u → w7.cell? ⟨Bp, j, none⟩ = some u := fun j u hu => (ho7.cell (p := ⟨Bp, j, none⟩) (cell_lt hu) hnB).trans hu
  have hc7 := kc _ _ hA.p2
  have kz : ∀ j, w7.frozen? ⟨Bp, j, none⟩ = false := fun j => (ho7.frozen (p := ⟨Bp, j, none⟩) (cell_lt hA.p2) hnB).trans (hA.z j)
  have hm7 : MadeO (Bp + 1) w7 (.slice a7 (k + 1) c7) (es ++ [(x, s)]) := hA.m.push hsA (by rw [← hk]; exact hrow7) ho7 hw7
  have hlo := h.lo
  have hst : Off (fun i => i = Bp) w7 (w7.setCell ⟨Bp, 2, none⟩ (.slice a7 (k + 1) c7)) := (Off.refl (fun i => i = Bp) w7).setCell (p := ⟨Bp, 2, none⟩) (.inr rfl) _
  have kn : ∀ j u, j ≠ 2 → w7.cell? ⟨Bp, j, none⟩ = some u → (w7.setCell ⟨Bp, 2, none⟩ (.slice a7 (k + 1) c7)).cell? ⟨Bp, j, none⟩ = some u := fun j u hj hu => by
    rw [World.cell?_setCell_other _ _ _ _ (by intro e; injection e with _ e; exact hj e.symm)]; exact hu
  refine ⟨a7, c7, w7, hr7, hc7, kz 2, ⟨?_, kn _ _ (by decide) (kc _ _ hA.p0), kn _ _ (by decide) (kc _ _ hA.p1), World.cell?_setCell_same _ _ _ hc7, fun j => by rw [World.frozen?_setCell]; exact kz j, ?_, hm7.off hst (fun i hi => by omega), hlo⟩, Nat.le_trans (by omega) ho7.size⟩
  · exact hA.b.trans ((ho7.below (fun i hi => by have := hz i hi; omega) hA.b.size).setCell (p := ⟨Bp, 2, none⟩) hlo _)
  · exact (hA.d.off ho7 (Z' := fun i => w2.heap.size ≤ i ∧ i < Bp) (fun i hi hzi => ⟨fun e => by have := hz i e; have := hzi.2; omega, hzi⟩)).off hst (fun i hi hzi => ⟨by have := hzi.2; omega, hzi⟩)
end Go.Proofs.YtgjcblginkdinaaGreatDoor
