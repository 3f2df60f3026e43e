/- The contract of withoutTail: what is the same at both ends dropped. -/
import Derived.Test.YteppgjdkoakpeaaDoorFronts2
set_option linter.unusedVariables false
namespace Go.Proofs.YteppgjdkoakpeaaDoor
open Go.ChangeShapes Go.WideShapes Go.ChangeAt Go.RowKit

/-- The slice value v is nil, or reads as the strings xs. -/
def Sl (w : World) (v : Value) (xs : Ls) : Prop :=
  (v = .slice none 0 0 ∧ xs = []) ∨ ∃ a c, v = .slice (some a) xs.length c ∧ xs.length ≤ c ∧ c ≤ 9223372036854775807 ∧ (xs ≠ [] → ∃ b o, a = ⟨b, o, none⟩ ∧ Cells w b o xs)

theorem Sl.reads {w : World} {v : Value} {xs : Ls} (h : Sl w v xs) : Reads w v xs := by
  rcases h with ⟨rfl, rfl⟩ | ⟨a, c, rfl, h1, h2, h3⟩
  · exact .inl ⟨rfl, _, _, rfl⟩
  · by_cases e : xs = []
    · subst e; exact .inl ⟨rfl, _, _, rfl⟩
    · obtain ⟨b, o, rfl, hc⟩ := h3 e
      exact .inr ⟨e, b, o, c, rfl, h1, h2, hc⟩
theorem Sl.below {w w' : World} {v : Value} {xs : Ls} (h : Sl w v xs) (hb : Below w.heap.size w w') : Sl w' v xs := by
  rcases h with h | ⟨a, c, e, h1, h2, h3⟩
  · exact .inl h
  · refine .inr ⟨a, c, e, h1, h2, fun hn => ?_⟩
    obtain ⟨b, o, ea, hc⟩ := h3 hn
    exact ⟨b, o, ea, hc.below hb⟩
theorem Sl.drewN {w : World} {v : Value} {xs : Ls} {n : Nat} (h : Sl w v xs) : Sl (w.drewN n) v xs := h

theorem Cells.prefix {w : World} {b o : Nat} {xs ys : Ls} (h : Cells w b o (xs ++ ys)) : Cells w b o xs :=
  ⟨h.1, fun j x hx => h.2 j x (by rw [List.getElem?_append_left (List.getElem?_eq_some_iff.1 hx).1]; exact hx)⟩

theorem Sl.front {w : World} {a : Option Addr} {n c : Nat} {xs : Ls} {u : ByteArray} (h : Sl w (.slice a n c) (xs ++ [u])) (m : Nat) (hm : m = xs.length) : Sl w (.slice a m c) xs := by
  subst hm
  rcases h with ⟨_, e⟩ | ⟨a', c', e, h1, h2, h3⟩
  · simp at e
  · simp only [Value.slice.injEq] at e
    obtain ⟨rfl, _, rfl⟩ := e
    rw [List.length_append, List.length_singleton] at h1
    refine .inr ⟨a', c, rfl, by omega, h2, fun _ => ?_⟩
    obtain ⟨b, o, ea, hc⟩ := h3 (by simp)
    exact ⟨b, o, ea, hc.prefix⟩

theorem Sl.some {w : World} {a : Option Addr} {n c : Nat} {xs : Ls} (h : Sl w (.slice a n c) xs) (hx : xs ≠ []) : n = xs.length ∧ n ≤ c ∧ c ≤ 9223372036854775807 ∧ ∃ b o, a = some ⟨b, o, none⟩ ∧ Cells w b o xs := by
  rcases h with ⟨_, e⟩ | ⟨a', c', e, h1, h2, h3⟩
  · exact absurd e hx
  · simp only [Value.slice.injEq] at e
    obtain ⟨rfl, rfl, rfl⟩ := e
    obtain ⟨b, o, ea, hc⟩ := h3 hx
    exact ⟨rfl, h1, h2, b, o, by rw [ea], hc⟩
theorem Sl.len {w : World} {a : Option Addr} {n c : Nat} {xs : Ls} (h : Sl w (.slice a n c) xs) : n = xs.length := by
  rcases h with ⟨e, rfl⟩ | ⟨a', c', e, h1, h2, h3⟩
  · simp only [Value.slice.injEq] at e; exact e.2.1
  · simp only [Value.slice.injEq] at e; exact e.2.1
theorem Sl.form {w : World} {v : Value} {xs : Ls} (h : Sl w v xs) : ∃ a c, v = .slice a xs.length c := by
  rcases h with ⟨rfl, rfl⟩ | ⟨a', c', e, _⟩
  · exact ⟨_, _, rfl⟩
  · exact ⟨_, _, e⟩

/-- A slice's length: for a loop's measure. -/
def tlen : Value → Nat | .slice _ l _ => l | _ => 0

theorem trim_step {m : Nat} {A B : Ls} {u : ByteArray} : trimTail (m + 1) (A ++ [u]) (B ++ [u]) = trimTail m A B := by
  rw [trimTail, if_pos]
  · rw [List.dropLast_concat, List.dropLast_concat]
  · simp
theorem trim_end {m : Nat} {A B : Ls} (h : ∀ A' B' u, A = A' ++ [u] → B = B' ++ [u] → False) : trimTail m A B = (A, B) := by
  cases m with
  | zero => rfl
  | succ m =>
    rw [trimTail, if_neg]
    rintro ⟨h1, h2, h3⟩
    obtain ⟨a0, u, rfl⟩ := list_snoc A (by rintro rfl; simp at h1)
    obtain ⟨b0, v, rfl⟩ := list_snoc B (by rintro rfl; simp at h2)
    have e : u = v := by simpa using h3
    subst e
    exact h _ _ _ rfl rfl

set_option maxHeartbeats 2000000 in
theorem tail_any (a b : Ls) (va vb : Value) (w : World) (ha : Sl w va a) (hb : Sl w vb b) (h3 : a.length ≤ 1000000) (h4 : b.length ≤ 1000000) :
    Calls Tryd.prog 17 #[va, vb] w fun r w' => ∃ v1 v2, r = .returned (.tuple #[v1, v2]) ∧ Sl w v1 (trim a b).1 ∧ Sl w v2 (trim a b).2 ∧ ∃ n, w' = w.drewN n := by
  obtain ⟨aa, ca, rfl⟩ := ha.form
  obtain ⟨ab, cb, rfl⟩ := hb.form
  have HA := Lib.hid ha
  have HB := Lib.hid hb
  clear ha hb
  go_enter Tryd.func17, Tryd.ntmps17
  go_wp2
  go_loopw [0, 1] (fun av bv wr => ∃ (A B : Ls) (n m d : Nat), av = .slice aa n ca ∧ bv = .slice ab m cb ∧ Sl w (.slice aa n ca) A ∧ Sl w (.slice ab m cb) B ∧ trimTail A.length A B = trim a b ∧ wr = w.drewN d) (fun av _ _ => tlen av)
  case atStart => exact ⟨a, b, _, _, 0, rfl, rfl, HA.out, HB.out, rfl, rfl⟩
  case round =>
    obtain ⟨A, B, n, m, d, rfl, rfl, hA, hB, ht, rfl⟩ := hrel
    have HAA := Lib.hid hA
    have HBB := Lib.hid hB
    have HT := Lib.hid ht
    have hn := hA.len
    have hm := hB.len
    have HN := Lib.hid hn
    have HM := Lib.hid hm
    clear hA hB ht hn hm
    rcases List.eq_nil_or_concat A with hAe | ⟨A0, u, hAe⟩
    · have n0 : n = 0 := by rw [HN.out, hAe]; rfl
      subst n0
      have hend := trim_end (m := A.length) (A := A) (B := B) (fun A' B' u h _ => by rw [hAe] at h; simp at h)
      have HE := Lib.hid (HT.out.symm.trans hend)
      clear hAe hend
      go_wp2
      go_quiet (fail)
      go_wp2
      go_ret2
      refine ⟨_, _, rfl, ?_, ?_, _, World.drewN_drewN _ _ _⟩
      · rw [HE.out]; exact HAA.out
      · rw [HE.out]; exact HBB.out
    · rw [List.concat_eq_append] at hAe
      obtain ⟨p, hp⟩ : ∃ p, p = A0.length := ⟨_, rfl⟩
      have n0 : n = p + 1 := by rw [HN.out, hAe, hp]; simp
      subst n0
      obtain ⟨-, hnc, hcm, ba, oa, rfl, hca⟩ := HAA.out.some (by rw [hAe]; simp)
      have cu : w.cell? ⟨ba, oa + p, none⟩ = some (.string u) := hca.2 p u (by rw [hAe, hp]; simp)
      have p0 : (0 : Int) ≤ p := by omega
      have p1 : (p : Int) < (p : Int) + 1 := by omega
      have p2 : (0 : Int) < (p : Int) + 1 := by omega
      rcases List.eq_nil_or_concat B with hBe | ⟨B0, v, hBe⟩
      · have m0 : m = 0 := by rw [HM.out, hBe]; rfl
        subst m0
        have hend := trim_end (m := A.length) (A := A) (B := B) (fun A' B' u _ h => by rw [hBe] at h; simp at h)
        have HE := Lib.hid (HT.out.symm.trans hend)
        clear hAe hBe hend hp hca
        go_wp2
        go_quiet (fail)
        go_wp2
        go_ret2
        refine ⟨_, _, rfl, ?_, ?_, _, World.drewN_drewN _ _ _⟩
        · rw [HE.out]; exact HAA.out
        · rw [HE.out]; exact HBB.out
      · rw [List.concat_eq_append] at hBe
        obtain ⟨q, hq⟩ : ∃ q, q = B0.length := ⟨_, rfl⟩
        have m0 : m = q + 1 := by rw [HM.out, hBe, hq]; simp
        subst m0
        obtain ⟨-, hmc, hcm2, bb, ob, rfl, hcb⟩ := HBB.out.some (by rw [hBe]; simp)
        have cv : w.cell? ⟨bb, ob + q, none⟩ = some (.string v) := hcb.2 q v (by rw [hBe, hq]; simp)
        have q0 : (0 : Int) ≤ q := by omega
        have q1 : (q : Int) < (q : Int) + 1 := by omega
        have q2 : (0 : Int) < (q : Int) + 1 := by omega
        by_cases huv : u = v
        · subst huv
          have HP := Lib.hid hp
          have HQ := Lib.hid hq
          have HAE := Lib.hid hAe
          have HBE := Lib.hid hBe
          clear hAe hBe hp hq hca hcb
          have k1 : (p : Int) ≤ ca := by omega
          have k2 : (q : Int) ≤ cb := by omega
          go_wp2
          go_quiet (fail)
          go_wp2
          go_quiet (fail)
          go_wp2
          have h1 := HAA.out
          have h2 := HBB.out
          have h3' := HT.out
          rw [HAE.out] at h1 h3'
          rw [HBE.out] at h2 h3'
          rw [List.length_append, List.length_singleton, trim_step] at h3'
          refine ⟨⟨A0, B0, p, q, _, rfl, rfl, h1.front p HP.out, h2.front q HQ.out, h3', by rw [World.drewN_drewN, World.drewN_drewN]⟩, by simp [tlen]⟩
        · have hend := trim_end (m := A.length) (A := A) (B := B) (fun A' B' x h1 h2 => by
            rw [hAe] at h1
            rw [hBe] at h2
            have e1 := (List.append_inj' h1 rfl).2
            have e2 := (List.append_inj' h2 rfl).2
            simp at e1 e2
            exact huv (e1.trans e2.symm))
          have HE := Lib.hid (HT.out.symm.trans hend)
          have HUV := Lib.hid huv
          clear hAe hBe hend hp hq hca hcb huv
          go_wp2
          go_quiet (fail)
          go_wp2
          · exact absurd (ba_eq' (by assumption)) HUV.out
          · go_ret2
            refine ⟨_, _, rfl, ?_, ?_, _, World.drewN_drewN _ _ _⟩
            · rw [HE.out]; exact HAA.out
            · rw [HE.out]; exact HBB.out
end Go.Proofs.YteppgjdkoakpeaaDoor
