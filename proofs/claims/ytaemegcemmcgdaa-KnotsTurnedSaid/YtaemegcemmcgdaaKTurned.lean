/- KnotsTurned: its walk. -/
import Derived.Test.YtaemegcemmcgdaaKSame
import Derived.Deep.RegionLaw
set_option linter.unusedVariables false
namespace Go.Proofs.Ytaemegcemmcgdaa
open Go.ChangeShapes Go.WideShapes Go.ChangeAt Go.RowKit

def othL (es : Ed) (r : Nat) : Ed := (es.drop r).reverse.flatMap fun e => [e, e]
def bakL (es : Ed) (r : Nat) : Ed := (es.drop r).reverse.map fun e => (e.2, e.1)
theorem drop_step {es : Ed} {k : Nat} {e : Int × Int} (h : es[k]? = some e) : (es.drop k).reverse = (es.drop (k + 1)).reverse ++ [e] := by
  obtain ⟨hk, he⟩ := List.getElem?_eq_some_iff.1 h
  rw [List.drop_eq_getElem_cons hk, he, List.reverse_cons]
theorem othL_step {es : Ed} {k : Nat} {e : Int × Int} (h : es[k]? = some e) : othL es k = othL es (k + 1) ++ [e, e] := by
  unfold othL
  rw [drop_step h, List.flatMap_append]
  rfl
theorem bakL_step {es : Ed} {k : Nat} {e : Int × Int} (h : es[k]? = some e) : bakL es k = bakL es (k + 1) ++ [(e.2, e.1)] := by
  unfold bakL
  rw [drop_step h, List.map_append]
  rfl
theorem othL_len (es : Ed) (r : Nat) : (othL es r).length = 2 * (es.length - r) := by
  have : ∀ l : Ed, (l.flatMap fun e => [e, e]).length = 2 * l.length := by
    intro l
    induction l with
    | nil => rfl
    | cons a l ih => rw [List.flatMap_cons, List.length_append, ih, List.length_cons]; simp; omega
  unfold othL
  rw [this, List.length_reverse, List.length_drop]
theorem bakL_len (es : Ed) (r : Nat) : (bakL es r).length = es.length - r := by simp [bakL]
theorem mem_toN {n : Int} {es : Ed} {e : Nat × Nat} : e ∈ toN (amongL n es) ↔ ∃ x ∈ es, rightP n x = true ∧ e = (x.1.toNat, x.2.toNat) := by
  unfold toN amongL
  simp only [List.mem_map, List.mem_filter]
  constructor
  · rintro ⟨x, ⟨h1, h2⟩, h3⟩; exact ⟨x, h1, h2, h3.symm⟩
  · rintro ⟨x, h1, h2, h3⟩; exact ⟨x, ⟨h1, h2⟩, h3.symm⟩
theorem oth_same (n : Int) (es : Ed) (e : Nat × Nat) : e ∈ toN (amongL n es) ↔ e ∈ toN (amongL n (othL es 0)) := by
  have : ∀ x, x ∈ othL es 0 ↔ x ∈ es := by
    intro x
    simp [othL]
  rw [mem_toN, mem_toN]
  simp only [this]
theorem bak_turn (n : Int) (es : Ed) (a b : Nat) : EdR (toN (amongL n es)) a b ↔ EdR (toN (amongL n (bakL es 0))) b a := by
  unfold EdR
  rw [mem_toN, mem_toN]
  constructor
  · rintro ⟨x, h1, h2, h3⟩
    refine ⟨(x.2, x.1), by simp [bakL]; exact ⟨_, _, h1, rfl, rfl⟩, ?_, ?_⟩
    · have := rightP_iff.1 h2
      exact rightP_iff.2 ⟨this.2.1, this.1, this.2.2.2, this.2.2.1⟩
    · injection h3 with e1 e2
      rw [e1, e2]
  · rintro ⟨x, h1, h2, h3⟩
    obtain ⟨x0, h4, rfl⟩ := List.mem_map.1 h1
    rw [List.mem_reverse, List.drop_zero] at h4
    refine ⟨x0, h4, ?_, ?_⟩
    · have := rightP_iff.1 h2
      exact rightP_iff.2 ⟨this.2.1, this.1, this.2.2.2, this.2.2.1⟩
    · injection h3 with e1 e2
      rw [e1, e2]

theorem src_newD {P : Program} {w : World} {k : Nat} {t e : TypeId} (ht : P.underlying t = some (.slice e)) (us : List Value) (c : Nat) (t1 : TypeId) (m : Nat) (hl : us.length = m * k) (h1 : ∀ u ∈ us, u.oneCell' = true) :
    Src P k t (.slice (some ⟨w.heap.size, 0, none⟩) m c) m us (w.alloc (.cells us.toArray t1)).drew :=
  Src.ofSlice _ ht _ m c us hl (fun j u hj => by
    have e2 : (⟨w.heap.size, 0, none⟩ : Addr).add j = ⟨w.heap.size, j, none⟩ := by unfold Addr.add; split <;> simp_all
    rw [e2]
    show (w.alloc (.cells us.toArray t1)).cell? _ = _
    rw [World.cell?_alloc_at _ _ _ _ rfl]
    simpa using hj) h1
set_option maxHeartbeats 4000000 in
set_option maxRecDepth 100000 in
theorem kturned_law (n : Int) (es : Ed) (v : Value) (w : World) (hr : RE w v es) (hl : es.length ≤ 140737488355328) (hn1 : -9223372036854775808 ≤ n) (hn2 : n ≤ 9223372036854775807) :
    Calls Try.prog 8 #[.int .i64 n, v] w fun e w' => e = .returned (.bool true) ∧ Below w.heap.size w w' := by
  obtain ⟨va, vc, rfl⟩ := hr.form
  obtain ⟨E, hE⟩ : ∃ E, E = es.length := ⟨_, rfl⟩
  rw [← hE] at hr hl ⊢
  have AW := Lib.hid (kawake_any w)
  have HR := Lib.hid hr
  have HE := Lib.hid hE
  clear hr hE
  go_enter Try.func8, Try.ntmps8
  go_wp2_with fail
  refine AW.out.mono ?_
  rintro e w2 ⟨rfl, hb2⟩
  have HB2 := Lib.hid hb2
  clear hb2
  by_cases hg1 : n < 0
  · go_wp2_with fail
    go_ret
    exact ⟨rfl, HB2.out⟩
  by_cases hg2 : 500 < n
  · go_wp2_with fail
    go_ret
    exact ⟨rfl, HB2.out⟩
  by_cases hg3 : 3000 < E
  · have hg3I : (3000 : Int) < (E : Int) := by omega
    go_wp2_with fail
    go_ret
    exact ⟨rfl, HB2.out⟩
  have hg3I : ¬ (3000 : Int) < (E : Int) := by omega
  have hE3 : E ≤ 3000 := by omega
  go_wp2_with fail
  go_loopw [5, 6, 7] (fun ov bv jv wr => ∃ (i : Int) (r k l : Nat), jv = .int .i64 i ∧ -1 ≤ i ∧ i < E ∧ Hid ((r : Int) = i + 1 ∧ k = (othL es r).length ∧ l = (bakL es r).length) ∧ Hid (Row 2 w2.heap.size wr ov k (evs (othL es r))) ∧ Hid (Row 2 w2.heap.size wr bv l (evs (bakL es r))) ∧ Hid (ov.ownBlock ≠ none → ov.ownBlock ≠ bv.ownBlock) ∧ Hid (Below w2.heap.size w2 wr)) (fun _ _ jv _ => (intOf jv + 1).toNat)
  case atStart => exact ⟨(E : Int) - 1, E, 0, 0, rfl, by omega, by omega, Lib.hid ⟨by omega, by rw [othL_len, ← HE.out]; omega, by rw [bakL_len, ← HE.out]; omega⟩, Lib.hid (by
      have : othL es E = [] := List.length_eq_zero_iff.1 (by rw [othL_len, ← HE.out]; omega)
      rw [this]; exact Row.nil _ _ _), Lib.hid (by
      have : bakL es E = [] := List.length_eq_zero_iff.1 (by rw [bakL_len, ← HE.out]; omega)
      rw [this]; exact Row.nil _ _ _), Lib.hid (fun h e => h rfl), Lib.hid (Below.refl _ _)⟩
  case round =>
    obtain ⟨i, r, k, l, rfl, hi1, hi2, HX, HO, HK, HNE, HB⟩ := hrel
    obtain ⟨oa, oc, rfl⟩ := HO.out.form
    obtain ⟨ba, bc, rfl⟩ := HK.out.form
    by_cases hlt : 0 ≤ i
    · obtain ⟨j, rfl⟩ : ∃ j : Nat, i = (j : Int) := ⟨i.toNat, by omega⟩
      have hjE : j < E := by omega
      obtain ⟨hrj, hkl, hll⟩ := HX.out
      obtain rfl : r = j + 1 := by omega
      obtain ⟨e, he⟩ : ∃ e, es[j]? = some e := ⟨es[j]'(by rw [← HE.out]; exact hjE), by simp⟩
      have hos := othL_step he
      have hbs := bakL_step he
      obtain ⟨e1, e2⟩ := e
      obtain ⟨eb, eo, rfl, heb, hec1, hec2, D0, D1⟩ := (HR.out.below HB2.out).at he
      simp only at D0 D1 hbs
      have d0 := (HB.out.cell (p := ⟨eb, eo + j * 2, none⟩) heb).trans D0
      have d1 := (HB.out.cell (p := ⟨eb, eo + j * 2 + 1, none⟩) heb).trans D1
      have HD0 := Lib.hid D0
      have HD1 := Lib.hid D1
      clear D0 D1
      have hk9 : k ≤ 6000 := by rw [hkl, othL_len, ← HE.out]; omega
      have hl9 : l ≤ 3000 := by rw [hll, bakL_len, ← HE.out]; omega
      have HOS := Lib.hid hos
      have HBS := Lib.hid hbs
      have HKL := Lib.hid hkl
      have HLL := Lib.hid hll
      have hbsz := HB.out.size
      have hsrc : Src Try.prog 2 43 (.slice (some ⟨wr.heap.size, 0, none⟩) 2 2) 2 [.int .i64 e1, .int .i64 e2, .int .i64 e1, .int .i64 e2] (wr.alloc (.cells #[.int .i64 e1, .int .i64 e2, .int .i64 e1, .int .i64 e2] 50)).drew := src_newD (k := 2) Try.underlying43 [.int .i64 e1, .int .i64 e2, .int .i64 e1, .int .i64 e2] 2 50 2 rfl (by
        intro u hu
        simp at hu
        rcases hu with rfl | rfl | rfl | rfl <;> rfl)
      have HSRC := Lib.hid hsrc
      have HRA := Lib.hid ((HO.out.alloc (.cells #[.int .i64 e1, .int .i64 e2, .int .i64 e1, .int .i64 e2] 50)).drew)
      have hszw : w2.heap.size ≤ (wr.alloc (.cells #[.int .i64 e1, .int .i64 e2, .int .i64 e1, .int .i64 e2] 50)).drew.heap.size := by show _ ≤ (wr.alloc _).heap.size; simp; omega
      unfold maxLen at hec2
      have hjI : (j : Int) < (E : Int) := by omega
      clear he hos hbs hkl hll hsrc hrj HX
      go_wp2_with fail
      go_region_law (refine step_append_row rfl (.tmp 33) (.tmp 42) 43 43 rfl 2 50 (.agg #[.int .i64 0, .int .i64 0]) 16 Try.underlying43 infoPr rfl w2.heap.size (.slice oa k oc) k (evs (othL es (j + 1))) (by simp [Act.eval]) HRA.out (.slice (some ⟨wr.heap.size, 0, none⟩) 2 2) (by simp [Act.eval]) 2 [.int .i64 e1, .int .i64 e2, .int .i64 e1, .int .i64 e2] HSRC.out hszw (by omega) (by decide) ?_; intro v6 w6 hr6 ho6 hw6; obtain ⟨a6, c6, hv6⟩ := hr6.form; subst hv6; have HR6 := Lib.hid hr6; have HO6 := Lib.hid ho6; have HW6 := Lib.hid hw6; clear hr6 ho6 hw6)
      all_goals
        go_wp2_with fail
        have hoa : Off (fun b => (Value.slice oa k oc).ownBlock = some b) wr w6 := ((Off.refl _ wr).alloc _).drew.trans HO6.out
        have hb6 : Below w2.heap.size w2 w6 := HB.out.trans (hoa.below (B := w2.heap.size) (fun b hb => (HO.out.lt b hb).1) HB.out.size)
        have hk6 := HK.out.off hoa (fun b hb e => HNE.out (by rw [e]; exact Option.some_ne_none _) (by rw [e, hb]))
        have g0 := (hb6.cell (p := ⟨eb, eo + j * 2, none⟩) heb).trans HD0.out
        have g1 := (hb6.cell (p := ⟨eb, eo + j * 2 + 1, none⟩) heb).trans HD1.out
        have hs6 := hb6.size
        have hsw : wr.heap.size ≤ w6.heap.size := hoa.size
        have ne6 : (Value.slice a6 (k + 2) c6).ownBlock ≠ none → (Value.slice a6 (k + 2) c6).ownBlock ≠ (Value.slice ba l bc).ownBlock := fun hne e => by
          rcases HW6.out with h | h
          · exact HNE.out (by rw [← h]; exact hne) (by rw [← h, e])
          · have h2 := (HK.out.lt _ (e.symm.trans h)).2
            have h3 : (wr.alloc (.cells #[.int .i64 e1, .int .i64 e2, .int .i64 e1, .int .i64 e2] 50)).drew.heap.size = wr.heap.size + 1 := by show (wr.alloc _).heap.size = _; simp
            omega
        have HNE6 := Lib.hid ne6
        have hsrc : Src Try.prog 2 43 (.slice (some ⟨w6.heap.size, 0, none⟩) 1 1) 1 [.int .i64 e2, .int .i64 e1] (w6.alloc (.cells #[.int .i64 e2, .int .i64 e1] 50)).drew := src_newD (k := 2) Try.underlying43 [.int .i64 e2, .int .i64 e1] 1 50 1 rfl onePr
        have HSRC2 := Lib.hid hsrc
        have HRA2 := Lib.hid ((hk6.alloc (.cells #[.int .i64 e2, .int .i64 e1] 50)).drew)
        have hszw2 : w2.heap.size ≤ (w6.alloc (.cells #[.int .i64 e2, .int .i64 e1] 50)).drew.heap.size := by show _ ≤ (w6.alloc _).heap.size; simp; omega
        have HB6 := Lib.hid hb6
        have HK6 := Lib.hid hk6
        clear hsrc hb6 hk6 ne6 d0 d1 hoa
        go_region_law (refine step_append_row rfl (.tmp 44) (.tmp 56) 43 43 rfl 2 50 (.agg #[.int .i64 0, .int .i64 0]) 16 Try.underlying43 infoPr rfl w2.heap.size (.slice ba l bc) l (evs (bakL es (j + 1))) (by simp [Act.eval]) HRA2.out (.slice (some ⟨w6.heap.size, 0, none⟩) 1 1) (by simp [Act.eval]) 1 [.int .i64 e2, .int .i64 e1] HSRC2.out hszw2 (by omega) (by decide) ?_; intro v9 w9 hr9 ho9 hw9; obtain ⟨a9, c9, hv9⟩ := hr9.form; subst hv9; have HR9 := Lib.hid hr9; have HO9 := Lib.hid ho9; have HW9 := Lib.hid hw9; clear hr9 ho9 hw9)
        all_goals
          go_wp2_with fail
          have hob : Off (fun b => (Value.slice ba l bc).ownBlock = some b) w6 w9 := ((Off.refl _ w6).alloc _).drew.trans HO9.out
          have hr6 : Row 2 w2.heap.size w9 (.slice a6 (k + 2) c6) (k + 2) (evs (othL es j)) := by
            have : evs (othL es j) = evs (othL es (j + 1)) ++ [.int .i64 e1, .int .i64 e2, .int .i64 e1, .int .i64 e2] := by rw [HOS.out]; simp [evs]
            rw [this]
            exact HR6.out.off hob (fun b hb e => HNE6.out (by rw [hb]; exact Option.some_ne_none _) (by rw [hb, e]))
          have hr9 : Row 2 w2.heap.size w9 (.slice a9 (l + 1) c9) (l + 1) (evs (bakL es j)) := by
            have : evs (bakL es j) = evs (bakL es (j + 1)) ++ [.int .i64 e2, .int .i64 e1] := by rw [HBS.out]; simp [evs]
            rw [this]
            exact HR9.out
          have ne9 : (Value.slice a6 (k + 2) c6).ownBlock ≠ none → (Value.slice a6 (k + 2) c6).ownBlock ≠ (Value.slice a9 (l + 1) c9).ownBlock := fun hne e => by
            rcases HW9.out with h | h
            · exact HNE6.out hne (by rw [← h]; exact e)
            · have h2 := (HR6.out.lt _ (e.trans h)).2
              have h3 : (w6.alloc (.cells #[.int .i64 e2, .int .i64 e1] 50)).drew.heap.size = w6.heap.size + 1 := by show (w6.alloc _).heap.size = _; simp
              omega
          have hb9 : Below w2.heap.size w2 w9 := HB6.out.trans (hob.below (B := w2.heap.size) (fun b hb => (HK6.out.lt b hb).1) HB6.out.size)
          exact ⟨⟨(j : Int) - 1, j, k + 2, l + 1, by go_num, by omega, by omega, Lib.hid ⟨by omega, by rw [HKL.out, HOS.out, List.length_append]; rfl, by rw [HLL.out, HBS.out, List.length_append]; rfl⟩, Lib.hid hr6, Lib.hid hr9, Lib.hid ne9, Lib.hid hb9⟩, by simp [intOf]⟩
    · obtain ⟨hrj, hkl, hll⟩ := HX.out
      obtain rfl : r = 0 := by omega
      obtain ⟨N, rfl⟩ : ∃ N : Nat, n = (N : Int) := ⟨n.toNat, by omega⟩
      have hb := HB2.out.trans (HB.out.mono HB2.out.size)
      have HEd : Hid (RE wr (.slice va E vc) es) := Lib.hid ((HR.out.below HB2.out).below HB.out)
      have HOd : Hid (RE wr (.slice oa k oc) (othL es 0)) := Lib.hid (RE.ofRow (by rw [← hkl]; exact HO.out))
      have HBd : Hid (RE wr (.slice ba l bc) (bakL es 0)) := Lib.hid (RE.ofRow (by rw [← hll]; exact HK.out))
      have hkl9 : (othL es 0).length ≤ 6000 := by rw [othL_len, ← HE.out]; omega
      have hll9 : (bakL es 0).length ≤ 3000 := by rw [bakL_len, ← HE.out]; omega
      have K1 := Lib.hid (knotsF_any (N : Int) es (.slice va E vc) wr HEd.out (by rw [← HE.out]; omega) (by omega) (by omega))
      have HBW := Lib.hid hb
      clear hrj hkl hll hb HX
      go_wp2_with fail
      refine K1.out.mono ?_
      rintro e w3 ⟨kv, ks, rfl, hk1, hk2, hb3⟩
      rw [Int.toNat_natCast] at hk1 hk2
      have HK1 := Lib.hid (RI.ofBk hk1)
      have HK2 := Lib.hid hk2
      have HB3 := Lib.hid hb3
      have S1 := Lib.hid (sortF_any (N : Int) es (.slice va E vc) w3 (HEd.out.below hb3) (by rw [← HE.out]; omega) (by omega) (by omega))
      clear hk1 hk2 hb3 K1
      go_wp2_with fail
      refine S1.out.mono ?_
      rintro e w4 ⟨av, ao, aok, rfl, ha1, ha2, hb4⟩
      rw [Int.toNat_natCast] at ha1
      have HA1 := Lib.hid ha1
      have HA2 := Lib.hid ha2
      have HB4 := Lib.hid (HB3.out.trans (hb4.mono HB3.out.size))
      have HK3 := Lib.hid (HK1.out.below hb4)
      have S2 := Lib.hid (sortF_any (N : Int) (othL es 0) (.slice oa k oc) w4 ((HOd.out.below HB3.out).below hb4) (by omega) (by omega) (by omega))
      clear ha1 ha2 hb4 S1
      go_wp2_with fail
      refine S2.out.mono ?_
      rintro e w5 ⟨bv', bo, bok, rfl, hs1, hs2, hb5⟩
      rw [Int.toNat_natCast] at hs1
      obtain ⟨hoe, hke⟩ := HA1.out.unique (sort_same (fun e => (oth_same (N : Int) es e).symm) hs1)
      subst hoe; subst hke
      have HB5 := Lib.hid (HB4.out.trans (hb5.mono HB4.out.size))
      have HK5 := Lib.hid (HK3.out.below hb5)
      have HA5 := Lib.hid (HA2.out.below hb5)
      have HS5 := Lib.hid hs2
      have hal : ao.length ≤ N := by
        rcases HA1.out with ⟨_, h, _⟩ | ⟨_, h, _⟩
        · exact reach_len h
        · rw [h]; simp
      have K2 := Lib.hid (knotsF_any (N : Int) (othL es 0) (.slice oa k oc) w5 (HOd.out.below HB5.out) (by omega) (by omega) (by omega))
      clear hs1 hs2 hb5 S2
      go_wp2_with fail
      refine K2.out.mono ?_
      rintro e w6 ⟨kv2, ks2, rfl, hk1, hk2, hb6⟩
      rw [Int.toNat_natCast] at hk1 hk2
      have hkk : ansL ks N = ansL ks2 N := ans_unique (knot_same (fun a b => oth_same (N : Int) es (a, b))) HK2.out hk2
      have HB6 := Lib.hid (HB5.out.trans (hb6.mono HB5.out.size))
      have SM := Lib.hid (sameI_any _ _ kv kv2 w6 (HK5.out.below hb6) (RI.ofBk hk1) (by simp [ansL]; omega) (by simp [ansL]; omega))
      rw [← hkk, decide_eq_true rfl] at SM
      have HK6 := Lib.hid (HK5.out.below hb6)
      have HA6 := Lib.hid (HA5.out.below hb6)
      have HS6 := Lib.hid (HS5.out.below hb6)
      clear hk1 hk2 hb6 K2 hkk
      go_wp2_with fail
      refine SM.out.mono ?_
      rintro e w7 ⟨rfl, hb7⟩
      have HB7 := Lib.hid (HB6.out.trans (hb7.mono HB6.out.size))
      have HK7 := Lib.hid (HK6.out.below hb7)
      have HA7 := Lib.hid (HA6.out.below hb7)
      have HS7 := Lib.hid (HS6.out.below hb7)
      have K3 := Lib.hid (knotsF_any (N : Int) (bakL es 0) (.slice ba l bc) w7 (HBd.out.below HB7.out) (by omega) (by omega) (by omega))
      clear hb7 SM
      go_wp2_with fail
      refine K3.out.mono ?_
      rintro e w8 ⟨kv3, ks3, rfl, hk1, hk2, hb8⟩
      rw [Int.toNat_natCast] at hk1 hk2
      have hkk : ansL ks N = ansL ks3 N := ans_unique (knot_turn (fun a b => bak_turn (N : Int) es a b)) HK2.out hk2
      have HB8 := Lib.hid (HB7.out.trans (hb8.mono HB7.out.size))
      have SM := Lib.hid (sameI_any _ _ kv kv3 w8 (HK7.out.below hb8) (RI.ofBk hk1) (by simp [ansL]; omega) (by simp [ansL]; omega))
      rw [← hkk, decide_eq_true rfl] at SM
      have HA8 := Lib.hid (HA7.out.below hb8)
      have HS8 := Lib.hid (HS7.out.below hb8)
      clear hk1 hk2 hb8 K3 hkk
      go_wp2_with fail
      refine SM.out.mono ?_
      rintro e w9 ⟨rfl, hb9⟩
      have HB9 := Lib.hid (HB8.out.trans (hb9.mono HB8.out.size))
      have SM2 := Lib.hid (sameI_any ao ao av bv' w9 (HA8.out.below hb9) (HS8.out.below hb9) (by omega) (by omega))
      rw [decide_eq_true rfl] at SM2
      clear hb9 SM
      go_wp2_with fail
      refine SM2.out.mono ?_
      rintro e w10 ⟨rfl, hb10⟩
      have HB10 := Lib.hid (HB9.out.trans (hb10.mono HB9.out.size))
      clear hb10 SM2
      cases aok
      · go_wp2_with fail
        go_ret
        exact ⟨rfl, HBW.out.trans (HB10.out.mono HBW.out.size)⟩
      · go_wp2_with fail
        go_ret
        exact ⟨rfl, HBW.out.trans (HB10.out.mono HBW.out.size)⟩
end Go.Proofs.Ytaemegcemmcgdaa
