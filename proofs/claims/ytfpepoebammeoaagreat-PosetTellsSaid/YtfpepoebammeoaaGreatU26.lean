/- Of package poset: asked. Of package poset: stretch. -/
import Derived.Test.YtfpepoebammeoaaGreatU0
import Derived.Test.YtfpepoebammeoaaGreatU23
import Derived.Test.YtfpepoebammeoaaGreatU25
import Derived.Test.YtfpepoebammeoaaGreatU5
set_option linter.unusedVariables false
set_option linter.unusedSimpArgs false
namespace Go.Proofs.YtfpepoebammeoaaGreat
open Go.ChangeShapes Go.WideShapes Go.ChangeAt Go.RowKit Go.WideMaps Go.Maps

theorem sort_any {S : Nat} (zs : List Int) (v : Value) (w : World) (h : Row 1 S w v zs.length (iv zs)) (hl : zs.length ≤ 1000000) :
    Calls Tryz.prog 39 #[v] w fun e w' => e = .returned (.tuple #[]) ∧ RI w' v (sortI zs) ∧ Off (fun i => v.ownBlock = some i) w w' := by
  rcases Nat.eq_zero_or_pos zs.length with h0 | hp
  · obtain ⟨a, c, rfl⟩ := h.form
    have hz : zs = [] := List.length_eq_zero_iff.1 h0
    subst hz
    refine (Tryz.slices_Sort_int_none a c w).mono ?_
    rintro e w' ⟨rfl, rfl⟩
    exact ⟨rfl, .inl ⟨by simp [sortI], a, c, rfl⟩, Off.refl _ _⟩
  · obtain ⟨b, cap, rfl, hBb, hbw, hkc, hcm, hcs, _⟩ := h.pos hp
    have hH := holdsI_of_row h
    have htl : (sortI zs).length = zs.length := List.length_mergeSort _
    have hsort := Tryz.slices_Sort_int b 0 cap zs w hH hbw (by omega)
    refine hsort.mono ?_
    rintro e w' ⟨rfl, nn, os, rfl⟩
    have hH2 := holdsI_sorted (n := nn) (os := os) hH hbw htl
    have ho1 := offI_sorted (w := w) (g := b) (n := nn) (os := os) (sortI zs).toArray
    have hown : ∀ i, i = b → (Value.slice (some ⟨b, 0, none⟩) zs.length cap).ownBlock = some i := fun i hi => by rw [hi]; rfl
    have hb3 := Nat.lt_of_lt_of_le hbw ho1.size
    refine ⟨rfl, .inr ⟨fun e => by rw [e] at htl; simp at htl; omega, b, 0, cap, by rw [htl], by rw [htl]; exact hkc, hcm, hb3, fun j x hx => ?_⟩, ho1.mono hown⟩
    have hj := (List.getElem?_eq_some_iff.1 hx).1
    have := (hH2 j (by simpa using hj)).1
    rw [getElem!_pos _ j (by simpa using hj)] at this
    simp only [List.getElem_toArray] at this
    rw [(List.getElem?_eq_some_iff.1 hx).2] at this
    rw [Nat.zero_add] at this ⊢
    exact this
theorem off_below {B : Nat} {Z : Nat → Prop} {w w' : World} (h : Off Z w w') (hz : ∀ i, Z i → B ≤ i) (hB : B ≤ w.heap.size) : Below B w w' := ⟨h.os, h.tape, h.output, h.size, fun k hk => h.block k (by omega) fun c => by have := hz k c; omega⟩
theorem row_grown {k B b n : Nat} {w w' : World} {v : Value} {cs : List Value} (h : Row k B w v n cs) (hg : w.grownBy w' (some b)) (hb : b < B) : Row k B w' v n cs :=
  h.carry hg.size fun i hi => hg.block i (h.lt i hi).2 (fun e => by injection e with e; have := (h.lt i hi).1; omega)
theorem MS.off' {W W' : World} {b : Nat} {ks : List Int} {Z : Nat → Prop} (h : MS W b ks) (ho : Off Z W W') (hb : ¬ Z b) : MS W' b ks := by
  have hlt := h.lt
  obtain ⟨D, ⟨es, clock, h0, F, hs, hD⟩, h2⟩ := h
  exact ⟨D, ⟨es, clock, (ho.block b hlt hb).trans h0, F, hs, hD⟩, h2⟩
theorem zeroU (w : World) : (zeroValue 118).run Tryz.prog w = .ok (.agg #[]) w := by kernel_rfl
section
variable {p : Nat} {n : Int} {es : EdN} {T : List Nat} {pl : Nat → Nat} {W : EdN}
set_option maxHeartbeats 2000000 in
set_option maxRecDepth 100000 in
theorem asked_any (l : List Int) (v : Value) (w : World) (h : OrdX w p n es T pl W) (hr : RI w v l) (hl : l.length ≤ 100000) :
    Calls Tryz.prog 59 #[.pointer (some ⟨p, 0, none⟩), v] w fun e w' => ∃ ov, e = .returned ov ∧ RI w' ov (nl (askN (hasB n) (plI T pl) l)) ∧ (∀ i, ov.ownBlock = some i → w.heap.size ≤ i ∧ i < w'.heap.size) ∧ Below w.heap.size w w' := by
  have hA : nl (askN (hasB n) (plI T pl) l) = sortI (askL (hasB n) (plI T pl) l) := (askN_is n (plI T pl) l).ints
  rw [hA]
  obtain ⟨P, hP⟩ : ∃ P, P = plI T pl := ⟨_, rfl⟩
  obtain ⟨va, vc, hv9⟩ := hr.form
  obtain ⟨L, hL⟩ : ∃ L, L = l.length := ⟨_, rfl⟩
  rw [← hL] at hv9 hl
  subst hv9
  have HAS := Lib.hid (fun t wz (hz : Below w.heap.size w wz) => hasX_any t wz (h.below hz))
  have HPL := Lib.hid (fun t wz (hz : Below w.heap.size w wz) ht => placeX_any t wz (h.below hz) ht)
  have HPB : Hid (∀ t, hasB n t = true → -400000 ≤ P t ∧ P t < 200000) := Lib.hid (fun t ht => by
    rw [hP]
    refine ⟨?_, plI_le h (hasB_iff.1 ht).1⟩
    obtain ⟨x, rfl⟩ : ∃ x : Nat, t = (x : Int) := ⟨t.toNat, by have := (hasB_iff.1 ht).1; omega⟩
    have := (hasB_iff.1 ht).2
    have := h.nb
    by_cases hx : x ∈ T
    · rw [plI_in hx]; omega
    · rw [plI_out hx]; omega)
  rw [← hP] at HPL ⊢
  have HR := Lib.hid hr
  have HLL := Lib.hid hL
  have HLEN := Lib.hid (fun j => ask_len (hasB n) P l j)
  clear hP hr hL h hA
  obtain ⟨S, hS⟩ : ∃ S, S = w.heap.size := ⟨_, rfl⟩
  have HS := Lib.hid hS
  have HM0 := Lib.hid (show MS (w.alloc (.map #[] 0)) S ((askL (hasB n) P (l.take 0)).map P) by rw [hS]; exact MS.made w)
  have HB0 := Lib.hid ((Below.refl w.heap.size w).alloc (Nat.le_refl _) (.map #[] 0))
  have hmm := @run_makeMap Tryz.prog
  go_enter Tryz.func59, Tryz.ntmps59
  go_wp2_with fail
  rw [← hS]
  clear hS hmm
  go_loopw [5, 15] (fun ov jv wr => ∃ j k : Nat, jv = .int .i64 (j : Nat) ∧ j ≤ L ∧ k ≤ j ∧ Hid (k = (askL (hasB n) P (l.take j)).length) ∧ Hid (Row 1 (S + 1) wr ov k (iv (askL (hasB n) P (l.take j)))) ∧ Hid (MS wr S ((askL (hasB n) P (l.take j)).map P)) ∧ Hid (Below S w wr)) (fun _ jv _ => L - (intOf jv).toNat)
  case atStart => exact ⟨0, 0, rfl, Nat.zero_le _, Nat.le_refl _, Lib.hid rfl, Lib.hid (Row.nil _ _ _), HM0, Lib.hid (by rw [HS.out]; exact HB0.out)⟩
  case round =>
    obtain ⟨j, k, rfl, hj, hkj, HK, HO, HM, HB⟩ := hrel
    obtain ⟨oa, oc, rfl⟩ := HO.out.form
    have HBw : Hid (Below w.heap.size w wr) := Lib.hid (by rw [← HS.out]; exact HB.out)
    by_cases hlj : j < L
    · obtain ⟨t, ht⟩ : ∃ t, l[j]? = some t := ⟨l[j]'(by rw [← HLL.out]; exact hlj), by simp⟩
      obtain ⟨vb, vo, rfl, hvb, hvc1, hvc2, ct⟩ := HR.out.at ht
      have ct := (HBw.out.cell (p := ⟨vb, _, none⟩) hvb).trans ct
      have HTK := Lib.hid (ask_take (h := hasB n) (P := P) ht)
      have HA := HAS.out t wr HBw.out
      unfold maxLen at hvc2
      clear ht
      cases hh : hasB n t with
      | false =>
        rw [hh] at HA
        have HA := Lib.hid HA
        have HT9 := Lib.hid (show askL (hasB n) P (l.take (j + 1)) = askL (hasB n) P (l.take j) by rw [HTK.out]; unfold askF; rw [hh]; rfl)
        clear hh
        go_wp2_with fail
        refine HA.out.mono ?_
        rintro e w2 ⟨rfl, hw2⟩
        obtain rfl := hw2.symm
        go_wp2_with fail
        exact ⟨⟨j + 1, k, by go_num, by omega, by omega, Lib.hid (by rw [HT9.out]; exact HK.out), Lib.hid (by rw [HT9.out]; exact HO.out), Lib.hid (by rw [HT9.out]; exact HM.out), HB⟩, by simp [intOf]; omega⟩
      | true =>
        rw [hh] at HA
        have HA := Lib.hid HA
        have HP := Lib.hid (HPL.out t wr HBw.out hh)
        obtain ⟨hp1, hp2⟩ := HPB.out t hh
        obtain ⟨x, hx⟩ : ∃ x, x = P t := ⟨_, rfl⟩
        rw [← hx] at HP hp1 hp2
        obtain ⟨D, hown, hhas⟩ := HM.out
        have hkey : keyOf Tryz.prog 3 (.int .i64 x) = some (li x) := li_key (by omega) (by omega)
        have hml : ((askL (hasB n) P (l.take j)).map P).length = k := by rw [List.length_map]; exact HK.out.symm
        rw [hml] at hown
        have HOWN := Lib.hid hown
        have HHAS := Lib.hid hhas
        have hsz := HM.out.lt
        have HKEY := Lib.hid hkey
        clear hml hown hhas
        cases hc : has D (li x) with
        | true =>
          have HT9 := Lib.hid (show askL (hasB n) P (l.take (j + 1)) = askL (hasB n) P (l.take j) by
            rw [HTK.out]; unfold askF; rw [hh, ← hx, ← HHAS.out x, hc]; rfl)
          clear hh hx
          go_wp2_with fail
          refine HA.out.mono ?_
          rintro e w2 ⟨rfl, hw2⟩
          obtain rfl := hw2.symm
          go_wp2_with fail
          refine HP.out.mono ?_
          rintro e w2 ⟨rfl, q1, rfl⟩
          have HOWQ := Lib.hid (show (wr.drewN q1).ownsMap Tryz.prog 3 unitElem S k D from HOWN.out)
          go_wp2_with (at_lookup; refine wpList_lookup_own_unit _ rfl _ _ 117 rfl 3 118 ilaw Tryz.underlying117 (zeroU _) S k D rfl HOWQ.out _ _ rfl HKEY.out ?_; rw [hc])
          exact ⟨⟨j + 1, k, by go_num, by omega, by omega, Lib.hid (by rw [HT9.out]; exact HK.out), Lib.hid (by rw [HT9.out]; exact (HO.out.drewN).alloc _), Lib.hid (by rw [HT9.out]; exact HM.out.below ((below_drewN (Below.refl _ _)).alloc (Nat.le_refl _) _)), Lib.hid ((below_drewN HB.out).alloc (by rw [HS.out]; exact HB.out.size) _)⟩, by simp [intOf]; omega⟩
        | false =>
          have HT9 := Lib.hid (show askL (hasB n) P (l.take (j + 1)) = askL (hasB n) P (l.take j) ++ [t] by
            rw [HTK.out]; unfold askF; rw [hh, ← hx, ← HHAS.out x, hc]; rfl)
          have HPX := Lib.hid hx
          clear hh hx
          go_wp2_with fail
          refine HA.out.mono ?_
          rintro e w2 ⟨rfl, hw2⟩
          obtain rfl := hw2.symm
          go_wp2_with fail
          refine HP.out.mono ?_
          rintro e w2 ⟨rfl, q1, rfl⟩
          have HOWQ := Lib.hid (show (wr.drewN q1).ownsMap Tryz.prog 3 unitElem S k D from HOWN.out)
          have HOWL := Lib.hid (World.ownsMap.alloc HOWQ.out (.cells #[] 118))
          have HROWL := Lib.hid (show Row 1 (S + 1) ((wr.drewN q1).alloc (.cells #[] 118)) (.slice oa k oc) k (iv (askL (hasB n) P (l.take j))) from (HO.out.drewN).alloc _)
          have HBL := Lib.hid (show Below S w ((wr.drewN q1).alloc (.cells #[] 118)) from (below_drewN HB.out).alloc (by rw [HS.out]; exact HB.out.size) _)
          have HSL := Lib.hid (show S < ((wr.drewN q1).alloc (.cells #[] 118)).heap.size by simp; omega)
          have HMF : Hid (∀ w6 : World, w6.ownsMap Tryz.prog 3 unitElem S (k + 1) (D.put (li x) (.agg [])) → MS w6 S ((askL (hasB n) P (l.take (j + 1))).map P)) := Lib.hid (fun w6 hown6 => by
            rw [HT9.out, List.map_append, List.map_cons, List.map_nil, ← HPX.out]
            exact MS.step (World.ownsMap.isMap HOWN.out) HHAS.out (by rw [List.length_map, ← HK.out]; exact hown6))
          go_wp2_with (first | (at_lookup; refine wpList_lookup_own_unit _ rfl _ _ 117 rfl 3 118 ilaw Tryz.underlying117 (zeroU _) S k D rfl HOWQ.out _ _ rfl HKEY.out ?_; rw [hc]) | (at_mapUpdate; refine wpList_mapUpdate_own _ rfl _ _ _ 117 rfl 3 118 ilaw Tryz.underlying117 _ S k D rfl HOWL.out (by unfold maxLen; omega) _ _ _ rfl rfl HKEY.out _ [] unitElem_mk ?_; intro w6 hown6 hg6; have HM6 := Lib.hid (HMF.out w6 hown6); have HROW6 := Lib.hid (row_grown HROWL.out hg6 (Nat.lt_succ_self S)); have HB6 := Lib.hid (HBL.out.grown hg6 (Nat.le_of_lt HSL.out) (fun i hi => by cases hi; exact Nat.le_refl _)); have HS6 := Lib.hid (Nat.lt_of_lt_of_le HSL.out hg6.size); clear hown6 hg6; have HSRC := Lib.hid (show Src Tryz.prog 1 23 (.slice (some ⟨w6.heap.size, 0, none⟩) 1 1) 1 [.int .i64 t] (w6.alloc (.cells #[.int .i64 t] 3)) from src_new Tryz.underlying23 [.int .i64 t] 1 3 1 rfl oneIk); have HRA := Lib.hid (HROW6.out.alloc (.cells #[.int .i64 t] 3)); have HSZW := Lib.hid (show S + 1 ≤ (w6.alloc (.cells #[.int .i64 t] 3)).heap.size by have := HS6.out; simp; omega); have HBA := Lib.hid (HB6.out.alloc (Nat.le_of_lt HS6.out) (.cells #[.int .i64 t] 3)); have HMA := Lib.hid (HM6.out.below ((Below.refl _ _).alloc (Nat.le_refl _) (.cells #[.int .i64 t] 3)))) | (at_builtin; refine wpList_append_row rfl (.tmp 37) (.tmp 39) 23 23 rfl 1 3 (.int .i64 0) 8 Tryz.underlying23 infoIk rfl (S + 1) (.slice oa k oc) k (iv (askL (hasB n) P (l.take j))) (by simp [Act.eval]) HRA.out (.slice (some ⟨w6.heap.size, 0, none⟩) 1 1) (by simp [Act.eval]) 1 [.int .i64 t] HSRC.out HSZW.out (by omega) (by decide) ?_; intro v8 w8 hr8 ho8 hw8; obtain ⟨a8, c8, hv8⟩ := hr8.form; subst hv8; have HR8 := Lib.hid hr8; have HO8 := Lib.hid ho8; clear hr8 ho8 hw8))
          have HR9 := Lib.hid (show Row 1 (S + 1) w8 (.slice a8 (k + 1) c8) (k + 1) (iv (askL (hasB n) P (l.take (j + 1)))) by
            rw [HT9.out]
            have e : iv (askL (hasB n) P (l.take j) ++ [t]) = iv (askL (hasB n) P (l.take j)) ++ [.int .i64 t] := by simp [iv]
            rw [e]
            exact HR8.out)
          have HZ : ∀ i, (Value.slice oa k oc).ownBlock = some i → S + 1 ≤ i := fun i hi => (HROW6.out.lt i hi).1
          have HB8 := Lib.hid (off_below HO8.out HZ HSZW.out)
          exact ⟨⟨j + 1, k + 1, by go_num, by omega, by omega, Lib.hid (by rw [HT9.out, List.length_append, ← HK.out]; rfl), HR9, Lib.hid (HMA.out.off' HO8.out (fun c => by have := HZ S c; omega)), Lib.hid (HBA.out.trans (HB8.out.mono (Nat.le_succ S)))⟩, by simp [intOf]; omega⟩
    · have hje : L = j := by omega
      have hll : l.take j = l := List.take_of_length_le (by rw [← HLL.out]; omega)
      have HO9 := HO.out
      have HK9 := HK.out
      rw [hll] at HO9 HK9
      rw [HK9] at HO9
      have HSO := Lib.hid (sort_any _ (.slice oa (askL (hasB n) P l).length oc) wr HO9 (by omega))
      have HRO := Lib.hid HO9
      rw [← HK9] at HSO HRO
      subst hje
      clear HO9 HK9 HO hll HK
      go_wp2_with fail
      refine HSO.out.mono ?_
      rintro e w2 ⟨rfl, hri, hof⟩
      have HRI := Lib.hid hri
      have HOF := Lib.hid hof
      clear hri hof
      go_wp2_with fail
      go_ret
      refine ⟨_, rfl, HRI.out, fun i hi => by have := (HRO.out.lt i hi).1; have := (HRO.out.lt i hi).2; have := HOF.out.size; have := HS.out; omega, ?_⟩
      rw [← HS.out]
      exact HB.out.trans (off_below HOF.out (fun i hi => by have := (HRO.out.lt i hi).1; omega) (by rw [HS.out]; exact HB.out.size))
end
end Go.Proofs.YtfpepoebammeoaaGreat
set_option linter.unusedVariables false
set_option linter.unusedSimpArgs false
namespace Go.Proofs.YtfpepoebammeoaaGreat
open Go.ChangeShapes Go.WideShapes Go.ChangeAt Go.RowKit

section
variable {p : Nat} {n : Int} {es : EdN} {T : List Nat} {pl : Nat → Nat} {W : EdN}
set_option maxHeartbeats 2000000 in
set_option maxRecDepth 100000 in
theorem stretch_any (A : List Nat) (v : Value) (w : World) (h : OrdX w p n es T pl W) (hr : RI w v (nl A)) (hA : ∀ x ∈ A, (x : Int) < n) (hl : A.length ≤ 100000) :
    Calls Tryz.prog 60 #[.pointer (some ⟨p, 0, none⟩), v] w fun e w' => ∃ lo hi : Nat, e = .returned (.tuple #[.int .i64 (lo : Int), .int .i64 (hi : Int)]) ∧ StrS (plI T pl) A lo hi ∧ Below w.heap.size w w' := by
  obtain ⟨P, hP⟩ : ∃ P, P = plI T pl := ⟨_, rfl⟩
  obtain ⟨va, vc, hv9⟩ := hr.form
  obtain ⟨L, hL⟩ : ∃ L, L = A.length := ⟨_, rfl⟩
  rw [nl_len, ← hL] at hv9
  rw [← hL] at hl
  subst hv9
  have HPL := Lib.hid (fun t wz (hz : Below w.heap.size w wz) ht => placeX_any t wz (h.below hz) ht)
  have HPB : Hid (∀ t, hasB n t = true → -400000 ≤ P t ∧ P t < 200000) := Lib.hid (fun t ht => by
    rw [hP]
    refine ⟨?_, plI_le h (hasB_iff.1 ht).1⟩
    obtain ⟨x, rfl⟩ : ∃ x : Nat, t = (x : Int) := ⟨t.toNat, by have := (hasB_iff.1 ht).1; omega⟩
    have := (hasB_iff.1 ht).2
    have := h.nb
    by_cases hx : x ∈ T
    · rw [plI_in hx]; omega
    · rw [plI_out hx]; omega)
  rw [← hP] at HPL ⊢
  have HR := Lib.hid hr
  have HLL := Lib.hid hL
  have HAN := Lib.hid hA
  clear hP hr hL h hA
  go_enter Tryz.func60, Tryz.ntmps60
  go_wp2_with fail
  go_loopw [4, 5, 11] (fun av bv jv wr => ∃ j lo hi : Nat, jv = .int .i64 (j : Nat) ∧ av = .int .i64 (lo : Nat) ∧ bv = .int .i64 (hi : Nat) ∧ j ≤ L ∧ Hid (StrS P (A.take j) lo hi) ∧ Hid (Below w.heap.size w wr)) (fun _ _ jv _ => L - (intOf jv).toNat)
  case atStart => exact ⟨0, 0, 0, rfl, rfl, rfl, Nat.zero_le _, Lib.hid ⟨Nat.le_refl _, by omega, fun _ => rfl, fun x hx => by simp at hx⟩, Lib.hid (Below.refl _ _)⟩
  case round =>
    obtain ⟨j, lo, hi, rfl, rfl, rfl, hj, HSS, HB⟩ := hrel
    by_cases hlj : j < L
    · obtain ⟨t, ht⟩ : ∃ t, A[j]? = some t := ⟨A[j]'(by rw [← HLL.out]; exact hlj), by simp⟩
      have hTK : A.take (j + 1) = A.take j ++ [t] := by rw [List.take_add_one, ht]; rfl
      have hhas : hasB n (t : Int) = true := hasB_iff.2 ⟨by omega, HAN.out t (List.mem_of_getElem? ht)⟩
      obtain ⟨vb, vo, rfl, hvb, hvc1, hvc2, ct⟩ := HR.out.at (nl_at ht)
      have ct := (HB.out.cell (p := ⟨vb, _, none⟩) hvb).trans ct
      have HP := Lib.hid (HPL.out (t : Int) wr HB.out hhas)
      obtain ⟨hp1, hp2⟩ := HPB.out (t : Int) hhas
      have HTK := Lib.hid hTK
      unfold maxLen at hvc2
      obtain ⟨x, hx⟩ : ∃ x, x = P (t : Int) := ⟨_, rfl⟩
      rw [← hx] at HP hp1 hp2
      have HPX := Lib.hid hx
      have h4 := HSS.out.2.1
      have h5 := HSS.out.1
      clear ht hTK hhas hx
      by_cases hx0 : x < 0
      · have HS9 := Lib.hid (show StrS P (A.take (j + 1)) lo hi by rw [HTK.out]; exact str_skip HSS.out (by rw [← HPX.out]; exact hx0))
        go_wp2_with fail
        refine HP.out.mono ?_
        rintro e w2 ⟨rfl, q1, rfl⟩
        go_wp2_with fail
        exact ⟨⟨j + 1, lo, hi, by go_num, rfl, rfl, by omega, HS9, Lib.hid (below_drewN HB.out)⟩, by simp [intOf]; omega⟩
      · obtain ⟨q, rfl⟩ : ∃ q : Nat, x = (q : Int) := ⟨x.toNat, by omega⟩
        have hq : q < 200000 := by omega
        have hx1 : decide ((q : Int) < 0) = false := decide_eq_false (by omega)
        clear hx0 hp1 hp2
        obtain ⟨hi2, hhi2⟩ : ∃ m, m = max hi (q + 1) := ⟨_, rfl⟩
        have hmx : max (hi : Int) ((q : Int) + 1) = (hi2 : Int) := by omega
        have hb1 : q < hi2 := by omega
        have hb2 : hi ≤ hi2 := by omega
        have hb3 : hi2 ≤ 200000 := by omega
        clear hhi2
        by_cases h0 : hi = 0
        · have hbe : ((hi : Int) == 0) = true := by rw [beq_iff_eq]; omega
          have HS9 := Lib.hid (show StrS P (A.take (j + 1)) q hi2 by rw [HTK.out]; exact str_take HSS.out HPX.out.symm hq (Nat.le_refl _) hb1 (.inl h0) hb2 hb3)
          have H0 := Lib.hid h0
          clear h0
          go_wp2_with fail
          refine HP.out.mono ?_
          rintro e w2 ⟨rfl, q1, rfl⟩
          go_wp2_with fail
          exact ⟨⟨j + 1, q, hi2, by go_num, rfl, rfl, by omega, HS9, Lib.hid (below_drewN HB.out)⟩, by simp [intOf]; omega⟩
        · have hbe : ((hi : Int) == 0) = false := by rw [beq_eq_false_iff_ne]; omega
          by_cases hql : q < lo
          · have hqb : decide ((q : Int) < (lo : Int)) = true := decide_eq_true (by omega)
            have HS9 := Lib.hid (show StrS P (A.take (j + 1)) q hi2 by rw [HTK.out]; exact str_take HSS.out HPX.out.symm hq (Nat.le_refl _) hb1 (.inr (by omega)) hb2 hb3)
            go_wp2_with fail
            refine HP.out.mono ?_
            rintro e w2 ⟨rfl, q1, rfl⟩
            go_wp2_with fail
            exact ⟨⟨j + 1, q, hi2, by go_num, rfl, rfl, by omega, HS9, Lib.hid (below_drewN HB.out)⟩, by simp [intOf]; omega⟩
          · have hqb : decide ((q : Int) < (lo : Int)) = false := decide_eq_false (by omega)
            have HS9 := Lib.hid (show StrS P (A.take (j + 1)) lo hi2 by rw [HTK.out]; exact str_take HSS.out HPX.out.symm hq (by omega) hb1 (.inr (Nat.le_refl _)) hb2 hb3)
            go_wp2_with fail
            refine HP.out.mono ?_
            rintro e w2 ⟨rfl, q1, rfl⟩
            go_wp2_with fail
            exact ⟨⟨j + 1, lo, hi2, by go_num, rfl, rfl, by omega, HS9, Lib.hid (below_drewN HB.out)⟩, by simp [intOf]; omega⟩
    · have hje : L = j := by omega
      have HS9 := Lib.hid (show StrS P A lo hi by
        have := HSS.out
        rw [List.take_of_length_le (by rw [← HLL.out]; omega)] at this
        exact this)
      subst hje
      go_wp2_with fail
      go_ret2
      exact ⟨lo, hi, rfl, HS9.out, HB.out⟩
end
end Go.Proofs.YtfpepoebammeoaaGreat
