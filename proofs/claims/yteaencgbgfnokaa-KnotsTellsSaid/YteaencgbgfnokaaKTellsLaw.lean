/- The law KnotsTells, walked. -/
import Derived.Test.YteaencgbgfnokaaKSame
import Derived.Test.YteaencgbgfnokaaKRSort
set_option linter.unusedVariables false
set_option linter.unusedSimpArgs false
namespace Go.Proofs.Yteaencgbgfnokaa
open Go.ChangeShapes Go.WideShapes Go.ChangeAt Go.RowKit

set_option maxHeartbeats 4000000 in
set_option maxRecDepth 100000 in
theorem ktells_law (n : Int) (es : Ed) (v : Value) (w : World) (hr : RE w v es) (hl : es.length ≤ 140737488355328) (hn1 : -9223372036854775808 ≤ n) (hn2 : n ≤ 9223372036854775807) :
    Calls Try.prog 3 #[.int .i64 n, v] w fun e w' => e = .returned (.bool true) ∧ Below w.heap.size w w' := by
  obtain ⟨va, vc, rfl⟩ := hr.form
  obtain ⟨E, hE⟩ : ∃ E, E = es.length := ⟨_, rfl⟩
  rw [← hE] at hr hl ⊢
  have AW := Lib.hid (kawake_any w)
  have HR := Lib.hid hr
  have HE := Lib.hid hE
  clear hr hE
  go_enter Try.func3, Try.ntmps3
  go_wp2_with fail
  refine AW.out.mono ?_
  rintro e w2 ⟨rfl, hb2⟩
  have HB2 := Lib.hid hb2
  clear hb2 AW
  by_cases hg1 : 60 < n
  · go_wp2_with fail
    go_ret
    exact ⟨rfl, HB2.out⟩
  by_cases hg2 : 300 < E
  · go_wp2_with fail
    go_ret
    exact ⟨rfl, HB2.out⟩
  have hE9 : es.length ≤ 400000 := by have := HE.out; omega
  have S1 := Lib.hid (sortF_any n es (.slice va E vc) w2 (HR.out.below HB2.out) hE9 hn1 (by omega))
  go_wp2_with fail
  refine S1.out.mono ?_
  rintro e w3 ⟨av, ao, aok, rfl, ha1, ha2, hb3⟩
  have HB3 := Lib.hid (HB2.out.trans (hb3.mono HB2.out.size))
  have S2 := Lib.hid (rsort_any n es (.slice va E vc) w3 (HR.out.below HB3.out) hE9 hn1 (by omega))
  have HA1 := Lib.hid ha1
  have HA2 := Lib.hid ha2
  clear ha1 ha2 hb3 S1
  go_wp2_with fail
  refine S2.out.mono ?_
  rintro e w4 ⟨bv, bo, bok, rfl, hb1, hb2, hb4⟩
  obtain ⟨rfl, rfl⟩ := HA1.out.unique hb1
  have hlen : ao.length ≤ 1000000 := by
    rcases hb1 with ⟨_, _, h⟩ | ⟨_, h, _⟩
    · omega
    · rw [h]; simp
  have HLN := Lib.hid hlen
  have HB4 := Lib.hid (HB3.out.trans (hb4.mono HB3.out.size))
  have HA4 := Lib.hid (HA2.out.below hb4)
  have HBV := Lib.hid hb2
  have K1 := Lib.hid (knotsF_any n es (.slice va E vc) w4 (HR.out.below HB4.out) hE9 hn1 (by omega))
  clear hb1 hb2 hb4 S2 HA1 HA2 hlen
  obtain ⟨aa, ac, hav⟩ := HA4.out.form
  subst hav
  obtain ⟨ba, bc, hbv⟩ := HBV.out.form
  subst hbv
  obtain ⟨AL, hAL⟩ : ∃ AL, AL = ao.length := ⟨_, rfl⟩
  rw [← hAL] at HA4 HBV ⊢
  clear hAL
  go_wp2_with fail
  refine K1.out.mono ?_
  rintro e w5 ⟨kv, ks, rfl, hk1, hk2, hb5⟩
  have HB5 := Lib.hid (HB4.out.trans (hb5.mono HB4.out.size))
  have HA5 := Lib.hid (HA4.out.below hb5)
  have HBV5 := Lib.hid (HBV.out.below hb5)
  have HK1 := Lib.hid hk1
  have HK2 := Lib.hid hk2
  have K2 := Lib.hid (rknots_any n es (.slice va E vc) w5 (HR.out.below HB5.out) hE9 hn1 (by omega))
  obtain ⟨ka, kc, hkv⟩ := hk1.form
  subst hkv
  clear hk1 hk2 hb5 K1 HA4 HBV
  go_wp2_with fail
  refine K2.out.mono ?_
  rintro e w6 ⟨lv, ls, rfl, hl1, hl2, hb6⟩
  have HB6 := Lib.hid (HB5.out.trans (hb6.mono HB5.out.size))
  have HA6 := Lib.hid (HA5.out.below hb6)
  have HBV6 := Lib.hid (HBV5.out.below hb6)
  have hsame : ansL ks n.toNat = ansL ls n.toNat := ansL_congr fun x hx => (HK2.out x hx).unique (hl2 x hx)
  have hsl : (ansL ks n.toNat).length ≤ 1000000 := by simp [ansL]; omega
  have SM := sameI_any (nl (ansL ks n.toNat)) (nl (ansL ls n.toNat)) _ lv w6 (RI.ofBk (HK1.out.below hb6)) (RI.ofBk hl1) (by simpa using hsl) (by simpa [hsame] using hsl)
  rw [hsame, decide_eq_true rfl] at SM
  have HSM := Lib.hid SM
  obtain ⟨la, lc, hlv⟩ := hl1.form
  subst hlv
  clear hl1 hl2 hb6 K2 HA5 HBV5 SM hsame hsl HK1 HK2
  go_wp2_with fail
  refine HSM.out.mono ?_
  rintro e w7 ⟨rfl, hb7⟩
  have HB7 := Lib.hid (HB6.out.trans (hb7.mono HB6.out.size))
  have SM := sameI_any ao ao _ _ w7 (HA6.out.below hb7) (HBV6.out.below hb7) HLN.out HLN.out
  rw [decide_eq_true rfl] at SM
  have HSM2 := Lib.hid SM
  clear hb7 HSM SM HA6 HBV6
  go_wp2_with fail
  refine HSM2.out.mono ?_
  rintro e w8 ⟨rfl, hb8⟩
  have HB8 := Lib.hid (HB7.out.trans (hb8.mono HB7.out.size))
  clear hb8
  cases aok
  all_goals
    go_wp2_with fail
    go_ret
    exact ⟨rfl, HB8.out⟩
end Go.Proofs.Yteaencgbgfnokaa
