/- OrderParts: its walk. -/
import Derived.Test.YtaemegcemmcgdaaPartsL
import Derived.Test.YtaemegcemmcgdaaBeginsLaw
set_option linter.unusedVariables false
namespace Go.Proofs.Ytaemegcemmcgdaa
open Go.ChangeShapes Go.WideShapes Go.ChangeAt Go.RowKit

set_option maxHeartbeats 2000000 in
set_option maxRecDepth 100000 in
theorem parts_law (S : SetB) (v : Value) (x : Int) (w : World) (hS : SReads w v S) (hD : ∀ p ∈ S, p.2.length ≤ 140737488355328) (hn9 : S.length ≤ 140737488355328) (hx1 : -9223372036854775808 ≤ x) (hx2 : x ≤ 9223372036854775807) :
    Calls Try.prog 4 #[v, .int .i64 x] w fun e w' => e = .returned (.bool true) ∧ Below w.heap.size w w' := by
  obtain ⟨sa, sc, rfl, _⟩ := hS.form
  obtain ⟨n, hnn⟩ : ∃ n, n = S.length := ⟨_, rfl⟩
  rw [← hnn] at hS hn9 ⊢
  have BX : ∀ W, Below w.heap.size w W → SReads W (.slice sa n sc) S := fun W hW => hS.below hW
  have HBX := Lib.hid BX
  have HN := Lib.hid hnn
  have HD := Lib.hid hD
  have HAW := Lib.hid (awake_any w)
  have r1 := eqNil
  have r2 := neNil
  have r3 := neHeld
  clear hS hnn hD BX
  go_enter Try.func4, Try.ntmps4
  go_wp2_with fail
  refine HAW.out.mono ?_
  rintro e w2 ⟨rfl, hb2⟩
  have HSM := Lib.hid (small_any S (.slice sa n sc) w2 (HBX.out w2 hb2) HD.out (by rw [← HN.out]; exact hn9))
  have HB2 := Lib.hid hb2
  clear hb2
  go_wp2_with fail
  refine HSM.out.mono ?_
  rintro e w3 ⟨b, rfl, hsm, hb3⟩
  have HB3 := Lib.hid (HB2.out.trans (hb3.mono HB2.out.size))
  clear hb3
  cases b with
  | false =>
    clear hsm
    go_wp2_with fail
    go_ret
    exact ⟨rfl, HB3.out⟩
  | true =>
    have HSS := Lib.hid (hsm.1 rfl)
    have hn60 : n ≤ 60 := by rw [HN.out]; exact HSS.out.1
    have HLI := Lib.hid (linear_any S (.slice sa n sc) w3 (HBX.out w3 HB3.out) HSS.out)
    clear hsm
    go_wp2_with fail
    refine HLI.out.mono ?_
    rintro e w4 ⟨ov, out, k, rfl, hlin, hrd, hb4⟩
    have HB4 := Lib.hid (HB3.out.trans (hb4.mono HB3.out.size))
    clear hb4
    obtain ⟨oa, oc, hov, _⟩ := hrd.form
    by_cases hk : k = 0
    · subst hk
      have h0 : errV 0 = .nilIface := rfl
      rw [h0]
      have hok := lin_ok hlin
      have hol : out.length = n := by have := hok.len; rw [List.length_map] at this; rw [this, HN.out]
      rw [hol] at hov
      subst hov
      by_cases hn0 : n = 0
      · subst hn0
        go_wp2_with fail
        go_ret
        exact ⟨rfl, HB4.out⟩
      · obtain ⟨r, j, hr, hr1, hr2, hj, hjn⟩ := rem_place x (show 0 < n by omega)
        obtain ⟨nm, hnm⟩ : ∃ s, out[j]? = some s := ⟨out[j]'(by rw [hol]; exact hjn), by simp⟩
        obtain ⟨lb0, lo, rfl, hnl, hcl⟩ := hrd.at hnm
        have HLN := Lib.hid hlin
        have HOK := Lib.hid hok
        have HOL := Lib.hid hol
        have HRD := Lib.hid hrd
        have hnz : ¬ (n : Int) = 0 := by omega
        have hnb : ((n : Int) == (0 : Int)) = false := by rw [beq_eq_false_iff_ne]; omega
        have hcp := hrd.cap (by omega)
        obtain ⟨hoc1, hoc2⟩ := hcp
        clear hlin hok hol h0 hrd hnl hcl hnm
        have hoc0 : ¬ oc = 0 := by omega
        have hb4a : Below w4.heap.size w4 (w4.alloc (.cells #[] 9)) := (Below.refl _ _).alloc (Nat.le_refl _) _
        have HRA : Hid (Row 1 w4.heap.size (w4.alloc (.cells #[] 9)) (.slice (Option.some ⟨w4.heap.size, 0, none⟩) 0 0) 0 []) := Lib.hid ⟨rfl, .inr ⟨w4.heap.size, 0, rfl, Nat.le_refl _, by simp, Nat.le_refl _, by decide, fun j hj => absurd hj (by omega), fun j u hj => by simp at hj⟩⟩
        have HSRC := Lib.hid (src_reads ((HRD.out.below hb4a).front (m := j) (by omega)))
        have hszw : w4.heap.size ≤ (w4.alloc (.cells #[] 9)).heap.size := hb4a.size
        have HB4A := Lib.hid hb4a
        clear hb4a
        go_wp2_with (at_builtin; refine wpList_append_row rfl (.tmp 42) (.tmp 45) 25 25 rfl 1 9 (.string ByteArray.empty) 16 Try.underlying25 infoS6 rfl w4.heap.size (.slice (Option.some ⟨w4.heap.size, 0, none⟩) 0 0) 0 [] (by simp [Act.eval]) HRA.out (.slice (Option.some ⟨lb0, lo, none⟩) j oc) (by simp [Act.eval]) j ((out.take j).map .string) HSRC.out hszw (by omega) (by decide) ?_; intro v5 w5 hr5 ho5 hw5; rw [Nat.zero_add, List.nil_append] at hr5; obtain ⟨a5, c5, hv5⟩ := hr5.form; subst hv5; have HR5 := Lib.hid hr5; have HO5 := Lib.hid ho5; clear hr5 ho5 hw5)
        have hb45 : Below w4.heap.size w4 w5 := HB4A.out.trans (HO5.out.below (fun k hk => by have hk : w4.heap.size = k := Option.some.inj hk; omega) HB4A.out.size)
        have HB5 := Lib.hid (HB4.out.trans (hb45.mono HB4.out.size))
        have HMI := Lib.hid (missing_any S (.slice sa n sc) (.slice a5 j c5) (out.take j) w5 (HBX.out w5 HB5.out) HSS.out (row_reads HR5.out) (by rw [List.length_take]; omega))
        have HRD5 := Lib.hid (HRD.out.below hb45)
        clear hb45
        go_wp2_with fail
        refine HMI.out.mono ?_
        rintro e w6 ⟨mv, out6, k6, rfl, hlin6, hrw6, hb6⟩
        obtain ⟨rfl, rfl⟩ : out6 = out ∧ k6 = 0 := lin_perm (List.Perm.refl S) hlin6 HLN.out
        rw [miss_drop (out_nodup HOK.out) j] at hrw6
        rw [show errV 0 = .nilIface from rfl]
        obtain ⟨m, hm⟩ : ∃ m, m = (out6.drop j).length := ⟨_, rfl⟩
        have hmn : m = n - j := by rw [hm, List.length_drop, HOL.out]
        rw [← hm] at hrw6
        obtain ⟨ra, rc, rfl⟩ := hrw6.form
        have HB6 := Lib.hid (HB5.out.trans (hb6.mono HB5.out.size))
        have HR6 := Lib.hid (HR5.out.below hb6)
        have HRD6 := Lib.hid (HRD5.out.below hb6)
        have HMS := Lib.hid (row_reads (hm ▸ hrw6 : Row 1 w5.heap.size w6 (.slice ra m rc) m ((out6.drop j).map Value.string)))
        have HMO := Lib.hid (fun g hg => (hrw6.lt g hg).1)
        have HS56 := Lib.hid hb6.size
        have hsa : ∀ W, Below w6.heap.size w6 W → Calls Try.prog 18 #[.slice ra m rc, .slice (Option.some ⟨lb0, lo + j, none⟩) (n - j) (oc - j)] W fun e w' => e = .returned (.bool true) ∧ Below W.heap.size W w' := fun W hW => by
          have h := same_any (out6.drop j) (out6.drop j) _ _ W (HMS.out.below hW) ((HRD6.out.back (m := j) (by omega)).below hW)
          rw [decide_eq_true rfl] at h
          exact h
        have HSA := Lib.hid hsa
        have HMN := Lib.hid hmn
        have hm60 : m ≤ 60 := by omega
        clear hb6 hrw6 hsa hm hlin6 hmn
        go_wp2_with fail
        refine (HSA.out w6 (Below.refl _ _)).mono ?_
        rintro e w7 ⟨rfl, hb7⟩
        have HB7 := Lib.hid (HB6.out.trans (hb7.mono HB6.out.size))
        have HR7 := Lib.hid (HR6.out.below hb7)
        have HMS7 := Lib.hid (HMS.out.below hb7)
        have hs57 : w5.heap.size ≤ w7.heap.size := Nat.le_trans HS56.out hb7.size
        have hs45 : w4.heap.size ≤ w5.heap.size := Nat.le_trans hszw HO5.out.size
        have hs04 : w.heap.size ≤ w4.heap.size := HB4.out.size
        have hown7 : ∀ g, (Value.slice a5 j c5).ownBlock = some g → (w4.heap.size ≤ g ∧ g < w5.heap.size) ∨ w7.heap.size ≤ g := fun g hg => .inl (HR5.out.lt g hg)
        have HOW7 := Lib.hid hown7
        clear hb7 hown7
        go_wp2_with fail
        go_loopw [7, 65] (fun ov jv wr => ∃ i M : Nat, jv = .int .i64 (i : Nat) ∧ i ≤ m ∧ Hid (M = j + i) ∧ Hid (Row 1 w4.heap.size wr ov M ((out6.take (j + i)).map .string)) ∧ Hid (Off (fun b => w4.heap.size ≤ b ∧ b < w5.heap.size) w7 wr) ∧ Hid (∀ g, ov.ownBlock = some g → (w4.heap.size ≤ g ∧ g < w5.heap.size) ∨ w7.heap.size ≤ g)) (fun _ jv _ => m - (intOf jv).toNat)
        case atStart => exact ⟨0, j, rfl, Nat.zero_le _, Lib.hid rfl, HR7, Lib.hid (Off.refl _ _), HOW7⟩
        case round => as_aux_lemma =>
          obtain ⟨i, M, rfl, him, HM, HW, HO, HG⟩ := hrel
          obtain ⟨va, vc, rfl⟩ := HW.out.form
          have HBW := Lib.hid (HB7.out.trans (HO.out.below (B := w.heap.size) (fun b hb => by omega) HB7.out.size))
          by_cases hlt : i < m
          · as_aux_lemma =>
            obtain ⟨q, hq⟩ : ∃ s, (out6.drop j)[i]? = some s := ⟨(out6.drop j)[i]'(by rw [List.length_drop, HOL.out]; have := HMN.out; omega), by simp⟩
            have hmsw := HMS7.out.offY HO.out (fun g hg hz => by have := HMO.out g hg; omega)
            obtain ⟨rb, ro, rfl, hnl, hcl⟩ := hmsw.at hq
            have hcq := hcl.2 i q hq
            have hqo : out6[j + i]? = some q := by rw [List.getElem?_drop] at hq; exact hq
            have HQO := Lib.hid hqo
            clear hmsw hnl hcl hq hqo
            go_wp2_with fail
            go_loopw [71] (fun kv w2 => ∃ k : Nat, kv = .int .i64 (k : Nat) ∧ k ≤ n ∧ Hid (Below wr.heap.size wr w2)) (fun kv _ => n - (intOf kv).toNat)
            case atStart => exact ⟨0, rfl, Nat.zero_le _, Lib.hid (Below.refl _ _)⟩
            case round => as_aux_lemma =>
              obtain ⟨k, rfl, hkn, HB2⟩ := hrel
              have hcq2 := (HB2.out.cell (p := ⟨rb, ro + i, none⟩) (cell_lt hcq)).trans hcq
              have HBW2 := Lib.hid (HBW.out.trans (HB2.out.mono HBW.out.size))
              by_cases hkl : k < n
              · as_aux_lemma =>
                obtain ⟨p, hp⟩ : ∃ p, S[k]? = some p := ⟨S[k]'(by rw [← HN.out]; exact hkl), by simp⟩
                obtain ⟨sb, so, rfl, hsl, hat⟩ := (HBX.out _ HBW2.out).at hp
                have hpm : p ∈ S := List.mem_of_getElem? hp
                obtain ⟨nm', deps⟩ := p
                obtain ⟨nt, dv, oa', ol, oc', c0, c1, c2, c3, hdr⟩ := hat
                obtain ⟨da, dc, hdv, _⟩ := hdr.form
                simp only at hdv c0 hdr
                subst hdv
                obtain ⟨dl, hdl⟩ : ∃ dl, dl = deps.length := ⟨_, rfl⟩
                rw [← hdl] at hdr c2
                have hdb : dl ≤ 140737488355328 := by rw [hdl]; exact HD.out _ hpm
                have HDR := Lib.hid hdr
                have HDL := Lib.hid hdl
                have HPM := Lib.hid hpm
                clear hdr hdl hpm hp
                by_cases he : bsOf nm' = bsOf q
                · as_aux_lemma =>
                  obtain rfl := bs_of_eq he
                  have hbeh : ∀ d ∈ deps, 0 ≤ Lib.idxOfS (out6.take (j + i)) d := fun d hd => by
                    have hjl := (List.getElem?_eq_some_iff.1 HQO.out)
                    obtain ⟨hj1, he1⟩ := hjl
                    have h := HOK.out.behind (j + i) (by rw [List.length_map]; exact hj1) _ HPM.out (by rw [List.getElem_map, he1]) d hd
                    rw [← List.map_take] at h
                    obtain ⟨y, hy, e⟩ := List.mem_map.1 h
                    obtain rfl := bs_of_eq e
                    exact idx_mem.2 hy
                  have HBEH := Lib.hid hbeh
                  clear he hbeh
                  go_wp2_with fail
                  go_loopw [83] (fun tv w3 => ∃ t : Nat, tv = .int .i64 (t : Nat) ∧ t ≤ dl ∧ Hid (Below wr.heap.size wr w3)) (fun tv _ => dl - (intOf tv).toNat)
                  case atStart => exact ⟨0, rfl, Nat.zero_le _, Lib.hid ((Below.refl _ _).alloc (Nat.le_refl _) _)⟩
                  case round => as_aux_lemma =>
                    obtain ⟨t, rfl, htd, HB3⟩ := hrel
                    by_cases htl : t < dl
                    · as_aux_lemma =>
                      obtain ⟨d, hd⟩ : ∃ d, deps[t]? = some d := ⟨deps[t]'(by rw [← HDL.out]; exact htl), by simp⟩
                      obtain ⟨db, dof, rfl, hnl, hcl⟩ := (HDR.out.below HB3.out).at hd
                      have hcd := hcl.2 t d hd
                      have PL := rplace_any (out6.take (j + i)) (.slice va M vc) d wr (row_reads ((HW.out.below HB2.out).below HB3.out))
                      have hge := HBEH.out d (List.mem_of_getElem? hd)
                      obtain ⟨ix, hix⟩ : ∃ ix, ix = Lib.idxOfS (out6.take (j + i)) d := ⟨_, rfl⟩
                      rw [← hix] at PL hge
                      have hnlt : ¬ ix < 0 := by omega
                      have HPLC := Lib.hid PL
                      clear hnl hcl hd PL hix hge
                      go_wp2_with fail
                      refine HPLC.out.mono ?_
                      rintro e w8 ⟨rfl, hb8⟩
                      have HB8 := Lib.hid (HB3.out.trans (hb8.mono HB3.out.size))
                      clear hb8
                      go_wp2_with fail
                      exact ⟨⟨t + 1, by go_num, by omega, HB8⟩, by simp [intOf]; omega⟩
                    · have hte : dl = t := by omega
                      subst hte
                      go_wp2_with fail
                      exact ⟨⟨k + 1, by go_num, by omega, Lib.hid (HB2.out.trans (HB3.out.mono HB2.out.size))⟩, by simp [intOf]; omega⟩
                · as_aux_lemma =>
                  have hne : (nm'.toList == q.toList) = false := by
                    rw [beq_eq_false_iff_ne]
                    intro e
                    apply he
                    rw [ByteArray.toList_eq, ByteArray.toList_eq] at e
                    exact e
                  clear he
                  go_wp2_with fail
                  exact ⟨⟨k + 1, by go_num, by omega, Lib.hid (HB2.out.alloc HB2.out.size _)⟩, by simp [intOf]; omega⟩
              · as_aux_lemma =>
                have hke : n = k := by omega
                subst hke
                have hMl : M ≤ 120 := by have := HM.out; omega
                have hsrc : Src Try.prog 1 25 (.slice (Option.some ⟨wr.heap.size, 0, none⟩) 1 1) 1 [.string q] (wr.alloc (.cells #[.string q] 9)) := src_new Try.underlying25 [.string q] 1 9 1 rfl oneS6
                have HSRC2 := Lib.hid hsrc
                have hrw2 := HW.out.below HB2.out
                have HRA2 := Lib.hid (hrw2.alloc (.cells #[.string q] 9))
                have hsz7 : w7.heap.size ≤ wr.heap.size := Nat.le_trans HO.out.size HB2.out.size
                have hszw2 : w4.heap.size ≤ (wr.alloc (.cells #[.string q] 9)).heap.size := by simp; omega
                clear hsrc hrw2 hcq hcq2
                go_wp2_with (at_builtin; refine wpList_append_row rfl (.tmp 93) (.tmp 95) 25 25 rfl 1 9 (.string ByteArray.empty) 16 Try.underlying25 infoS6 rfl w4.heap.size (.slice va M vc) M ((out6.take (j + i)).map .string) (by simp [Act.eval]) HRA2.out (.slice (Option.some ⟨wr.heap.size, 0, none⟩) 1 1) (by simp [Act.eval]) 1 [.string q] HSRC2.out hszw2 (by omega) (by decide) ?_; intro v9 w9 hr9 ho9 hw9; obtain ⟨a9, c9, hv9⟩ := hr9.form; subst hv9; have HR9 := Lib.hid hr9; have HO9 := Lib.hid ho9; have HW9 := Lib.hid hw9; clear hr9 ho9 hw9)
                have hoa : Off (fun b => (Value.slice va M vc).ownBlock = some b) wr w9 := ((Off.refl _ wr).alloc _).trans HO9.out
                have hof9 : Off (fun b => w4.heap.size ≤ b ∧ b < w5.heap.size) w7 w9 := (HO.out.trans (Off.of_below HB2.out)).trans' hoa (fun b hb e => by
                  rcases HG.out b e with h | h
                  · exact h
                  · omega)
                refine ⟨⟨i + 1, M + 1, by go_num, by omega, Lib.hid (by have := HM.out; omega), Lib.hid ?_, Lib.hid hof9, Lib.hid (fun g hg => ?_)⟩, by simp [intOf]; omega⟩
                · rw [← Nat.add_assoc, List.take_add_one, HQO.out]
                  simp only [Option.toList_some, List.map_append]
                  exact HR9.out
                · rcases HW9.out with h | h
                  · exact HG.out g (h ▸ hg)
                  · right
                    rw [h] at hg
                    have hg := Option.some.inj hg
                    simp at hg
                    omega
          · as_aux_lemma =>
            have hie : m = i := by omega
            subst hie
            have hMn : M = n := by rw [HM.out, HMN.out]; omega
            subst hMn
            go_wp2_with fail
            go_ret
            exact ⟨rfl, HBW.out⟩
    · have he : errV k = .iface 57 (.int .i64 k) := if_neg hk
      rw [he]
      subst hov
      clear hlin hrd he
      go_wp2_with fail
      go_ret
      exact ⟨rfl, HB4.out⟩
end Go.Proofs.Ytaemegcemmcgdaa
