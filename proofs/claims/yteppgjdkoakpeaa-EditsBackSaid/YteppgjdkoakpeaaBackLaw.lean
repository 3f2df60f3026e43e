/- The walk of the law EditsBack: whichever list and hunks, the law's function answers true. -/
import Derived.Test.YteppgjdkoakpeaaAwake
import Derived.Test.YteppgjdkoakpeaaSame
import Derived.Test.YteppgjdkoakpeaaHSame
import Derived.Test.YteppgjdkoakpeaaEBack
set_option linter.unusedVariables false
namespace Go.Proofs.Yteppgjdkoakpeaa
open Go.ChangeShapes Go.WideShapes Go.ChangeAt Go.RowKit

def putSum (h : List Hk) : Nat := (h.map fun k => k.put.length).sum
theorem putSum_snoc (h : List Hk) (k : Hk) : putSum (h ++ [k]) = putSum h + k.put.length := by simp [putSum]
theorem putSum_mem {h : List Hk} {k : Hk} (hk : k ∈ h) : k.put.length ≤ putSum h := by
  induction h with
  | nil => cases hk
  | cons q r ih =>
    have e : putSum (q :: r) = q.put.length + putSum r := by simp [putSum]
    rcases List.mem_cons.1 hk with rfl | hk
    · omega
    · have := ih hk; omega
theorem putSum_next {hs : List Hk} {m : Nat} {k : Hk} (hk : hs[m]? = some k) : putSum (hs.take (m + 1)) = putSum (hs.take m) + k.put.length := by
  rw [List.take_add_one, hk, Option.toList_some, putSum_snoc]

theorem len_le {a : Ls} {hs : List Hk} (hr : rightL hs a.length = true) : ∀ m, m ≤ hs.length → ((pre a (hs.take m)).1.length : Int) ≤ (pre a (hs.take m)).2 + putSum (hs.take m) ∧ 0 ≤ (pre a (hs.take m)).2
  | 0, _ => by simp [pre]
  | m + 1, hm => by
    have hk : hs[m]? = some (hs[m]'(by omega)) := List.getElem?_eq_getElem (by omega)
    obtain ⟨r1, r2, r3, r4, r5, r6⟩ := right_at a (by omega) hr hk
    have ih := len_le hr m (by omega)
    rw [r6, putSum_next hk]
    unfold appStep hend
    simp only [List.length_append, List.length_take, List.length_drop]
    omega

theorem app_len {a : Ls} {hs : List Hk} (hr : rightL hs a.length = true) : (appL a hs).length ≤ a.length + putSum hs := by
  have h := len_le hr hs.length (Nat.le_refl _)
  have hb := back_inv hr hs.length (Nat.le_refl _)
  rw [List.take_length] at h hb
  have := hb.da
  unfold appL
  rw [List.length_append, List.length_drop]
  omega

theorem back_puts (a : Ls) (hs : List Hk) : ∀ k ∈ backL a hs, k.put.length ≤ a.length := by
  have : ∀ (h : List Hk) (s : List Hk × Int), (∀ k ∈ s.1, k.put.length ≤ a.length) → ∀ k ∈ (h.foldl (backStep a) s).1, k.put.length ≤ a.length := by
    intro h
    induction h with
    | nil => intro s hs; exact hs
    | cons q r ih =>
      intro s hs
      rw [List.foldl_cons]
      refine ih _ fun k hk => ?_
      unfold backStep at hk
      simp only at hk
      rcases List.mem_append.1 hk with hk | hk
      · exact hs k hk
      · simp at hk
        subst hk
        simp only [List.length_take, List.length_drop]
        omega
  exact this hs ([], 0) (by simp)

set_option maxHeartbeats 1000000 in
theorem back_many (a : Ls) (hs : List Hk) (ps : List (Hk × Value)) (va : Value) (b o c : Nat) (w : World) (ha : Sl w va a) (hps : HCells w b o ps) (la : a.length ≤ 140737488355328) (L : Nat) (hL : L = ps.length) (hbig : 500 < L) (hLm : L ≤ 140737488355328) :
    Calls Try.prog 4 #[va, .slice (some ⟨b, o, none⟩) L c] w fun e w' => e = .returned (.bool true) ∧ Below w.heap.size w w' := by
  have haw := awake_any w
  have HAW := Lib.hid haw
  obtain ⟨aa, ca, rfl⟩ := ha.form
  obtain ⟨al, hal⟩ : ∃ n, n = a.length := ⟨_, rfl⟩
  rw [← hal] at la ⊢
  have HPS := Lib.hid hps
  have HL := Lib.hid hL
  clear haw ha hal hps hL
  go_enter Try.func4, Try.ntmps4
  go_wp2_with fail
  refine HAW.out.mono ?_
  rintro e w1 ⟨rfl, hb1⟩
  have HB1 := Lib.hid hb1
  have hsz1 := hb1.size
  clear hb1
  go_wp2
  go_loopw [5, 20] (fun nv iv wr => ∃ (m : Nat) (q : Int), m ≤ L ∧ iv = .int .i64 m ∧ nv = .int .i64 q ∧ Below w.heap.size w wr) (fun _ iv _ => L - (intOf iv).toNat)
  case atStart => exact ⟨0, 0, by omega, rfl, rfl, HB1.out⟩
  case round =>
    obtain ⟨m, q, hm, rfl, rfl, hbel⟩ := hrel
    have HBEL := Lib.hid hbel
    have hsz := hbel.size
    clear hbel
    by_cases hlt : m < L
    · obtain ⟨p, hp⟩ : ∃ p, ps[m]? = some p := ⟨ps[m]'(by rw [← HL.out]; exact hlt), by simp⟩
      obtain ⟨c1, c2, c3, c4⟩ := HPS.out.2 m p hp
      obtain ⟨pa, pc, ea⟩ := c4.form
      rw [ea] at c3
      have d1 := (HBEL.out.cell (p := ⟨b, o + m * 3, none⟩) HPS.out.1).trans c1
      have d2 := (HBEL.out.cell (p := ⟨b, o + m * 3 + 1, none⟩) HPS.out.1).trans c2
      have d3 := (HBEL.out.cell (p := ⟨b, o + m * 3 + 2, none⟩) HPS.out.1).trans c3
      clear c1 c2 c3 c4 ea hp
      have h0 : (0 : Int) ≤ m := by omega
      have h1 : (m : Int) < L := by omega
      go_wp2
      exact ⟨⟨m + 1, _, by omega, by go_num, rfl, HBEL.out.alloc hsz _⟩, by simp [intOf]; omega⟩
    · by_cases h1000 : 1000 < al
      · go_wp2
        go_ret
        exact ⟨rfl, HBEL.out⟩
      · go_wp2
        go_ret
        exact ⟨rfl, HBEL.out⟩

set_option maxHeartbeats 4000000 in
theorem back_few (a : Ls) (hs : List Hk) (ps : List (Hk × Value)) (va vh : Value) (w : World) (ha : Sl w va a) (hh : HReads w vh hs) (hps : hs = ps.map (·.1)) (hv : ∃ ao c, vh = .slice ao ps.length c ∧ (ps ≠ [] → ∃ b o, ao = some ⟨b, o, none⟩ ∧ HCells w b o ps))
    (la : a.length ≤ 140737488355328) (hfew : ps.length ≤ 500) (hU : ∀ k ∈ hs, k.put.length ≤ 140737488355328) :
    Calls Try.prog 4 #[va, vh] w fun e w' => e = .returned (.bool true) ∧ Below w.heap.size w w' := by
  have haw := awake_any w
  have HAW := Lib.hid haw
  obtain ⟨aa, ca, rfl⟩ := ha.form
  obtain ⟨ao, c, rfl, hcs⟩ := hv
  obtain ⟨al, hal⟩ : ∃ n, n = a.length := ⟨_, rfl⟩
  obtain ⟨L, hL⟩ : ∃ n, n = ps.length := ⟨_, rfl⟩
  have HA := Lib.hid ha
  have HH := Lib.hid hh
  rw [← hal] at la HA ⊢
  rw [← hL] at hfew HH ⊢
  have HAL := Lib.hid hal
  have HPS := Lib.hid hps
  have HCS := Lib.hid hcs
  have HL := Lib.hid hL
  have HU := Lib.hid hU
  clear haw ha hh hal hps hcs hL hU
  go_enter Try.func4, Try.ntmps4
  go_wp2_with fail
  refine HAW.out.mono ?_
  rintro e w1 ⟨rfl, hb1⟩
  have HB1 := Lib.hid hb1
  have hsz1 := hb1.size
  clear hb1
  go_wp2
  go_loopw [5, 20] (fun nv iv wr => ∃ (m : Nat) (q : Nat), m ≤ L ∧ iv = .int .i64 m ∧ nv = .int .i64 q ∧ q ≤ 140737488355328 * m ∧ q = putSum (hs.take m) ∧ Below w.heap.size w wr) (fun _ iv _ => L - (intOf iv).toNat)
  case atStart => exact ⟨0, 0, by omega, rfl, rfl, by omega, rfl, HB1.out⟩
  case round =>
    obtain ⟨m, q, hm, rfl, rfl, hq, hqs, hbel⟩ := hrel
    have HBEL := Lib.hid hbel
    have HQS := Lib.hid hqs
    have hsz := hbel.size
    clear hbel hqs
    by_cases hlt : m < L
    · obtain ⟨p, hp⟩ : ∃ p, ps[m]? = some p := ⟨ps[m]'(by rw [← HL.out]; exact hlt), by simp⟩
      have hk : hs[m]? = some p.1 := by rw [HPS.out, List.getElem?_map, hp]; rfl
      obtain ⟨b, o, rfl, hcc⟩ := HCS.out (by rintro rfl; simp at hp)
      obtain ⟨c1, c2, c3, c4⟩ := hcc.2 m p hp
      obtain ⟨pa, pc, ea⟩ := c4.form
      rw [ea] at c3
      have hu := HU.out p.1 (List.mem_of_getElem? hk)
      have hn := putSum_next hk
      obtain ⟨U, hUU⟩ : ∃ U, U = p.1.put.length := ⟨_, rfl⟩
      rw [← hUU] at hu hn c3
      have d1 := (HBEL.out.cell (p := ⟨b, o + m * 3, none⟩) hcc.1).trans c1
      have d2 := (HBEL.out.cell (p := ⟨b, o + m * 3 + 1, none⟩) hcc.1).trans c2
      have d3 := (HBEL.out.cell (p := ⟨b, o + m * 3 + 2, none⟩) hcc.1).trans c3
      have HN := Lib.hid hn
      clear c1 c2 c3 c4 ea hp hk hn hUU hcc
      have h0 : (0 : Int) ≤ m := by omega
      have h1 : (m : Int) < L := by omega
      go_wp2
      exact ⟨⟨m + 1, q + U, by omega, by go_num, by go_num, by omega, by rw [HN.out, HQS.out], HBEL.out.alloc hsz _⟩, by simp [intOf]; omega⟩
    · have hml : m = L := by omega
      have hqq : q = putSum hs := by
        have := HQS.out
        rw [List.take_of_length_le (by rw [HPS.out, List.length_map, ← HL.out]; omega)] at this
        exact this
      have HQQ := Lib.hid hqq
      clear hqq hml
      by_cases h1000 : 1000 < al
      · go_wp2
        go_ret
        exact ⟨rfl, HBEL.out⟩
      · by_cases h2000 : 2000 < q
        · go_wp2
          go_ret
          exact ⟨rfl, HBEL.out⟩
        · have hpt : PTame hs := ⟨by rw [HPS.out, List.length_map, ← HL.out]; omega, fun k hk => by have := putSum_mem hk; have := HQQ.out; omega⟩
          have HPT := Lib.hid hpt
          have hap := eapply_any (.slice aa al ca) _ wr a hs (HA.out.below HBEL.out) (HH.out.below HBEL.out) (by rw [← HAL.out]; omega) hpt
          obtain ⟨R, hR⟩ : ∃ R, rightL hs a.length = R := ⟨_, rfl⟩
          rw [hR] at hap
          have HRR := Lib.hid hR
          clear hpt hR
          cases R
          · simp only [Bool.false_eq_true, if_false] at hap
            have HAP := Lib.hid hap
            clear hap
            go_wp2_with fail
            refine HAP.out.mono ?_
            rintro e w2 ⟨⟨u, rfl, hu⟩, hb2⟩
            obtain ⟨ua, uc, rfl⟩ := hu.form
            have hfin := HBEL.out.trans (hb2.mono hsz)
            have HF := Lib.hid hfin
            clear hu hb2 hfin
            go_wp2
            go_ret
            exact ⟨ret_bool (by first | rfl | simp), HF.out⟩
          · simp only [if_true] at hap
            have HAP := Lib.hid hap
            obtain ⟨F1, F2, F3⟩ := back_facts HRR.out
            have hbl := app_len HRR.out
            have hpt2 : PTame (backL a hs) := ⟨by rw [back_length]; exact HPT.out.1, fun k hk => by have := back_puts a hs k hk; have := HAL.out; omega⟩
            have G1 := Lib.hid F1
            have G2 := Lib.hid F2
            have G3 := Lib.hid F3
            have HBLN := Lib.hid hbl
            have HPT2 := Lib.hid hpt2
            clear hap F1 F2 F3 hbl hpt2
            go_wp2_with fail
            refine HAP.out.mono ?_
            rintro e w2 ⟨⟨u, rfl, hu⟩, hb2⟩
            have hb02 := HBEL.out.trans (hb2.mono hsz)
            have hz2 := hb02.size
            have HU2 := Lib.hid hu
            have hbk := eback_any (.slice aa al ca) _ w2 a hs (HA.out.below hb02) (HH.out.below hb02) (by rw [← HAL.out]; omega) HPT.out
            rw [HRR.out] at hbk
            simp only [if_true] at hbk
            have HB02 := Lib.hid hb02
            have HBK := Lib.hid hbk
            clear hu hb2 hb02 hbk
            go_wp2_with fail
            refine HBK.out.mono ?_
            rintro e w3 ⟨⟨k, rfl, hk⟩, hb3⟩
            have hb03 := HB02.out.trans (hb3.mono hz2)
            have hz3 := hb03.size
            have hu3 := HU2.out.below hb3
            have hlen : (appL a hs).length ≤ 1000000 := by have := HBLN.out; have := HQQ.out; have := HAL.out; omega
            have hap2 := eapply_any u k w3 (appL a hs) (backL a hs) hu3 hk hlen HPT2.out
            rw [G1.out, G2.out] at hap2
            simp only [if_true] at hap2
            have HK3 := Lib.hid hk
            have HU3 := Lib.hid hu3
            have HB03 := Lib.hid hb03
            have HAP2 := Lib.hid hap2
            have HLEN := Lib.hid hlen
            clear hk hb3 hb03 hap2 hu3 hlen
            go_wp2_with fail
            refine HAP2.out.mono ?_
            rintro e w4 ⟨⟨c4, rfl, hc4⟩, hb4⟩
            have hb04 := HB03.out.trans (hb4.mono hz3)
            have hz4 := hb04.size
            have hbk2 := eback_any u k w4 (appL a hs) (backL a hs) (HU3.out.below hb4) (HK3.out.below hb4) HLEN.out HPT2.out
            rw [G1.out, G3.out] at hbk2
            simp only [if_true] at hbk2
            have HC4 := Lib.hid hc4
            have HB04 := Lib.hid hb04
            have HBK2 := Lib.hid hbk2
            clear hc4 hb4 hb04 hbk2
            go_wp2_with fail
            refine HBK2.out.mono ?_
            rintro e w5 ⟨⟨ag, rfl, hag⟩, hb5⟩
            have hb05 := HB04.out.trans (hb5.mono hz4)
            have hs1 := same_q a a c4 _ w5 (HC4.out.below hb5).reads (HA.out.below hb05).reads
            rw [decide_eq_true rfl] at hs1
            have hs2 : ∀ d, Calls Try.prog 10 #[ag, .slice ao L c] (w5.drewN d) fun e w' => e = .returned (.bool (decide (hs = hs))) ∧ ∃ n, w' = (w5.drewN d).drewN n := fun d => hsame_any hs hs ag _ (w5.drewN d) hag.drewN (HH.out.below (Below.drewN hb05))
            rw [decide_eq_true rfl] at hs2
            have HB05 := Lib.hid hb05
            have HS1 := Lib.hid hs1
            have HS2 := Lib.hid hs2
            clear hag hb5 hb05 hs1 hs2
            go_wp2_with fail
            refine HS1.out.mono ?_
            rintro e w6 ⟨rfl, d1, rfl⟩
            go_wp2_with fail
            refine (HS2.out d1).mono ?_
            rintro e w7 ⟨rfl, d2, rfl⟩
            go_wp2
            go_ret
            exact ⟨rfl, Below.drewN HB05.out⟩

theorem back_law (a : Ls) (hs : List Hk) (va vh : Value) (w : World) (ha : Sl w va a) (hh : HReads w vh hs) (la : a.length ≤ 140737488355328) (lh : hs.length ≤ 140737488355328) (hU : ∀ k ∈ hs, k.put.length ≤ 140737488355328) :
    Calls Try.prog 4 #[va, vh] w fun e w' => e = .returned (.bool true) ∧ Below w.heap.size w w' := by
  have hh' := hh
  obtain ⟨ps, hps, h⟩ := hh
  by_cases hf : ps.length ≤ 500
  · refine back_few a hs ps va vh w ha hh' hps.symm ?_ la hf hU
    rcases h with ⟨rfl, a, c, rfl⟩ | ⟨hn, b, o, c, rfl, h1, h2, h3⟩
    · exact ⟨a, c, rfl, fun h => absurd rfl h⟩
    · exact ⟨_, c, rfl, fun _ => ⟨b, o, rfl, h3⟩⟩
  · rcases h with ⟨rfl, a, c, rfl⟩ | ⟨hn, b, o, c, rfl, h1, h2, h3⟩
    · exact absurd (by simp) hf
    · exact back_many a hs ps va b o c w ha h3 la ps.length rfl (by omega) (by rw [← hps, List.length_map] at lh; exact lh)
end Go.Proofs.Yteppgjdkoakpeaa
