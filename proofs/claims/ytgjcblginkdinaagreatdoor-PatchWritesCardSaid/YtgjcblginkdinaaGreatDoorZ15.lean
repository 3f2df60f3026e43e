/- Plain mathematics of lines: no program is named here. The contracts of the functions that tell a marker: the program's and the document's. The contract of the writer's form. The contract of the program's Write. Cells of boxes that a call has laid. Patches as values: which are right, their form, their lines, their inverse. Mathematics alone. -/
import Derived.Test.YtgjcblginkdinaaGreatDoorRows
import Derived.Lib.Split
import Derived.Lib.SplitLaws
import Derived.Lib.Join
import Derived.Test.YtgjcblginkdinaaGreatDoorZ0
import Derived.Test.YtgjcblginkdinaaGreatDoorZ1
import Derived.Test.YtgjcblginkdinaaGreatDoorZ10
import Derived.Test.YtgjcblginkdinaaGreatDoorZ14
import Derived.Test.YtgjcblginkdinaaGreatDoorZ2
import Derived.Test.YtgjcblginkdinaaGreatDoorZ3
import Derived.Test.YtgjcblginkdinaaGreatDoorZ9
set_option linter.unusedVariables false
namespace Go.Proofs.YtgjcblginkdinaaGreatDoor

end Go.Proofs.YtgjcblginkdinaaGreatDoor
set_option linter.unusedVariables false
namespace Go.Proofs.YtgjcblginkdinaaGreatDoor
open Go.ChangeShapes Go.WideShapes Go.ChangeAt Go.RowKit

theorem byte_at {s : ByteArray} {k : Nat} (h : k < s.size) : s.data.toList[k]? = some s[k] := by
  have e : k < s.data.size := h
  rw [Array.getElem?_toList, Array.getElem?_eq_getElem e]
  rfl

def mk (l : List UInt8) : Bool := decide (7 ≤ l.length) && (l.take 7 == [62, 62, 62, 62, 62, 62, 62] || l.take 7 == [61, 61, 61, 61, 61, 61, 61] || l.take 7 == [60, 60, 60, 60, 60, 60, 60])

theorem ext7 (s : ByteArray) : (s.extract 0 7).toList = s.data.toList.take 7 := by
  rw [ByteArray.toList_eq, Lib.extract_data]; simp

theorem mk_short (l : List UInt8) (h : l.length < 7) : mk l = false := by
  have : ¬ 7 ≤ l.length := by omega
  simp [mk, this]
theorem mk_yes (l : List UInt8) (h : 7 ≤ l.length) (e : (l.take 7 == [62, 62, 62, 62, 62, 62, 62]) = true ∨ (l.take 7 == [61, 61, 61, 61, 61, 61, 61]) = true ∨ (l.take 7 == [60, 60, 60, 60, 60, 60, 60]) = true) : mk l = true := by
  unfold mk
  rcases e with e | e | e <;> simp only [e, h, decide_true, Bool.or_true, Bool.true_or, Bool.true_and]
theorem mk_no (l : List UInt8) (e1 : (l.take 7 == [62, 62, 62, 62, 62, 62, 62]) = false) (e2 : (l.take 7 == [61, 61, 61, 61, 61, 61, 61]) = false) (e3 : (l.take 7 == [60, 60, 60, 60, 60, 60, 60]) = false) : mk l = false := by
  unfold mk
  simp only [e1, e2, e3, Bool.or_false, Bool.and_false]

set_option maxHeartbeats 400000 in
theorem marker_any (s : ByteArray) (w : World) (hs : s.size ≤ 9223372036854775807) :
    Calls Tryz.prog 128 #[.string s] w fun e w' => e = .returned (.bool (mk s.data.toList)) ∧ w' = w := by
  have hl : s.data.toList.length = s.size := Array.length_toList
  have HL := Lib.hid hl
  clear hl
  go_enter Tryz.func128, Tryz.ntmps128
  go_wp2
  all_goals go_ret
  all_goals refine ⟨ret_bool ?_, rfl⟩
  · exact (mk_short _ (by have := HL.out; omega)).symm
  · exact (mk_yes _ (by have := HL.out; omega) (.inl (by rw [← ext7]; assumption))).symm
  · exact (mk_yes _ (by have := HL.out; omega) (.inr (.inl (by rw [← ext7]; assumption)))).symm
  · exact (mk_yes _ (by have := HL.out; omega) (.inr (.inr (by rw [← ext7]; assumption)))).symm
  · exact (mk_no _ (by rw [← ext7]; assumption) (by rw [← ext7]; assumption) (by rw [← ext7]; assumption)).symm
theorem take7_at {l m : List UInt8} (h : l.take 7 = m) (j : Nat) (hj : j < 7) : l[j]? = m[j]? := by
  rw [← h, List.getElem?_take, if_pos hj]

theorem mk_of_all {l : List UInt8} {c : UInt8} (h : 7 ≤ l.length) (hc : c = 62 ∨ c = 61 ∨ c = 60) (ha : ∀ j, j < 7 → l[j]? = some c) : mk l = true := by
  have e : l.take 7 = [c, c, c, c, c, c, c] := by
    apply List.ext_getElem?
    intro j
    rw [List.getElem?_take]
    by_cases hj : j < 7
    · rw [if_pos hj, ha j hj]
      match j, hj with
      | 0, _ | 1, _ | 2, _ | 3, _ | 4, _ | 5, _ | 6, _ => rfl
    · rw [if_neg hj]
      exact (List.getElem?_eq_none (by simp; omega)).symm
  refine mk_yes l h ?_
  rw [e]
  rcases hc with rfl | rfl | rfl
  · exact .inl rfl
  · exact .inr (.inl rfl)
  · exact .inr (.inr rfl)

theorem mk_differ {l : List UInt8} (j : Nat) (hj : j < 7) (hd : l[j]? ≠ l[0]?) : mk l = false := by
  have key : ∀ c : UInt8, (l.take 7 == [c, c, c, c, c, c, c]) = false := by
    intro c
    rw [beq_eq_false_iff_ne]
    intro e
    apply hd
    rw [take7_at e j hj, take7_at e 0 (by omega)]
    match j, hj with
    | 0, _ | 1, _ | 2, _ | 3, _ | 4, _ | 5, _ | 6, _ => rfl
  exact mk_no l (key 62) (key 61) (key 60)

theorem mk_first {l : List UInt8} {c : UInt8} (h0 : l[0]? = some c) (h1 : c ≠ 62) (h2 : c ≠ 61) (h3 : c ≠ 60) : mk l = false := by
  have key : ∀ d : UInt8, c ≠ d → (l.take 7 == [d, d, d, d, d, d, d]) = false := by
    intro d hd
    rw [beq_eq_false_iff_ne]
    intro e
    apply hd
    have := take7_at e 0 (by omega)
    rw [h0] at this
    exact Option.some.inj this
  exact mk_no l (key 62 h1) (key 61 h2) (key 60 h3)

theorem u8_eq {a b : UInt8} (h : a = b) : ((a.toNat : Int) == (b.toNat : Int)) = true := by rw [h]; simp
theorem u8_ne {a b : UInt8} (h : a ≠ b) : ((a.toNat : Int) == (b.toNat : Int)) = false := by
  rw [beq_eq_false_iff_ne]
  intro e
  exact h (UInt8.toNat_inj.1 (by omega))
theorem u8_bne_t {a b : UInt8} (h : a ≠ b) : ((a.toNat : Int) != (b.toNat : Int)) = true := by rw [bne, u8_ne h]; rfl
theorem u8_bne_f {a b : UInt8} (h : a = b) : ((a.toNat : Int) != (b.toNat : Int)) = false := by rw [bne, u8_eq h]; rfl

theorem all_one (s : ByteArray) (h : 0 < s.size) : ∀ j, j < 1 → s.data.toList[j]? = some s[0] := by
  intro j hj
  obtain rfl : j = 0 := by omega
  exact byte_at h

set_option maxHeartbeats 1000000 in
theorem rmarker_loop (s : ByteArray) (w : World) (hs : s.size ≤ 9223372036854775807) (h7 : 7 ≤ s.size) (hc : s[0] = 62 ∨ s[0] = 61 ∨ s[0] = 60) :
    Calls Tryz.prog 131 #[.string s] w fun e w' => e = .returned (.bool (mk s.data.toList)) ∧ Below w.heap.size w w' := by
  have hl : s.data.toList.length = s.size := Array.length_toList
  have HL := Lib.hid hl
  clear hl
  obtain ⟨b1, b2, b3, hb⟩ : ∃ b1 b2 b3, ((s[0].toNat : Int) != 62) = b1 ∧ ((s[0].toNat : Int) != 61) = b2 ∧ ((s[0].toNat : Int) != 60) = b3 := ⟨_, _, _, rfl, rfl, rfl⟩
  obtain ⟨hb1, hb2, hb3⟩ := hb
  have hall : (b1 = false) ∨ (b1 = true ∧ b2 = false) ∨ (b1 = true ∧ b2 = true ∧ b3 = false) := by
    rcases hc with e | e | e <;> rw [e] at hb1 hb2 hb3 <;> subst hb1 hb2 hb3 <;> decide
  have HC := Lib.hid hc
  clear hc
  rcases hall with rfl | ⟨rfl, rfl⟩ | ⟨rfl, rfl, rfl⟩
  all_goals
    go_enter Tryz.func131, Tryz.ntmps131
    go_wp2
    go_loopw [3] (fun i wr => ∃ k : Nat, 1 ≤ k ∧ k ≤ 7 ∧ i = .int .i64 k ∧ Below w.heap.size w wr ∧ Hid (∀ j, j < k → s.data.toList[j]? = some s[0])) (fun i _ => 7 - (intOf i).toNat)
    case atStart => exact ⟨1, by omega, by omega, rfl, Below.refl _ _, Lib.hid (all_one s (by omega))⟩
    case round =>
      obtain ⟨k, hk1, hk7, rfl, hb, HA⟩ := hrel
      by_cases hlt : k < 7
      · have hks : k < s.size := by omega
        by_cases he : s[k] = s[0]
        · have e1 := u8_bne_f he
          have HE := Lib.hid he
          clear he
          go_wp2
          go_quiet (fail)
          go_wp2
          refine ⟨⟨k + 1, by omega, by omega, by go_num, Below.drewN hb, Lib.hid fun j hj => ?_⟩, by simp [intOf]; omega⟩
          by_cases ej : j = k
          · rw [ej, byte_at hks, HE.out]
          · exact HA.out j (by omega)
        · have e1 := u8_bne_t he
          have HE := Lib.hid he
          clear he
          go_wp2
          go_quiet (fail)
          go_wp2
          go_ret
          refine ⟨ret_bool ?_, Below.drewN hb⟩
          refine (mk_differ k hlt ?_).symm
          rw [byte_at hks, byte_at (by omega)]
          exact fun e => HE.out (Option.some.inj e)
      · go_wp2
        go_ret
        refine ⟨ret_bool ?_, hb⟩
        exact (mk_of_all (by rw [HL.out]; omega) HC.out fun j hj => HA.out j (by omega)).symm

set_option maxHeartbeats 400000 in
theorem rmarker_any (s : ByteArray) (w : World) (hs : s.size ≤ 9223372036854775807) :
    Calls Tryz.prog 131 #[.string s] w fun e w' => e = .returned (.bool (mk s.data.toList)) ∧ Below w.heap.size w w' := by
  by_cases h7 : 7 ≤ s.size
  · by_cases hc : s[0] = 62 ∨ s[0] = 61 ∨ s[0] = 60
    · exact rmarker_loop s w hs h7 hc
    · simp only [not_or] at hc
      obtain ⟨c1, c2, c3⟩ := hc
      have hm := mk_first (byte_at (s := s) (k := 0) (by omega)) c1 c2 c3
      rw [hm]
      have e1 : ((s[0].toNat : Int) != 62) = true := u8_bne_t c1
      have e2 : ((s[0].toNat : Int) != 61) = true := u8_bne_t c2
      have e3 : ((s[0].toNat : Int) != 60) = true := u8_bne_t c3
      clear c1 c2 c3 hm
      go_enter Tryz.func131, Tryz.ntmps131
      go_wp2
      go_ret
      exact ⟨rfl, Below.refl _ _⟩
  · have hl : s.data.toList.length = s.size := Array.length_toList
    rw [mk_short _ (by omega)]
    clear hl
    go_enter Tryz.func131, Tryz.ntmps131
    go_wp2
    go_ret
    exact ⟨rfl, Below.refl _ _⟩
end Go.Proofs.YtgjcblginkdinaaGreatDoor
set_option linter.unusedVariables false
namespace Go.Proofs.YtgjcblginkdinaaGreatDoor
open Go.ChangeShapes Go.WideShapes Go.ChangeAt Go.RowKit
open Go.Lib (decDigits itoa)

theorem canW_list {d : Nat} {out : List UInt8} {t : ByteArray} {xs : List Tm} : CanW d out (.mk true t xs) ↔ t.size = 0 ∧ Tm.oks xs = true ∧ d + (Tm.depths xs + 1) ≤ 8 ∧ out.length + ((Tm.bytess xs).length + 2) ≤ 65536 := by
  unfold CanW
  rw [Tm.ok_list, Tm.depth_list, Tm.bytes_list]
  simp only [Bool.and_eq_true, decide_eq_true_eq, List.length_cons, List.length_append, List.length_nil, Nat.zero_add, and_assoc, Nat.add_assoc, Nat.reduceAdd]

def Done (d : Nat) (out : List UInt8) (xs : List Tm) (k : Nat) (outk : List UInt8) : Prop :=
  outk = out ++ 40 :: Tm.bytess (xs.take k) ∧ Tm.oks (xs.take k) = true ∧ d + (Tm.depths (xs.take k) + 1) ≤ 8

theorem Done.next {d k : Nat} {out outk : List UInt8} {xs : List Tm} {x : Tm} (h : Done d out xs k outk) (hx : xs[k]? = some x) (hc : CanW (d + 1) outk x) : Done d out xs (k + 1) (outk ++ x.bytes) := by
  obtain ⟨h1, h2, h3⟩ := h
  obtain ⟨c1, c2, c3⟩ := hc
  refine ⟨?_, ?_, ?_⟩
  · rw [h1, take_snoc hx, Tm.bytess_app]; simp [Tm.bytess]
  · rw [take_snoc hx, Tm.oks_app, h2]; simp [Tm.oks, c1]
  · rw [take_snoc hx, Tm.depths_app]
    have : Tm.depths [x] = x.depth := by simp [Tm.depths]
    omega
theorem Done.need {d k : Nat} {out outk : List UInt8} {t : ByteArray} {xs : List Tm} {x : Tm} (h : Done d out xs k outk) (hx : xs[k]? = some x) (hc : CanW d out (.mk true t xs)) : CanW (d + 1) outk x := by
  obtain ⟨c1, c2, c3, c4⟩ := canW_list.1 hc
  have hm := List.mem_of_getElem? hx
  refine ⟨Tm.oks_iff.1 c2 x hm, ?_, ?_⟩
  · have := Tm.depths_le.1 (Nat.le_refl (Tm.depths xs)) x hm
    omega
  · have := Tm.bytess_get xs k x hx
    rw [h.1, List.length_append, List.length_cons]
    omega

set_option maxHeartbeats 2000000 in
set_option maxRecDepth 100000 in
theorem wform_any (T : Tm) : ∀ l t xs, T = .mk l t xs → ∀ (Z : Nat → Prop) (w : World) (a : Option Addr) (c bw : Nat) (v : Value) (out : List UInt8) (d : Nat), SlL Z w (.slice a xs.length c) xs → t.size ≤ 140737488355328 → (∀ i, Z i → i < bw) → Wr bw w v out → HasTab w → 3 < bw → d ≤ 8 →
    Calls Tryz.prog 59 #[.pointer (some ⟨bw, 0, none⟩), fv l t (.slice a xs.length c), .int .i64 (d : Nat)] w (FormP T bw v out d w) := by
  induction T using Tm.ind with
  | h l t xs ih =>
    rintro _ _ _ ⟨⟩ Z w a c bw v out d hsl hts hz hw htab htg hd
    have hlm : xs.length ≤ maxLen := by obtain ⟨_, _, _, h1, h2⟩ := hsl.form; omega
    cases l with
    | false => exact wform_text t xs w a c bw v out d hlm hts hw htab htg hd
    | true =>
      have hlt := cell_lt hw.cell
      have hown := fun g hg => (hw.row.lt g hg).2
      obtain ⟨n, hn⟩ : ∃ n, n = xs.length := ⟨_, rfl⟩
      rw [← hn] at hsl hlm ⊢
      have c1 := fun wz => fright_any true t a n c wz hlm
      have hW0 : ∀ o, WOff bw w v (w.alloc o) v := fun o => (WOff.refl _ _ _).alloc o
      have HW := Lib.hid hw
      have HT := Lib.hid htab
      have HO := Lib.hid hown
      have HN := Lib.hid hn
      have HS := Lib.hid hsl
      have IH := Lib.hid ih
      have HZ := Lib.hid hz
      have hnm : n ≤ 9223372036854775807 := by unfold maxLen at hlm; exact hlm
      clear hw htab hown hn hsl ih hz hlm
      by_cases ht : t.size = 0
      · have hr : rightB true t n = true := by simp [rightB, ht]
        rw [hr] at c1
        have C1 := Lib.hid c1
        have HTZ := Lib.hid ht
        clear c1 hr hts ht
        by_cases hd8 : d = 8
        · have HD8 := Lib.hid hd8
          subst hd8
          clear HD8
          have hnc : ¬ CanW 8 out (.mk true t xs) := fun h => by have := (canW_list.1 h).2.2.1; omega
          have HNC := Lib.hid hnc
          clear hnc
          go_enter Tryz.func59, Tryz.ntmps59
          go_wp2_with fail
          refine (C1.out _).mono ?_
          rintro e w1 ⟨rfl, hb1⟩
          have hW1 : WOff bw (w.alloc (.cells #[.bool true, .string t, .slice a n c] 61)) v w1 v := WOff.of_below hb1
          have hw1 : Wr bw w1 v out := (HW.out.below ((Below.refl _ _).alloc (Nat.le_refl _) _)).below hb1
          obtain ⟨k1, k2, k3⟩ := box3o hW1 hlt HO.out
          have HW1 := Lib.hid hW1
          have HWR1 := Lib.hid hw1
          clear hb1 hW1 hw1
          go_wp2_with fail
          go_ret
          exact ⟨false, v, out, rfl, HWR1.out, (hW0 _).trans HW1.out, (fun h => by cases h), fun _ => HNC.out⟩
        · have hd7 : ((d : Int) == 8) = false := by rw [beq_eq_false_iff_ne]; omega
          obtain ⟨r1, hr1⟩ : ∃ r, r = decide (out.length + (⟨#[40]⟩ : ByteArray).size ≤ 65536) := ⟨_, rfl⟩
          have HR1 := Lib.hid hr1
          have HD8 := Lib.hid hd8
          clear hr1 hd8
          go_enter Tryz.func59, Tryz.ntmps59
          go_wp2_with fail
          refine (C1.out _).mono ?_
          rintro e w1 ⟨rfl, hb1⟩
          have hW1 : WOff bw (w.alloc (.cells #[.bool true, .string t, .slice a n c] 61)) v w1 v := WOff.of_below hb1
          have hw1 : Wr bw w1 v out := (HW.out.below ((Below.refl _ _).alloc (Nat.le_refl _) _)).below hb1
          obtain ⟨k1, k2, k3⟩ := box3o hW1 hlt HO.out
          have HW1 := Lib.hid hW1
          have HWR1 := Lib.hid hw1
          clear hb1 hW1 hw1
          go_wp2_with fail
          refine (put_any ⟨#[40]⟩ bw v out w1 HWR1.out (by decide) r1 HR1.out).mono ?_
          rintro e w2 ⟨rfl, v2, out2, hw2, ho2, hq2⟩
          have HW2 := Lib.hid (HW1.out.trans ho2)
          have HWR2 := Lib.hid hw2
          have HQ2 := Lib.hid hq2
          clear hw2 ho2 hq2 k1 k2 k3
          obtain ⟨k1, k2, k3⟩ := box3o HW2.out hlt HO.out
          cases r1 with
          | false =>
            go_wp2_with fail
            go_ret
            refine ⟨false, v2, out2, rfl, HWR2.out, (hW0 _).trans HW2.out, (fun h => by cases h), fun _ h => ?_⟩
            have h1 := (canW_list.1 h).2.2.2
            have h2 := HR1.out
            rw [eq_comm, decide_eq_false_iff_not] at h2
            apply h2
            show out.length + 1 ≤ 65536
            omega
          | true =>
            have hdn : Done d out xs 0 out2 := by
              refine ⟨by rw [HQ2.out]; simp [Tm.bytess], rfl, ?_⟩
              have := HD8.out
              simp [Tm.depths]; omega
            have HDN := Lib.hid hdn
            have HO2 := Lib.hid ((hW0 _).trans HW2.out)
            clear hdn
            go_wp2_with fail
            clear k1 k2 k3
            go_loopw [41] (fun i wr => ∃ (k : Nat) (vk : Value) (outk : List UInt8), k ≤ n ∧ i = .int .i64 k ∧ Wr bw wr vk outk ∧ WOff bw w v wr vk ∧ Done d out xs k outk) (fun i _ => n - (intOf i).toNat)
            case atStart => exact ⟨0, v2, out2, Nat.zero_le _, rfl, HWR2.out, HO2.out, HDN.out⟩
            case round =>
              obtain ⟨k, vk, outk, hk, rfl, hwk, hok, hdk⟩ := hrel
              have HWK := Lib.hid hwk
              have HOK := Lib.hid hok
              have HDK := Lib.hid hdk
              clear hwk hok hdk
              by_cases hlk : k < n
              · obtain ⟨x, hx⟩ : ∃ x, xs[k]? = some x := ⟨xs[k]'(by rw [← HN.out]; exact hlk), by simp⟩
                obtain ⟨l1, t1, ys1⟩ := x
                obtain ⟨b, o, c', hv, h1, h2, h3, h4, h5⟩ := HS.out.pos (by rintro rfl; simp at hx)
                injection hv with ea en ec
                subst ea
                obtain ⟨a1, c1, q1, q2, q3, q4, q5⟩ := h5 k l1 t1 ys1 hx
                have hzo : ∀ i, Z i → ¬ (i = bw ∨ v.ownBlock = some i) := fun i hi h => by
                  have h0 := HZ.out i hi
                  rcases h with h | h
                  · omega
                  · have := (HW.out.row.lt i h).1
                    omega
                have d1 : wr.cell? ⟨b, o + k * 3, none⟩ = some (.bool l1) := (HOK.out.off.cell (p := ⟨b, o + k * 3, none⟩) h4 (hzo b h3)).trans q1
                have d2 : wr.cell? ⟨b, o + k * 3 + 1, none⟩ = some (.string t1) := (HOK.out.off.cell (p := ⟨b, o + k * 3 + 1, none⟩) h4 (hzo b h3)).trans q2
                have d3 : wr.cell? ⟨b, o + k * 3 + 2, none⟩ = some (.slice a1 ys1.length c1) := (HOK.out.off.cell (p := ⟨b, o + k * 3 + 2, none⟩) h4 (hzo b h3)).trans q3
                have htw : HasTab wr := HT.out.keep (HOK.out.off.block _ HT.out.lt (fun h => by
                  rcases h with h | h
                  · omega
                  · have := (HW.out.row.lt _ h).1
                    omega))
                have hc : ∀ wz, Below wr.heap.size wr wz → Calls Tryz.prog 59 #[.pointer (some ⟨bw, 0, none⟩), fv l1 t1 (.slice a1 ys1.length c1), .int .i64 (d + 1 : Nat)] wz (FormP (.mk l1 t1 ys1) bw vk outk (d + 1) wz) := fun wz hz =>
                  IH.out _ (List.mem_of_getElem? hx) l1 t1 ys1 rfl Z wz a1 c1 bw vk outk (d + 1) ((q5.off HOK.out.off hzo).keep hz) q4 HZ.out (HWK.out.below hz) (htw.below hz) htg (by have := HD8.out; omega)
                obtain ⟨m1, hm1⟩ : ∃ m, m = ys1.length := ⟨_, rfl⟩
                rw [← hm1] at hc d3
                have HC := Lib.hid hc
                have HX := Lib.hid hx
                have h01 : (0 : Int) ≤ k := by omega
                have h02 : (k : Int) < n := by omega
                clear hc hx hm1 q1 q2 q3 q4 q5 h1 h2 h3 h4 h5 en ec hzo htw
                go_wp2_with fail
                refine (HC.out _ ((Below.refl _ _).alloc (Nat.le_refl _) _)).mono ?_
                rintro e w3 ⟨r, v3, out3, rfl, hw3, ho3, hy3, hn3⟩
                have HW3 := Lib.hid hw3
                have HO3 := Lib.hid ((HOK.out.alloc _).trans ho3)
                have HY3 := Lib.hid hy3
                have HN3 := Lib.hid hn3
                clear hw3 ho3 hy3 hn3
                cases r with
                | true =>
                  go_wp2_with fail
                  obtain ⟨i1, i2⟩ := HY3.out (by trivial)
                  refine ⟨⟨k + 1, v3, out3, hlk, by go_num, HW3.out, HO3.out, ?_⟩, by simp [intOf]; omega⟩
                  rw [i2]
                  exact HDK.out.next HX.out i1
                | false =>
                  go_wp2_with fail
                  go_ret
                  exact ⟨false, v3, out3, rfl, HW3.out, HO3.out, (fun h => by cases h), fun _ h => HN3.out (by trivial) (HDK.out.need HX.out h)⟩
              · have hke : k = n := by omega
                obtain ⟨r2, hr2⟩ : ∃ r, r = decide (outk.length + (⟨#[41]⟩ : ByteArray).size ≤ 65536) := ⟨_, rfl⟩
                have HR2 := Lib.hid hr2
                have HKE := Lib.hid hke
                have hge : ¬ (k : Int) < n := by omega
                clear hr2 hke
                go_wp2_with fail
                refine (put_any ⟨#[41]⟩ bw vk outk wr HWK.out (by decide) r2 HR2.out).mono ?_
                rintro e w3 ⟨rfl, v3, out3, hw3, ho3, hq3⟩
                have HW3 := Lib.hid hw3
                have HO3 := Lib.hid (HOK.out.trans ho3)
                have HQ3 := Lib.hid hq3
                clear hw3 ho3 hq3
                go_wp2_with fail
                go_ret
                obtain ⟨g1, g2, g3⟩ := HDK.out
                rw [List.take_of_length_le (by rw [← HN.out]; exact Nat.le_of_eq HKE.out.symm)] at g1 g2 g3
                have hcan : CanW d out (.mk true t xs) ↔ outk.length + 1 ≤ 65536 := by
                  rw [canW_list, g1, List.length_append, List.length_cons]
                  constructor
                  · rintro ⟨_, _, _, h⟩; omega
                  · intro h; exact ⟨HTZ.out, g2, g3, by omega⟩
                cases r2 with
                | true =>
                  refine ⟨true, v3, out3, rfl, HW3.out, HO3.out, (fun _ => ⟨hcan.2 ?_, ?_⟩), fun h => by cases h⟩
                  · have h2 := HR2.out
                    rw [eq_comm, decide_eq_true_iff] at h2
                    exact h2
                  · rw [HQ3.out, Tm.bytes_list, g1]; simp
                | false =>
                  refine ⟨false, v3, out3, rfl, HW3.out, HO3.out, (fun h => by cases h), fun _ h => ?_⟩
                  have h2 := HR2.out
                  rw [eq_comm, decide_eq_false_iff_not] at h2
                  exact h2 (hcan.1 h)
      · have hr : rightB true t n = false := by simp [rightB, ht]
        rw [hr] at c1
        have C1 := Lib.hid c1
        have hnc : ¬ CanW d out (.mk true t xs) := fun h => ht (canW_list.1 h).1
        have HNC := Lib.hid hnc
        clear c1 hr hnc hts ht
        go_enter Tryz.func59, Tryz.ntmps59
        go_wp2_with fail
        refine (C1.out _).mono ?_
        rintro e w1 ⟨rfl, hb1⟩
        have hW1 : WOff bw (w.alloc (.cells #[.bool true, .string t, .slice a n c] 61)) v w1 v := WOff.of_below hb1
        have hw1 : Wr bw w1 v out := (HW.out.below ((Below.refl _ _).alloc (Nat.le_refl _) _)).below hb1
        have HW1 := Lib.hid hW1
        have HWR1 := Lib.hid hw1
        clear hb1 hW1 hw1
        go_wp2_with fail
        go_ret
        exact ⟨false, v, out, rfl, HWR1.out, (hW0 _).trans HW1.out, (fun h => by cases h), fun _ => HNC.out⟩
end Go.Proofs.YtgjcblginkdinaaGreatDoor
set_option linter.unusedVariables false
namespace Go.Proofs.YtgjcblginkdinaaGreatDoor
open Go.ChangeShapes Go.WideShapes Go.ChangeAt Go.RowKit

theorem row_string {B n : Nat} {P : Program} {w : World} {v : Value} {l : List UInt8} (h : Row 1 B w v n (bcs l)) (src dst e : TypeId) (hs : P.underlying src = some (.slice e)) (he : P.underlying e = some (.int .u8)) (hd : P.underlying dst = some .string) :
    (convert src dst v).run P w = .ok (.string (tx l)) w := by
  obtain ⟨h0, ⟨rfl, rfl⟩ | ⟨b, cap, rfl, h2, h3, h4, h5, h6, h7⟩⟩ := h
  · have : l = [] := by
      have := h0
      rw [bcs_len] at this
      exact List.length_eq_zero_iff.1 (by omega)
    subst this
    rw [run_convert_bytes_string w src dst e none 0 0 hs he hd]
    rfl
  · have hn : n = l.length := by rw [bcs_len] at h0; omega
    subst hn
    refine run_convert_bytes_back w src dst e ⟨b, 0, none⟩ cap l hs he hd (fun j hj => ?_)
    have e2 : (⟨b, 0, none⟩ : Addr).add j = ⟨b, j, none⟩ := by unfold Addr.add; split <;> simp_all
    rw [e2]
    refine h7 j _ ?_
    rw [bcs, List.getElem?_map, List.getElem?_eq_getElem hj]
    rfl

abbrev errW (k : Int) : Value := .iface 47 (.int .i64 k)

def SoundP (P : Bool → Prop) (w : World) (e : Ending) (w' : World) : Prop := ∃ r : Bool, e = .returned (.bool r) ∧ P r ∧ Below w.heap.size w w'

def WriteP (T : Tm) (P : Bool → Prop) (w : World) (e : Ending) (w' : World) : Prop :=
  Below w.heap.size w w' ∧ ((CanW 0 [] T ∧ e = .returned (.tuple #[.string (tx T.bytes), .nilIface])) ∨ (¬ CanW 0 [] T ∧ ∃ r : Bool, P r ∧ e = .returned (.tuple #[.string ⟨#[]⟩, errW (if r then 2 else 1)])))

set_option maxHeartbeats 2000000 in
set_option maxRecDepth 100000 in
theorem write_any (l : Bool) (t : ByteArray) (ys : List Tm) (Z : Nat → Prop) (P : Bool → Prop) (w : World) (a : Option Addr) (c : Nat) (hsl : SlL Z w (.slice a ys.length c) ys) (hts : t.size ≤ 140737488355328) (hz : ∀ i, Z i → i < w.heap.size) (htab : HasTab w)
    (hsound : ¬ CanW 0 [] (.mk l t ys) → ∀ wz, Below w.heap.size w wz → Calls Tryz.prog 60 #[fv l t (.slice a ys.length c)] wz (SoundP P wz)) :
    Calls Tryz.prog 30 #[fv l t (.slice a ys.length c)] w (WriteP (.mk l t ys) P w) := by
  obtain ⟨n, hn⟩ : ∃ n, n = ys.length := ⟨_, rfl⟩
  have hlt := htab.lt
  have hc : Calls Tryz.prog 59 #[.pointer (some ⟨w.heap.size + 1, 0, none⟩), fv l t (.slice a n c), .int .i64 0] ((w.alloc (.cells #[.bool l, .string t, .slice a n c] 61)).alloc (.cells #[.slice none 0 0] 108)) (FormP (.mk l t ys) (w.heap.size + 1) (.slice none 0 0) [] 0 ((w.alloc (.cells #[.bool l, .string t, .slice a n c] 61)).alloc (.cells #[.slice none 0 0] 108))) := by
    have hb : ∀ o1 o2, Below w.heap.size w ((w.alloc o1).alloc o2) := fun o1 o2 => ((Below.refl _ _).alloc (Nat.le_refl _) _).alloc (by simp) _
    rw [hn]
    refine wform_any _ l t ys rfl Z _ a c (w.heap.size + 1) (.slice none 0 0) [] 0 (hsl.keep (hb _ _)) hts (fun i hi => by have := hz i hi; omega) ⟨Row.nil _ _ _, ?_, ?_, by simp⟩ (htab.below (hb _ _)) (by omega) (by omega)
    · exact (World.cell?_alloc_at _ _ _ _ (by simp)).trans rfl
    · exact World.frozen?_alloc_at _ _ _ _ (by simp)
  rw [← hn] at hsound ⊢
  have HC := Lib.hid hc
  have HS := Lib.hid hsound
  clear hc hsound hsl htab hn hz
  go_enter Tryz.func30, Tryz.ntmps30
  go_wp2_with fail
  refine HC.out.mono ?_
  rintro e w1 ⟨r, v', out', rfl, hw, ho, hy, hn⟩
  have hoff : Off (· = w.heap.size + 1) ((w.alloc (.cells #[.bool l, .string t, .slice a n c] 61)).alloc (.cells #[.slice none 0 0] 108)) w1 := ho.off.mono fun i h => by
    rcases h with h | h
    · exact h
    · cases h
  have hlt2 : w.heap.size < ((w.alloc (.cells #[.bool l, .string t, .slice a n c] 61)).alloc (.cells #[.slice none 0 0] 108)).heap.size := by simp; omega
  have hbx : ((w.alloc (.cells #[.bool l, .string t, .slice a n c] 61)).alloc (.cells #[.slice none 0 0] 108)).heap[w.heap.size]? = (w.alloc (.cells #[.bool l, .string t, .slice a n c] 61)).heap[w.heap.size]? := Below.heap_alloc _ _ _ (by simp)
  have hcell : ∀ j, w1.cell? ⟨w.heap.size, j, none⟩ = #[.bool l, .string t, .slice a n c][j]? := fun j => (hoff.cell (p := ⟨w.heap.size, j, none⟩) hlt2 (by show ¬ w.heap.size = _; omega)).trans ((World.cell?_of_block (a := ⟨w.heap.size, j, none⟩) hbx).trans (World.cell?_alloc_at _ _ _ _ rfl))
  have k1 : w1.cell? ⟨w.heap.size, 0, none⟩ = some (.bool l) := hcell 0
  have k2 : w1.cell? ⟨w.heap.size, 1, none⟩ = some (.string t) := hcell 1
  have k3 : w1.cell? ⟨w.heap.size, 2, none⟩ = some (.slice a n c) := hcell 2
  have hb : Below w.heap.size w w1 := (((Below.refl _ _).alloc (Nat.le_refl _) _).alloc (by simp) _).trans (hoff.below (fun i hi => by omega) (by simp; omega))
  have hst := row_string hw.row 101 9 5 Tryz.underlying101 Tryz.underlying5 Tryz.underlying9
  have k4 := hw.cell
  have HB := Lib.hid hb
  have HY := Lib.hid hy
  have HN := Lib.hid hn
  clear hw ho hoff hlt2 hbx hcell hb hy hn
  cases r with
  | true =>
    obtain ⟨h1, h2⟩ := HY.out rfl
    have hw2 : out' = (Tm.mk l t ys).bytes := by rw [h2]; rfl
    rw [hw2] at hst
    obtain ⟨X, hX⟩ : ∃ X, X = (Tm.mk l t ys).bytes := ⟨_, rfl⟩
    rw [← hX] at hst
    have HX := Lib.hid hX
    have H1 := Lib.hid h1
    clear h1 h2 hw2 hX HY HN
    go_wp2_with fail
    go_ret2
    exact ⟨HB.out, .inl ⟨H1.out, by rw [← HX.out]; rfl⟩⟩
  | false =>
    have hno := HN.out rfl
    have HNO := Lib.hid hno
    clear hno HY HN hst k4
    go_wp2_with fail
    refine (HS.out HNO.out _ HB.out).mono ?_
    rintro e w2 ⟨q, rfl, hq, hb2⟩
    have HQ := Lib.hid hq
    have HB2 := Lib.hid (HB.out.trans (hb2.mono HB.out.size))
    clear hq hb2
    cases q with
    | true =>
      go_wp2_with fail
      go_ret2
      exact ⟨HB2.out, .inr ⟨HNO.out, true, HQ.out, rfl⟩⟩
    | false =>
      go_wp2_with fail
      go_ret2
      exact ⟨HB2.out, .inr ⟨HNO.out, false, HQ.out, rfl⟩⟩
end Go.Proofs.YtgjcblginkdinaaGreatDoor
set_option linter.unusedVariables false
namespace Go.Proofs.YtgjcblginkdinaaGreatDoor
open Go.ChangeShapes Go.WideShapes Go.ChangeAt Go.RowKit

theorem ba_neq {x y : ByteArray} (h : x ≠ y) : (x.toList == y.toList) = false := by
  cases e : (x.toList == y.toList) with
  | false => rfl
  | true => exact absurd (ba_eq' e) h

end Go.Proofs.YtgjcblginkdinaaGreatDoor
set_option linter.unusedVariables false
namespace Go.Proofs.YtgjcblginkdinaaGreatDoor
open Go.Lib (decDigits itoa)

abbrev Lb := List ByteArray

structure Rf where
  at_ : Int
  n : Int
deriving DecidableEq

structure Opp where
  kind : Int
  a : Rf
  b : Rf
  lines : Lb

structure Pt where
  note : ByteArray
  deps : Lb
  ops : List Opp

def refB (deps made : Nat) (r : Rf) : Bool :=
  if r.at_ = -1 then decide (r.n = 0) || decide (r.n = 1)
  else if r.at_ = -2 then decide (0 ≤ r.n) && decide (r.n < made)
  else decide (0 ≤ r.at_) && decide (r.at_ < deps) && decide (0 ≤ r.n) && decide (r.n < 300)
def betwB (deps made : Nat) (a b : Rf) : Bool := refB deps made a && refB deps made b && decide (a ≠ b) && decide (a ≠ ⟨-1, 1⟩) && decide (b ≠ ⟨-1, 0⟩)
def lineB (s : ByteArray) : Bool := decide (s.size ≤ 500) && !s.data.toList.contains 10 && !mk s.data.toList
def opR (deps made : Nat) (o : Opp) : Bool :=
  if o.kind = 1 then decide (o.lines.length ≠ 0) && o.lines.all lineB && betwB deps made o.a o.b
  else if o.kind = 2 ∨ o.kind = 3 then decide (o.lines.length = 0) && betwB deps made o.a o.b
  else if o.kind = 4 ∨ o.kind = 5 then decide (o.lines.length = 0) && decide (o.b = ⟨0, 0⟩) && decide (0 ≤ o.a.at_) && refB deps made o.a
  else false
def opB (deps made : Nat) (o : Opp) : Bool := opR deps made o && decide (o.kind = 1 → o.lines.length + made ≤ 300)
def opsR (deps : Nat) : Nat → List Opp → Bool
  | _, [] => true
  | m, o :: r => opR deps m o && opsR deps (m + (if o.kind = 1 then o.lines.length else 0)) r
def opsB (deps : Nat) : Nat → List Opp → Bool
  | _, [] => true
  | m, o :: r => opB deps m o && opsB deps (m + o.lines.length) r
def madeN : List Opp → Nat
  | [] => 0
  | o :: r => (if o.kind = 1 then o.lines.length else 0) + madeN r
def linesN : List Opp → Nat
  | [] => 0
  | o :: r => o.lines.length + linesN r

theorem madeN_app (a b : List Opp) : madeN (a ++ b) = madeN a + madeN b := by
  induction a with
  | nil => simp [madeN]
  | cons o r ih => simp only [List.cons_append, madeN, ih]; omega
theorem linesN_app (a b : List Opp) : linesN (a ++ b) = linesN a + linesN b := by
  induction a with
  | nil => simp [linesN]
  | cons o r ih => simp only [List.cons_append, linesN, ih]; omega
theorem madeN_le (a : List Opp) : madeN a ≤ linesN a := by
  induction a with
  | nil => simp [madeN]
  | cons o r ih => simp only [madeN, linesN]; split <;> omega
theorem lines_mem {l : List Opp} {o : Opp} (h : o ∈ l) : o.lines.length ≤ linesN l := by
  induction l with
  | nil => simp at h
  | cons x r ih =>
    simp only [linesN]
    rcases List.mem_cons.1 h with rfl | h
    · omega
    · have := ih h; omega
theorem linesN_take (l : List Opp) (k : Nat) : linesN (l.take k) ≤ linesN l := by
  have := linesN_app (l.take k) (l.drop k)
  rw [List.take_append_drop] at this
  omega
theorem madeN_take (l : List Opp) (k : Nat) : madeN (l.take k) ≤ madeN l := by
  have := madeN_app (l.take k) (l.drop k)
  rw [List.take_append_drop] at this
  omega

theorem opR_lines {deps m : Nat} {o : Opp} (h : opR deps m o = true) : (if o.kind = 1 then o.lines.length else 0) = o.lines.length := by
  unfold opR at h
  split at h
  · rename_i e; rw [if_pos e]
  · rename_i e
    rw [if_neg e]
    split at h
    · simp only [Bool.and_eq_true, decide_eq_true_eq] at h; omega
    · split at h
      · simp only [Bool.and_eq_true, decide_eq_true_eq] at h; omega
      · cases h

theorem opsB_iff (deps : Nat) : ∀ (l : List Opp) (m : Nat), m ≤ 300 → (opsB deps m l = true ↔ opsR deps m l = true ∧ m + madeN l ≤ 300)
  | [], m, hm => by simp [opsB, opsR, madeN]; omega
  | o :: r, m, hm => by
    simp only [opsB, opsR, madeN, opB, Bool.and_eq_true, decide_eq_true_eq]
    constructor
    · rintro ⟨⟨h1, h2⟩, h3⟩
      have e := opR_lines h1
      have hm' : m + o.lines.length ≤ 300 := by
        by_cases hk : o.kind = 1
        · have := h2 hk; omega
        · rw [if_neg hk] at e; omega
      have := (opsB_iff deps r _ hm').1 h3
      rw [e]
      exact ⟨⟨h1, this.1⟩, by have := this.2; omega⟩
    · rintro ⟨⟨h1, h3⟩, h4⟩
      have e := opR_lines h1
      rw [e] at h3 h4
      refine ⟨⟨h1, fun _ => by omega⟩, (opsB_iff deps r _ (by omega)).2 ⟨h3, by omega⟩⟩

theorem opsR_app (deps : Nat) : ∀ (a b : List Opp) (m : Nat), opsR deps m (a ++ b) = (opsR deps m a && opsR deps (m + madeN a) b)
  | [], b, m => by simp [opsR, madeN]
  | o :: r, b, m => by
    simp only [List.cons_append, opsR, madeN, opsR_app deps r b, Bool.and_assoc]
    rw [Nat.add_assoc]
theorem opsB_app (deps : Nat) : ∀ (a b : List Opp) (m : Nat), opsB deps m (a ++ b) = (opsB deps m a && opsB deps (m + linesN a) b)
  | [], b, m => by simp [opsB, linesN]
  | o :: r, b, m => by
    simp only [List.cons_append, opsB, linesN, opsB_app deps r b, Bool.and_assoc]
    rw [Nat.add_assoc]

def Ris (d : Lb) (k : Nat) : Prop := ∀ j, j < k → ∀ x, d[j]? = some x → rightL x.data.toList = true ∧ ∀ i y, j = i + 1 → d[i]? = some y → ¬ x.data.toList ≤ y.data.toList
noncomputable def risB (d : Lb) : Bool := @decide (d.length ≤ 64 ∧ Ris d d.length) (Classical.propDecidable _)
theorem risB_iff {d : Lb} : risB d = true ↔ d.length ≤ 64 ∧ Ris d d.length := by unfold risB; exact @decide_eq_true_iff _ (Classical.propDecidable _)

noncomputable def soundB (p : Pt) : Bool := decide (p.note.size ≤ 100) && decide (p.ops.length ≤ 400) && risB p.deps && opsB p.deps.length 0 p.ops

def txT (t : ByteArray) : Tm := .mk false t []
def liT (xs : List Tm) : Tm := .mk true noText xs
def nuT (n : Int) : Tm := txT (tx (itoa n))
def rfT (r : Rf) : Tm := liT [nuT r.at_, nuT r.n]
def tsT (l : Lb) : Tm := liT (l.map txT)
def opT (o : Opp) : Tm := liT [nuT o.kind, rfT o.a, rfT o.b, tsT o.lines]
def headB : ByteArray := ⟨#[116, 97, 109, 98, 111, 117, 114]⟩
def ptT (p : Pt) : Tm := liT [txT headB, txT p.note, tsT p.deps, liT (p.ops.map opT)]

theorem oks_all {α : Type} (f : α → Tm) (h : ∀ x, (f x).ok = true) (l : List α) : Tm.oks (l.map f) = true := by
  rw [Tm.oks_iff]
  intro x hx
  obtain ⟨y, _, rfl⟩ := List.mem_map.1 hx
  exact h y
theorem depths_all {α : Type} (f : α → Tm) (d : Nat) (h : ∀ x, (f x).depth ≤ d) (l : List α) : Tm.depths (l.map f) ≤ d := by
  rw [Tm.depths_le]
  intro x hx
  obtain ⟨y, _, rfl⟩ := List.mem_map.1 hx
  exact h y
theorem liT_ok (xs : List Tm) : (liT xs).ok = Tm.oks xs := by unfold liT; rw [Tm.ok_list]; rfl
theorem txT_ok (t : ByteArray) : (txT t).ok = true := by unfold txT; rw [Tm.ok_text]; rfl
theorem liT_depth (xs : List Tm) : (liT xs).depth = Tm.depths xs + 1 := by unfold liT; rw [Tm.depth]; rfl
theorem txT_depth (t : ByteArray) : (txT t).depth = 0 := by unfold txT; rw [Tm.depth]; rfl
theorem nuT_ok (n : Int) : (nuT n).ok = true := txT_ok _
theorem rfT_ok (r : Rf) : (rfT r).ok = true := by simp [rfT, liT_ok, Tm.oks, nuT_ok]
theorem tsT_ok (l : Lb) : (tsT l).ok = true := by rw [tsT, liT_ok]; exact oks_all _ txT_ok _
theorem opT_ok (o : Opp) : (opT o).ok = true := by simp [opT, liT_ok, Tm.oks, nuT_ok, rfT_ok, tsT_ok]
theorem ptT_ok (p : Pt) : (ptT p).ok = true := by
  simp only [ptT, liT_ok, Tm.oks, txT_ok, tsT_ok, oks_all _ opT_ok, Bool.and_self]
theorem nuT_depth (n : Int) : (nuT n).depth = 0 := txT_depth _
theorem rfT_depth (r : Rf) : (rfT r).depth = 1 := by simp [rfT, liT_depth, Tm.depths, nuT_depth]
theorem tsT_depth (l : Lb) : (tsT l).depth ≤ 1 := by
  rw [tsT, liT_depth]
  have := depths_all txT 0 (fun t => by rw [txT_depth]; exact Nat.le_refl _) l
  omega
theorem opT_depth (o : Opp) : (opT o).depth ≤ 2 := by
  have := tsT_depth o.lines
  simp only [opT, liT_depth, Tm.depths, nuT_depth, rfT_depth]
  omega
theorem ptT_depth (p : Pt) : (ptT p).depth ≤ 4 := by
  have h1 := tsT_depth p.deps
  have h2 := depths_all opT 2 opT_depth p.ops
  simp only [ptT, liT_depth, Tm.depths, txT_depth]
  omega

noncomputable def rightP (p : Pt) : Bool := soundB p && decide ((ptT p).bytes.length ≤ 65536)
theorem can_iff (p : Pt) : CanW 0 [] (ptT p) ↔ (ptT p).bytes.length ≤ 65536 := by
  have := ptT_depth p
  unfold CanW
  rw [ptT_ok]
  simp only [List.length_nil, true_and]
  omega
theorem fits_iff (p : Pt) : fits (ptT p) = decide ((ptT p).bytes.length ≤ 65536) := by
  have := ptT_depth p
  unfold fits
  rw [decide_eq_true (by omega : (ptT p).depth ≤ 8), Bool.true_and]

noncomputable def bytesP (p : Pt) : List UInt8 := if rightP p then (ptT p).bytes else []
noncomputable def errP (p : Pt) : Int := if rightP p then 0 else 10
def nameL (p : Pt) : List UInt8 := hexL (sumL (ptT p).bytes)
noncomputable def nameP (p : Pt) : List UInt8 := if rightP p then nameL p else []

def wfI (n : Int) : Prop := -9223372036854775808 ≤ n ∧ n ≤ 9223372036854775807
def Rf.wf (r : Rf) : Prop := wfI r.at_ ∧ wfI r.n
def Opp.wf (o : Opp) : Prop := wfI o.kind ∧ o.a.wf ∧ o.b.wf
def Pt.wf (p : Pt) : Prop := ∀ o ∈ p.ops, o.wf

theorem nuT_inj {n m : Int} (hn : wfI n) (hm : wfI m) (h : nuT n = nuT m) : n = m := by
  unfold nuT txT at h
  injection h with _ h _
  exact itoa_inj hn.1 hn.2 hm.1 hm.2 (tx_inj h)
theorem liT_inj {xs ys : List Tm} (h : liT xs = liT ys) : xs = ys := by unfold liT at h; injection h
theorem txT_inj {s t : ByteArray} (h : txT s = txT t) : s = t := by unfold txT at h; injection h
theorem rfT_inj {r s : Rf} (hr : r.wf) (hs : s.wf) (h : rfT r = rfT s) : r = s := by
  have h := liT_inj h
  simp only [List.cons.injEq, and_true] at h
  cases r; cases s
  have h1 := nuT_inj hr.1 hs.1 h.1
  have h2 := nuT_inj hr.2 hs.2 h.2
  simp_all
theorem map_inj_on {α β : Type} (f : α → β) (Q : α → Prop) (h : ∀ x y, Q x → Q y → f x = f y → x = y) : ∀ l m : List α, (∀ x ∈ l, Q x) → (∀ x ∈ m, Q x) → l.map f = m.map f → l = m
  | [], [], _, _, _ => rfl
  | [], _ :: _, _, _, e => by simp at e
  | _ :: _, [], _, _, e => by simp at e
  | x :: r, y :: s, hl, hm, e => by
    simp only [List.map_cons, List.cons.injEq] at e
    rw [h x y (hl x (by simp)) (hm y (by simp)) e.1, map_inj_on f Q h r s (fun z hz => hl z (by simp [hz])) (fun z hz => hm z (by simp [hz])) e.2]
theorem tsT_inj {l m : Lb} (h : tsT l = tsT m) : l = m :=
  map_inj_on txT (fun _ => True) (fun _ _ _ _ e => txT_inj e) l m (fun _ _ => trivial) (fun _ _ => trivial) (liT_inj h)
theorem opT_inj {o q : Opp} (ho : o.wf) (hq : q.wf) (h : opT o = opT q) : o = q := by
  have h := liT_inj h
  simp only [List.cons.injEq, and_true] at h
  cases o; cases q
  have h1 := nuT_inj ho.1 hq.1 h.1
  have h2 := rfT_inj ho.2.1 hq.2.1 h.2.1
  have h3 := rfT_inj ho.2.2 hq.2.2 h.2.2.1
  have h4 := tsT_inj h.2.2.2
  simp_all
theorem ptT_inj {p q : Pt} (hp : p.wf) (hq : q.wf) (h : ptT p = ptT q) : p = q := by
  have h := liT_inj h
  simp only [List.cons.injEq, and_true, true_and] at h
  cases p; cases q
  have h1 := txT_inj h.1
  have h2 := tsT_inj h.2.1
  have h3 := map_inj_on opT Opp.wf (fun _ _ => opT_inj) _ _ hp hq (liT_inj h.2.2)
  simp_all
end Go.Proofs.YtgjcblginkdinaaGreatDoor
