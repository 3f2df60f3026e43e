/- The statement of Read: whichever text: the law's function answers true. -/
import Derived.Test.YtapplhoglmihbaaDoorAwakeF
import Derived.Test.YtapplhoglmihbaaDoorRefRead
import Derived.Test.YtapplhoglmihbaaDoorRefSame
import Derived.Test.YtapplhoglmihbaaDoorCode
set_option linter.unusedVariables false
namespace Go.Proofs.YtapplhoglmihbaaDoor
open Go.ChangeShapes Go.WideShapes Go.ChangeAt Go.RowKit

theorem HasErr.alloc {w : World} (h : HasErr w) (o : Obj) : HasErr (w.alloc o) := h.below ((Below.refl _ _).alloc (Nat.le_refl _) o)
/-- Two forms that are read where they lie. -/
theorem same_of {T T' : Tm} {Z Z' : Nat → Prop} {l l' : Bool} {t t' : ByteArray} {xs xs' : List Tm} {a a' : Option Addr} {n n' c c' : Nat} (hT : T = .mk l t xs) (hT' : T' = .mk l' t' xs') (hn : n = xs.length) (hn' : n' = xs'.length) {w : World} (h : SlL Z w (.slice a n c) xs) (h' : SlL Z' w (.slice a' n' c') xs') (r : Bool) (hr : r = true ↔ T = T') :
    Calls Tryd.prog 14 #[fv l t (.slice a n c), fv l' t' (.slice a' n' c')] w fun e w' => e = .returned (.bool r) ∧ Below w.heap.size w w' := by
  have e : r = sameB T T' := by
    cases r with
    | true => exact (sameB_true.2 (hr.1 rfl)).symm
    | false => rw [sameB_no fun h => Bool.false_ne_true (hr.2 h)]
  rw [e, hn, hn']
  rw [hn] at h
  rw [hn'] at h'
  exact rsame_any T l t xs hT T' l' t' xs' hT' Z Z' w a a' c c' h h'

/-- Its bound forms' texts. -/
theorem isF_can {L : List UInt8} {T : Tm} (h : IsF 0 L T []) (hl : L.length ≤ 65536) : CanW 0 [] T := by
  obtain ⟨h1, h2, h3⟩ := h
  rw [List.append_nil] at h3
  refine ⟨h1, h2, ?_⟩
  rw [← h3]
  simpa using hl

theorem zero_same (w : World) (a : Option Addr) (c : Nat) (r : Bool) (hr : r = true) :
    Calls Tryd.prog 14 #[fz, fz] w fun e w' => e = .returned (.bool r) ∧ Below w.heap.size w w' :=
  same_of (T := .mk false noText []) (T' := .mk false noText []) (Z := fun _ => True) (Z' := fun _ => True) rfl rfl rfl rfl (.nil none 0 (Nat.zero_le _)) (.nil none 0 (Nat.zero_le _)) r (by rw [hr]; simp)

set_option maxHeartbeats 2000000 in
set_option maxRecDepth 100000 in
theorem readslaw (s : ByteArray) (w : World) (hg : HasErr w) (ht : HasTab w) (hs : s.size ≤ 140737488355328) :
    Calls Tryd.prog 4 #[.string s] w fun e w' => e = .returned (.bool true) ∧ Below w.heap.size w w' := by
  have haw := awake_any w ht
  have hrd := fun wz => read_any s wz hs
  have HAW := Lib.hid haw
  have HRD := Lib.hid hrd
  have HG := Lib.hid hg
  have HT := Lib.hid ht
  clear haw hrd hg ht
  by_cases hA : 3000 < s.size
  · have hA' : (3000 : Int) < s.size := by omega
    by_cases hB : s.size ≤ 65536
    · have hB' : (s.size : Int) ≤ 65536 := by omega
      go_enter Tryd.func4, Tryd.ntmps4
      go_wp2_with fail
      refine HAW.out.mono ?_
      rintro e w1 ⟨rfl, hb1⟩
      have HB1 := Lib.hid hb1
      clear hb1
      go_wp2_with fail
      go_ret
      exact ⟨rfl, HB1.out⟩
    · have hB' : ¬ (s.size : Int) ≤ 65536 := by omega
      go_enter Tryd.func4, Tryd.ntmps4
      go_wp2_with fail
      refine HAW.out.mono ?_
      rintro e w1 ⟨rfl, hb1⟩
      have HB1 := Lib.hid hb1
      clear hb1
      go_wp2_with fail
      refine (HRD.out _).mono ?_
      rintro e w2 ⟨hb2, hcase⟩
      obtain rfl : e = .returned (.tuple #[fz, errV 2]) := by
        rcases hcase with ⟨_, h⟩ | ⟨h, _⟩ | ⟨h, _⟩
        · exact h
        · omega
        · omega
      have hB2 : Below w.heap.size w (w2.alloc (.cells #[.bool false, .string ⟨#[]⟩, .slice none 0 0] 24)) := (HB1.out.trans (hb2.mono HB1.out.size)).alloc (HB1.out.trans (hb2.mono HB1.out.size)).size _
      have hc2 : Calls Tryd.prog 12 #[errV 2] (w2.alloc (.cells #[.bool false, .string ⟨#[]⟩, .slice none 0 0] 24)) fun e w' => e = .returned (.int .i64 2) ∧ Below (w2.heap.size + 1) (w2.alloc (.cells #[.bool false, .string ⟨#[]⟩, .slice none 0 0] 24)) w' :=
        (code_errno 2 _ (HG.out.below hB2)).mono fun e w' ⟨he, hb⟩ => ⟨he, hb.mono (by simp)⟩
      have HB2 := Lib.hid hB2
      have HC2 := Lib.hid hc2
      clear hb2 hcase hB2 hc2
      go_wp2_with fail
      refine HC2.out.mono ?_
      rintro e w3 ⟨rfl, hb3⟩
      obtain ⟨k1, k2, k3, k4⟩ := box3 hb3
      have HB3 := Lib.hid (HB2.out.trans (hb3.mono (by have := HB2.out.size; simp at this; omega)))
      clear hb3 k4
      go_wp2_with fail
      refine (zero_same _ none 0 true rfl).mono ?_
      rintro e w4 ⟨rfl, hb4⟩
      have HB4 := Lib.hid (HB3.out.trans (hb4.mono HB3.out.size))
      clear hb4
      go_wp2_with fail
      go_ret
      exact ⟨rfl, HB4.out⟩
  · have hA' : ¬ (3000 : Int) < s.size := by omega
    have hrr := fun wz => rread_any s wz (by omega)
    have HRR := Lib.hid hrr
    clear hrr
    go_enter Tryd.func4, Tryd.ntmps4
    go_wp2_with fail
    refine HAW.out.mono ?_
    rintro e w1 ⟨rfl, hb1⟩
    have HB1 := Lib.hid hb1
    clear hb1
    go_wp2_with fail
    refine (HRD.out _).mono ?_
    rintro e w2 ⟨hb2, hcase⟩
    have HB2 := Lib.hid (HB1.out.trans (hb2.mono HB1.out.size))
    clear hb2
    rcases hcase with ⟨h, _⟩ | ⟨_, hno, rfl⟩ | ⟨hsz, l, t, xs, a, c, rfl, hF, hts, hsl⟩
    · omega
    · have HNO := Lib.hid hno
      have hB2 := HB2.out.alloc HB2.out.size (.cells #[.bool false, .string ⟨#[]⟩, .slice none 0 0] 24)
      have HA2 := Lib.hid hB2
      clear hno hB2
      go_wp2_with fail
      refine (HRR.out _).mono ?_
      rintro e w3 ⟨hb3, hcase⟩
      obtain rfl : e = .returned (.tuple #[fz, .int .i64 5]) := by
        rcases hcase with ⟨_, h⟩ | ⟨l, t, xs, a, c, _, h, _⟩
        · exact h
        · exact absurd h (HNO.out _)
      have hx3 := box_first hb3
      have hx3a : Below (w2.heap.size + 1) (w2.alloc (.cells #[.bool false, .string ⟨#[]⟩, .slice none 0 0] 24)) (w3.alloc (.cells #[.bool false, .string ⟨#[]⟩, .slice none 0 0] 24)) := hx3.alloc (by have := hx3.size; simp at this; omega) _
      have HX3 := Lib.hid hx3a
      obtain ⟨k1, k2, k3, k4⟩ := box3 hx3
      have zl : w2.heap.size < w3.heap.size := by have := hx3.size; simp at this; omega
      clear hb3 hcase hx3 hx3a k4
      go_wp2_with fail
      refine (zero_same _ none 0 true rfl).mono ?_
      rintro e w4 ⟨rfl, hb4⟩
      have HX4 := Lib.hid (box_step HX3.out hb4)
      clear hb4 k1 k2 k3 zl
      have HB4 := Lib.hid (HA2.out.trans (HX4.out.mono (by have := HB2.out.size; omega)))
      have hc4 := code_errno 5 w4 (HG.out.below HB4.out)
      have HC4 := Lib.hid hc4
      clear hc4
      go_wp2_with fail
      refine HC4.out.mono ?_
      rintro e w5 ⟨rfl, hb5⟩
      have HX5 := Lib.hid (box_step HX4.out hb5)
      obtain ⟨k1, k2, k3, k4⟩ := box3 HX5.out
      clear hb5 k4
      go_wp2_with fail
      refine (zero_same _ none 0 true rfl).mono ?_
      rintro e w6 ⟨rfl, hb6⟩
      have HX6 := Lib.hid (box_step HX5.out hb6)
      clear hb6 k1 k2 k3
      go_wp2_with fail
      go_ret
      exact ⟨rfl, HA2.out.trans (HX6.out.mono (by have := HB2.out.size; omega))⟩
    · obtain ⟨n, hn⟩ : ∃ n, n = xs.length := ⟨_, rfl⟩
      have hB2 := HB2.out.alloc HB2.out.size (.cells #[.bool l, .string t, .slice a n c] 24)
      have HA2 := Lib.hid hB2
      have HN := Lib.hid hn
      have HF := Lib.hid hF
      have HSL := Lib.hid hsl
      have HTS := Lib.hid hts
      rw [← hn]
      clear hB2 hn hF hsl hts hsz
      go_wp2_with fail
      refine (HRR.out _).mono ?_
      rintro e w3 ⟨hb3, hcase⟩
      have hres : ∃ a' c', e = .returned (.tuple #[fv l t (.slice a' n c'), .int .i64 0]) ∧ ∃ Z', SlL Z' w3 (.slice a' n c') xs := by
        rcases hcase with ⟨h, _⟩ | ⟨l', t', xs', a', c', he, hF', _, hs'⟩
        · exact absurd HF.out (h _)
        · have := (HF.out.det hF').1
          injection this with h1 h2 h3
          subst h1
          subst h2
          subst h3
          rw [← HN.out] at he hs'
          exact ⟨a', c', he, _, hs'⟩
      obtain ⟨a', c', rfl, Z', hs'⟩ := hres
      have hx3 := box_first hb3
      have hx3a : Below (w2.heap.size + 1) (w2.alloc (.cells #[.bool l, .string t, .slice a n c] 24)) (w3.alloc (.cells #[.bool l, .string t, .slice a' n c'] 24)) := hx3.alloc (by have := hx3.size; simp at this; omega) _
      have HX3 := Lib.hid hx3a
      obtain ⟨k1, k2, k3, k4⟩ := box3 hx3
      have zl : w2.heap.size < w3.heap.size := by have := hx3.size; simp at this; omega
      have hsl3 : ∀ wz, Below (w2.heap.size + 1) (w2.alloc (.cells #[.bool l, .string t, .slice a n c] 24)) wz → SlL (fun i => w1.heap.size ≤ i) wz (.slice a n c) xs := fun wz hz => by
        have h := HSL.out
        rw [← HN.out] at h
        exact h.keep (((Below.refl _ _).alloc (Nat.le_refl _) _).trans (hz.mono (Nat.le_succ _)))
      have HSL3 := Lib.hid hsl3
      have hsame := same_of (T := .mk l t xs) (T' := .mk l t xs) rfl rfl HN.out HN.out (hsl3 _ hx3a) (hs'.alloc (.cells #[.bool l, .string t, .slice a' n c'] 24)) true (by simp)
      have HSA := Lib.hid hsame
      clear hb3 hcase hx3 hx3a k4 hs' hsl3 hsame
      go_wp2_with fail
      refine HSA.out.mono ?_
      rintro e w4 ⟨rfl, hb4⟩
      have HX4 := Lib.hid (box_step HX3.out hb4)
      clear hb4 k1 k2 k3 zl
      go_wp2_with fail
      refine (code_nil _).mono ?_
      rintro e w5 ⟨rfl, rfl⟩
      obtain ⟨k1, k2, k3, k4⟩ := box3 HX4.out
      have HB4 := Lib.hid (HA2.out.trans (HX4.out.mono (by have := HB2.out.size; omega)))
      have hcan : CanW 0 [] (.mk l t xs) := isF_can HF.out (by rw [ba_len]; omega)
      have hwr := write_any l t xs (fun i => i < w5.heap.size) (fun _ => True) w5 a c (by have h := (HSL3.out w5 HX4.out).mono (Z' := fun i => i < w5.heap.size) fun i hi _ => hi; rw [HN.out] at h; exact h) HTS.out (fun i hi => hi) (HT.out.below HB4.out) (fun h => absurd hcan h)
      rw [← HN.out] at hwr
      have HWR := Lib.hid hwr
      have HCAN := Lib.hid hcan
      clear hwr hcan k4
      go_wp2_with fail
      refine HWR.out.mono ?_
      rintro e w6 ⟨hb6, hcase⟩
      have htx : tx (Tm.mk l t xs).bytes = s := by
        have h := HF.out.2.2
        rw [List.append_nil] at h
        rw [← h, tx_data]
      obtain rfl : e = .returned (.tuple #[.string s, .nilIface]) := by
        rcases hcase with ⟨_, h⟩ | ⟨h, _⟩
        · rw [h, htx]
        · exact absurd HCAN.out h
      have HB6 := Lib.hid (HB4.out.trans (hb6.mono HB4.out.size))
      clear hb6 hcase htx k1 k2 k3
      go_wp2_with fail
      go_ret
      exact ⟨rfl, HB6.out⟩
end Go.Proofs.YtapplhoglmihbaaDoor
