/- The contract of the writer's form. What is right as9 a name; a digest's beginning. Patches as9 values: which are right, their form, their lines, their inverse. Mathematics alone. -/
import Derived.Test.YtojnagonhihknaaGreatDoorU0
import Derived.Test.YtojnagonhihknaaGreatDoorU1
import Derived.Test.YtojnagonhihknaaGreatDoorU10
import Derived.Test.YtojnagonhihknaaGreatDoorU6
import Derived.Test.YtojnagonhihknaaGreatDoorU8
import Derived.Test.YtojnagonhihknaaGreatDoorU9
set_option linter.unusedVariables false
namespace Go.Proofs.YtojnagonhihknaaGreatDoor
open Go.ChangeShapes Go.WideShapes Go.ChangeAt Go.RowKit
open Go.Lib (decDigits itoa)

theorem canW_list {d : Nat} {out : List UInt8} {t : ByteArray} {xs : List Tm} : CanW d out (.mk true t xs) ↔ t.size = 0 ∧ Tm.oks xs = true ∧ d + (Tm.depths xs + 1) ≤ 8 ∧ out.length + ((Tm.bytess xs).length + 2) ≤ 65536 := by
  unfold CanW
  rw [Tm.ok_list, Tm.depth_list, Tm.bytes_list]
  simp only [Bool.and_eq_true, decide_eq_true_eq, List.length_cons, List.length_append, List.length_nil, Nat.zero_add, and_assoc, Nat.add_assoc, Nat.reduceAdd]

def Done (d : Nat) (out : List UInt8) (xs : List Tm) (k : Nat) (outk : List UInt8) : Prop :=
  outk = out ++ 40 :: Tm.bytess (xs.take k) ∧ Tm.oks (xs.take k) = true ∧ d + (Tm.depths (xs.take k) + 1) ≤ 8

theorem Done.next {d k : Nat} {out outk : List UInt8} {xs : List Tm} {x : Tm} (h : Done d out xs k outk) (hx : xs[k]? = some x) (hc : CanW (d + 1) outk x) : Done d out xs (k + 1) (outk ++ x.bytes) := by
  obtain ⟨h1, h2, h3⟩ := h
  obtain ⟨c1, c2, c3⟩ := hc
  refine ⟨?_, ?_, ?_⟩
  · rw [h1, take_snoc hx, Tm.bytess_app]; simp [Tm.bytess]
  · rw [take_snoc hx, Tm.oks_app, h2]; simp [Tm.oks, c1]
  · rw [take_snoc hx, Tm.depths_app]
    have : Tm.depths [x] = x.depth := by simp [Tm.depths]
    omega
theorem Done.need {d k : Nat} {out outk : List UInt8} {t : ByteArray} {xs : List Tm} {x : Tm} (h : Done d out xs k outk) (hx : xs[k]? = some x) (hc : CanW d out (.mk true t xs)) : CanW (d + 1) outk x := by
  obtain ⟨c1, c2, c3, c4⟩ := canW_list.1 hc
  have hm := List.mem_of_getElem? hx
  refine ⟨Tm.oks_iff.1 c2 x hm, ?_, ?_⟩
  · have := Tm.depths_le.1 (Nat.le_refl (Tm.depths xs)) x hm
    omega
  · have := Tm.bytess_get xs k x hx
    rw [h.1, List.length_append, List.length_cons]
    omega

set_option maxHeartbeats 2000000 in
set_option maxRecDepth 100000 in
theorem wform_any (T : Tm) : ∀ l t xs, T = .mk l t xs → ∀ (Z : Nat → Prop) (w : World) (a : Option Addr) (c bw : Nat) (v : Value) (out : List UInt8) (d : Nat), SlL Z w (.slice a xs.length c) xs → t.size ≤ 140737488355328 → (∀ i, Z i → i < bw) → Wr bw w v out → HasTab w → 2 < bw → d ≤ 8 →
    Calls Tryz.prog 135 #[.pointer (some ⟨bw, 0, none⟩), fv l t (.slice a xs.length c), .int .i64 (d : Nat)] w (FormP T bw v out d w) := by
  induction T using Tm.ind with
  | h l t xs ih =>
    rintro _ _ _ ⟨⟩ Z w a c bw v out d hsl hts hz hw htab htg hd
    have hlm : xs.length ≤ maxLen := by obtain ⟨_, _, _, h1, h2⟩ := hsl.form; omega
    cases l with
    | false => exact wform_text t xs w a c bw v out d hlm hts hw htab htg hd
    | true =>
      have hlt := cell_lt hw.cell
      have hown := fun g hg => (hw.row.lt g hg).2
      obtain ⟨n, hn⟩ : ∃ n, n = xs.length := ⟨_, rfl⟩
      rw [← hn] at hsl hlm ⊢
      have c1 := fun wz => fright_any true t a n c wz hlm
      have hW0 : ∀ o, WOff bw w v (w.alloc o) v := fun o => (WOff.refl _ _ _).alloc o
      have HW := Lib.hid hw
      have HT := Lib.hid htab
      have HO := Lib.hid hown
      have HN := Lib.hid hn
      have HS := Lib.hid hsl
      have IH := Lib.hid ih
      have HZ := Lib.hid hz
      have hnm : n ≤ 9223372036854775807 := by unfold maxLen at hlm; exact hlm
      clear hw htab hown hn hsl ih hz hlm
      by_cases ht : t.size = 0
      · have hr : rightB true t n = true := by simp [rightB, ht]
        rw [hr] at c1
        have C1 := Lib.hid c1
        have HTZ := Lib.hid ht
        clear c1 hr hts ht
        by_cases hd8 : d = 8
        · have HD8 := Lib.hid hd8
          subst hd8
          clear HD8
          have hnc : ¬ CanW 8 out (.mk true t xs) := fun h => by have := (canW_list.1 h).2.2.1; omega
          have HNC := Lib.hid hnc
          clear hnc
          go_enter Tryz.func135, Tryz.ntmps135
          go_wp2_with fail
          refine (C1.out _).mono ?_
          rintro e w1 ⟨rfl, hb1⟩
          have hW1 : WOff bw (w.alloc (.cells #[.bool true, .string t, .slice a n c] 122)) v w1 v := WOff.of_below hb1
          have hw1 : Wr bw w1 v out := (HW.out.below ((Below.refl _ _).alloc (Nat.le_refl _) _)).below hb1
          obtain ⟨k1, k2, k3⟩ := box3o hW1 hlt HO.out
          have HW1 := Lib.hid hW1
          have HWR1 := Lib.hid hw1
          clear hb1 hW1 hw1
          go_wp2_with fail
          go_ret
          exact ⟨false, v, out, rfl, HWR1.out, (hW0 _).trans HW1.out, (fun h => by cases h), fun _ => HNC.out⟩
        · have hd7 : ((d : Int) == 8) = false := by rw [beq_eq_false_iff_ne]; omega
          obtain ⟨r1, hr1⟩ : ∃ r, r = decide (out.length + (⟨#[40]⟩ : ByteArray).size ≤ 65536) := ⟨_, rfl⟩
          have HR1 := Lib.hid hr1
          have HD8 := Lib.hid hd8
          clear hr1 hd8
          go_enter Tryz.func135, Tryz.ntmps135
          go_wp2_with fail
          refine (C1.out _).mono ?_
          rintro e w1 ⟨rfl, hb1⟩
          have hW1 : WOff bw (w.alloc (.cells #[.bool true, .string t, .slice a n c] 122)) v w1 v := WOff.of_below hb1
          have hw1 : Wr bw w1 v out := (HW.out.below ((Below.refl _ _).alloc (Nat.le_refl _) _)).below hb1
          obtain ⟨k1, k2, k3⟩ := box3o hW1 hlt HO.out
          have HW1 := Lib.hid hW1
          have HWR1 := Lib.hid hw1
          clear hb1 hW1 hw1
          go_wp2_with fail
          refine (put_any ⟨#[40]⟩ bw v out w1 HWR1.out (by decide) r1 HR1.out).mono ?_
          rintro e w2 ⟨rfl, v2, out2, hw2, ho2, hq2⟩
          have HW2 := Lib.hid (HW1.out.trans ho2)
          have HWR2 := Lib.hid hw2
          have HQ2 := Lib.hid hq2
          clear hw2 ho2 hq2 k1 k2 k3
          obtain ⟨k1, k2, k3⟩ := box3o HW2.out hlt HO.out
          cases r1 with
          | false =>
            go_wp2_with fail
            go_ret
            refine ⟨false, v2, out2, rfl, HWR2.out, (hW0 _).trans HW2.out, (fun h => by cases h), fun _ h => ?_⟩
            have h1 := (canW_list.1 h).2.2.2
            have h2 := HR1.out
            rw [eq_comm, decide_eq_false_iff_not] at h2
            apply h2
            show out.length + 1 ≤ 65536
            omega
          | true =>
            have hdn : Done d out xs 0 out2 := by
              refine ⟨by rw [HQ2.out]; simp [Tm.bytess], rfl, ?_⟩
              have := HD8.out
              simp [Tm.depths]; omega
            have HDN := Lib.hid hdn
            have HO2 := Lib.hid ((hW0 _).trans HW2.out)
            clear hdn
            go_wp2_with fail
            clear k1 k2 k3
            go_loopw [41] (fun i wr => ∃ (k : Nat) (vk : Value) (outk : List UInt8), k ≤ n ∧ i = .int .i64 k ∧ Wr bw wr vk outk ∧ WOff bw w v wr vk ∧ Done d out xs k outk) (fun i _ => n - (intOf i).toNat)
            case atStart => exact ⟨0, v2, out2, Nat.zero_le _, rfl, HWR2.out, HO2.out, HDN.out⟩
            case round =>
              obtain ⟨k, vk, outk, hk, rfl, hwk, hok, hdk⟩ := hrel
              have HWK := Lib.hid hwk
              have HOK := Lib.hid hok
              have HDK := Lib.hid hdk
              clear hwk hok hdk
              by_cases hlk : k < n
              · obtain ⟨x, hx⟩ : ∃ x, xs[k]? = some x := ⟨xs[k]'(by rw [← HN.out]; exact hlk), by simp⟩
                obtain ⟨l1, t1, ys1⟩ := x
                obtain ⟨b, o, c', hv, h1, h2, h3, h4, h5⟩ := HS.out.pos (by rintro rfl; simp at hx)
                injection hv with ea en ec
                subst ea
                obtain ⟨a1, c1, q1, q2, q3, q4, q5⟩ := h5 k l1 t1 ys1 hx
                have hzo : ∀ i, Z i → ¬ (i = bw ∨ v.ownBlock = some i) := fun i hi h => by
                  have h0 := HZ.out i hi
                  rcases h with h | h
                  · omega
                  · have := (HW.out.row.lt i h).1
                    omega
                have d1 : wr.cell? ⟨b, o + k * 3, none⟩ = some (.bool l1) := (HOK.out.off.cell (p := ⟨b, o + k * 3, none⟩) h4 (hzo b h3)).trans q1
                have d2 : wr.cell? ⟨b, o + k * 3 + 1, none⟩ = some (.string t1) := (HOK.out.off.cell (p := ⟨b, o + k * 3 + 1, none⟩) h4 (hzo b h3)).trans q2
                have d3 : wr.cell? ⟨b, o + k * 3 + 2, none⟩ = some (.slice a1 ys1.length c1) := (HOK.out.off.cell (p := ⟨b, o + k * 3 + 2, none⟩) h4 (hzo b h3)).trans q3
                have htw : HasTab wr := HT.out.keep (HOK.out.off.block _ HT.out.lt (fun h => by
                  rcases h with h | h
                  · omega
                  · have := (HW.out.row.lt _ h).1
                    omega))
                have hc : ∀ wz, Below wr.heap.size wr wz → Calls Tryz.prog 135 #[.pointer (some ⟨bw, 0, none⟩), fv l1 t1 (.slice a1 ys1.length c1), .int .i64 (d + 1 : Nat)] wz (FormP (.mk l1 t1 ys1) bw vk outk (d + 1) wz) := fun wz hz =>
                  IH.out _ (List.mem_of_getElem? hx) l1 t1 ys1 rfl Z wz a1 c1 bw vk outk (d + 1) ((q5.off HOK.out.off hzo).keep hz) q4 HZ.out (HWK.out.below hz) (htw.below hz) htg (by have := HD8.out; omega)
                obtain ⟨m1, hm1⟩ : ∃ m, m = ys1.length := ⟨_, rfl⟩
                rw [← hm1] at hc d3
                have HC := Lib.hid hc
                have HX := Lib.hid hx
                have h01 : (0 : Int) ≤ k := by omega
                have h02 : (k : Int) < n := by omega
                clear hc hx hm1 q1 q2 q3 q4 q5 h1 h2 h3 h4 h5 en ec hzo htw
                go_wp2_with fail
                refine (HC.out _ ((Below.refl _ _).alloc (Nat.le_refl _) _)).mono ?_
                rintro e w3 ⟨r, v3, out3, rfl, hw3, ho3, hy3, hn3⟩
                have HW3 := Lib.hid hw3
                have HO3 := Lib.hid ((HOK.out.alloc _).trans ho3)
                have HY3 := Lib.hid hy3
                have HN3 := Lib.hid hn3
                clear hw3 ho3 hy3 hn3
                cases r with
                | true =>
                  go_wp2_with fail
                  obtain ⟨i1, i2⟩ := HY3.out (by trivial)
                  refine ⟨⟨k + 1, v3, out3, hlk, by go_num, HW3.out, HO3.out, ?_⟩, by simp [intOf]; omega⟩
                  rw [i2]
                  exact HDK.out.next HX.out i1
                | false =>
                  go_wp2_with fail
                  go_ret
                  exact ⟨false, v3, out3, rfl, HW3.out, HO3.out, (fun h => by cases h), fun _ h => HN3.out (by trivial) (HDK.out.need HX.out h)⟩
              · have hke : k = n := by omega
                obtain ⟨r2, hr2⟩ : ∃ r, r = decide (outk.length + (⟨#[41]⟩ : ByteArray).size ≤ 65536) := ⟨_, rfl⟩
                have HR2 := Lib.hid hr2
                have HKE := Lib.hid hke
                have hge : ¬ (k : Int) < n := by omega
                clear hr2 hke
                go_wp2_with fail
                refine (put_any ⟨#[41]⟩ bw vk outk wr HWK.out (by decide) r2 HR2.out).mono ?_
                rintro e w3 ⟨rfl, v3, out3, hw3, ho3, hq3⟩
                have HW3 := Lib.hid hw3
                have HO3 := Lib.hid (HOK.out.trans ho3)
                have HQ3 := Lib.hid hq3
                clear hw3 ho3 hq3
                go_wp2_with fail
                go_ret
                obtain ⟨g1, g2, g3⟩ := HDK.out
                rw [List.take_of_length_le (by rw [← HN.out]; exact Nat.le_of_eq HKE.out.symm)] at g1 g2 g3
                have hcan : CanW d out (.mk true t xs) ↔ outk.length + 1 ≤ 65536 := by
                  rw [canW_list, g1, List.length_append, List.length_cons]
                  constructor
                  · rintro ⟨_, _, _, h⟩; omega
                  · intro h; exact ⟨HTZ.out, g2, g3, by omega⟩
                cases r2 with
                | true =>
                  refine ⟨true, v3, out3, rfl, HW3.out, HO3.out, (fun _ => ⟨hcan.2 ?_, ?_⟩), fun h => by cases h⟩
                  · have h2 := HR2.out
                    rw [eq_comm, decide_eq_true_iff] at h2
                    exact h2
                  · rw [HQ3.out, Tm.bytes_list, g1]; simp
                | false =>
                  refine ⟨false, v3, out3, rfl, HW3.out, HO3.out, (fun h => by cases h), fun _ h => ?_⟩
                  have h2 := HR2.out
                  rw [eq_comm, decide_eq_false_iff_not] at h2
                  exact h2 (hcan.1 h)
      · have hr : rightB true t n = false := by simp [rightB, ht]
        rw [hr] at c1
        have C1 := Lib.hid c1
        have hnc : ¬ CanW d out (.mk true t xs) := fun h => ht (canW_list.1 h).1
        have HNC := Lib.hid hnc
        clear c1 hr hnc hts ht
        go_enter Tryz.func135, Tryz.ntmps135
        go_wp2_with fail
        refine (C1.out _).mono ?_
        rintro e w1 ⟨rfl, hb1⟩
        have hW1 : WOff bw (w.alloc (.cells #[.bool true, .string t, .slice a n c] 122)) v w1 v := WOff.of_below hb1
        have hw1 : Wr bw w1 v out := (HW.out.below ((Below.refl _ _).alloc (Nat.le_refl _) _)).below hb1
        have HW1 := Lib.hid hW1
        have HWR1 := Lib.hid hw1
        clear hb1 hW1 hw1
        go_wp2_with fail
        go_ret
        exact ⟨false, v, out, rfl, HWR1.out, (hW0 _).trans HW1.out, (fun h => by cases h), fun _ => HNC.out⟩
end Go.Proofs.YtojnagonhihknaaGreatDoor
set_option linter.unusedVariables false
namespace Go.Proofs.YtojnagonhihknaaGreatDoor
open Go.Lib

def rightL (l : List UInt8) : Bool := decide (l.length = 64) && (rawL l).isSome
def KK : List Wd := [0x428a2f98#32, 0x71374491#32, 0xb5c0fbcf#32, 0xe9b5dba5#32, 0x3956c25b#32, 0x59f111f1#32, 0x923f82a4#32, 0xab1c5ed5#32,
  0xd807aa98#32, 0x12835b01#32, 0x243185be#32, 0x550c7dc3#32, 0x72be5d74#32, 0x80deb1fe#32, 0x9bdc06a7#32, 0xc19bf174#32,
  0xe49b69c1#32, 0xefbe4786#32, 0x0fc19dc6#32, 0x240ca1cc#32, 0x2de92c6f#32, 0x4a7484aa#32, 0x5cb0a9dc#32, 0x76f988da#32,
  0x983e5152#32, 0xa831c66d#32, 0xb00327c8#32, 0xbf597fc7#32, 0xc6e00bf3#32, 0xd5a79147#32, 0x06ca6351#32, 0x14292967#32,
  0x27b70a85#32, 0x2e1b2138#32, 0x4d2c6dfc#32, 0x53380d13#32, 0x650a7354#32, 0x766a0abb#32, 0x81c2c92e#32, 0x92722c85#32,
  0xa2bfe8a1#32, 0xa81a664b#32, 0xc24b8b70#32, 0xc76c51a3#32, 0xd192e819#32, 0xd6990624#32, 0xf40e3585#32, 0x106aa070#32,
  0x19a4c116#32, 0x1e376c08#32, 0x2748774c#32, 0x34b0bcb5#32, 0x391c0cb3#32, 0x4ed8aa4a#32, 0x5b9cca4f#32, 0x682e6ff3#32,
  0x748f82ee#32, 0x78a5636f#32, 0x84c87814#32, 0x8cc70208#32, 0x90befffa#32, 0xa4506ceb#32, 0xbef9a3f7#32, 0xc67178f2#32]
def H0 : St := ⟨0x6a09e667#32, 0xbb67ae85#32, 0x3c6ef372#32, 0xa54ff53a#32, 0x510e527f#32, 0x9b05688c#32, 0x1f83d9ab#32, 0x5be0cd19#32⟩
end Go.Proofs.YtojnagonhihknaaGreatDoor
set_option linter.unusedVariables false
namespace Go.Proofs.YtojnagonhihknaaGreatDoor
open Go.Lib (decDigits itoa)


structure Rf where
  at_ : Int
  n : Int
deriving DecidableEq

structure Opp where
  kind : Int
  a : Rf
  b : Rf
  lines : Lb

structure Pt where
  note : ByteArray
  deps : Lb
  ops : List Opp

def refB (deps made : Nat) (r : Rf) : Bool :=
  if r.at_ = -1 then decide (r.n = 0) || decide (r.n = 1)
  else if r.at_ = -2 then decide (0 ≤ r.n) && decide (r.n < made)
  else decide (0 ≤ r.at_) && decide (r.at_ < deps) && decide (0 ≤ r.n) && decide (r.n < 300)
def betwB (deps made : Nat) (a b : Rf) : Bool := refB deps made a && refB deps made b && decide (a ≠ b) && decide (a ≠ ⟨-1, 1⟩) && decide (b ≠ ⟨-1, 0⟩)
def lineB (s : ByteArray) : Bool := decide (s.size ≤ 500) && !s.data.toList.contains 10 && !mk s.data.toList
def opR (deps made : Nat) (o : Opp) : Bool :=
  if o.kind = 1 then decide (o.lines.length ≠ 0) && o.lines.all lineB && betwB deps made o.a o.b
  else if o.kind = 2 ∨ o.kind = 3 then decide (o.lines.length = 0) && betwB deps made o.a o.b
  else if o.kind = 4 ∨ o.kind = 5 then decide (o.lines.length = 0) && decide (o.b = ⟨0, 0⟩) && decide (0 ≤ o.a.at_) && refB deps made o.a
  else false
def opB (deps made : Nat) (o : Opp) : Bool := opR deps made o && decide (o.kind = 1 → o.lines.length + made ≤ 300)
def opsR (deps : Nat) : Nat → List Opp → Bool
  | _, [] => true
  | m, o :: r => opR deps m o && opsR deps (m + (if o.kind = 1 then o.lines.length else 0)) r
def opsB (deps : Nat) : Nat → List Opp → Bool
  | _, [] => true
  | m, o :: r => opB deps m o && opsB deps (m + o.lines.length) r
def madeN : List Opp → Nat
  | [] => 0
  | o :: r => (if o.kind = 1 then o.lines.length else 0) + madeN r
def linesN : List Opp → Nat
  | [] => 0
  | o :: r => o.lines.length + linesN r

theorem madeN_app (a b : List Opp) : madeN (a ++ b) = madeN a + madeN b := by
  induction a with
  | nil => simp [madeN]
  | cons o r ih => simp only [List.cons_append, madeN, ih]; omega
theorem linesN_app (a b : List Opp) : linesN (a ++ b) = linesN a + linesN b := by
  induction a with
  | nil => simp [linesN]
  | cons o r ih => simp only [List.cons_append, linesN, ih]; omega
theorem madeN_le (a : List Opp) : madeN a ≤ linesN a := by
  induction a with
  | nil => simp [madeN]
  | cons o r ih => simp only [madeN, linesN]; split <;> omega
theorem lines_mem {l : List Opp} {o : Opp} (h : o ∈ l) : o.lines.length ≤ linesN l := by
  induction l with
  | nil => simp at h
  | cons x r ih =>
    simp only [linesN]
    rcases List.mem_cons.1 h with rfl | h
    · omega
    · have := ih h; omega
theorem linesN_take (l : List Opp) (k : Nat) : linesN (l.take k) ≤ linesN l := by
  have := linesN_app (l.take k) (l.drop k)
  rw [List.take_append_drop] at this
  omega
theorem madeN_take (l : List Opp) (k : Nat) : madeN (l.take k) ≤ madeN l := by
  have := madeN_app (l.take k) (l.drop k)
  rw [List.take_append_drop] at this
  omega

theorem opR_lines {deps m : Nat} {o : Opp} (h : opR deps m o = true) : (if o.kind = 1 then o.lines.length else 0) = o.lines.length := by
  unfold opR at h
  split at h
  · rename_i e; rw [if_pos e]
  · rename_i e
    rw [if_neg e]
    split at h
    · simp only [Bool.and_eq_true, decide_eq_true_eq] at h; omega
    · split at h
      · simp only [Bool.and_eq_true, decide_eq_true_eq] at h; omega
      · cases h

theorem opsB_iff (deps : Nat) : ∀ (l : List Opp) (m : Nat), m ≤ 300 → (opsB deps m l = true ↔ opsR deps m l = true ∧ m + madeN l ≤ 300)
  | [], m, hm => by simp [opsB, opsR, madeN]; omega
  | o :: r, m, hm => by
    simp only [opsB, opsR, madeN, opB, Bool.and_eq_true, decide_eq_true_eq]
    constructor
    · rintro ⟨⟨h1, h2⟩, h3⟩
      have e := opR_lines h1
      have hm' : m + o.lines.length ≤ 300 := by
        by_cases hk : o.kind = 1
        · have := h2 hk; omega
        · rw [if_neg hk] at e; omega
      have := (opsB_iff deps r _ hm').1 h3
      rw [e]
      exact ⟨⟨h1, this.1⟩, by have := this.2; omega⟩
    · rintro ⟨⟨h1, h3⟩, h4⟩
      have e := opR_lines h1
      rw [e] at h3 h4
      refine ⟨⟨h1, fun _ => by omega⟩, (opsB_iff deps r _ (by omega)).2 ⟨h3, by omega⟩⟩

theorem opsR_app (deps : Nat) : ∀ (a b : List Opp) (m : Nat), opsR deps m (a ++ b) = (opsR deps m a && opsR deps (m + madeN a) b)
  | [], b, m => by simp [opsR, madeN]
  | o :: r, b, m => by
    simp only [List.cons_append, opsR, madeN, opsR_app deps r b, Bool.and_assoc]
    rw [Nat.add_assoc]
theorem opsB_app (deps : Nat) : ∀ (a b : List Opp) (m : Nat), opsB deps m (a ++ b) = (opsB deps m a && opsB deps (m + linesN a) b)
  | [], b, m => by simp [opsB, linesN]
  | o :: r, b, m => by
    simp only [List.cons_append, opsB, linesN, opsB_app deps r b, Bool.and_assoc]
    rw [Nat.add_assoc]

def Ris (d : Lb) (k : Nat) : Prop := ∀ j, j < k → ∀ x, d[j]? = some x → rightL x.data.toList = true ∧ ∀ i y, j = i + 1 → d[i]? = some y → ¬ x.data.toList ≤ y.data.toList
noncomputable def risB (d : Lb) : Bool := @decide (d.length ≤ 64 ∧ Ris d d.length) (Classical.propDecidable _)
theorem risB_iff {d : Lb} : risB d = true ↔ d.length ≤ 64 ∧ Ris d d.length := by unfold risB; exact @decide_eq_true_iff _ (Classical.propDecidable _)

noncomputable def soundB (p : Pt) : Bool := decide (p.note.size ≤ 100) && decide (p.ops.length ≤ 400) && risB p.deps && opsB p.deps.length 0 p.ops

def txT (t : ByteArray) : Tm := .mk false t []
def liT (xs : List Tm) : Tm := .mk true noText xs
def nuT (n : Int) : Tm := txT (tx (itoa n))
def rfT (r : Rf) : Tm := liT [nuT r.at_, nuT r.n]
def tsT (l : Lb) : Tm := liT (l.map txT)
def opT (o : Opp) : Tm := liT [nuT o.kind, rfT o.a, rfT o.b, tsT o.lines]
def headB : ByteArray := ⟨#[116, 97, 109, 98, 111, 117, 114]⟩
def ptT (p : Pt) : Tm := liT [txT headB, txT p.note, tsT p.deps, liT (p.ops.map opT)]

theorem oks_all {α : Type} (f : α → Tm) (h : ∀ x, (f x).ok = true) (l : List α) : Tm.oks (l.map f) = true := by
  rw [Tm.oks_iff]
  intro x hx
  obtain ⟨y, _, rfl⟩ := List.mem_map.1 hx
  exact h y
theorem depths_all {α : Type} (f : α → Tm) (d : Nat) (h : ∀ x, (f x).depth ≤ d) (l : List α) : Tm.depths (l.map f) ≤ d := by
  rw [Tm.depths_le]
  intro x hx
  obtain ⟨y, _, rfl⟩ := List.mem_map.1 hx
  exact h y
theorem liT_ok (xs : List Tm) : (liT xs).ok = Tm.oks xs := by unfold liT; rw [Tm.ok_list]; rfl
theorem txT_ok (t : ByteArray) : (txT t).ok = true := by unfold txT; rw [Tm.ok_text]; rfl
theorem liT_depth (xs : List Tm) : (liT xs).depth = Tm.depths xs + 1 := by unfold liT; rw [Tm.depth]; rfl
theorem txT_depth (t : ByteArray) : (txT t).depth = 0 := by unfold txT; rw [Tm.depth]; rfl
theorem nuT_ok (n : Int) : (nuT n).ok = true := txT_ok _
theorem rfT_ok (r : Rf) : (rfT r).ok = true := by simp [rfT, liT_ok, Tm.oks, nuT_ok]
theorem tsT_ok (l : Lb) : (tsT l).ok = true := by rw [tsT, liT_ok]; exact oks_all _ txT_ok _
theorem opT_ok (o : Opp) : (opT o).ok = true := by simp [opT, liT_ok, Tm.oks, nuT_ok, rfT_ok, tsT_ok]
theorem ptT_ok (p : Pt) : (ptT p).ok = true := by
  simp only [ptT, liT_ok, Tm.oks, txT_ok, tsT_ok, oks_all _ opT_ok, Bool.and_self]
theorem nuT_depth (n : Int) : (nuT n).depth = 0 := txT_depth _
theorem rfT_depth (r : Rf) : (rfT r).depth = 1 := by simp [rfT, liT_depth, Tm.depths, nuT_depth]
theorem tsT_depth (l : Lb) : (tsT l).depth ≤ 1 := by
  rw [tsT, liT_depth]
  have := depths_all txT 0 (fun t => by rw [txT_depth]; exact Nat.le_refl _) l
  omega
theorem opT_depth (o : Opp) : (opT o).depth ≤ 2 := by
  have := tsT_depth o.lines
  simp only [opT, liT_depth, Tm.depths, nuT_depth, rfT_depth]
  omega
theorem ptT_depth (p : Pt) : (ptT p).depth ≤ 4 := by
  have h1 := tsT_depth p.deps
  have h2 := depths_all opT 2 opT_depth p.ops
  simp only [ptT, liT_depth, Tm.depths, txT_depth]
  omega

noncomputable def rightP (p : Pt) : Bool := soundB p && decide ((ptT p).bytes.length ≤ 65536)
theorem can_iff (p : Pt) : CanW 0 [] (ptT p) ↔ (ptT p).bytes.length ≤ 65536 := by
  have := ptT_depth p
  unfold CanW
  rw [ptT_ok]
  simp only [List.length_nil, true_and]
  omega
noncomputable def bytesP (p : Pt) : List UInt8 := if rightP p then (ptT p).bytes else []
def wfI (n : Int) : Prop := -9223372036854775808 ≤ n ∧ n ≤ 9223372036854775807
def Rf.wf (r : Rf) : Prop := wfI r.at_ ∧ wfI r.n
def Opp.wf (o : Opp) : Prop := wfI o.kind ∧ o.a.wf ∧ o.b.wf
def Pt.wf (p : Pt) : Prop := ∀ o ∈ p.ops, o.wf

end Go.Proofs.YtojnagonhihknaaGreatDoor
