/- The contract of the writer's form. The contract of the program's Write. The contract of List; values that read as forms. -/
import Derived.Deep.RegionHeld3
import Derived.Deep.DrawnRows
import Derived.Lib.ItoaLen
import Derived.Test.YtojnagonhihknaaGreatDoorV10
import Derived.Test.YtojnagonhihknaaGreatDoorV11
import Derived.Test.YtojnagonhihknaaGreatDoorV5
set_option linter.unusedVariables false
namespace Go.Proofs.YtojnagonhihknaaGreatDoor
open Go.ChangeShapes Go.WideShapes Go.ChangeAt Go.RowKit
open Go.Lib (decDigits itoa)

theorem canW_list {d : Nat} {out : List UInt8} {t : ByteArray} {xs : List Tm} : CanW d out (.mk true t xs) ↔ t.size = 0 ∧ Tm.oks xs = true ∧ d + (Tm.depths xs + 1) ≤ 8 ∧ out.length + ((Tm.bytess xs).length + 2) ≤ 65536 := by
  unfold CanW
  rw [Tm.ok_list, Tm.depth_list, Tm.bytes_list]
  simp only [Bool.and_eq_true, decide_eq_true_eq, List.length_cons, List.length_append, List.length_nil, Nat.zero_add, and_assoc, Nat.add_assoc, Nat.reduceAdd]

def Done (d : Nat) (out : List UInt8) (xs : List Tm) (k : Nat) (outk : List UInt8) : Prop :=
  outk = out ++ 40 :: Tm.bytess (xs.take k) ∧ Tm.oks (xs.take k) = true ∧ d + (Tm.depths (xs.take k) + 1) ≤ 8

theorem Done.next {d k : Nat} {out outk : List UInt8} {xs : List Tm} {x : Tm} (h : Done d out xs k outk) (hx : xs[k]? = some x) (hc : CanW (d + 1) outk x) : Done d out xs (k + 1) (outk ++ x.bytes) := by
  obtain ⟨h1, h2, h3⟩ := h
  obtain ⟨c1, c2, c3⟩ := hc
  refine ⟨?_, ?_, ?_⟩
  · rw [h1, take_snoc hx, Tm.bytess_app]; simp [Tm.bytess]
  · rw [take_snoc hx, Tm.oks_app, h2]; simp [Tm.oks, c1]
  · rw [take_snoc hx, Tm.depths_app]
    have : Tm.depths [x] = x.depth := by simp [Tm.depths]
    omega
theorem Done.need {d k : Nat} {out outk : List UInt8} {t : ByteArray} {xs : List Tm} {x : Tm} (h : Done d out xs k outk) (hx : xs[k]? = some x) (hc : CanW d out (.mk true t xs)) : CanW (d + 1) outk x := by
  obtain ⟨c1, c2, c3, c4⟩ := canW_list.1 hc
  have hm := List.mem_of_getElem? hx
  refine ⟨Tm.oks_iff.1 c2 x hm, ?_, ?_⟩
  · have := Tm.depths_le.1 (Nat.le_refl (Tm.depths xs)) x hm
    omega
  · have := Tm.bytess_get xs k x hx
    rw [h.1, List.length_append, List.length_cons]
    omega

set_option maxHeartbeats 2000000 in
set_option maxRecDepth 100000 in
theorem wform_any (T : Tm) : ∀ l t xs, T = .mk l t xs → ∀ (Z : Nat → Prop) (w : World) (a : Option Addr) (c bw : Nat) (v : Value) (out : List UInt8) (d : Nat), SlL Z w (.slice a xs.length c) xs → t.size ≤ 140737488355328 → (∀ i, Z i → i < bw) → Wr bw w v out → HasTab w → 2 < bw → d ≤ 8 →
    Calls Tryz.prog 135 #[.pointer (some ⟨bw, 0, none⟩), fv l t (.slice a xs.length c), .int .i64 (d : Nat)] w (FormP T bw v out d w) := by
  induction T using Tm.ind with
  | h l t xs ih =>
    rintro _ _ _ ⟨⟩ Z w a c bw v out d hsl hts hz hw htab htg hd
    have hlm : xs.length ≤ maxLen := by obtain ⟨_, _, _, h1, h2⟩ := hsl.form; omega
    cases l with
    | false => exact wform_text t xs w a c bw v out d hlm hts hw htab htg hd
    | true =>
      have hlt := cell_lt hw.cell
      have hown := fun g hg => (hw.row.lt g hg).2
      obtain ⟨n, hn⟩ : ∃ n, n = xs.length := ⟨_, rfl⟩
      rw [← hn] at hsl hlm ⊢
      have c1 := fun wz => fright_any true t a n c wz hlm
      have hW0 : ∀ o, WOff bw w v (w.alloc o) v := fun o => (WOff.refl _ _ _).alloc o
      have HW := Lib.hid hw
      have HT := Lib.hid htab
      have HO := Lib.hid hown
      have HN := Lib.hid hn
      have HS := Lib.hid hsl
      have IH := Lib.hid ih
      have HZ := Lib.hid hz
      have hnm : n ≤ 9223372036854775807 := by unfold maxLen at hlm; exact hlm
      clear hw htab hown hn hsl ih hz hlm
      by_cases ht : t.size = 0
      · have hr : rightB true t n = true := by simp [rightB, ht]
        rw [hr] at c1
        have C1 := Lib.hid c1
        have HTZ := Lib.hid ht
        clear c1 hr hts ht
        by_cases hd8 : d = 8
        · have HD8 := Lib.hid hd8
          subst hd8
          clear HD8
          have hnc : ¬ CanW 8 out (.mk true t xs) := fun h => by have := (canW_list.1 h).2.2.1; omega
          have HNC := Lib.hid hnc
          clear hnc
          go_enter Tryz.func135, Tryz.ntmps135
          go_wp2_with fail
          refine (C1.out _).mono ?_
          rintro e w1 ⟨rfl, hb1⟩
          have hW1 : WOff bw (w.alloc (.cells #[.bool true, .string t, .slice a n c] 122)) v w1 v := WOff.of_below hb1
          have hw1 : Wr bw w1 v out := (HW.out.below ((Below.refl _ _).alloc (Nat.le_refl _) _)).below hb1
          obtain ⟨k1, k2, k3⟩ := box3o hW1 hlt HO.out
          have HW1 := Lib.hid hW1
          have HWR1 := Lib.hid hw1
          clear hb1 hW1 hw1
          go_wp2_with fail
          go_ret
          exact ⟨false, v, out, rfl, HWR1.out, (hW0 _).trans HW1.out, (fun h => by cases h), fun _ => HNC.out⟩
        · have hd7 : ((d : Int) == 8) = false := by rw [beq_eq_false_iff_ne]; omega
          obtain ⟨r1, hr1⟩ : ∃ r, r = decide (out.length + (⟨#[40]⟩ : ByteArray).size ≤ 65536) := ⟨_, rfl⟩
          have HR1 := Lib.hid hr1
          have HD8 := Lib.hid hd8
          clear hr1 hd8
          go_enter Tryz.func135, Tryz.ntmps135
          go_wp2_with fail
          refine (C1.out _).mono ?_
          rintro e w1 ⟨rfl, hb1⟩
          have hW1 : WOff bw (w.alloc (.cells #[.bool true, .string t, .slice a n c] 122)) v w1 v := WOff.of_below hb1
          have hw1 : Wr bw w1 v out := (HW.out.below ((Below.refl _ _).alloc (Nat.le_refl _) _)).below hb1
          obtain ⟨k1, k2, k3⟩ := box3o hW1 hlt HO.out
          have HW1 := Lib.hid hW1
          have HWR1 := Lib.hid hw1
          clear hb1 hW1 hw1
          go_wp2_with fail
          refine (put_any ⟨#[40]⟩ bw v out w1 HWR1.out (by decide) r1 HR1.out).mono ?_
          rintro e w2 ⟨rfl, v2, out2, hw2, ho2, hq2⟩
          have HW2 := Lib.hid (HW1.out.trans ho2)
          have HWR2 := Lib.hid hw2
          have HQ2 := Lib.hid hq2
          clear hw2 ho2 hq2 k1 k2 k3
          obtain ⟨k1, k2, k3⟩ := box3o HW2.out hlt HO.out
          cases r1 with
          | false =>
            go_wp2_with fail
            go_ret
            refine ⟨false, v2, out2, rfl, HWR2.out, (hW0 _).trans HW2.out, (fun h => by cases h), fun _ h => ?_⟩
            have h1 := (canW_list.1 h).2.2.2
            have h2 := HR1.out
            rw [eq_comm, decide_eq_false_iff_not] at h2
            apply h2
            show out.length + 1 ≤ 65536
            omega
          | true =>
            have hdn : Done d out xs 0 out2 := by
              refine ⟨by rw [HQ2.out]; simp [Tm.bytess], rfl, ?_⟩
              have := HD8.out
              simp [Tm.depths]; omega
            have HDN := Lib.hid hdn
            have HO2 := Lib.hid ((hW0 _).trans HW2.out)
            clear hdn
            go_wp2_with fail
            clear k1 k2 k3
            go_loopw [41] (fun i wr => ∃ (k : Nat) (vk : Value) (outk : List UInt8), k ≤ n ∧ i = .int .i64 k ∧ Wr bw wr vk outk ∧ WOff bw w v wr vk ∧ Done d out xs k outk) (fun i _ => n - (intOf i).toNat)
            case atStart => exact ⟨0, v2, out2, Nat.zero_le _, rfl, HWR2.out, HO2.out, HDN.out⟩
            case round =>
              obtain ⟨k, vk, outk, hk, rfl, hwk, hok, hdk⟩ := hrel
              have HWK := Lib.hid hwk
              have HOK := Lib.hid hok
              have HDK := Lib.hid hdk
              clear hwk hok hdk
              by_cases hlk : k < n
              · obtain ⟨x, hx⟩ : ∃ x, xs[k]? = some x := ⟨xs[k]'(by rw [← HN.out]; exact hlk), by simp⟩
                obtain ⟨l1, t1, ys1⟩ := x
                obtain ⟨b, o, c', hv, h1, h2, h3, h4, h5⟩ := HS.out.pos (by rintro rfl; simp at hx)
                injection hv with ea en ec
                subst ea
                obtain ⟨a1, c1, q1, q2, q3, q4, q5⟩ := h5 k l1 t1 ys1 hx
                have hzo : ∀ i, Z i → ¬ (i = bw ∨ v.ownBlock = some i) := fun i hi h => by
                  have h0 := HZ.out i hi
                  rcases h with h | h
                  · omega
                  · have := (HW.out.row.lt i h).1
                    omega
                have d1 : wr.cell? ⟨b, o + k * 3, none⟩ = some (.bool l1) := (HOK.out.off.cell (p := ⟨b, o + k * 3, none⟩) h4 (hzo b h3)).trans q1
                have d2 : wr.cell? ⟨b, o + k * 3 + 1, none⟩ = some (.string t1) := (HOK.out.off.cell (p := ⟨b, o + k * 3 + 1, none⟩) h4 (hzo b h3)).trans q2
                have d3 : wr.cell? ⟨b, o + k * 3 + 2, none⟩ = some (.slice a1 ys1.length c1) := (HOK.out.off.cell (p := ⟨b, o + k * 3 + 2, none⟩) h4 (hzo b h3)).trans q3
                have htw : HasTab wr := HT.out.keep (HOK.out.off.block _ HT.out.lt (fun h => by
                  rcases h with h | h
                  · omega
                  · have := (HW.out.row.lt _ h).1
                    omega))
                have hc : ∀ wz, Below wr.heap.size wr wz → Calls Tryz.prog 135 #[.pointer (some ⟨bw, 0, none⟩), fv l1 t1 (.slice a1 ys1.length c1), .int .i64 (d + 1 : Nat)] wz (FormP (.mk l1 t1 ys1) bw vk outk (d + 1) wz) := fun wz hz =>
                  IH.out _ (List.mem_of_getElem? hx) l1 t1 ys1 rfl Z wz a1 c1 bw vk outk (d + 1) ((q5.off HOK.out.off hzo).keep hz) q4 HZ.out (HWK.out.below hz) (htw.below hz) htg (by have := HD8.out; omega)
                obtain ⟨m1, hm1⟩ : ∃ m, m = ys1.length := ⟨_, rfl⟩
                rw [← hm1] at hc d3
                have HC := Lib.hid hc
                have HX := Lib.hid hx
                have h01 : (0 : Int) ≤ k := by omega
                have h02 : (k : Int) < n := by omega
                clear hc hx hm1 q1 q2 q3 q4 q5 h1 h2 h3 h4 h5 en ec hzo htw
                go_wp2_with fail
                refine (HC.out _ ((Below.refl _ _).alloc (Nat.le_refl _) _)).mono ?_
                rintro e w3 ⟨r, v3, out3, rfl, hw3, ho3, hy3, hn3⟩
                have HW3 := Lib.hid hw3
                have HO3 := Lib.hid ((HOK.out.alloc _).trans ho3)
                have HY3 := Lib.hid hy3
                have HN3 := Lib.hid hn3
                clear hw3 ho3 hy3 hn3
                cases r with
                | true =>
                  go_wp2_with fail
                  obtain ⟨i1, i2⟩ := HY3.out (by trivial)
                  refine ⟨⟨k + 1, v3, out3, hlk, by go_num, HW3.out, HO3.out, ?_⟩, by simp [intOf]; omega⟩
                  rw [i2]
                  exact HDK.out.next HX.out i1
                | false =>
                  go_wp2_with fail
                  go_ret
                  exact ⟨false, v3, out3, rfl, HW3.out, HO3.out, (fun h => by cases h), fun _ h => HN3.out (by trivial) (HDK.out.need HX.out h)⟩
              · have hke : k = n := by omega
                obtain ⟨r2, hr2⟩ : ∃ r, r = decide (outk.length + (⟨#[41]⟩ : ByteArray).size ≤ 65536) := ⟨_, rfl⟩
                have HR2 := Lib.hid hr2
                have HKE := Lib.hid hke
                have hge : ¬ (k : Int) < n := by omega
                clear hr2 hke
                go_wp2_with fail
                refine (put_any ⟨#[41]⟩ bw vk outk wr HWK.out (by decide) r2 HR2.out).mono ?_
                rintro e w3 ⟨rfl, v3, out3, hw3, ho3, hq3⟩
                have HW3 := Lib.hid hw3
                have HO3 := Lib.hid (HOK.out.trans ho3)
                have HQ3 := Lib.hid hq3
                clear hw3 ho3 hq3
                go_wp2_with fail
                go_ret
                obtain ⟨g1, g2, g3⟩ := HDK.out
                rw [List.take_of_length_le (by rw [← HN.out]; exact Nat.le_of_eq HKE.out.symm)] at g1 g2 g3
                have hcan : CanW d out (.mk true t xs) ↔ outk.length + 1 ≤ 65536 := by
                  rw [canW_list, g1, List.length_append, List.length_cons]
                  constructor
                  · rintro ⟨_, _, _, h⟩; omega
                  · intro h; exact ⟨HTZ.out, g2, g3, by omega⟩
                cases r2 with
                | true =>
                  refine ⟨true, v3, out3, rfl, HW3.out, HO3.out, (fun _ => ⟨hcan.2 ?_, ?_⟩), fun h => by cases h⟩
                  · have h2 := HR2.out
                    rw [eq_comm, decide_eq_true_iff] at h2
                    exact h2
                  · rw [HQ3.out, Tm.bytes_list, g1]; simp
                | false =>
                  refine ⟨false, v3, out3, rfl, HW3.out, HO3.out, (fun h => by cases h), fun _ h => ?_⟩
                  have h2 := HR2.out
                  rw [eq_comm, decide_eq_false_iff_not] at h2
                  exact h2 (hcan.1 h)
      · have hr : rightB true t n = false := by simp [rightB, ht]
        rw [hr] at c1
        have C1 := Lib.hid c1
        have hnc : ¬ CanW d out (.mk true t xs) := fun h => ht (canW_list.1 h).1
        have HNC := Lib.hid hnc
        clear c1 hr hnc hts ht
        go_enter Tryz.func135, Tryz.ntmps135
        go_wp2_with fail
        refine (C1.out _).mono ?_
        rintro e w1 ⟨rfl, hb1⟩
        have hW1 : WOff bw (w.alloc (.cells #[.bool true, .string t, .slice a n c] 122)) v w1 v := WOff.of_below hb1
        have hw1 : Wr bw w1 v out := (HW.out.below ((Below.refl _ _).alloc (Nat.le_refl _) _)).below hb1
        have HW1 := Lib.hid hW1
        have HWR1 := Lib.hid hw1
        clear hb1 hW1 hw1
        go_wp2_with fail
        go_ret
        exact ⟨false, v, out, rfl, HWR1.out, (hW0 _).trans HW1.out, (fun h => by cases h), fun _ => HNC.out⟩
end Go.Proofs.YtojnagonhihknaaGreatDoor
set_option linter.unusedVariables false
namespace Go.Proofs.YtojnagonhihknaaGreatDoor
open Go.ChangeShapes Go.WideShapes Go.ChangeAt Go.RowKit

theorem row_string {B n : Nat} {P : Program} {w : World} {v : Value} {l : List UInt8} (h : Row 1 B w v n (bcs l)) (src dst e : TypeId) (hs : P.underlying src = some (.slice e)) (he : P.underlying e = some (.int .u8)) (hd : P.underlying dst = some .string) :
    (convert src dst v).run P w = .ok (.string (tx l)) w := by
  obtain ⟨h0, ⟨rfl, rfl⟩ | ⟨b, cap, rfl, h2, h3, h4, h5, h6, h7⟩⟩ := h
  · have : l = [] := by
      have := h0
      rw [bcs_len] at this
      exact List.length_eq_zero_iff.1 (by omega)
    subst this
    rw [run_convert_bytes_string w src dst e none 0 0 hs he hd]
    rfl
  · have hn : n = l.length := by rw [bcs_len] at h0; omega
    subst hn
    refine run_convert_bytes_back w src dst e ⟨b, 0, none⟩ cap l hs he hd (fun j hj => ?_)
    have e2 : (⟨b, 0, none⟩ : Addr).add j = ⟨b, j, none⟩ := by unfold Addr.add; split <;> simp_all
    rw [e2]
    refine h7 j _ ?_
    rw [bcs, List.getElem?_map, List.getElem?_eq_getElem hj]
    rfl

abbrev errW (k : Int) : Value := .iface 67 (.int .i64 k)

def SoundP (P : Bool → Prop) (w : World) (e : Ending) (w' : World) : Prop := ∃ r : Bool, e = .returned (.bool r) ∧ P r ∧ Below w.heap.size w w'

def WriteP (T : Tm) (P : Bool → Prop) (w : World) (e : Ending) (w' : World) : Prop :=
  Below w.heap.size w w' ∧ ((CanW 0 [] T ∧ e = .returned (.tuple #[.string (tx T.bytes), .nilIface])) ∨ (¬ CanW 0 [] T ∧ ∃ r : Bool, P r ∧ e = .returned (.tuple #[.string ⟨#[]⟩, errW (if r then 2 else 1)])))

set_option maxHeartbeats 2000000 in
set_option maxRecDepth 100000 in
theorem write_any (l : Bool) (t : ByteArray) (ys : List Tm) (Z : Nat → Prop) (P : Bool → Prop) (w : World) (a : Option Addr) (c : Nat) (hsl : SlL Z w (.slice a ys.length c) ys) (hts : t.size ≤ 140737488355328) (hz : ∀ i, Z i → i < w.heap.size) (htab : HasTab w)
    (hsound : ¬ CanW 0 [] (.mk l t ys) → ∀ wz, Below w.heap.size w wz → Calls Tryz.prog 136 #[fv l t (.slice a ys.length c)] wz (SoundP P wz)) :
    Calls Tryz.prog 112 #[fv l t (.slice a ys.length c)] w (WriteP (.mk l t ys) P w) := by
  obtain ⟨n, hn⟩ : ∃ n, n = ys.length := ⟨_, rfl⟩
  have hlt := htab.lt
  have hc : Calls Tryz.prog 135 #[.pointer (some ⟨w.heap.size + 1, 0, none⟩), fv l t (.slice a n c), .int .i64 0] ((w.alloc (.cells #[.bool l, .string t, .slice a n c] 122)).alloc (.cells #[.slice none 0 0] 224)) (FormP (.mk l t ys) (w.heap.size + 1) (.slice none 0 0) [] 0 ((w.alloc (.cells #[.bool l, .string t, .slice a n c] 122)).alloc (.cells #[.slice none 0 0] 224))) := by
    have hb : ∀ o1 o2, Below w.heap.size w ((w.alloc o1).alloc o2) := fun o1 o2 => ((Below.refl _ _).alloc (Nat.le_refl _) _).alloc (by simp) _
    rw [hn]
    refine wform_any _ l t ys rfl Z _ a c (w.heap.size + 1) (.slice none 0 0) [] 0 (hsl.keep (hb _ _)) hts (fun i hi => by have := hz i hi; omega) ⟨Row.nil _ _ _, ?_, ?_, by simp⟩ (htab.below (hb _ _)) (by omega) (by omega)
    · exact (World.cell?_alloc_at _ _ _ _ (by simp)).trans rfl
    · exact World.frozen?_alloc_at _ _ _ _ (by simp)
  rw [← hn] at hsound ⊢
  have HC := Lib.hid hc
  have HS := Lib.hid hsound
  clear hc hsound hsl htab hn hz
  go_enter Tryz.func112, Tryz.ntmps112
  go_wp2_with fail
  refine HC.out.mono ?_
  rintro e w1 ⟨r, v', out', rfl, hw, ho, hy, hn⟩
  have hoff : Off (· = w.heap.size + 1) ((w.alloc (.cells #[.bool l, .string t, .slice a n c] 122)).alloc (.cells #[.slice none 0 0] 224)) w1 := ho.off.mono fun i h => by
    rcases h with h | h
    · exact h
    · cases h
  have hlt2 : w.heap.size < ((w.alloc (.cells #[.bool l, .string t, .slice a n c] 122)).alloc (.cells #[.slice none 0 0] 224)).heap.size := by simp; omega
  have hbx : ((w.alloc (.cells #[.bool l, .string t, .slice a n c] 122)).alloc (.cells #[.slice none 0 0] 224)).heap[w.heap.size]? = (w.alloc (.cells #[.bool l, .string t, .slice a n c] 122)).heap[w.heap.size]? := Below.heap_alloc _ _ _ (by simp)
  have hcell : ∀ j, w1.cell? ⟨w.heap.size, j, none⟩ = #[.bool l, .string t, .slice a n c][j]? := fun j => (hoff.cell (p := ⟨w.heap.size, j, none⟩) hlt2 (by show ¬ w.heap.size = _; omega)).trans ((World.cell?_of_block (a := ⟨w.heap.size, j, none⟩) hbx).trans (World.cell?_alloc_at _ _ _ _ rfl))
  have k1 : w1.cell? ⟨w.heap.size, 0, none⟩ = some (.bool l) := hcell 0
  have k2 : w1.cell? ⟨w.heap.size, 1, none⟩ = some (.string t) := hcell 1
  have k3 : w1.cell? ⟨w.heap.size, 2, none⟩ = some (.slice a n c) := hcell 2
  have hb : Below w.heap.size w w1 := (((Below.refl _ _).alloc (Nat.le_refl _) _).alloc (by simp) _).trans (hoff.below (fun i hi => by omega) (by simp; omega))
  have hst := row_string hw.row 144 9 5 Tryz.underlying144 Tryz.underlying5 Tryz.underlying9
  have k4 := hw.cell
  have HB := Lib.hid hb
  have HY := Lib.hid hy
  have HN := Lib.hid hn
  clear hw ho hoff hlt2 hbx hcell hb hy hn
  cases r with
  | true =>
    obtain ⟨h1, h2⟩ := HY.out rfl
    have hw2 : out' = (Tm.mk l t ys).bytes := by rw [h2]; rfl
    rw [hw2] at hst
    obtain ⟨X, hX⟩ : ∃ X, X = (Tm.mk l t ys).bytes := ⟨_, rfl⟩
    rw [← hX] at hst
    have HX := Lib.hid hX
    have H1 := Lib.hid h1
    clear h1 h2 hw2 hX HY HN
    go_wp2_with fail
    go_ret2
    exact ⟨HB.out, .inl ⟨H1.out, by rw [← HX.out]; rfl⟩⟩
  | false =>
    have hno := HN.out rfl
    have HNO := Lib.hid hno
    clear hno HY HN hst k4
    go_wp2_with fail
    refine (HS.out HNO.out _ HB.out).mono ?_
    rintro e w2 ⟨q, rfl, hq, hb2⟩
    have HQ := Lib.hid hq
    have HB2 := Lib.hid (HB.out.trans (hb2.mono HB.out.size))
    clear hq hb2
    cases q with
    | true =>
      go_wp2_with fail
      go_ret2
      exact ⟨HB2.out, .inr ⟨HNO.out, true, HQ.out, rfl⟩⟩
    | false =>
      go_wp2_with fail
      go_ret2
      exact ⟨HB2.out, .inr ⟨HNO.out, false, HQ.out, rfl⟩⟩
end Go.Proofs.YtojnagonhihknaaGreatDoor
set_option linter.unusedVariables false
namespace Go.Proofs.YtojnagonhihknaaGreatDoor
open Go.ChangeShapes Go.WideShapes Go.ChangeAt Go.RowKit
open Go.Lib (itoa)

attribute [local go_sem ↓] Go.wp_at_zero Go.wp_at_succ

def ListZ (Z : Nat → Prop) (xs : List Tm) (w : World) (e : Ending) (w' : World) : Prop :=
  ∃ a n c, e = .returned (fv true noText (.slice a n c)) ∧ n = xs.length ∧ Below w.heap.size w w' ∧ SlU Z w' (.slice a n c) xs

set_option maxHeartbeats 1000000 in
set_option maxRecDepth 100000 in
theorem list_any (Z : Nat → Prop) (lv : Value) (xs : List Tm) (w : World) (hsl : SlU Z w lv xs) (hzn : ∀ i, w.heap.size ≤ i → Z i) (hn : xs.length ≤ 65536) :
    Calls Tryz.prog 137 #[lv] w (ListZ Z xs w) := by
  obtain ⟨a0, c0, rfl, _, _⟩ := hsl.form
  obtain ⟨n, hnn⟩ : ∃ n, n = xs.length := ⟨_, rfl⟩
  obtain ⟨W, hW⟩ : ∃ W, W = (w.alloc (.cells #[.bool false, .string ⟨#[]⟩, .slice none 0 0] 122)).alloc (.cells #[.int .i64 65536] 3) := ⟨_, rfl⟩
  have eW : W.heap.size = w.heap.size + 2 := by rw [hW]; simp
  have hc1 : W.cell? ⟨w.heap.size + 1, 0, none⟩ = some (.int .i64 ((65536 : Nat) : Int)) := by rw [hW]; exact (World.cell?_alloc_at _ _ _ _ (by simp)).trans rfl
  have hf1 : W.frozen? ⟨w.heap.size + 1, 0, none⟩ = false := by rw [hW]; exact World.frozen?_alloc_at _ _ _ _ (by simp)
  have hs1 : SlU (fun i => Z i ∧ i ≠ w.heap.size ∧ i ≠ w.heap.size + 1) W (.slice a0 xs.length c0) xs := by
    rw [hW]
    exact ((hsl.mono (Z' := fun i => Z i ∧ i ≠ w.heap.size ∧ i ≠ w.heap.size + 1) (fun i hi hz => ⟨hz, by omega, by omega⟩)).alloc _).alloc _
  have hown := own_any 7 1 (by omega)
  unfold OwnC at hown
  have hc := hown (fun i => Z i ∧ i ≠ w.heap.size ∧ i ≠ w.heap.size + 1) (w.heap.size + 1) W a0 c0 xs 65536 hs1 (fun i hi => by
    rw [eW] at hi
    exact ⟨hzn i (by omega), by omega, by omega⟩) (fun h => h.2.2 rfl) hc1 hf1 hn (Nat.le_refl _)
  clear hown hc1 hf1 hs1 eW
  rw [hW, ← hnn] at hc
  clear hW
  rw [← hnn] at hsl hn ⊢
  have HC := Lib.hid hc
  have HN := Lib.hid hnn
  clear hc hsl hnn
  go_enter Tryz.func137, Tryz.ntmps137
  go_wp2_with fail
  refine HC.out.mono ?_
  rintro e w3 h3
  unfold OwnZ at h3
  obtain ⟨v, es', rfl, hmap, hmd, hoff, hlx, hfx⟩ := h3
  clear hlx hfx
  obtain ⟨⟨z1, z2, z3⟩, zf, zl, zb⟩ := two_off hoff
  have zf0 := zf 0
  have zf1 := zf 1
  have zf2 := zf 2
  have zl2 : w.heap.size < w3.heap.size := by omega
  have hsl := hmd.sl
  rw [hmap] at hsl
  obtain ⟨a, c, hv, hle, hcm⟩ := hsl.form
  rw [← HN.out] at hv
  subst hv
  have HZB := Lib.hid zb
  have HSL := Lib.hid hsl
  clear hmap hmd hoff zf zb hsl hle hcm
  go_wp2_with fail
  refine bodyPost_ret (v := fv true noText (.slice a n c)) (by simp [results, Tryz.results137, go_sem, z1, z2, z3]) rfl ⟨a, n, c, rfl, HN.out, set3_below HZB.out _ _ _, ?_⟩
  have hfo : Off (fun i => i = w.heap.size) w3 (((w3.setCell ⟨w.heap.size, 0, none⟩ (.bool true)).setCell ⟨w.heap.size, 1, none⟩ (.string ⟨#[]⟩)).setCell ⟨w.heap.size, 2, none⟩ (.slice a n c)) :=
    (((Off.refl (fun i => i = w.heap.size) w3).setCell (p := ⟨w.heap.size, 0, none⟩) (.inr rfl) _).setCell (p := ⟨w.heap.size, 1, none⟩) (.inr rfl) _).setCell (p := ⟨w.heap.size, 2, none⟩) (.inr rfl) _
  exact (HSL.out.off hfo fun i hi e => hi.2.1 e).mono fun i _ hi => hi.1

def IsV (Z : Nat → Prop) (w : World) (v : Value) (T : Tm) : Prop := ∃ l t ys a n c, v = fv l t (.slice a n c) ∧ n = ys.length ∧ T = .mk l t ys ∧ t.size ≤ 140737488355328 ∧ SlU Z w (.slice a n c) ys
theorem IsV.keep {Z : Nat → Prop} {w w' : World} {v : Value} {T : Tm} (h : IsV Z w v T) (hb : Below w.heap.size w w') : IsV Z w' v T := by
  obtain ⟨l, t, ys, a, n, c, h1, h2, h3, h4, h5⟩ := h
  exact ⟨l, t, ys, a, n, c, h1, h2, h3, h4, h5.keep hb⟩
theorem lit_sl {es : List FE} (Z : Nat → Prop) (w : World) (c : Nat) (hz : Z w.heap.size) (hc : c = es.length) (hm : es.length ≤ 1000) (hs : ∀ p ∈ es, p.2.1.size ≤ 140737488355328 ∧ SlU Z w p.2.2.2 p.2.2.1) (t : TypeId) :
    SlU Z (w.alloc (.cells (fcells es).toArray t)) (.slice (some ⟨w.heap.size, 0, none⟩) c c) (es.map FE.tm) := by
  subst hc
  by_cases e : es = []
  · subst e; exact .nil _ _ (Nat.zero_le _)
  · have hcell : ∀ j, (w.alloc (.cells (fcells es).toArray t)).cell? ⟨w.heap.size, j, none⟩ = (fcells es)[j]? := fun j => by
      rw [World.cell?_alloc_at _ _ _ _ rfl]; simp
    have := SlU.of_row (Z := Z) (w := w.alloc (.cells (fcells es).toArray t)) (b := w.heap.size) (o := 0) (c := es.length) (xs := es.map FE.tm) ⟨⟨hz, World.frozen?_alloc_at _ _ _ _ rfl⟩, by simp, fun j l t' ys hj => by
      rw [List.getElem?_map] at hj
      obtain ⟨p, hp, hpe⟩ := Option.map_eq_some_iff.1 hj
      obtain ⟨l', t'', ys', s'⟩ := p
      injection hpe with e1 e2 e3
      dsimp only at e1 e2 e3
      subst e1; subst e2; subst e3
      obtain ⟨c1, c2, c3⟩ := fcells_at hp
      obtain ⟨g1, g2⟩ := hs _ (List.mem_of_getElem? hp)
      have g3 := g2.alloc (.cells (fcells es).toArray t)
      obtain ⟨a', c', es', _, _⟩ := g3.form
      dsimp only at es'
      rw [Nat.zero_add, hcell, hcell, hcell]
      refine ⟨a', c', c1, c2, ?_, g1, ?_⟩
      · rw [← es']; exact c3
      · rw [← es']; exact g3⟩ (by simpa using e) (by rw [List.length_map]; exact Nat.le_refl _) (by unfold maxLen; omega)
    rw [List.length_map] at this
    exact this
end Go.Proofs.YtojnagonhihknaaGreatDoor
