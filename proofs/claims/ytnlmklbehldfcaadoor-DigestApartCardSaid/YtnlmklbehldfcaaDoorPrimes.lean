/- The contract of the document's primes. -/
import Derived.Test.YtnlmklbehldfcaaDoorRootM
set_option linter.unusedVariables false
namespace Go.Proofs.YtnlmklbehldfcaaDoor
open Go.ChangeShapes Go.WideShapes Go.ChangeAt Go.RowKit

theorem Tryd.infoInt : (Tryd.prog.info? 3).map (fun i => (i.zero, i.size, i.bytes)) = some (some (.int .i64 0), 1, 8) := by kernel_rfl
def ivs (l : List Nat) : List Value := l.map fun (x : Nat) => Value.int .i64 (x : Int)
theorem is_len (l : List Nat) : (ivs l).length = l.length := by simp [ivs]
theorem is_app (l m : List Nat) : ivs (l ++ m) = ivs l ++ ivs m := by simp [ivs]
theorem is_at {l : List Nat} {i x : Nat} (h : l[i]? = some x) : (ivs l)[i]? = some (.int .i64 (x : Int)) := by simp [ivs, h]
theorem all_snoc {α : Type} {l : List α} {k : Nat} {x : α} (f : α → Bool) (h : l[k]? = some x) : (l.take (k + 1)).all f = ((l.take k).all f && f x) := by
  rw [take_snoc h, List.all_append]; simp

set_option maxHeartbeats 2000000 in
set_option maxRecDepth 100000 in
theorem primes_any (n : Nat) (w : World) (hn : n ≤ 64) :
    Calls Tryd.prog 27 #[.int .i64 (n : Int)] w fun e w' => ∃ v, e = .returned v ∧ Arr w.heap.size w' v (ivs (PL.take n)) ∧ Below w.heap.size w w' := by
  go_enter Tryd.func27, Tryd.ntmps27
  go_wp2
  go_loopw [3, 4] (fun v kv wr => ∃ j : Nat, j ≤ 310 ∧ kv = .int .i64 ((j : Int) + 2) ∧ Arr w.heap.size wr v (ivs (pf j)) ∧ (pf j).length ≤ n ∧ Below w.heap.size w wr) (fun _ kv _ => 400 - (intOf kv).toNat)
  case atStart => exact ⟨0, by omega, rfl, Arr.nil _ _, Nat.zero_le _, Below.refl _ _⟩
  case round =>
    obtain ⟨j, hj, rfl, harr, hle, hbel⟩ := hrel
    have hsz := hbel.size
    obtain ⟨a, c, hv⟩ := harr.form
    rw [is_len] at hv
    obtain ⟨N, hN⟩ : ∃ N, N = (pf j).length := ⟨_, rfl⟩
    rw [← hN] at hv hle
    subst hv
    have hN64 : N ≤ 64 := by rw [hN]; exact pf_le j
    have HA := Lib.hid harr
    have HB := Lib.hid hbel
    have HN := Lib.hid hN
    by_cases hlt : N < n
    · have hj2 : j < 310 := pf_more hj (by rw [← hN]; omega)
      have hst := pf_step j hj2
      have HST := Lib.hid hst
      clear harr hbel hN hst
      obtain ⟨w0, rfl⟩ : ∃ w0, w0 = wr := ⟨wr, rfl⟩
      go_wp2
      go_loopw [5, 6] (fun bv iv wr => ∃ i : Nat, i ≤ N ∧ iv = .int .i64 i ∧ bv = .bool (((pf j).take i).all fun p => (j + 2) % p != 0) ∧ wr = w0) (fun _ iv _ => N - (intOf iv).toNat)
      case atStart => exact ⟨0, Nat.zero_le _, rfl, rfl, rfl⟩
      case round =>
        obtain ⟨i, hi, rfl, rfl, rfl⟩ := hrel
        by_cases hil : i < N
        · obtain ⟨p, hp⟩ : ∃ p, (pf j)[i]? = some p := ⟨(pf j)[i]'(by rw [← HN.out]; exact hil), List.getElem?_eq_getElem _⟩
          obtain ⟨p2, p4⟩ := pf_pos (List.mem_of_getElem? hp)
          obtain ⟨b, cap, hs, hb1, hb2, hb3, hb4, hb5, hb6⟩ := HA.out.pos (by intro h; rw [← List.length_eq_zero_iff, is_len, ← HN.out] at h; omega)
          obtain ⟨rfl, rfl⟩ : a = some ⟨b, 0, none⟩ ∧ c = cap := by
            injection hs with e1 e2 e3
            exact ⟨e1, e3⟩
          have hcell := hb6 i _ (is_at hp)
          have hall := all_snoc (fun p => (j + 2) % p != 0) hp
          obtain ⟨B, hB⟩ : ∃ B, B = ((pf j).take i).all fun p => (j + 2) % p != 0 := ⟨_, rfl⟩
          rw [← hB] at hall ⊢
          have h01 : (0 : Int) ≤ i := by omega
          have h02 : (i : Int) < N := by omega
          have hpn : ¬ (p : Int) = 0 := by omega
          have hpp : (0 : Int) < p := by omega
          have HALL := Lib.hid hall
          have HBB := Lib.hid hB
          have HP := Lib.hid hp
          clear hall hB hp hs hb1 hb2 hb3 hb4 hb5 hb6 hi
          have hc : ((j : Int) + 2) % (p : Int) = (((j + 2) % p : Nat) : Int) := by rw [Int.natCast_emod]; rfl
          by_cases hm : (j + 2) % p = 0
          · have t2 : ((j : Int) + 2) % (p : Int) = 0 := by rw [hc, hm]; rfl
            have t1 : (((j : Int) + 2) % (p : Int) == 0) = true := by rw [t2]; rfl
            clear hc
            have HM := Lib.hid hm
            clear hm
            go_wp2
            refine ⟨⟨i + 1, hil, by go_num, ?_, trivial⟩, by simp [intOf]; omega⟩
            rw [HALL.out, HM.out]; simp
          · have t2 : ¬ ((j : Int) + 2) % (p : Int) = 0 := by rw [hc]; omega
            have t1 : (((j : Int) + 2) % (p : Int) == 0) = false := by rw [beq_eq_false_iff_ne]; exact t2
            clear hc
            have HM := Lib.hid hm
            clear hm
            go_wp2
            refine ⟨⟨i + 1, hil, by go_num, ?_, trivial⟩, by simp [intOf]; omega⟩
            have : ((j + 2) % p != 0) = true := by simpa using HM.out
            rw [HALL.out, this, Bool.and_true]
        · have hie : i = N := by omega
          have hfull : (pf j).take i = pf j := by rw [hie, HN.out, List.take_length]
          rw [hfull]
          have hst2 := HST.out
          cases hB : (pf j).all (fun p => (j + 2) % p != 0) with
          | true =>
            rw [hB, if_pos rfl] at hst2
            have HS2 := Lib.hid hst2
            clear hst2 hB hfull hie hi
            go_wp2_with (at_builtin; refine wpList_append_arr rfl _ _ 52 rfl 3 (.int .i64 0) 8 Tryd.underlying52 Tryd.infoInt rfl w.heap.size (.slice a N c) _ [.int .i64 ((j : Int) + 2)] rfl (HA.out.alloc _) _ _ _ rfl rfl news_new one1 (Nat.zero_lt_succ _) (by rw [sizeAl]; omega) (by rw [is_len, ← HN.out]; show _ + 1 ≤ _; omega) (by decide) ?_; rintro v4 w4 harr4 hb4)
            refine ⟨⟨j + 1, by omega, by go_num, ?_, ?_, (HB.out.alloc hsz _).trans hb4⟩, by simp [intOf]; omega⟩
            · rw [HS2.out, is_app]; exact harr4
            · rw [HS2.out, List.length_append, ← HN.out]; exact hlt
          | false =>
            rw [hB, if_neg (by decide)] at hst2
            have HS2 := Lib.hid hst2
            clear hst2 hB hfull hie hi
            go_wp2
            refine ⟨⟨j + 1, by omega, by go_num, ?_, ?_, HB.out⟩, by simp [intOf]; omega⟩
            · rw [HS2.out]; exact HA.out
            · rw [HS2.out, ← HN.out]; exact hle
    · have hne : N = n := by omega
      have hpt := pf_take j (by omega)
      rw [← hN, hne] at hpt
      have HPT := Lib.hid hpt
      clear harr hbel hN hpt
      go_wp2
      go_ret
      refine ⟨_, rfl, ?_, HB.out⟩
      rw [← HPT.out]; exact HA.out
end Go.Proofs.YtnlmklbehldfcaaDoor
