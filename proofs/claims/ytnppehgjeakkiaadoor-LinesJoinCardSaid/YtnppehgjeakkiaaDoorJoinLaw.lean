/- The statement of Join: whichever list of texts: the law's function answers true. -/
import Derived.Test.YtnppehgjeakkiaaDoorRefJoin
import Derived.Test.YtnppehgjeakkiaaDoorMarkers
set_option linter.unusedVariables false
namespace Go.Proofs.YtnppehgjeakkiaaDoor
open Go.ChangeShapes Go.WideShapes Go.ChangeAt Go.RowKit

def cln (l : List UInt8) : Bool := l.all (· != 10)
/-- The lengths of the first k, added. -/
def tot (xs : List ByteArray) (k : Nat) : Nat := ((xs.take k).map ByteArray.size).sum
theorem tot_succ {xs : List ByteArray} {k : Nat} {x : ByteArray} (h : xs[k]? = some x) : tot xs (k + 1) = tot xs k + x.size := by
  unfold tot
  rw [List.take_add_one, h]
  simp
theorem tot_le {xs : List ByteArray} (h : ∀ x ∈ xs, x.size ≤ 140737488355328) (k : Nat) : tot xs k ≤ k * 140737488355328 := by
  induction k with
  | zero => simp [tot]
  | succ k ih =>
    cases e : xs[k]? with
    | none =>
      have : tot xs (k + 1) = tot xs k := by unfold tot; rw [List.take_add_one, e]; simp
      omega
    | some x =>
      have := h x (List.mem_of_getElem? e)
      rw [tot_succ e]
      omega
theorem tot_all (xs : List ByteArray) : tot xs xs.length = (xs.map ByteArray.size).sum := by unfold tot; rw [List.take_length]
theorem size_le_tot {xs : List ByteArray} {x : ByteArray} (h : x ∈ xs) : x.size ≤ tot xs xs.length := by
  rw [tot_all]
  induction xs with
  | nil => cases h
  | cons y r ih =>
    rw [List.map_cons, List.sum_cons]
    cases List.mem_cons.1 h with
    | inl e => subst e; omega
    | inr e => have := ih e; omega
theorem clean_all {xs : List ByteArray} (h : ∀ x ∈ xs, x.size ≤ 20000) (hp : xs.all (fun x => cln (x.data.toList.take 20001)) = true) : ∀ x ∈ xs, 10 ∉ x.data.toList := by
  intro x hx
  have h1 := List.all_eq_true.1 hp x hx
  have h2 : x.data.toList.length = x.size := Array.length_toList
  have h3 := h x hx
  rw [List.take_of_length_le (by omega)] at h1
  intro hm
  have := List.all_eq_true.1 h1 10 hm
  simp at this

set_option maxHeartbeats 400000 in
/-- An empty list. -/
theorem joinlaw_nil (a : Option Addr) (c : Nat) (w : World) (hm : HasMax w) :
    Calls Tryd.prog 4 #[.slice a 0 c] w fun e w' => e = .returned (.bool true) ∧ Below w.heap.size w w' := by
  have ha := awake_any w hm
  have HA := Lib.hid ha
  clear ha
  go_enter Tryd.func4, Tryd.ntmps4
  go_wp2_with fail
  refine HA.out.mono ?_
  rintro e w1 ⟨rfl, hb1⟩
  go_wp2
  refine wp_loop_rounds 1 ?_
  rw [rounds_succ]
  go_wp2_with fail
  refine (ljoin_any [] _ _ (.inl ⟨rfl, a, c, rfl⟩) (by decide) (by decide)).mono ?_
  rintro e w2 ⟨rfl, hb2⟩
  rw [bjoin_nil]
  go_wp2_with fail
  refine (rjoin_any [] _ _ (.inl ⟨rfl, a, c, rfl⟩) (by decide)).mono ?_
  rintro e w3 ⟨rfl, hb3⟩
  rw [bjoin_nil]
  go_wp2
  go_ret
  exact ⟨rfl, hb1.trans ((hb2.trans (hb3.mono hb2.size)).mono hb1.size)⟩

/-- What the walk's loop holds at its k-th round: the sum (where there are few), whether all is plain. -/
def JR (xs : List ByteArray) (k : Nat) (z : Int) (p : Bool) : Prop := (xs.length ≤ 1000 → z = tot xs k) ∧ p = (xs.take k).all (fun x => cln (x.data.toList.take 20001))

theorem jr_step {xs : List ByteArray} {k : Nat} {z : Int} {p pb : Bool} {x : ByteArray} (h : JR xs k z p) (hx : xs[k]? = some x) (hsz : ∀ x ∈ xs, x.size ≤ 140737488355328) (hk : k < xs.length)
    (hp : pb = (p && cln (x.data.toList.take 20001))) : JR xs (k + 1) (wrap64 (z + x.size)) pb := by
  refine ⟨fun hn => ?_, ?_⟩
  · have h1 := h.1 hn
    have h2 := tot_le hsz (k + 1)
    rw [tot_succ hx] at h2
    have h3 : tot xs k + x.size ≤ 1000 * 140737488355328 := Nat.le_trans h2 (Nat.mul_le_mul_right _ (by omega))
    rw [h1, tot_succ hx, IntWalk.wrap64_in _ ⟨by omega, by omega⟩]
    omega
  · rw [hp, h.2, List.take_add_one (l := xs), hx, List.all_append]
    simp only [Option.toList_some, List.all_cons, List.all_nil, Bool.and_true]
theorem cln_succ {l : List UInt8} {j : Nat} {b : UInt8} (h : l[j]? = some b) : cln (l.take (j + 1)) = (cln (l.take j) && (b != 10)) := by
  unfold cln
  rw [List.take_add_one, h]
  simp
theorem cln_max {x : ByteArray} {j : Nat} (h1 : j ≤ x.size) (h2 : j ≤ 20001) (h : ¬ (j < x.size ∧ j < 20001)) : x.data.toList.take j = x.data.toList.take 20001 := by
  have e : x.data.toList.length = x.size := Array.length_toList
  by_cases h3 : j = 20001
  · rw [h3]
  · rw [List.take_of_length_le (by omega), List.take_of_length_le (by omega)]
theorem reads_cell {w : World} {b o n c : Nat} {xs : List ByteArray} {k : Nat} {x : ByteArray} (h : Reads w (.slice (some ⟨b, o, none⟩) n c) xs) (hx : xs[k]? = some x) : w.cell? ⟨b, o + k, none⟩ = some (.string x) := by
  rcases h with ⟨rfl, _⟩ | ⟨_, b', o', c', hv, _, _, hc⟩
  · cases hx
  · simp only [Value.slice.injEq, Option.some.injEq, Addr.mk.injEq, and_true] at hv
    obtain ⟨⟨rfl, rfl⟩, _, _⟩ := hv
    exact hc.2 k x hx

set_option maxHeartbeats 2000000 in
set_option maxRecDepth 100000 in
theorem joinlaw_cells (b o c : Nat) (xs : List ByteArray) (w : World) (hm : HasMax w) (hx : Reads w (.slice (some ⟨b, o, none⟩) xs.length c) xs) (hn : xs.length ≤ 140737488355328) (hsz : ∀ x ∈ xs, x.size ≤ 140737488355328) (h0 : 0 < xs.length) :
    Calls Tryd.prog 4 #[.slice (some ⟨b, o, none⟩) xs.length c] w fun e w' => e = .returned (.bool true) ∧ Below w.heap.size w w' := by
  have ha := awake_any w hm
  have HA := Lib.hid ha
  clear ha
  obtain ⟨n, en⟩ : ∃ n, n = xs.length := ⟨_, rfl⟩
  have hx1 : Reads w (.slice (some ⟨b, o, none⟩) n c) xs := by rw [en]; exact hx
  have HX := Lib.hid hx1
  clear hx hx1
  have HSZ := Lib.hid hsz
  clear hsz
  have HM := Lib.hid hm
  clear hm
  have hn1 : n ≤ 140737488355328 := by omega
  have hn0 : 0 < n := by omega
  rw [← en]
  have HN := Lib.hid en
  clear en hn h0
  go_enter Tryd.func4, Tryd.ntmps4
  go_wp2_with fail
  refine HA.out.mono ?_
  rintro e w1 ⟨rfl, hb1⟩
  go_wp2
  go_loopw [3, 4, 16] (fun nn pl i wr => ∃ (k : Nat) (z : Int) (p : Bool), k ≤ n ∧ i = .int .i64 k ∧ nn = .int .i64 z ∧ pl = .bool p ∧ Hid (JR xs k z p) ∧ Below w.heap.size w wr) (fun _ _ i _ => n - (intOf i).toNat)
  case atStart => exact ⟨0, 0, true, by omega, rfl, rfl, rfl, Lib.hid ⟨fun _ => rfl, rfl⟩, hb1⟩
  case round =>
    obtain ⟨k, z, p, hk, rfl, rfl, rfl, HJ, hb⟩ := hrel
    by_cases hlt : k < n
    · obtain ⟨x, ex⟩ : ∃ x, xs[k]? = some x := ⟨xs[k]'(by rw [← HN.out]; exact hlt), by simp⟩
      have cx : wr.cell? ⟨b, o + k, none⟩ = some (.string x) := reads_cell (HX.out.below hb) ex
      have hxs : x.size ≤ 140737488355328 := HSZ.out x (List.mem_of_getElem? ex)
      have EX := Lib.hid ex
      clear ex
      obtain ⟨wo, ewo⟩ : ∃ wo : World, wo = wr := ⟨_, rfl⟩
      subst ewo
      go_wp2
      go_loop [4, 7] (fun pl i => ∃ (j : Nat) (pb : Bool), j ≤ x.size ∧ j ≤ 20001 ∧ i = .int .i64 j ∧ pl = .bool pb ∧ Hid (pb = (p && cln (x.data.toList.take j)))) (fun _ i => 20001 - (intOf i).toNat)
      case atStart => exact ⟨0, p, by omega, by omega, rfl, rfl, Lib.hid (by simp [cln])⟩
      case round =>
        obtain ⟨j, pb, hj1, hj2, rfl, rfl, HP⟩ := hrel
        by_cases hin : j < x.size ∧ j < 20001
        · obtain ⟨hi1, hi2⟩ := hin
          by_cases h10 : x[j] = 10
          · have e1 : ((x[j].toNat : Int) != 10) = false := u8_bne_f h10
            have H10 := Lib.hid h10
            clear h10
            cases pb
            all_goals
              go_wp2
              refine ⟨⟨j + 1, false, by omega, by omega, by go_num, rfl, Lib.hid ?_⟩, by simp [intOf]; omega⟩
              rw [cln_succ (byte_at hi1), H10.out]
              simp
          · have e1 : ((x[j].toNat : Int) != 10) = true := u8_bne_t h10
            have H10 := Lib.hid h10
            clear h10
            cases pb
            all_goals
              go_wp2
              refine ⟨⟨j + 1, _, by omega, by omega, by go_num, rfl, Lib.hid ?_⟩, by simp [intOf]; omega⟩
              rw [cln_succ (byte_at hi1), ← Bool.and_assoc, ← HP.out]
              have := H10.out
              simp [this]
        · have hc : pb = (p && cln (x.data.toList.take 20001)) := by rw [HP.out, cln_max hj1 hj2 hin]
          have HC := Lib.hid hc
          clear hc
          by_cases hi1 : j < x.size
          · have hi2 : 20001 ≤ j := by omega
            clear hin
            go_wp2
            refine ⟨⟨k + 1, _, pb, by omega, by go_num, rfl, rfl, Lib.hid (jr_step HJ.out EX.out HSZ.out (by rw [← HN.out]; exact hlt) HC.out), hb⟩, by simp [intOf]; omega⟩
          · clear hin
            go_wp2
            refine ⟨⟨k + 1, _, pb, by omega, by go_num, rfl, rfl, Lib.hid (jr_step HJ.out EX.out HSZ.out (by rw [← HN.out]; exact hlt) HC.out), hb⟩, by simp [intOf]; omega⟩
    · obtain rfl : k = n := by omega
      clear hlt
      by_cases hbig : 1000 < k
      · go_wp2
        go_ret
        exact ⟨rfl, hb⟩
      · have hz : z = tot xs k := HJ.out.1 (by rw [← HN.out]; omega)
        subst hz
        by_cases hbt : 20000 < tot xs k
        · go_wp2
          go_ret
          exact ⟨rfl, hb⟩
        · have hr := HX.out.below hb
          have HR := Lib.hid hr
          clear hr
          have hjl : (Lib.join (xs.map (·.data.toList)) [10]).length ≤ 21000 := by
            have h1 := join_le xs
            have h2 : jlen xs = tot xs k + k := by rw [jlen, ← tot_all, ← HN.out]
            omega
          have HL := Lib.hid hjl
          clear hjl
          have hsm : ∀ x ∈ xs, x.size ≤ 20000 := fun x hx => by
            have h1 := size_le_tot hx
            rw [← HN.out] at h1
            omega
          have HS := Lib.hid hsm
          clear hsm
          cases p
          · go_wp2_with fail
            refine (ljoin_any xs _ _ HR.out (Nat.le_trans HL.out (by decide)) (by rw [← HN.out]; omega)).mono ?_
            rintro e w2 ⟨rfl, hb2⟩
            go_wp2_with fail
            refine (rjoin_any xs _ _ (HR.out.below hb2) (Nat.le_trans HL.out (by decide))).mono ?_
            rintro e w3 ⟨rfl, hb3⟩
            go_wp2
            go_ret
            exact ⟨rfl, hb.trans ((hb2.trans (hb3.mono hb2.size)).mono hb.size)⟩
          · have hcl : ∀ x ∈ xs, 10 ∉ x.data.toList := clean_all HS.out (by
              have h1 := HJ.out.2
              rw [List.take_of_length_le (by rw [← HN.out]; omega)] at h1
              exact h1.symm)
            have hbs : bsp (bjoin xs) = xs := bsp_bjoin xs (fun e => by have h1 := HN.out; rw [e] at h1; simp at h1; omega) hcl
            have HBS := Lib.hid hbs
            clear hbs hcl
            have hsz2 : (bjoin xs).size ≤ 21000 := by
              have h1 := HL.out
              have h2 : (bjoin xs).size = (Lib.join (xs.map (·.data.toList)) [10]).length := by unfold bjoin mkB; simp [ByteArray.size]
              omega
            go_wp2_with fail
            refine (ljoin_any xs _ _ HR.out (Nat.le_trans HL.out (by decide)) (by rw [← HN.out]; omega)).mono ?_
            rintro e w2 ⟨rfl, hb2⟩
            have hr2 := HR.out.below hb2
            have HR2 := Lib.hid hr2
            clear hr2
            have hb2' := hb.trans (hb2.mono hb.size)
            go_wp2_with fail
            refine (rjoin_any xs _ _ HR2.out (Nat.le_trans HL.out (by decide))).mono ?_
            rintro e w3 ⟨rfl, hb3⟩
            have hr3 := HR2.out.below hb3
            have HR3 := Lib.hid hr3
            clear hr3
            have hb3' := hb2'.trans (hb3.mono hb2'.size)
            go_wp2_with fail
            refine (lsplit_any (bjoin xs) _ (HM.out.below hb3') (by omega)).mono ?_
            rintro e w4 ⟨v, rfl, hr4, hb4⟩
            rw [HBS.out] at hr4
            have HR4 := Lib.hid hr4
            clear hr4
            have hb4' := hb3'.trans (hb4.mono hb3'.size)
            go_wp2_with fail
            refine (same_any xs xs _ _ _ HR4.out (HR3.out.below hb4)).mono ?_
            rintro e w5 ⟨rfl, hb5⟩
            rw [decide_eq_true (rfl : xs = xs)]
            have hb5' := hb4'.trans (hb5.mono hb4'.size)
            go_wp2
            go_ret
            exact ⟨rfl, hb5'⟩

theorem join_law (xs : List ByteArray) (v : Value) (w : World) (hm : HasMax w) (hx : Reads w v xs) (hn : xs.length ≤ 140737488355328) (hsz : ∀ x ∈ xs, x.size ≤ 140737488355328) :
    Calls Tryd.prog 4 #[v] w fun e w' => e = .returned (.bool true) ∧ Below w.heap.size w w' := by
  rcases hx with ⟨rfl, a, c, rfl⟩ | ⟨hne, b, o, c, rfl, h⟩
  · exact joinlaw_nil a c w hm
  · exact joinlaw_cells b o c xs w hm (.inr ⟨hne, b, o, c, rfl, h⟩) hn hsz (List.length_pos_iff.2 hne)
end Go.Proofs.YtnppehgjeakkiaaDoor
