/- The contract of the document's Add. -/
import Derived.Sort.Walk0
import Derived.Laws.Cover1
import Derived.Test.YteaencgbgfnokaaDoorM4
set_option linter.unusedVariables false
namespace Go.Proofs.YteaencgbgfnokaaDoor
open Go.ChangeShapes Go.WideShapes Go.ChangeAt Go.RowKit

theorem less_iff (x y : ByteArray) : Op.bytesLess x.toList y.toList = decide (x.data.toList < y.data.toList) := by
  rw [Go.Proofs.bytesLess_eq, ByteArray.toList_eq, ByteArray.toList_eq]
theorem readsOwns {w : World} {base : Nat} {e : TypeId} {v : Value} {xs : List ByteArray} (h : w.ownsRow base e 1 v xs.length (xs.map Value.string)) : Reads w v xs := by
  rcases h.2 with ⟨rfl, h0⟩ | ⟨g, cap, cur, rfl, hb, hg, hnc, hm, hs, ht⟩
  · have : xs = [] := List.length_eq_zero_iff.1 h0
    subst this
    exact .inl ⟨rfl, none, 0, rfl⟩
  · by_cases h0 : xs = []
    · subst h0
      exact .inl ⟨rfl, _, cap, rfl⟩
    · refine .inr ⟨h0, g, 0, cap, rfl, hnc, by unfold maxLen at hm; omega, (Array.getElem?_eq_some_iff.1 hg).1, fun j x hx => ?_⟩
      have hj : j < xs.length := (List.getElem?_eq_some_iff.1 hx).1
      have := h.cellAt j (by omega)
      rw [Nat.zero_add, this]
      simp [hx]
theorem own_ge {w : World} {base : Nat} {e : TypeId} {v : Value} {n : Nat} {us : List Value} (h : w.ownsRow base e 1 v n us) : ∀ g, v.ownBlock = some g → base ≤ g := fun g hg => (h.lt g hg).1 |> fun _ => by
  rcases h.2 with ⟨rfl, h0⟩ | ⟨b, cap, cur, rfl, hb, _⟩
  · cases hg
  · simp only [Value.ownBlock, Option.some.injEq] at hg; omega

attribute [-go_sem] Builtin.append_
set_option maxHeartbeats 4000000 in
set_option maxRecDepth 100000 in
theorem radd_any (ls : Lb) (v : Value) (x : ByteArray) (w : World) (hr : Reads w v ls) (hlen : ls.length ≤ 1000000) :
    Calls Tryd.prog 33 #[v, .string x] w fun e w' => (∃ v', e = .returned v' ∧ Reads w' v' (addB ls x) ∧ ∀ g, v'.ownBlock = some g → w.heap.size ≤ g ∨ v.ownBlock = some g) ∧ Below w.heap.size w w' := by
  have c1 : ∀ wz, Below w.heap.size w wz → Calls Tryd.prog 40 #[v, .string x] wz fun e w' => e = .returned (.int .i64 (Lib.idxOfS ls x)) ∧ Below wz.heap.size wz w' := fun wz hz => rplace_any ls v x wz (hr.below hz)
  obtain ⟨a, c, rfl, hn⟩ := hr.form
  obtain ⟨n, hnn⟩ : ∃ n, n = ls.length := ⟨_, rfl⟩
  obtain ⟨I, hI⟩ : ∃ I, I = Lib.idxOfS ls x := ⟨_, rfl⟩
  rw [← hI] at c1
  rw [← hnn] at hr hn c1 hlen ⊢
  have HN := Lib.hid hnn
  have HR := Lib.hid hr
  have HI := Lib.hid hI
  have C1 := Lib.hid c1
  clear hnn hr hI c1
  by_cases hi : 0 ≤ I
  · have hres : addB ls x = ls := by unfold addB; rw [← HI.out, if_pos hi]
    rw [hres]
    go_enter Tryd.func33, Tryd.ntmps33
    go_wp2_with fail
    refine (C1.out _ (Below.refl _ _)).mono ?_
    rintro e w1 ⟨rfl, hb⟩
    have QB := Lib.hid hb
    clear hb
    go_wp2_with fail
    go_ret
    exact ⟨⟨_, rfl, HR.out.below QB.out, fun g hg => .inr hg⟩, QB.out⟩
  · have hres : addB ls x = if (runA x ls).2 then (runA x ls).1 else (runA x ls).1 ++ [x] := by unfold addB; rw [← HI.out, if_neg hi]
    have HRES := Lib.hid hres
    clear hres
    go_enter Tryd.func33, Tryd.ntmps33
    go_wp2_with fail
    refine (C1.out _ (Below.refl _ _)).mono ?_
    rintro e w1 ⟨rfl, hb⟩
    have QB := Lib.hid hb
    clear hb
    go_wp2_with fail
    go_loopw [5, 6, 7] (fun l d i wr => ∃ (k : Nat) (o : Lb) (b : Bool), k ≤ n ∧ i = .int .i64 (k : Nat) ∧ d = .bool b ∧ o.length ≤ k + 1 ∧ wr.ownsRow w.heap.size 9 1 l o.length (o.map Value.string) ∧ Hid (Below w.heap.size w wr) ∧ Hid (runA x (ls.take k) = (o, b))) (fun _ _ i _ => n - (intOf i).toNat)
    case atStart => exact ⟨0, [], false, Nat.zero_le _, rfl, rfl, by simp, World.ownsRow_nil _ _ _ _, QB, Lib.hid rfl⟩
    case round =>
      obtain ⟨k, o, b, hk, rfl, rfl, hol, hown, HB, HA⟩ := hrel
      have hsz := HB.out.size
      by_cases hlt : k < n
      · obtain ⟨y, hy⟩ : ∃ y, ls[k]? = some y := ⟨ls[k]'(by rw [← HN.out]; exact hlt), by simp⟩
        obtain ⟨bb, oo, rfl, hnl, hcl⟩ := HR.out.at hy
        clear hnl
        have hcell := (hcl.below HB.out).2 k y hy
        have hst : runA x (ls.take (k + 1)) = stepA x (o, b) y := by rw [runA_take hy, HA.out]
        have HST := Lib.hid hst
        have hbl : bb < w.heap.size := hcl.1
        have hL : o.length ≤ k + (if b then 1 else 0) := by
          have h := runA_len x (ls.take k)
          rw [HA.out, List.length_take] at h
          simp only at h
          rw [h]
          exact Nat.add_le_add_right (Nat.min_le_left _ _) _
        have hne : y ≠ x := fun e => by have h1 := (idx_mem (l := ls) (x := x)).2 (e ▸ List.mem_of_getElem? hy); have h2 := HI.out; omega
        have hne2 : (y.toList == x.toList) = false := by
          rw [beq_eq_false_iff_ne]
          intro e
          apply hne
          rw [ByteArray.toList_eq, ByteArray.toList_eq] at e
          rw [← tx_data y, ← tx_data x, e]
        clear hy hcl hst
        cases b with
        | true =>
          have HS := Lib.hid (show runA x (ls.take (k + 1)) = (o ++ [y], true) by rw [HST.out]; rfl)
          go_wp2_with (at_builtin; refine wpList_push rfl _ _ 23 rfl w.heap.size 9 (.string ByteArray.empty) 1 16 Tryd.underlying23 Tryd.infoS rfl (by decide) wr _ _ _ rfl (by exact hown) [.string y] 1 _ _ rfl rfl rfl (by simp [Value.oneCell']) (by omega) (by omega) hsz ?_; intro v' w1 hown1 hgr hb1)
          exact ⟨⟨k + 1, o ++ [y], true, by omega, by go_num, rfl, by simp; omega, by simpa using hown1, Lib.hid (HB.out.trans hb1), HS⟩, by simp [intOf]; omega⟩
        | false =>
          by_cases hc : x.data.toList < y.data.toList
          · have e1 : Op.bytesLess y.toList x.toList = false := by rw [less_iff]; exact decide_eq_false (fun h => List.lt_irrefl _ (bs_lt_trans hc h))
            have HS := Lib.hid (show runA x (ls.take (k + 1)) = (o ++ [x] ++ [y], true) by rw [HST.out]; unfold stepA; rw [if_pos ⟨rfl, hc⟩])
            have hL2 : o.length ≤ k := by simpa using hL
            clear hc hne hL
            go_wp2_with (first
              | (at_builtin; refine wpList_push rfl _ _ 23 rfl w.heap.size 9 (.string ByteArray.empty) 1 16 Tryd.underlying23 Tryd.infoS rfl (by decide) wr _ _ _ rfl (by exact hown) [.string x] 1 _ _ rfl rfl rfl (by simp [Value.oneCell']) (by omega) (by omega) hsz ?_; intro v' w1 hown1 hgr hb1; have hcell1 := (hb1.cell (p := ⟨bb, oo + k, none⟩) hbl).trans hcell)
              | (at_builtin; refine wpList_push rfl _ _ 23 rfl w.heap.size 9 (.string ByteArray.empty) 1 16 Tryd.underlying23 Tryd.infoS rfl (by decide) w1 _ _ _ rfl (by exact hown1) [.string y] 1 _ _ rfl rfl rfl (by simp [Value.oneCell']) (by omega) (by omega) (Nat.le_trans hsz hb1.size) ?_; intro v'' w2 hown2 hgr2 hb2))
            exact ⟨⟨k + 1, o ++ [x] ++ [y], true, by omega, by go_num, rfl, by simp; omega, by simpa using hown2, Lib.hid ((HB.out.trans hb1).trans hb2), HS⟩, by simp [intOf]; omega⟩
          · have e1 : Op.bytesLess y.toList x.toList = true := by rw [less_iff]; exact decide_eq_true (lt_of_not hc (Ne.symm hne))
            have HS := Lib.hid (show runA x (ls.take (k + 1)) = (o ++ [y], false) by rw [HST.out]; unfold stepA; rw [if_neg (fun h => hc h.2)])
            clear hc hne
            go_wp2_with (at_builtin; refine wpList_push rfl _ _ 23 rfl w.heap.size 9 (.string ByteArray.empty) 1 16 Tryd.underlying23 Tryd.infoS rfl (by decide) wr _ _ _ rfl (by exact hown) [.string y] 1 _ _ rfl rfl rfl (by simp [Value.oneCell']) (by omega) (by omega) hsz ?_; intro v' w1 hown1 hgr hb1)
            exact ⟨⟨k + 1, o ++ [y], false, by omega, by go_num, rfl, by simp; omega, by simpa using hown1, Lib.hid (HB.out.trans hb1), HS⟩, by simp [intOf]; omega⟩
      · obtain rfl : k = n := by omega
        have hall : runA x ls = (o, b) := by rw [← HA.out, List.take_of_length_le (by rw [← HN.out]; exact Nat.le_refl _)]
        cases b with
        | true =>
          have HF := Lib.hid (show addB ls x = o by rw [HRES.out, hall]; rfl)
          clear hall
          go_wp2_with fail
          go_ret
          exact ⟨⟨_, rfl, by rw [HF.out]; exact readsOwns hown, fun g hg => .inl (own_ge hown g hg)⟩, HB.out⟩
        | false =>
          have HF := Lib.hid (show addB ls x = o ++ [x] by rw [HRES.out, hall]; rfl)
          clear hall
          go_wp2_with (at_builtin; refine wpList_push rfl _ _ 23 rfl w.heap.size 9 (.string ByteArray.empty) 1 16 Tryd.underlying23 Tryd.infoS rfl (by decide) wr _ _ _ rfl (by exact hown) [.string x] 1 _ _ rfl rfl rfl (by simp [Value.oneCell']) (by omega) (by omega) hsz ?_; intro v' w1 hown1 hgr hb1)
          go_ret
          exact ⟨⟨_, rfl, by rw [HF.out]; exact readsOwns (by simpa using hown1), fun g hg => .inl (own_ge hown1 g hg)⟩, HB.out.trans hb1⟩
end Go.Proofs.YteaencgbgfnokaaDoor
