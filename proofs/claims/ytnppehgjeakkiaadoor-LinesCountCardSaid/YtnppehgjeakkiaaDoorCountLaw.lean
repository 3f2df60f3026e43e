/- The statement of the number of lines: whichever two texts: the law's function answers true. -/
import Derived.Test.YtnppehgjeakkiaaDoorMarkers
import Derived.Deep.RegionHeld3
set_option linter.unusedVariables false
namespace Go.Proofs.YtnppehgjeakkiaaDoor
open Go.ChangeShapes Go.WideShapes Go.ChangeAt Go.RowKit

theorem count_succ {l : List UInt8} {k : Nat} {b : UInt8} (h : l[k]? = some b) : (l.take (k + 1)).count 10 = (l.take k).count 10 + if b = 10 then 1 else 0 := by
  rw [List.take_add_one, h, List.count_append]
  by_cases e : b = 10
  · subst e; simp
  · simp [e]
theorem count_take_le (l : List UInt8) (k : Nat) : (l.take k).count 10 ≤ k := Nat.le_trans List.count_le_length (List.length_take_le _ _)

theorem bsp_append (a b : ByteArray) : ∃ (u v : List ByteArray) (p q : ByteArray), bsp a = u ++ [p] ∧ bsp b = q :: v ∧ bsp (a ++ b) = u ++ (p ++ q) :: v := by
  obtain ⟨u, v, p, q, h1, h2, h3⟩ := spl_append a.data.toList b.data.toList
  refine ⟨u.map mkB, v.map mkB, mkB p, mkB q, by simp [bsp, h1], by simp [bsp, h2], ?_⟩
  unfold bsp
  rw [app_data, h3]
  simp only [List.map_append, List.map_cons]
  congr 2

theorem spl_mem_le : ∀ (l x : List UInt8), x ∈ spl l → x.length ≤ l.length
  | [], x, h => by simp [spl_nil] at h; simp [h]
  | c :: r, x, h => by
    by_cases e : c = 10
    · subst e
      rw [spl_ten] at h
      cases List.mem_cons.1 h with
      | inl h => simp [h]
      | inr h => have := spl_mem_le r x h; simp; omega
    · obtain ⟨y, t, ey⟩ := spl_form r
      rw [spl_cons e ey] at h
      cases List.mem_cons.1 h with
      | inl h => have := spl_mem_le r y (by rw [ey]; simp); rw [h]; simp; omega
      | inr h => have := spl_mem_le r x (by rw [ey]; simp [h]); simp; omega
theorem bsp_mem_le {s x : ByteArray} (h : x ∈ bsp s) : x.size ≤ s.size := by
  obtain ⟨l, hl, rfl⟩ := List.mem_map.1 h
  have h1 := spl_mem_le _ _ hl
  have h2 : s.data.toList.length = s.size := Array.length_toList
  have h3 : (mkB l).size = l.length := rfl
  omega

theorem reads_ne {w : World} {v : Value} {xs : List ByteArray} {n : Nat} (h : Reads w v xs) (hn : xs.length = n) (h0 : 0 < n) :
    ∃ b o c, v = .slice (some ⟨b, o, none⟩) n c ∧ n ≤ c ∧ c ≤ 9223372036854775807 ∧ Cells w b o xs := by
  subst hn
  rcases h with ⟨rfl, _⟩ | ⟨_, b, o, c, rfl, hc, hm, hx⟩
  · simp at h0
  · exact ⟨b, o, c, rfl, hc, hm, hx⟩
theorem Cells.take {w : World} {b o : Nat} {xs ys : List ByteArray} (h : Cells w b o (xs ++ ys)) : Cells w b o xs :=
  ⟨h.1, fun j x hx => h.2 j x (by rw [List.getElem?_append_left (List.getElem?_eq_some_iff.1 hx).1]; exact hx)⟩
theorem Cells.drop {w : World} {b o : Nat} {xs ys : List ByteArray} (h : Cells w b o (xs ++ ys)) : Cells w b (o + xs.length) ys :=
  ⟨h.1, fun j x hx => by rw [Nat.add_assoc]; exact h.2 (xs.length + j) x (by rw [List.getElem?_append_right (by omega), Nat.add_sub_cancel_left]; exact hx)⟩
theorem Cells.reads {w : World} {b o n c : Nat} {xs : List ByteArray} (h : Cells w b o xs) (hn : xs.length = n) (hc : n ≤ c) (hm : c ≤ 9223372036854775807) : Reads w (.slice (some ⟨b, o, none⟩) n c) xs := by
  subst hn
  by_cases h0 : xs = []
  · subst h0; exact .inl ⟨rfl, _, c, rfl⟩
  · exact .inr ⟨h0, b, o, c, rfl, hc, hm, h⟩

set_option maxHeartbeats 2000000 in
set_option maxRecDepth 100000 in
theorem countlaw (a b : ByteArray) (w : World) (hm : HasMax w) (ha : a.size ≤ 140737488355328) (hb : b.size ≤ 140737488355328) :
    Calls Tryd.prog 6 #[.string a, .string b] w fun e w' => e = .returned (.bool true) ∧ Below w.heap.size w w' := by
  have hw := awake_any w hm
  have HA := Lib.hid hw
  clear hw
  have HM := Lib.hid hm
  clear hm
  by_cases hbig : 5000 < a.size
  · go_enter Tryd.func6, Tryd.ntmps6
    go_wp2_with fail
    refine HA.out.mono ?_
    rintro e w1 ⟨rfl, hb1⟩
    go_wp2
    go_ret
    exact ⟨rfl, hb1⟩
  · by_cases hbig2 : 5000 < b.size
    · go_enter Tryd.func6, Tryd.ntmps6
      go_wp2_with fail
      refine HA.out.mono ?_
      rintro e w1 ⟨rfl, hb1⟩
      go_wp2
      go_ret
      exact ⟨rfl, hb1⟩
    · go_enter Tryd.func6, Tryd.ntmps6
      go_wp2_with fail
      refine HA.out.mono ?_
      rintro e w1 ⟨rfl, hb1⟩
      go_wp2
      go_loop [5, 6] (fun nn i => ∃ k m : Nat, k ≤ a.size ∧ m ≤ k ∧ i = .int .i64 k ∧ nn = .int .i64 m ∧ Hid (m = (a.data.toList.take k).count 10)) (fun _ i => a.size - (intOf i).toNat)
      case atStart => exact ⟨0, 0, by omega, by omega, rfl, rfl, Lib.hid rfl⟩
      case round =>
        obtain ⟨k, m, hk, hmk, rfl, rfl, HC⟩ := hrel
        by_cases hlt : k < a.size
        · by_cases h10 : a[k] = 10
          · have e1 : ((a[k].toNat : Int) == 10) = true := u8_eq h10
            have H10 := Lib.hid h10
            clear h10
            go_wp2
            refine ⟨⟨k + 1, m + 1, by omega, by omega, by go_num, by go_num, Lib.hid ?_⟩, by simp [intOf]; omega⟩
            rw [count_succ (byte_at hlt), if_pos H10.out, HC.out]
          · have e1 : ((a[k].toNat : Int) == 10) = false := u8_ne h10
            have H10 := Lib.hid h10
            clear h10
            go_wp2
            refine ⟨⟨k + 1, m, by omega, by omega, by go_num, rfl, Lib.hid ?_⟩, by simp [intOf]; omega⟩
            rw [count_succ (byte_at hlt), if_neg H10.out, HC.out]; rfl
        · obtain rfl : k = a.size := by omega
          clear hlt
          obtain ⟨u, v, p, q, h1, h2, h3⟩ := bsp_append a b
          have hu : u.length = m := by
            have e1 := bsp_length a
            rw [h1, List.length_append, List.length_singleton] at e1
            have e2 := HC.out
            rw [List.take_of_length_le (by rw [show a.data.toList.length = a.size from Array.length_toList]; omega)] at e2
            omega
          have hvl : v.length ≤ 5000 := by
            have := bsp_length_le b
            rw [h2, List.length_cons] at this
            omega
          obtain ⟨V, hV⟩ : ∃ V, V = v.length := ⟨_, rfl⟩
          have hV5 : V ≤ 5000 := by omega
          clear hvl
          have hp5 : p.size ≤ 5000 := Nat.le_trans (bsp_mem_le (s := a) (by rw [h1]; simp)) (by omega)
          have hq5 : q.size ≤ 5000 := Nat.le_trans (bsp_mem_le (s := b) (by rw [h2]; simp)) (by omega)
          have H1 := Lib.hid h1
          have H2 := Lib.hid h2
          have H3 := Lib.hid h3
          have HU := Lib.hid hu
          have HV := Lib.hid hV
          clear h1 h2 h3 hu hV
          go_wp2_with fail
          refine (lsplit_any a _ (HM.out.below hb1) (by omega)).mono ?_
          rintro e w2 ⟨vx, rfl, hr2, hb2⟩
          rw [H1.out] at hr2
          obtain ⟨bx, ox, cx, rfl, hcx, hmx, hxx⟩ := reads_ne hr2 (n := m + 1) (by rw [List.length_append, HU.out]; rfl) (by omega)
          have HX := Lib.hid hxx
          clear hr2 hxx
          have hb2' := hb1.trans (hb2.mono hb1.size)
          go_wp2_with fail
          refine (lsplit_any b _ (HM.out.below hb2') (by omega)).mono ?_
          rintro e w3 ⟨vy, rfl, hr3, hb3⟩
          rw [H2.out] at hr3
          obtain ⟨by', oy, cy, rfl, hcy, hmy, hyy⟩ := reads_ne hr3 (n := V + 1) (by rw [List.length_cons, HV.out]) (by omega)
          have HY := Lib.hid hyy
          clear hr3 hyy
          have hb3' := hb2'.trans (hb3.mono hb2'.size)
          have HX3 := Lib.hid (HX.out.below hb3)
          clear HX
          go_wp2_with fail
          refine (lsplit_any (a ++ b) _ (HM.out.below hb3') (by rw [ByteArray.size_append]; omega)).mono ?_
          rintro e w4 ⟨vz, rfl, hr4, hb4⟩
          rw [H3.out] at hr4
          obtain ⟨bz, oz, cz, rfl, hcz, hmz, hzz⟩ := reads_ne hr4 (n := m + 1 + V) (by rw [List.length_append, List.length_cons, HU.out, ← HV.out]; omega) (by omega)
          have HZ := Lib.hid hzz
          clear hr4 hzz
          have hb4' := hb3'.trans (hb4.mono hb3'.size)
          have HX4 := Lib.hid (HX3.out.below hb4)
          have HY4 := Lib.hid (HY.out.below hb4)
          clear HX3 HY hb4 hb3 hb2 hb2' hb3'
          have e1 : ((m : Int) + 1 + (V : Int) != (m : Int) + 1 + ((V : Int) + 1) - 1) = false := by rw [bne_eq_false_iff_eq]; omega
          go_wp2_with fail
          have hzc : w4.cell? ⟨bz, oz + m, none⟩ = some (.string (p ++ q)) := HZ.out.2 m _ (by rw [List.getElem?_append_right (by rw [HU.out]; omega), HU.out, Nat.sub_self]; rfl)
          have hxc : w4.cell? ⟨bx, ox + m, none⟩ = some (.string p) := HX4.out.2 m _ (by rw [List.getElem?_append_right (by rw [HU.out]; omega), HU.out, Nat.sub_self]; rfl)
          have hyc : w4.cell? ⟨by', oy, none⟩ = some (.string q) := HY4.out.2 0 _ rfl
          have i1 : IntKind.i64.wrap ((m : Int) + 1 - 1) = m := by rw [IntKind.wrap_i64]; omega
          have i0 : (0 : Int) ≤ m := by omega
          have i2 : (m : Int) < (m : Int) + 1 := by omega
          have i3 : (m : Int) < (m : Int) + 1 + V := by omega
          have S1 : ∀ n : Nat, Calls Tryd.prog 9 #[.slice (some ⟨bz, oz, none⟩) m cz, .slice (some ⟨bx, ox, none⟩) m cx] (w4.drewN n) fun e w' => e = .returned (.bool true) ∧ ∃ k, w' = (w4.drewN n).drewN k := by
            intro n
            refine (same_q u u _ _ _ (HZ.out.take.reads HU.out (by omega) (by omega)).drewN (HX4.out.take.reads HU.out (by omega) (by omega)).drewN).mono ?_
            rintro e w' ⟨he, hw⟩
            exact ⟨by rw [he]; simp, hw⟩
          have HS1 := Lib.hid S1
          clear S1
          have S0 : ∀ (n : Nat) (a a' : Option Addr) (c c' : Nat), Calls Tryd.prog 9 #[.slice a 0 c, .slice a' 0 c'] (w4.drewN n) fun e w' => e = .returned (.bool true) ∧ ∃ k, w' = (w4.drewN n).drewN k :=
            fun n a a' c c' => (same_nil a a' c c' _).mono fun e w' ⟨he, hw⟩ => ⟨he, 0, hw⟩
          have HS0 := Lib.hid S0
          clear S0
          by_cases hV0 : V = 0
          · have HV0 := Lib.hid HV
            clear HV HV0
            subst hV0
            have hcz0 : m + 1 ≤ cz := by omega
            clear hcz
            by_cases hcz1 : cz = m + 1
            · subst hcz1
              by_cases hcy1 : cy = 1
              · subst hcy1
                go_quiet ((first | (go_at_call 9; with_reducible exact Calls.quiet_of (HS1.out _)) | (go_at_call 9; with_reducible exact Calls.quiet_of (HS0.out _ _ _ _ _))))
                go_wp2
                go_ret
                exact ⟨rfl, Below.drewN hb4'⟩
              · have g2 : (1 : Int) < cy := by omega
                go_quiet ((first | (go_at_call 9; with_reducible exact Calls.quiet_of (HS1.out _)) | (go_at_call 9; with_reducible exact Calls.quiet_of (HS0.out _ _ _ _ _))))
                go_wp2
                go_ret
                exact ⟨rfl, Below.drewN hb4'⟩
            · have g1 : (m : Int) + 1 < cz := by omega
              by_cases hcy1 : cy = 1
              · subst hcy1
                go_quiet ((first | (go_at_call 9; with_reducible exact Calls.quiet_of (HS1.out _)) | (go_at_call 9; with_reducible exact Calls.quiet_of (HS0.out _ _ _ _ _))))
                go_wp2
                go_ret
                exact ⟨rfl, Below.drewN hb4'⟩
              · have g2 : (1 : Int) < cy := by omega
                go_quiet ((first | (go_at_call 9; with_reducible exact Calls.quiet_of (HS1.out _)) | (go_at_call 9; with_reducible exact Calls.quiet_of (HS0.out _ _ _ _ _))))
                go_wp2
                go_ret
                exact ⟨rfl, Below.drewN hb4'⟩
          · have g1 : (m : Int) + 1 < cz := by omega
            have g2 : (1 : Int) < cy := by omega
            have S2 : ∀ n : Nat, Calls Tryd.prog 9 #[.slice (some ⟨bz, oz + (m + 1), none⟩) V (cz - (m + 1)), .slice (some ⟨by', oy + 1, none⟩) V (cy - 1)] (w4.drewN n) fun e w' => e = .returned (.bool true) ∧ ∃ k, w' = (w4.drewN n).drewN k := by
              intro n
              have hz2 : Cells w4 bz (oz + (m + 1)) v := by
                have e : u ++ (p ++ q) :: v = (u ++ [p ++ q]) ++ v := by simp
                have h := HZ.out
                rw [e] at h
                have h2 := h.drop
                rw [List.length_append, List.length_singleton, HU.out] at h2
                exact h2
              have hy2 : Cells w4 by' (oy + 1) v := Cells.drop (xs := [q]) HY4.out
              refine (same_q v v _ _ _ (hz2.reads HV.out.symm (by omega) (by omega)).drewN (hy2.reads HV.out.symm (by omega) (by omega)).drewN).mono ?_
              rintro e w' ⟨he, hw⟩
              exact ⟨by rw [he]; simp, hw⟩
            have HS2 := Lib.hid S2
            clear S2
            go_quiet ((first | (go_at_call 9; with_reducible exact Calls.quiet_of (HS1.out _)) | (go_at_call 9; with_reducible exact Calls.quiet_of (HS2.out _))))
            go_wp2
            go_ret
            exact ⟨rfl, Below.drewN hb4'⟩
end Go.Proofs.YtnppehgjeakkiaaDoor
