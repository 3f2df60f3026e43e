/- toDo: the commit that a head tells, with its pages' bytes. -/
import Derived.Test.YthamfbfeokmhgaaGreatDoorShelfB
import Derived.Test.YthamfbfeokmhgaaGreatDoorU43
import Derived.Test.YthamfbfeokmhgaaGreatDoorU44
set_option linter.unusedVariables false
set_option linter.unusedSimpArgs false
namespace Go.Proofs.YthamfbfeokmhgaaGreatDoor
open Go.ChangeShapes Go.WideShapes Go.ChangeAt Go.RowKit

def fullP (l : Pgs) : Pgs := l.map fun p => (p.1, fullB p.2)
theorem fullP_len (l : Pgs) : (fullP l).length = l.length := by simp [fullP]
theorem full_512 {t : ByteArray} (h : t.size = 512) : fullB t = t := by
  unfold fullB
  rw [h]
  simp
theorem full_full {s : ByteArray} (h : s.size ≤ 512) : fullB (fullB s) = fullB s := full_512 (fullB_size h)
theorem fullP_same {l : Pgs} (h : ∀ p ∈ l, p.2.size ≤ 512) : sameP l (fullP l) := by
  unfold sameP fullP
  rw [List.map_map]
  exact List.map_congr_left fun p hp => by simp [full_full (h p hp)]
theorem fullP_good {N : Nat} {l : Pgs} (h : goodP N l) : goodP N (fullP l) := by
  refine ⟨fun p hp => ?_, ?_⟩
  · obtain ⟨x, hx, rfl⟩ := List.mem_map.1 hp
    exact ⟨(h.1 x hx).1, Nat.le_of_eq (fullB_size (h.1 x hx).2)⟩
  · have : (fullP l).map Prod.fst = l.map Prod.fst := by simp [fullP, List.map_map, Function.comp_def]
    rw [this]; exact h.2
theorem headB_same {l m : Pgs} (h : sameP l m) : headB m = headB l := by rw [headB, headB, head_same h]
def mixP (l : Pgs) (j : Nat) : Pgs := fullP (l.take j) ++ zeroP (l.drop j)
theorem mixP_len (l : Pgs) (j : Nat) : (mixP l j).length = l.length := by simp [mixP, fullP, zeroP]; omega
theorem mixP_at {l : Pgs} {j : Nat} {x : Nat × ByteArray} (h : l[j]? = some x) : (mixP l j)[j]? = some (x.1, ByteArray.empty) := by
  have hj : j < l.length := (List.getElem?_eq_some_iff.1 h).1
  have h1 : (fullP (l.take j)).length = j := by rw [fullP_len, List.length_take]; omega
  rw [mixP, List.getElem?_append_right (by omega), h1, Nat.sub_self, zeroP, List.getElem?_map, List.getElem?_drop, Nat.add_zero, h]; rfl
theorem mixP_step {l : Pgs} {j : Nat} {x : Nat × ByteArray} (h : l[j]? = some x) : (mixP l j).set j (x.1, fullB x.2) = mixP l (j + 1) := by
  have hj : j < l.length := (List.getElem?_eq_some_iff.1 h).1
  have h1 : (fullP (l.take j)).length = j := by rw [fullP_len, List.length_take]; omega
  have h2 : l.drop j = x :: l.drop (j + 1) := by
    rw [List.drop_eq_getElem_cons hj]
    rw [List.getElem?_eq_getElem hj] at h
    injection h with h
    rw [h]
  have h3 : l.take (j + 1) = l.take j ++ [x] := by rw [List.take_add_one, h]; rfl
  rw [mixP, mixP, h2, h3, List.set_append_right _ _ (by omega), h1, Nat.sub_self]
  simp [zeroP, fullP]
theorem pv_set {Q : Pnd} {j : Nat} {q : Nat × ByteArray} (h : Q[j]? = some q) (s : ByteArray) : (pv Q).set (j * 2 + 1) (.string s) = pv (Q.set j (q.1, s)) := by
  induction Q generalizing j with
  | nil => simp at h
  | cons x r ih =>
    cases j with
    | zero =>
      simp at h; subst h
      rfl
    | succ j =>
      have h' : r[j]? = some q := by simpa using h
      have := ih h'
      have e : (pv (x :: r)) = .int .i64 (x.1 : Int) :: .string x.2 :: pv r := rfl
      rw [e, show (j + 1) * 2 + 1 = (j * 2 + 1) + 1 + 1 by omega, List.set_cons_succ, List.set_cons_succ, this]
      rfl
theorem trim_any (s : ByteArray) (w : World) (hs : s.size ≤ 1000000) : Calls Tryz.prog 38 #[.string s, .string ⟨#[0]⟩] w fun e w' => e = .returned (.string (tx (trimZ s.data.toList))) ∧ w' = w :=
  Tryz.strings_TrimRight_one s 0 (by decide) w (by omega)
set_option maxHeartbeats 1000000 in
theorem todo_nil (q : Nat) (w : World) : Calls Tryz.prog 23 #[.pointer (some ⟨q, 0, none⟩), .string (fullB ByteArray.empty)] w fun e w' => e = .returned (.tuple #[.slice none 0 0, .nilIface]) ∧ w' = w := by
  have HT := Lib.hid (trim_any (fullB ByteArray.empty) w (by rw [fullB_size (by decide)]; decide))
  rw [trim_empty] at HT
  obtain ⟨s, hs⟩ : ∃ s, s = fullB ByteArray.empty := ⟨_, rfl⟩
  rw [← hs] at HT ⊢
  clear hs
  go_enter Tryz.func23, Tryz.ntmps23
  go_wp2_with fail
  refine HT.out.mono ?_
  rintro e w1 ⟨rfl, rfl⟩
  go_wp2_with fail
  go_ret2
  exact ⟨rfl, rfl⟩
set_option maxHeartbeats 4000000 in
set_option maxRecDepth 100000 in
theorem todo_any {Z : Nat → Prop} {q p : Nat} {D : Dk} (l : Pgs) (w : World) (hq : RQ w q p) (h : DX Z w p D) (ho : D.off = false) (hl : LogIs D.shown l) (hS : 65 ≤ D.sure.length) (hg : goodP (D.sure.length - 64) l) (hn1 : 1 ≤ l.length) (hn : l.length ≤ 63) (hv : HasSents w) (ht : HasTab w) (hk : HasK w) :
    Calls Tryz.prog 23 #[.pointer (some ⟨q, 0, none⟩), .string (fullB (headB l))] w fun e w' => ∃ v, e = .returned (.tuple #[v, .nilIface]) ∧ Row 2 w.heap.size w' v l.length (pv (fullP l)) ∧ Below w.heap.size w w' := by
  have n2 := h.ok.n2
  have h10 : ∀ p ∈ l, p.1 < 10000 := fun p hp => by have := (hg.1 p hp).1; omega
  have hhs : (headB l).size ≤ 512 := headB_size h10 hn
  have HT := Lib.hid (trim_any (fullB (headB l)) w (by rw [fullB_size hhs]; decide))
  rw [trim_head] at HT
  have HT : Hid (Calls Tryz.prog 38 #[.string (fullB (headB l)), .string ⟨#[0]⟩] w fun e w' => e = .returned (.string (headB l)) ∧ w' = w) := HT
  have HNU := Lib.hid (numbered_any l w hq h hg hn1 hn hv ht)
  have hsz : ¬ (headB l).size = 0 := by
    rw [headB, tx_lenR, headT_bytes]
    simp
  have hne : ((headB l).toList == []) = false := by
    have := toList_ne hsz
    simpa using this
  have HRD : Hid (∀ W, Below w.heap.size w W → ∀ (j : Nat) (x : Nat × ByteArray), l[j]? = some x → Calls Tryz.prog 21 #[.pointer (some ⟨p, 0, none⟩), .int .i64 (1 + (j : Int))] W fun e w' => e = .returned (.tuple #[.string (fullB x.2), .nilIface]) ∧ Below W.heap.size W w') := Lib.hid (fun W hW j x hx => by
    have hj : j < l.length := (List.getElem?_eq_some_iff.1 hx).1
    have := sread_any (1 + (j : Int)) W (h.below hW)
    have e : readD D (1 + (j : Int)) = (fullB x.2, 0) := by
      unfold readD
      rw [if_neg (by rw [ho]; decide), if_neg (by omega), ← hl j x hx]
      have : (1 + (j : Int)).toNat = 1 + j := by omega
      rw [this]
    rw [e] at this
    exact this)
  have hh : headB (fullP l) = headB l := headB_same (fullP_same (fun p hp => (hg.1 p hp).2))
  have HH : Hid (∀ W v, Below w.heap.size w W → PgR W v (ofP (fullP l)) → Calls Tryz.prog 28 #[v] W fun e w' => e = .returned (.tuple #[.string (headB l), .nilIface]) ∧ Below W.heap.size W w') := Lib.hid (fun W v hW hr => by
    have hgf := fullP_good hg
    have := headOf_any (fullP l) v W hr (fun p hp => ⟨by have := (hgf.1 p hp).1; omega, (hgf.1 p hp).2⟩) (by rw [fullP_len]; exact hn1) (by rw [fullP_len]; exact hn) (ht.below hW) (hk.below hW)
    rw [hh] at this
    exact this)
  obtain ⟨t, ht2⟩ : ∃ t, t = fullB (headB l) := ⟨_, rfl⟩
  rw [← ht2] at HT ⊢
  obtain ⟨s, hs⟩ : ∃ s, s = headB l := ⟨_, rfl⟩
  rw [← hs] at HT HNU HH hne
  have HRQ := Lib.hid hq
  obtain ⟨m, hm⟩ : ∃ m, m = l.length := ⟨_, rfl⟩
  rw [← hm] at HNU hn hn1 ⊢
  have HM := Lib.hid hm
  clear hq h ho hl hS hg hv ht hk h10 hhs hh ht2 hs hm n2 hsz
  go_enter Tryz.func23, Tryz.ntmps23
  go_wp2_with fail
  refine HT.out.mono ?_
  rintro e w1 ⟨rfl, rfl⟩
  go_wp2_with fail
  refine HNU.out.mono ?_
  rintro e w2 ⟨v, rfl, hr2, hb2⟩
  obtain ⟨b, cap, rfl, hbB, _, hcap, hcm, _, _⟩ := hr2.pos (by omega)
  unfold maxLen at hcm
  have HR2 := Lib.hid hr2
  have HB2 := Lib.hid hb2
  clear hr2 hb2
  go_wp2_with fail
  go_loopw [25] (fun jv wr => ∃ j : Nat, jv = .int .i64 (j : Nat) ∧ j ≤ m ∧ Hid (Row 2 w1.heap.size wr (.slice (some ⟨b, 0, none⟩) m cap) m (pv (mixP l j))) ∧ Hid (Below w1.heap.size w1 wr)) (fun jv _ => m - (intOf jv).toNat)
  case atStart => exact ⟨0, rfl, Nat.zero_le _, Lib.hid (by simpa [mixP, fullP] using HR2.out), HB2⟩
  case round =>
    obtain ⟨j, rfl, hjm, HR, HB⟩ := hrel
    have cq := (HRQ.out.below HB.out).2
    by_cases hlt : j < m
    · obtain ⟨x, hx⟩ : ∃ x, l[j]? = some x := ⟨l[j]'(by rw [← HM.out]; exact hlt), by simp⟩
      obtain ⟨b', cap', hv', _, hbl, _, _, hfz, hce⟩ := HR.out.pos (by omega)
      injection hv' with e1 _ e3
      injection e1 with e1
      injection e1 with e1
      subst e1; subst e3
      have hc1 := hce _ _ (pv_at (mixP_at hx)).2
      have hf1 := (hfz (j * 2 + 1) (by omega)).2
      have hjI : (j : Int) < (m : Int) := by omega
      have hw1 : IntKind.i64.wrap (1 + (j : Int)) = 1 + (j : Int) := by rw [IntKind.wrap_i64]; omega
      have HRJ := Lib.hid (HRD.out wr HB.out j x hx)
      have hset := pv_set (mixP_at hx) (fullB x.2)
      rw [mixP_step hx] at hset
      have HST := Lib.hid hset
      have hjl : j * 2 + 1 < (pv (mixP l j)).length := by rw [pv_len, mixP_len, ← HM.out]; omega
      obtain ⟨F, hF⟩ : ∃ F, F = fullB x.2 := ⟨_, rfl⟩
      rw [← hF] at HRJ HST
      clear hx hce hfz hset hF
      go_wp2_with (first | (rw [hw1]) | fail)
      refine HRJ.out.mono ?_
      rintro e w5 ⟨rfl, hb5⟩
      have d1 := (hb5.cell (p := ⟨b, j * 2 + 1, none⟩) hbl).trans hc1
      have g1 := (hb5.frozen (p := ⟨b, j * 2 + 1, none⟩) hbl).trans hf1
      have HR5 := Lib.hid ((HR.out.below hb5).put (j := j * 2 + 1) hjl (.string F))
      rw [HST.out] at HR5
      have HB5 := Lib.hid ((HB.out.trans (hb5.mono HB.out.size)).setCell (p := ⟨b, j * 2 + 1, none⟩) hbB (.string F))
      clear hb5 hc1 hf1 hjl
      go_wp2_with fail
      exact ⟨⟨j + 1, by go_num, by omega, HR5, HB5⟩, by simp [intOf]; omega⟩
    · have hjj : m = j := by omega
      subst hjj
      have hr := HR.out
      have hmx : mixP l m = fullP l := by
        rw [mixP, List.take_of_length_le (by rw [← HM.out]; exact Nat.le_refl _), List.drop_of_length_le (by rw [← HM.out]; exact Nat.le_refl _)]
        simp [zeroP]
      rw [hmx] at hr
      have hr3 := hr
      have hml : m = (fullP l).length := by rw [fullP_len]; exact HM.out
      have hpr : PgR wr (.slice (some ⟨b, 0, none⟩) m cap) (ofP (fullP l)) := by
        have : Row 2 w1.heap.size wr (.slice (some ⟨b, 0, none⟩) m cap) (fullP l).length (pv (fullP l)) := by rw [← hml]; exact hr3
        exact pg_reads this
      have HHH := Lib.hid (HH.out wr _ HB.out hpr)
      have HRR := Lib.hid hr
      have hltI : ¬ (m : Int) < (m : Int) := by omega
      clear hr hr3 hpr hmx hml
      go_wp2_with fail
      refine HHH.out.mono ?_
      rintro e w6 ⟨rfl, hb6⟩
      have HB6 := Lib.hid hb6
      clear hb6
      go_wp2_with fail
      go_ret2
      exact ⟨_, rfl, HRR.out.below HB6.out, HB.out.trans (HB6.out.mono HB.out.size)⟩
end Go.Proofs.YthamfbfeokmhgaaGreatDoor
