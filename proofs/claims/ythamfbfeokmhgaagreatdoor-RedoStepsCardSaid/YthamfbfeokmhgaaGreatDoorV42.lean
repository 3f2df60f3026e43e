/- Pages by natural numbers, as they are handed in. putHead and settle. -/
import Derived.Test.YthamfbfeokmhgaaGreatDoorV38
import Derived.Test.YthamfbfeokmhgaaGreatDoorV40
import Derived.Test.YthamfbfeokmhgaaGreatDoorV41
set_option linter.unusedVariables false
namespace Go.Proofs.YthamfbfeokmhgaaGreatDoor
open Go.ChangeShapes Go.WideShapes Go.ChangeAt Go.RowKit

def ofP (l : Pgs) : RawP := l.map fun x => ((x.1 : Int), x.2)
theorem ofP_len (l : Pgs) : (ofP l).length = l.length := by simp [ofP]
theorem ofP_at {l : Pgs} {j : Nat} {x : Nat × ByteArray} (h : l[j]? = some x) : (ofP l)[j]? = some ((x.1 : Int), x.2) := by rw [ofP, List.getElem?_map, h]; rfl
theorem ofP_inv {l : Pgs} {j : Nat} {x : Int × ByteArray} (h : (ofP l)[j]? = some x) : ∃ y, l[j]? = some y ∧ x = ((y.1 : Int), y.2) := by
  rw [ofP, List.getElem?_map] at h
  cases e : l[j]? with
  | none => rw [e] at h; cases h
  | some y => rw [e] at h; injection h with h; exact ⟨y, rfl, h.symm⟩
theorem ofP_mem {l : Pgs} {x : Int × ByteArray} (h : x ∈ ofP l) : ∃ y ∈ l, x = ((y.1 : Int), y.2) := by
  obtain ⟨y, hy, e⟩ := List.mem_map.1 h
  exact ⟨y, hy, e.symm⟩
theorem pagB_at {l : Pgs} {j : Nat} {x : Nat × ByteArray} (h : l[j]? = some x) : (pagB l)[j]? = some (64 + x.1, x.2) := by rw [pagB, List.getElem?_map, h]; rfl
theorem okR_good {N : Nat} {l : Pgs} : okR N (ofP l) ↔ goodP N l := by
  unfold okR goodP
  have e : (ofP l).map Prod.fst = (l.map Prod.fst).map (fun n : Nat => (n : Int)) := by simp [ofP, List.map_map, Function.comp_def]
  rw [e]
  constructor
  · rintro ⟨h1, h2⟩
    refine ⟨fun x hx => ?_, ?_⟩
    · have := h1 ((x.1 : Int), x.2) (List.mem_map.2 ⟨x, hx, rfl⟩)
      exact ⟨by have := this.2.1; simp only at this; omega, this.2.2⟩
    · exact List.Pairwise.of_map _ (fun a b hab e => hab (by rw [e])) h2
  · rintro ⟨h1, h2⟩
    refine ⟨fun x hx => ?_, ?_⟩
    · obtain ⟨y, hy, rfl⟩ := ofP_mem hx
      have := h1 y hy
      exact ⟨by simp only; omega, by simp only; omega, this.2⟩
    · exact List.Pairwise.map _ (fun a b hab => by omega) h2
theorem okR_of {N : Nat} {r : RawP} (h : okR N r) : ∃ l : Pgs, r = ofP l ∧ goodP N l := by
  refine ⟨r.map fun x => (x.1.toNat, x.2), ?_, ?_⟩
  · have : ∀ x ∈ r, (((x.1.toNat : Nat) : Int), x.2) = x := fun x hx => by
      have := (h.1 x hx).1
      rw [Int.toNat_of_nonneg this]
    rw [ofP, List.map_map]
    conv => lhs; rw [← List.map_id r]
    exact (List.map_congr_left fun x hx => (this x hx).symm ▸ rfl)
  · rw [← okR_good]
    have e : ofP (r.map fun x => (x.1.toNat, x.2)) = r := by
      rw [ofP, List.map_map]
      conv => rhs; rw [← List.map_id r]
      exact List.map_congr_left fun x hx => by
        have := (h.1 x hx).1
        simp only [Function.comp]
        rw [Int.toNat_of_nonneg this]; rfl
    rw [e]; exact h
end Go.Proofs.YthamfbfeokmhgaaGreatDoor
set_option linter.unusedVariables false
set_option linter.unusedSimpArgs false
namespace Go.Proofs.YthamfbfeokmhgaaGreatDoor
open Go.ChangeShapes Go.WideShapes Go.ChangeAt Go.RowKit

set_option maxHeartbeats 1000000 in
theorem putHead_any {Z : Nat → Prop} {q p : Nat} {D : Dk} {wr : World} (s : ByteArray) (w : World) (hq : RQ w q p) (hqz : ¬ Z q) (h : DPost Z w p D wr) (hp : D.pend.length ≤ 950000) (hs : s.size ≤ 140737488355328) :
    Calls Tryz.prog 31 #[.pointer (some ⟨q, 0, none⟩), .string s] wr fun e w' => e = .returned (errS (putD D [(0, s)]).2) ∧ DPost Z w p (putD D [(0, s)]).1 w' := by
  have cq := (hq.off h.off hqz).2
  have hput : putD D [(0, s)] = if (writeD D 0 s).2 = 0 then flushD (writeD D 0 s).1 else writeD D 0 s := rfl
  have HW := Lib.hid (dwrite_any h 0 s (by omega) hs)
  have hpn := write_pend D 0 s
  rw [hput]
  have HQ := Lib.hid hq
  have HQZ := Lib.hid hqz
  clear h hq hqz hput
  obtain ⟨E2, hE2⟩ : ∃ E2, E2 = writeD D 0 s := ⟨_, rfl⟩
  simp only [← hE2] at HW hpn ⊢
  obtain ⟨F, k⟩ := E2
  simp only at HW hpn ⊢
  clear hE2
  by_cases hk : k = 0
  · subst hk
    rw [if_pos rfl]
    simp only [errS_zero] at HW
    go_enter Tryz.func31, Tryz.ntmps31
    go_wp2_with fail
    refine HW.out.mono ?_
    rintro e w1 ⟨rfl, hd1⟩
    have cq1 := (HQ.out.off hd1.off HQZ.out).2
    have HF := Lib.hid (dflush_any hd1 (by omega))
    clear hd1
    go_wp2_with fail
    refine HF.out.mono ?_
    rintro e w2 ⟨rfl, hd2⟩
    have HD2 := Lib.hid hd2
    clear hd2
    go_wp2_with fail
    go_ret
    exact ⟨by simp, HD2.out⟩
  · rw [if_neg hk]
    simp only [errS_ne hk] at HW ⊢
    clear hk
    go_enter Tryz.func31, Tryz.ntmps31
    go_wp2_with fail
    refine HW.out.mono ?_
    rintro e w1 ⟨rfl, hd1⟩
    have HD1 := Lib.hid hd1
    clear hd1
    go_wp2_with fail
    go_ret
    exact ⟨by simp, HD1.out⟩

theorem settleBs_run (D : Dk) (l : Pgs) : runD D (settleBs l) = if (putD D (pagB l)).2 = 0 then putD (putD D (pagB l)).1 clearB else putD D (pagB l) := by
  show (if (putD D (pagB l)).2 = 0 then (if (putD (putD D (pagB l)).1 clearB).2 = 0 then ((putD (putD D (pagB l)).1 clearB).1, (0 : Int)) else putD (putD D (pagB l)).1 clearB) else putD D (pagB l)) = _
  split
  · split
    · rename_i _ e
      rw [← e]
    · rfl
  · rfl
set_option maxHeartbeats 1000000 in
theorem settle_any {Z : Nat → Prop} {q p : Nat} {D : Dk} {wr : World} (v : Value) (l : Pgs) (w : World) (hq : RQ w q p) (hqz : ¬ Z q) (h : DPost Z w p D wr) (hl : PgR wr v (ofP l)) (hlz : l ≠ [] → ∀ Z', (∀ i, Z' i → Z i ∨ w.heap.size ≤ i) → DX Z' wr p D → PgZ Z' v) (hl9 : l.length ≤ 1000) (hg : goodP (D.sure.length - 64) l) (hp : D.pend.length ≤ 900000) :
    Calls Tryz.prog 24 #[.pointer (some ⟨q, 0, none⟩), v] wr fun e w' => e = .returned (errS (runD D (settleBs l)).2) ∧ DPost Z w p (runD D (settleBs l)).1 w' := by
  obtain ⟨a, c, rfl⟩ := hl.form
  rw [settleBs_run]
  obtain ⟨wb, hwb⟩ : ∃ wb, wb = wr.alloc (.cells #[.slice a (ofP l).length c] 37) := ⟨_, rfl⟩
  obtain ⟨k0, hk0⟩ : ∃ k0, k0 = wr.heap.size := ⟨_, rfl⟩
  have hbb : Below wr.heap.size wr wb := by rw [hwb]; exact (Below.refl _ _).alloc (Nat.le_refl _) _
  have hk : wb.cell? ⟨k0, 0, none⟩ = some (.slice a (ofP l).length c) := by rw [hwb, hk0, World.cell?_alloc_at _ _ _ _ rfl]; rfl
  have hks : k0 < wb.heap.size := by rw [hwb, hk0]; simp
  obtain ⟨Z1, h1, h2, h3, h4⟩ := h.has
  have hq1 : RQ wb q p := (hq.off h.off hqz).below hbb
  have hqz1 : ¬ Z1 q := h4 q hq.1 hqz
  have hlb := hl.below hbb
  have hkz : ¬ Z1 k0 := fun e => by have := h1.zlt k0 e; omega
  have hne : ofP l ≠ [] → l ≠ [] := fun h e => h (by rw [e]; rfl)
  have n2 := h1.ok.n2
  have HP := Lib.hid (putS_any (k0 := k0) (.slice a (ofP l).length c) (ofP l) (pagB l) (fun j => 64 + (l.getD j (0, ByteArray.empty)).1) wb hq1 hqz1 (h1.below hbb) hlb (fun hn => hlz (hne hn) Z1 h3 h1) (by rw [ofP_len]; omega) (by rw [ofP_len]; omega) (fun x hx => by obtain ⟨y, hy, rfl⟩ := ofP_mem hx; exact (hg.1 y hy).2)
    (by rw [pag_len, ofP_len]) (fun j x hx => by obtain ⟨y, hy, rfl⟩ := ofP_inv hx; rw [pagB_at hy, List.getD_eq_getElem?_getD, hy]; rfl)
    (fun W hW j hj => by
      rw [ofP_len] at hj
      obtain ⟨y, hy⟩ : ∃ y, l[j]? = some y := ⟨l[j]'hj, by simp⟩
      have hyg := (hg.1 y (List.mem_of_getElem? hy)).1
      have := settle1_any j k0 (.slice a (ofP l).length c) (ofP l) _ W ((hW.cell (p := ⟨k0, 0, none⟩) hks hkz).trans hk) (by
        by_cases e : l = []
        · subst e; simp at hj
        · exact hlb.off hW (hlz e Z1 h3 h1)) (ofP_at hy) (by rw [ofP_len]; omega) (by simp only; omega) (by simp only; omega)
      rw [List.getD_eq_getElem?_getD, hy]
      exact this))
  have HQ := Lib.hid hq
  have HQZ := Lib.hid hqz
  have hfin : ∀ E w', DPost Z1 wb p E w' → DPost Z w p E w' := fun E w' hE => DPost.step (h2.trans (Off.of_below hbb)) h3 hE
  have HFI := Lib.hid hfin
  have HPN := Lib.hid (put_pend (pagB l) (D := D))
  rw [pag_len] at HPN
  obtain ⟨E2, hE2⟩ : ∃ E2, E2 = putD D (pagB l) := ⟨_, rfl⟩
  have HWB := Lib.hid hwb
  have HK0 := Lib.hid hk0
  have hcap : True := trivial
  clear h hq hqz hl hlz hg hbb hk hks h1 h2 h3 h4 hq1 hqz1 hlb hkz hne hfin hwb hk0
  simp only [← hE2] at HP HPN ⊢
  obtain ⟨F, k⟩ := E2
  simp only at HP HPN ⊢
  clear hE2
  obtain ⟨m, hm⟩ : ∃ m, m = (ofP l).length := ⟨_, rfl⟩
  rw [← hm] at HP HWB ⊢
  clear hm
  by_cases hk : k = 0
  · subst hk
    rw [if_pos rfl]
    simp only [errS_zero] at HP
    go_enter Tryz.func24, Tryz.ntmps24
    go_wp2_with fail
    rw [← HK0.out, ← HWB.out]
    refine HP.out.mono ?_
    rintro e w1 ⟨rfl, hd1⟩
    have hd1 := HFI.out _ _ hd1
    have HH := Lib.hid (putHead_any ByteArray.empty w HQ.out HQZ.out hd1 (by have := HPN.out; omega) (by decide))
    clear hd1
    go_wp2_with fail
    refine HH.out.mono ?_
    rintro e w2 ⟨rfl, hd2⟩
    have HD2 := Lib.hid hd2
    clear hd2
    go_wp2_with fail
    go_ret
    exact ⟨by simp [clearB], HD2.out⟩
  · rw [if_neg hk]
    simp only [errS_ne hk] at HP ⊢
    clear hk
    go_enter Tryz.func24, Tryz.ntmps24
    go_wp2_with fail
    rw [← HK0.out, ← HWB.out]
    refine HP.out.mono ?_
    rintro e w1 ⟨rfl, hd1⟩
    have HD1 := Lib.hid (HFI.out _ _ hd1)
    clear hd1
    go_wp2_with fail
    go_ret
    exact ⟨by simp, HD1.out⟩
end Go.Proofs.YthamfbfeokmhgaaGreatDoor
