/- right: are these pages that a commit may have? Pages by natural numbers, as they are handed in. putHead and settle. -/
import Derived.Test.YthamfbfeokmhgaaGreatDoorU32
import Derived.Test.YthamfbfeokmhgaaGreatDoorU34
import Derived.Test.YthamfbfeokmhgaaGreatDoorU35
set_option linter.unusedVariables false
set_option linter.unusedSimpArgs false
namespace Go.Proofs.YthamfbfeokmhgaaGreatDoor
open Go.ChangeShapes Go.WideShapes Go.ChangeAt Go.RowKit

def okR (N : Nat) (l : RawP) : Prop := (∀ x ∈ l, 0 ≤ x.1 ∧ x.1 < (N : Int) ∧ x.2.size ≤ 512) ∧ (l.map Prod.fst).Nodup
instance (N : Nat) (l : RawP) : Decidable (okR N l) := by unfold okR; infer_instance
def seenB (l : RawP) (i : Nat) : Bool := decide (∃ x ∈ l, x.1 = (i : Int))
def seenV (N : Nat) (l : RawP) : List Value := (List.range N).map fun i => .bool (seenB l i)
theorem seenV_len (N : Nat) (l : RawP) : (seenV N l).length = N := by simp [seenV]
theorem seenV_at {N : Nat} (l : RawP) {i : Nat} (h : i < N) : (seenV N l)[i]? = some (.bool (seenB l i)) := by
  rw [seenV, List.getElem?_map, List.getElem?_range h]; rfl
theorem seenV_nil (N : Nat) : seenV N [] = List.replicate N (.bool false) := by
  apply List.ext_getElem?
  intro i
  by_cases h : i < N
  · rw [seenV_at _ h, List.getElem?_replicate, if_pos h]; rfl
  · rw [List.getElem?_eq_none (by rw [seenV_len]; omega), List.getElem?_eq_none (by simp; omega)]
theorem seenV_snoc {N : Nat} (l : RawP) {k : Nat} (s : ByteArray) (h : k < N) : (seenV N l).set k (.bool true) = seenV N (l ++ [((k : Int), s)]) := by
  apply List.ext_getElem?
  intro i
  by_cases hi : i < N
  · rw [seenV_at _ hi]
    by_cases e : k = i
    · subst e
      rw [List.getElem?_set_self (by rw [seenV_len]; exact h)]
      have : seenB (l ++ [((k : Int), s)]) k = true := decide_eq_true ⟨_, List.mem_append_right _ (List.mem_singleton.2 rfl), rfl⟩
      rw [this]
    · rw [List.getElem?_set_ne e, seenV_at _ hi]
      have : seenB (l ++ [((k : Int), s)]) i = seenB l i := by
        unfold seenB
        apply decide_eq_decide.2
        constructor
        · rintro ⟨x, hx, hxe⟩
          rcases List.mem_append.1 hx with hx | hx
          · exact ⟨x, hx, hxe⟩
          · rw [List.mem_singleton] at hx
            subst hx
            simp only at hxe
            omega
        · rintro ⟨x, hx, hxe⟩
          exact ⟨x, List.mem_append_left _ hx, hxe⟩
      rw [this]
  · rw [List.getElem?_eq_none (by rw [List.length_set, seenV_len]; omega), List.getElem?_eq_none (by rw [seenV_len]; omega)]
theorem okR_nil (N : Nat) : okR N [] := ⟨by simp, by simp⟩
theorem okR_step {N : Nat} {l : RawP} {k : Nat} {s : ByteArray} (h : okR N l) (hk : k < N) (hs : s.size ≤ 512) (hn : seenB l k = false) : okR N (l ++ [((k : Int), s)]) := by
  have hno : ¬ ∃ x ∈ l, x.1 = (k : Int) := of_decide_eq_false hn
  refine ⟨fun x hx => ?_, ?_⟩
  · rcases List.mem_append.1 hx with hx | hx
    · exact h.1 x hx
    · rw [List.mem_singleton] at hx
      subst hx
      exact ⟨by simp only; omega, by simp only; omega, hs⟩
  · rw [List.map_append, List.nodup_append]
    refine ⟨h.2, by simp, ?_⟩
    intro a ha b hb e
    rw [List.map_singleton, List.mem_singleton] at hb
    subst hb; subst e
    obtain ⟨x, hx, he⟩ := List.mem_map.1 ha
    exact hno ⟨x, hx, he⟩
theorem okR_no {N : Nat} {l : RawP} {j : Nat} {x : Int × ByteArray} (hx : l[j]? = some x) (h : ¬ (0 ≤ x.1 ∧ x.1 < (N : Int)) ∨ 512 < x.2.size) : ¬ okR N l := fun hk => by
  have := hk.1 x (List.mem_of_getElem? hx)
  omega
theorem okR_twice {N : Nat} {l : RawP} {j : Nat} {x : Int × ByteArray} (hx : l[j]? = some x) (h : ∃ y ∈ l.take j, y.1 = x.1) : ¬ okR N l := fun hk => by
  obtain ⟨y, hy, e⟩ := h
  obtain ⟨i, hi, hyi⟩ := List.mem_iff_getElem.1 hy
  rw [List.length_take] at hi
  rw [List.getElem_take] at hyi
  have a1 : (l.map Prod.fst)[i]? = some x.1 := by rw [List.getElem?_map, List.getElem?_eq_getElem (by omega), hyi]; simp [e]
  have a2 : (l.map Prod.fst)[j]? = some x.1 := by rw [List.getElem?_map, hx]; rfl
  have := (List.getElem?_inj (by simp; omega) hk.2).1 (a1.trans a2.symm)
  omega
theorem infoBl : (Tryz.prog.info? 4).map (fun i => (i.zero, i.size, i.bytes)) = some (some (.bool false), 1, 1) := by kernel_rfl
abbrev mkB (n : Nat) : Obj := .cells (madeCells #[.bool false] n) 4
theorem made_bl {w : World} {n : Nat} (hn : n ≤ 1000000) : Row 1 0 (w.alloc (mkB n)) (.slice (some ⟨w.heap.size, 0, none⟩) n n) n (seenV n []) :=
  row_new (Nat.zero_le _) (by rw [seenV_len]; omega) (Nat.le_refl _) (by unfold maxLen; omega) (by simp [size_madeCells]) (.inl rfl) (fun j u hu => by
    rw [seenV_nil] at hu
    have hj : j < n := by have := (List.getElem?_eq_some_iff.1 hu).1; simpa using this
    rw [List.getElem?_replicate, if_pos hj] at hu
    cases hu
    simp [madeCells, hj, Nat.mod_one])
set_option maxHeartbeats 2000000 in
set_option maxRecDepth 100000 in
theorem rright_any {Z : Nat → Prop} {q p : Nat} {D : Dk} (v : Value) (l : RawP) (w : World) (hq : RQ w q p) (h : DX Z w p D) (hl : PgR w v l) (hl9 : l.length ≤ 1000000) : Calls Tryz.prog 27 #[.pointer (some ⟨q, 0, none⟩), v] w fun e w' => e = .returned (.bool (decide (okR (D.sure.length - 64) l))) ∧ Below w.heap.size w w' := by
  have n2 := h.ok.n2
  have HP := Lib.hid (rpages_any w hq h)
  have HH := Lib.hid (fun (i : Int) (W : World) (hW : Below w.heap.size w W) => rhas_any i W (hq.below hW) (h.below hW))
  obtain ⟨N, hN⟩ : ∃ N, N = D.sure.length - 64 := ⟨_, rfl⟩
  rw [← hN] at HP HH ⊢
  have hN9 : N ≤ 5000 := by omega
  clear hN n2 hq h
  obtain ⟨a, c, rfl⟩ := hl.form
  obtain ⟨m, hm⟩ : ∃ m, m = l.length := ⟨_, rfl⟩
  rw [← hm] at hl hl9 ⊢
  have HM := Lib.hid hm
  have HL := Lib.hid hl
  clear hl hm
  have mk1 := run_make_row' (P := Tryz.prog) 38 4 (.bool false) 1 Tryz.underlying38 infoBl rfl .i64 .i64 N (by omega) (by omega)
  have HB0 : Hid (Below w.heap.size w (w.alloc (mkB N))) := Lib.hid ((Below.refl _ _).alloc (Nat.le_refl _) _)
  have HR0 := Lib.hid (made_bl (w := w) (n := N) (by omega))
  go_enter Tryz.func27, Tryz.ntmps27
  go_wp2_with fail
  refine HP.out.mono ?_
  rintro e w1 ⟨rfl, rfl⟩
  go_wp2_with fail
  obtain ⟨b0, hb0⟩ : ∃ b0, b0 = w1.heap.size := ⟨_, rfl⟩
  obtain ⟨W1, hW1⟩ : ∃ W1, W1 = w1.alloc (mkB N) := ⟨_, rfl⟩
  rw [← hW1, ← hb0] at HR0
  rw [← hW1] at HB0
  go_loopw [13] (fun jv wr => ∃ j : Nat, jv = .int .i64 (j : Nat) ∧ j ≤ m ∧ Hid (Row 1 0 wr (.slice (some ⟨b0, 0, none⟩) N N) N (seenV N (l.take j))) ∧ Hid (okR N (l.take j)) ∧ Hid (Below w1.heap.size w1 wr) ∧ Hid (b0 < wr.heap.size)) (fun jv _ => m - (intOf jv).toNat)
  case atStart => exact ⟨0, rfl, Nat.zero_le _, by rw [← hW1]; simpa using HR0, Lib.hid (by simpa using okR_nil N), by rw [← hW1]; exact HB0, Lib.hid (by rw [hb0]; simp)⟩
  case round =>
    obtain ⟨j, rfl, hjm, HR, HK, HB, HLT⟩ := hrel
    clear hW1 HB0 HR0 mk1
    by_cases hlt : j < m
    · obtain ⟨x, hx⟩ : ∃ x, l[j]? = some x := ⟨l[j]'(by rw [← HM.out]; exact hlt), by simp⟩
      obtain ⟨b, o, rfl, hbl, hmc, hcm, d0, d1⟩ := (HL.out.below HB.out).at hx
      unfold maxLen at hcm
      obtain ⟨i, s⟩ := x
      simp only at d0 d1
      have hjI : (j : Int) < (m : Int) := by omega
      obtain ⟨z, hz⟩ : ∃ z, z = wr.heap.size := ⟨_, rfl⟩
      obtain ⟨wz, hwz⟩ : ∃ wz, wz = wr.alloc (.cells #[.int .i64 i, .string s] 49) := ⟨_, rfl⟩
      have hbz : Below wr.heap.size wr wz := by rw [hwz]; exact (Below.refl _ _).alloc (Nat.le_refl _) _
      have z0 : wz.cell? ⟨z, 0, none⟩ = some (.int .i64 i) := by rw [hwz, hz, World.cell?_alloc_at _ _ _ _ rfl]; rfl
      have z1 : wz.cell? ⟨z, 1, none⟩ = some (.string s) := by rw [hwz, hz, World.cell?_alloc_at _ _ _ _ rfl]; rfl
      have HBZ := Lib.hid (HB.out.trans (hbz.mono HB.out.size))
      have HRZ := Lib.hid (HR.out.below hbz)
      have HLZ := Lib.hid (Nat.lt_of_lt_of_le HLT.out hbz.size)
      have HHJ := Lib.hid (HH.out i wz HBZ.out)
      have HX := Lib.hid hx
      have HWZ := Lib.hid hwz
      have HZ := Lib.hid hz
      have HTK : Hid (l.take (j + 1) = l.take j ++ [(i, s)]) := Lib.hid (by rw [List.take_add_one, hx]; rfl)
      clear hx hbz hwz hbl HR HB
      by_cases hin : 0 ≤ i ∧ i < (N : Int)
      · rw [decide_eq_true hin] at HHJ
        obtain ⟨k, rfl⟩ : ∃ k : Nat, i = (k : Int) := ⟨i.toNat, by omega⟩
        have hkN : k < N := by omega
        have hkI : (k : Int) < (N : Int) := hin.2
        obtain ⟨t, ht⟩ : ∃ t, t = seenB (l.take j) k := ⟨_, rfl⟩
        obtain ⟨xs, fs, _⟩ := HRZ.out.cellF (seenV_at (l.take j) hkN)
        rw [← ht, hb0] at xs
        rw [hb0] at fs HRZ
        cases t with
        | true =>
          have hno : ¬ okR N l := okR_twice HX.out (of_decide_eq_true ht.symm)
          have HNO := Lib.hid (decide_eq_false hno)
          clear hno ht hz
          go_wp2_with fail
          rw [← HZ.out, ← HWZ.out]
          refine HHJ.out.mono ?_
          rintro e w5 ⟨rfl, rfl⟩
          go_wp2_with fail
          go_ret
          exact ⟨by rw [HNO.out]; simp, HBZ.out⟩
        | false =>
          by_cases hs : 512 < s.size
          · have hno : ¬ okR N l := okR_no HX.out (.inr hs)
            have HNO := Lib.hid (decide_eq_false hno)
            have hsI : (512 : Int) < (s.size : Int) := by omega
            clear hno ht hz
            go_wp2_with fail
            rw [← HZ.out, ← HWZ.out]
            refine HHJ.out.mono ?_
            rintro e w5 ⟨rfl, rfl⟩
            go_wp2_with fail
            go_ret
            exact ⟨by rw [HNO.out]; simp, HBZ.out⟩
          · have hsI : ¬ (512 : Int) < (s.size : Int) := by omega
            have HK2 := Lib.hid (okR_step HK.out hkN (Nat.le_of_not_lt hs) ht.symm)
            have HRP := Lib.hid (HRZ.out.put (j := k) (by rw [seenV_len]; exact hkN) (.bool true))
            rw [seenV_snoc _ s hkN, ← HTK.out] at HRP
            rw [← HTK.out] at HK2
            clear ht hz
            go_wp2_with fail
            rw [← HZ.out, ← HWZ.out]
            refine HHJ.out.mono ?_
            rintro e w5 ⟨rfl, rfl⟩
            go_wp2_with fail
            exact ⟨⟨j + 1, by go_num, by omega, by rw [hb0]; exact HRP, HK2, Lib.hid (HBZ.out.setCell (p := ⟨w1.heap.size, k, none⟩) (Nat.le_refl _) _), Lib.hid (by simpa [World.setCell] using HLZ.out)⟩, by simp [intOf]; omega⟩
      · rw [decide_eq_false hin] at HHJ
        have hno : ¬ okR N l := okR_no HX.out (.inl hin)
        have HNO := Lib.hid (decide_eq_false hno)
        clear hno hz
        go_wp2_with fail
        rw [← HZ.out, ← HWZ.out]
        refine HHJ.out.mono ?_
        rintro e w5 ⟨rfl, rfl⟩
        go_wp2_with fail
        go_ret
        exact ⟨by rw [HNO.out]; simp, HBZ.out⟩
    · have hjj : m = j := by omega
      have hk := HK.out
      rw [List.take_of_length_le (by rw [← HM.out]; omega)] at hk
      have HYES := Lib.hid (decide_eq_true hk)
      clear hk
      have hltI : ¬ (j : Int) < (m : Int) := by omega
      go_wp2_with fail
      go_ret
      exact ⟨by rw [HYES.out]; simp, HB.out⟩
end Go.Proofs.YthamfbfeokmhgaaGreatDoor
set_option linter.unusedVariables false
namespace Go.Proofs.YthamfbfeokmhgaaGreatDoor
open Go.ChangeShapes Go.WideShapes Go.ChangeAt Go.RowKit

def ofP (l : Pgs) : RawP := l.map fun x => ((x.1 : Int), x.2)
theorem ofP_len (l : Pgs) : (ofP l).length = l.length := by simp [ofP]
theorem ofP_at {l : Pgs} {j : Nat} {x : Nat × ByteArray} (h : l[j]? = some x) : (ofP l)[j]? = some ((x.1 : Int), x.2) := by rw [ofP, List.getElem?_map, h]; rfl
theorem ofP_inv {l : Pgs} {j : Nat} {x : Int × ByteArray} (h : (ofP l)[j]? = some x) : ∃ y, l[j]? = some y ∧ x = ((y.1 : Int), y.2) := by
  rw [ofP, List.getElem?_map] at h
  cases e : l[j]? with
  | none => rw [e] at h; cases h
  | some y => rw [e] at h; injection h with h; exact ⟨y, rfl, h.symm⟩
theorem ofP_mem {l : Pgs} {x : Int × ByteArray} (h : x ∈ ofP l) : ∃ y ∈ l, x = ((y.1 : Int), y.2) := by
  obtain ⟨y, hy, e⟩ := List.mem_map.1 h
  exact ⟨y, hy, e.symm⟩
theorem pagB_at {l : Pgs} {j : Nat} {x : Nat × ByteArray} (h : l[j]? = some x) : (pagB l)[j]? = some (64 + x.1, x.2) := by rw [pagB, List.getElem?_map, h]; rfl
theorem okR_good {N : Nat} {l : Pgs} : okR N (ofP l) ↔ goodP N l := by
  unfold okR goodP
  have e : (ofP l).map Prod.fst = (l.map Prod.fst).map (fun n : Nat => (n : Int)) := by simp [ofP, List.map_map, Function.comp_def]
  rw [e]
  constructor
  · rintro ⟨h1, h2⟩
    refine ⟨fun x hx => ?_, ?_⟩
    · have := h1 ((x.1 : Int), x.2) (List.mem_map.2 ⟨x, hx, rfl⟩)
      exact ⟨by have := this.2.1; simp only at this; omega, this.2.2⟩
    · exact List.Pairwise.of_map _ (fun a b hab e => hab (by rw [e])) h2
  · rintro ⟨h1, h2⟩
    refine ⟨fun x hx => ?_, ?_⟩
    · obtain ⟨y, hy, rfl⟩ := ofP_mem hx
      have := h1 y hy
      exact ⟨by simp only; omega, by simp only; omega, this.2⟩
    · exact List.Pairwise.map _ (fun a b hab => by omega) h2
theorem okR_of {N : Nat} {r : RawP} (h : okR N r) : ∃ l : Pgs, r = ofP l ∧ goodP N l := by
  refine ⟨r.map fun x => (x.1.toNat, x.2), ?_, ?_⟩
  · have : ∀ x ∈ r, (((x.1.toNat : Nat) : Int), x.2) = x := fun x hx => by
      have := (h.1 x hx).1
      rw [Int.toNat_of_nonneg this]
    rw [ofP, List.map_map]
    conv => lhs; rw [← List.map_id r]
    exact (List.map_congr_left fun x hx => (this x hx).symm ▸ rfl)
  · rw [← okR_good]
    have e : ofP (r.map fun x => (x.1.toNat, x.2)) = r := by
      rw [ofP, List.map_map]
      conv => rhs; rw [← List.map_id r]
      exact List.map_congr_left fun x hx => by
        have := (h.1 x hx).1
        simp only [Function.comp]
        rw [Int.toNat_of_nonneg this]; rfl
    rw [e]; exact h
end Go.Proofs.YthamfbfeokmhgaaGreatDoor
set_option linter.unusedVariables false
set_option linter.unusedSimpArgs false
namespace Go.Proofs.YthamfbfeokmhgaaGreatDoor
open Go.ChangeShapes Go.WideShapes Go.ChangeAt Go.RowKit

set_option maxHeartbeats 1000000 in
theorem putHead_any {Z : Nat → Prop} {q p : Nat} {D : Dk} {wr : World} (s : ByteArray) (w : World) (hq : RQ w q p) (hqz : ¬ Z q) (h : DPost Z w p D wr) (hp : D.pend.length ≤ 950000) (hs : s.size ≤ 140737488355328) :
    Calls Tryz.prog 31 #[.pointer (some ⟨q, 0, none⟩), .string s] wr fun e w' => e = .returned (errS (putD D [(0, s)]).2) ∧ DPost Z w p (putD D [(0, s)]).1 w' := by
  have cq := (hq.off h.off hqz).2
  have hput : putD D [(0, s)] = if (writeD D 0 s).2 = 0 then flushD (writeD D 0 s).1 else writeD D 0 s := rfl
  have HW := Lib.hid (dwrite_any h 0 s (by omega) hs)
  have hpn := write_pend D 0 s
  rw [hput]
  have HQ := Lib.hid hq
  have HQZ := Lib.hid hqz
  clear h hq hqz hput
  obtain ⟨E2, hE2⟩ : ∃ E2, E2 = writeD D 0 s := ⟨_, rfl⟩
  simp only [← hE2] at HW hpn ⊢
  obtain ⟨F, k⟩ := E2
  simp only at HW hpn ⊢
  clear hE2
  by_cases hk : k = 0
  · subst hk
    rw [if_pos rfl]
    simp only [errS_zero] at HW
    go_enter Tryz.func31, Tryz.ntmps31
    go_wp2_with fail
    refine HW.out.mono ?_
    rintro e w1 ⟨rfl, hd1⟩
    have cq1 := (HQ.out.off hd1.off HQZ.out).2
    have HF := Lib.hid (dflush_any hd1 (by omega))
    clear hd1
    go_wp2_with fail
    refine HF.out.mono ?_
    rintro e w2 ⟨rfl, hd2⟩
    have HD2 := Lib.hid hd2
    clear hd2
    go_wp2_with fail
    go_ret
    exact ⟨by simp, HD2.out⟩
  · rw [if_neg hk]
    simp only [errS_ne hk] at HW ⊢
    clear hk
    go_enter Tryz.func31, Tryz.ntmps31
    go_wp2_with fail
    refine HW.out.mono ?_
    rintro e w1 ⟨rfl, hd1⟩
    have HD1 := Lib.hid hd1
    clear hd1
    go_wp2_with fail
    go_ret
    exact ⟨by simp, HD1.out⟩

theorem settleBs_run (D : Dk) (l : Pgs) : runD D (settleBs l) = if (putD D (pagB l)).2 = 0 then putD (putD D (pagB l)).1 clearB else putD D (pagB l) := by
  show (if (putD D (pagB l)).2 = 0 then (if (putD (putD D (pagB l)).1 clearB).2 = 0 then ((putD (putD D (pagB l)).1 clearB).1, (0 : Int)) else putD (putD D (pagB l)).1 clearB) else putD D (pagB l)) = _
  split
  · split
    · rename_i _ e
      rw [← e]
    · rfl
  · rfl
set_option maxHeartbeats 1000000 in
theorem settle_any {Z : Nat → Prop} {q p : Nat} {D : Dk} {wr : World} (v : Value) (l : Pgs) (w : World) (hq : RQ w q p) (hqz : ¬ Z q) (h : DPost Z w p D wr) (hl : PgR wr v (ofP l)) (hlz : l ≠ [] → ∀ Z', (∀ i, Z' i → Z i ∨ w.heap.size ≤ i) → DX Z' wr p D → PgZ Z' v) (hl9 : l.length ≤ 1000) (hg : goodP (D.sure.length - 64) l) (hp : D.pend.length ≤ 900000) :
    Calls Tryz.prog 24 #[.pointer (some ⟨q, 0, none⟩), v] wr fun e w' => e = .returned (errS (runD D (settleBs l)).2) ∧ DPost Z w p (runD D (settleBs l)).1 w' := by
  obtain ⟨a, c, rfl⟩ := hl.form
  rw [settleBs_run]
  obtain ⟨wb, hwb⟩ : ∃ wb, wb = wr.alloc (.cells #[.slice a (ofP l).length c] 37) := ⟨_, rfl⟩
  obtain ⟨k0, hk0⟩ : ∃ k0, k0 = wr.heap.size := ⟨_, rfl⟩
  have hbb : Below wr.heap.size wr wb := by rw [hwb]; exact (Below.refl _ _).alloc (Nat.le_refl _) _
  have hk : wb.cell? ⟨k0, 0, none⟩ = some (.slice a (ofP l).length c) := by rw [hwb, hk0, World.cell?_alloc_at _ _ _ _ rfl]; rfl
  have hks : k0 < wb.heap.size := by rw [hwb, hk0]; simp
  obtain ⟨Z1, h1, h2, h3, h4⟩ := h.has
  have hq1 : RQ wb q p := (hq.off h.off hqz).below hbb
  have hqz1 : ¬ Z1 q := h4 q hq.1 hqz
  have hlb := hl.below hbb
  have hkz : ¬ Z1 k0 := fun e => by have := h1.zlt k0 e; omega
  have hne : ofP l ≠ [] → l ≠ [] := fun h e => h (by rw [e]; rfl)
  have n2 := h1.ok.n2
  have HP := Lib.hid (putS_any (k0 := k0) (.slice a (ofP l).length c) (ofP l) (pagB l) (fun j => 64 + (l.getD j (0, ByteArray.empty)).1) wb hq1 hqz1 (h1.below hbb) hlb (fun hn => hlz (hne hn) Z1 h3 h1) (by rw [ofP_len]; omega) (by rw [ofP_len]; omega) (fun x hx => by obtain ⟨y, hy, rfl⟩ := ofP_mem hx; exact (hg.1 y hy).2)
    (by rw [pag_len, ofP_len]) (fun j x hx => by obtain ⟨y, hy, rfl⟩ := ofP_inv hx; rw [pagB_at hy, List.getD_eq_getElem?_getD, hy]; rfl)
    (fun W hW j hj => by
      rw [ofP_len] at hj
      obtain ⟨y, hy⟩ : ∃ y, l[j]? = some y := ⟨l[j]'hj, by simp⟩
      have hyg := (hg.1 y (List.mem_of_getElem? hy)).1
      have := settle1_any j k0 (.slice a (ofP l).length c) (ofP l) _ W ((hW.cell (p := ⟨k0, 0, none⟩) hks hkz).trans hk) (by
        by_cases e : l = []
        · subst e; simp at hj
        · exact hlb.off hW (hlz e Z1 h3 h1)) (ofP_at hy) (by rw [ofP_len]; omega) (by simp only; omega) (by simp only; omega)
      rw [List.getD_eq_getElem?_getD, hy]
      exact this))
  have HQ := Lib.hid hq
  have HQZ := Lib.hid hqz
  have hfin : ∀ E w', DPost Z1 wb p E w' → DPost Z w p E w' := fun E w' hE => DPost.step (h2.trans (Off.of_below hbb)) h3 hE
  have HFI := Lib.hid hfin
  have HPN := Lib.hid (put_pend (pagB l) (D := D))
  rw [pag_len] at HPN
  obtain ⟨E2, hE2⟩ : ∃ E2, E2 = putD D (pagB l) := ⟨_, rfl⟩
  have HWB := Lib.hid hwb
  have HK0 := Lib.hid hk0
  have hcap : True := trivial
  clear h hq hqz hl hlz hg hbb hk hks h1 h2 h3 h4 hq1 hqz1 hlb hkz hne hfin hwb hk0
  simp only [← hE2] at HP HPN ⊢
  obtain ⟨F, k⟩ := E2
  simp only at HP HPN ⊢
  clear hE2
  obtain ⟨m, hm⟩ : ∃ m, m = (ofP l).length := ⟨_, rfl⟩
  rw [← hm] at HP HWB ⊢
  clear hm
  by_cases hk : k = 0
  · subst hk
    rw [if_pos rfl]
    simp only [errS_zero] at HP
    go_enter Tryz.func24, Tryz.ntmps24
    go_wp2_with fail
    rw [← HK0.out, ← HWB.out]
    refine HP.out.mono ?_
    rintro e w1 ⟨rfl, hd1⟩
    have hd1 := HFI.out _ _ hd1
    have HH := Lib.hid (putHead_any ByteArray.empty w HQ.out HQZ.out hd1 (by have := HPN.out; omega) (by decide))
    clear hd1
    go_wp2_with fail
    refine HH.out.mono ?_
    rintro e w2 ⟨rfl, hd2⟩
    have HD2 := Lib.hid hd2
    clear hd2
    go_wp2_with fail
    go_ret
    exact ⟨by simp [clearB], HD2.out⟩
  · rw [if_neg hk]
    simp only [errS_ne hk] at HP ⊢
    clear hk
    go_enter Tryz.func24, Tryz.ntmps24
    go_wp2_with fail
    rw [← HK0.out, ← HWB.out]
    refine HP.out.mono ?_
    rintro e w1 ⟨rfl, hd1⟩
    have HD1 := Lib.hid (HFI.out _ _ hd1)
    clear hd1
    go_wp2_with fail
    go_ret
    exact ⟨by simp, HD1.out⟩
end Go.Proofs.YthamfbfeokmhgaaGreatDoor
