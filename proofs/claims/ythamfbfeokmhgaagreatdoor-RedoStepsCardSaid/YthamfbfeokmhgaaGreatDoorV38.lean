/- right: are these pages that a commit may have? -/
import Derived.Test.YthamfbfeokmhgaaGreatDoorV34
set_option linter.unusedVariables false
set_option linter.unusedSimpArgs false
namespace Go.Proofs.YthamfbfeokmhgaaGreatDoor
open Go.ChangeShapes Go.WideShapes Go.ChangeAt Go.RowKit

def okR (N : Nat) (l : RawP) : Prop := (∀ x ∈ l, 0 ≤ x.1 ∧ x.1 < (N : Int) ∧ x.2.size ≤ 512) ∧ (l.map Prod.fst).Nodup
instance (N : Nat) (l : RawP) : Decidable (okR N l) := by unfold okR; infer_instance
def seenB (l : RawP) (i : Nat) : Bool := decide (∃ x ∈ l, x.1 = (i : Int))
def seenV (N : Nat) (l : RawP) : List Value := (List.range N).map fun i => .bool (seenB l i)
theorem seenV_len (N : Nat) (l : RawP) : (seenV N l).length = N := by simp [seenV]
theorem seenV_at {N : Nat} (l : RawP) {i : Nat} (h : i < N) : (seenV N l)[i]? = some (.bool (seenB l i)) := by
  rw [seenV, List.getElem?_map, List.getElem?_range h]; rfl
theorem seenV_nil (N : Nat) : seenV N [] = List.replicate N (.bool false) := by
  apply List.ext_getElem?
  intro i
  by_cases h : i < N
  · rw [seenV_at _ h, List.getElem?_replicate, if_pos h]; rfl
  · rw [List.getElem?_eq_none (by rw [seenV_len]; omega), List.getElem?_eq_none (by simp; omega)]
theorem seenV_snoc {N : Nat} (l : RawP) {k : Nat} (s : ByteArray) (h : k < N) : (seenV N l).set k (.bool true) = seenV N (l ++ [((k : Int), s)]) := by
  apply List.ext_getElem?
  intro i
  by_cases hi : i < N
  · rw [seenV_at _ hi]
    by_cases e : k = i
    · subst e
      rw [List.getElem?_set_self (by rw [seenV_len]; exact h)]
      have : seenB (l ++ [((k : Int), s)]) k = true := decide_eq_true ⟨_, List.mem_append_right _ (List.mem_singleton.2 rfl), rfl⟩
      rw [this]
    · rw [List.getElem?_set_ne e, seenV_at _ hi]
      have : seenB (l ++ [((k : Int), s)]) i = seenB l i := by
        unfold seenB
        apply decide_eq_decide.2
        constructor
        · rintro ⟨x, hx, hxe⟩
          rcases List.mem_append.1 hx with hx | hx
          · exact ⟨x, hx, hxe⟩
          · rw [List.mem_singleton] at hx
            subst hx
            simp only at hxe
            omega
        · rintro ⟨x, hx, hxe⟩
          exact ⟨x, List.mem_append_left _ hx, hxe⟩
      rw [this]
  · rw [List.getElem?_eq_none (by rw [List.length_set, seenV_len]; omega), List.getElem?_eq_none (by rw [seenV_len]; omega)]
theorem okR_nil (N : Nat) : okR N [] := ⟨by simp, by simp⟩
theorem okR_step {N : Nat} {l : RawP} {k : Nat} {s : ByteArray} (h : okR N l) (hk : k < N) (hs : s.size ≤ 512) (hn : seenB l k = false) : okR N (l ++ [((k : Int), s)]) := by
  have hno : ¬ ∃ x ∈ l, x.1 = (k : Int) := of_decide_eq_false hn
  refine ⟨fun x hx => ?_, ?_⟩
  · rcases List.mem_append.1 hx with hx | hx
    · exact h.1 x hx
    · rw [List.mem_singleton] at hx
      subst hx
      exact ⟨by simp only; omega, by simp only; omega, hs⟩
  · rw [List.map_append, List.nodup_append]
    refine ⟨h.2, by simp, ?_⟩
    intro a ha b hb e
    rw [List.map_singleton, List.mem_singleton] at hb
    subst hb; subst e
    obtain ⟨x, hx, he⟩ := List.mem_map.1 ha
    exact hno ⟨x, hx, he⟩
theorem okR_no {N : Nat} {l : RawP} {j : Nat} {x : Int × ByteArray} (hx : l[j]? = some x) (h : ¬ (0 ≤ x.1 ∧ x.1 < (N : Int)) ∨ 512 < x.2.size) : ¬ okR N l := fun hk => by
  have := hk.1 x (List.mem_of_getElem? hx)
  omega
theorem okR_twice {N : Nat} {l : RawP} {j : Nat} {x : Int × ByteArray} (hx : l[j]? = some x) (h : ∃ y ∈ l.take j, y.1 = x.1) : ¬ okR N l := fun hk => by
  obtain ⟨y, hy, e⟩ := h
  obtain ⟨i, hi, hyi⟩ := List.mem_iff_getElem.1 hy
  rw [List.length_take] at hi
  rw [List.getElem_take] at hyi
  have a1 : (l.map Prod.fst)[i]? = some x.1 := by rw [List.getElem?_map, List.getElem?_eq_getElem (by omega), hyi]; simp [e]
  have a2 : (l.map Prod.fst)[j]? = some x.1 := by rw [List.getElem?_map, hx]; rfl
  have := (List.getElem?_inj (by simp; omega) hk.2).1 (a1.trans a2.symm)
  omega
theorem infoBl : (Tryz.prog.info? 4).map (fun i => (i.zero, i.size, i.bytes)) = some (some (.bool false), 1, 1) := by kernel_rfl
abbrev mkB (n : Nat) : Obj := .cells (madeCells #[.bool false] n) 4
theorem made_bl {w : World} {n : Nat} (hn : n ≤ 1000000) : Row 1 0 (w.alloc (mkB n)) (.slice (some ⟨w.heap.size, 0, none⟩) n n) n (seenV n []) :=
  row_new (Nat.zero_le _) (by rw [seenV_len]; omega) (Nat.le_refl _) (by unfold maxLen; omega) (by simp [size_madeCells]) (.inl rfl) (fun j u hu => by
    rw [seenV_nil] at hu
    have hj : j < n := by have := (List.getElem?_eq_some_iff.1 hu).1; simpa using this
    rw [List.getElem?_replicate, if_pos hj] at hu
    cases hu
    simp [madeCells, hj, Nat.mod_one])
set_option maxHeartbeats 2000000 in
set_option maxRecDepth 100000 in
theorem rright_any {Z : Nat → Prop} {q p : Nat} {D : Dk} (v : Value) (l : RawP) (w : World) (hq : RQ w q p) (h : DX Z w p D) (hl : PgR w v l) (hl9 : l.length ≤ 1000000) : Calls Tryz.prog 27 #[.pointer (some ⟨q, 0, none⟩), v] w fun e w' => e = .returned (.bool (decide (okR (D.sure.length - 64) l))) ∧ Below w.heap.size w w' := by
  have n2 := h.ok.n2
  have HP := Lib.hid (rpages_any w hq h)
  have HH := Lib.hid (fun (i : Int) (W : World) (hW : Below w.heap.size w W) => rhas_any i W (hq.below hW) (h.below hW))
  obtain ⟨N, hN⟩ : ∃ N, N = D.sure.length - 64 := ⟨_, rfl⟩
  rw [← hN] at HP HH ⊢
  have hN9 : N ≤ 5000 := by omega
  clear hN n2 hq h
  obtain ⟨a, c, rfl⟩ := hl.form
  obtain ⟨m, hm⟩ : ∃ m, m = l.length := ⟨_, rfl⟩
  rw [← hm] at hl hl9 ⊢
  have HM := Lib.hid hm
  have HL := Lib.hid hl
  clear hl hm
  have mk1 := run_make_row' (P := Tryz.prog) 38 4 (.bool false) 1 Tryz.underlying38 infoBl rfl .i64 .i64 N (by omega) (by omega)
  have HB0 : Hid (Below w.heap.size w (w.alloc (mkB N))) := Lib.hid ((Below.refl _ _).alloc (Nat.le_refl _) _)
  have HR0 := Lib.hid (made_bl (w := w) (n := N) (by omega))
  go_enter Tryz.func27, Tryz.ntmps27
  go_wp2_with fail
  refine HP.out.mono ?_
  rintro e w1 ⟨rfl, rfl⟩
  go_wp2_with fail
  obtain ⟨b0, hb0⟩ : ∃ b0, b0 = w1.heap.size := ⟨_, rfl⟩
  obtain ⟨W1, hW1⟩ : ∃ W1, W1 = w1.alloc (mkB N) := ⟨_, rfl⟩
  rw [← hW1, ← hb0] at HR0
  rw [← hW1] at HB0
  go_loopw [13] (fun jv wr => ∃ j : Nat, jv = .int .i64 (j : Nat) ∧ j ≤ m ∧ Hid (Row 1 0 wr (.slice (some ⟨b0, 0, none⟩) N N) N (seenV N (l.take j))) ∧ Hid (okR N (l.take j)) ∧ Hid (Below w1.heap.size w1 wr) ∧ Hid (b0 < wr.heap.size)) (fun jv _ => m - (intOf jv).toNat)
  case atStart => exact ⟨0, rfl, Nat.zero_le _, by rw [← hW1]; simpa using HR0, Lib.hid (by simpa using okR_nil N), by rw [← hW1]; exact HB0, Lib.hid (by rw [hb0]; simp)⟩
  case round =>
    obtain ⟨j, rfl, hjm, HR, HK, HB, HLT⟩ := hrel
    clear hW1 HB0 HR0 mk1
    by_cases hlt : j < m
    · obtain ⟨x, hx⟩ : ∃ x, l[j]? = some x := ⟨l[j]'(by rw [← HM.out]; exact hlt), by simp⟩
      obtain ⟨b, o, rfl, hbl, hmc, hcm, d0, d1⟩ := (HL.out.below HB.out).at hx
      unfold maxLen at hcm
      obtain ⟨i, s⟩ := x
      simp only at d0 d1
      have hjI : (j : Int) < (m : Int) := by omega
      obtain ⟨z, hz⟩ : ∃ z, z = wr.heap.size := ⟨_, rfl⟩
      obtain ⟨wz, hwz⟩ : ∃ wz, wz = wr.alloc (.cells #[.int .i64 i, .string s] 49) := ⟨_, rfl⟩
      have hbz : Below wr.heap.size wr wz := by rw [hwz]; exact (Below.refl _ _).alloc (Nat.le_refl _) _
      have z0 : wz.cell? ⟨z, 0, none⟩ = some (.int .i64 i) := by rw [hwz, hz, World.cell?_alloc_at _ _ _ _ rfl]; rfl
      have z1 : wz.cell? ⟨z, 1, none⟩ = some (.string s) := by rw [hwz, hz, World.cell?_alloc_at _ _ _ _ rfl]; rfl
      have HBZ := Lib.hid (HB.out.trans (hbz.mono HB.out.size))
      have HRZ := Lib.hid (HR.out.below hbz)
      have HLZ := Lib.hid (Nat.lt_of_lt_of_le HLT.out hbz.size)
      have HHJ := Lib.hid (HH.out i wz HBZ.out)
      have HX := Lib.hid hx
      have HWZ := Lib.hid hwz
      have HZ := Lib.hid hz
      have HTK : Hid (l.take (j + 1) = l.take j ++ [(i, s)]) := Lib.hid (by rw [List.take_add_one, hx]; rfl)
      clear hx hbz hwz hbl HR HB
      by_cases hin : 0 ≤ i ∧ i < (N : Int)
      · rw [decide_eq_true hin] at HHJ
        obtain ⟨k, rfl⟩ : ∃ k : Nat, i = (k : Int) := ⟨i.toNat, by omega⟩
        have hkN : k < N := by omega
        have hkI : (k : Int) < (N : Int) := hin.2
        obtain ⟨t, ht⟩ : ∃ t, t = seenB (l.take j) k := ⟨_, rfl⟩
        obtain ⟨xs, fs, _⟩ := HRZ.out.cellF (seenV_at (l.take j) hkN)
        rw [← ht, hb0] at xs
        rw [hb0] at fs HRZ
        cases t with
        | true =>
          have hno : ¬ okR N l := okR_twice HX.out (of_decide_eq_true ht.symm)
          have HNO := Lib.hid (decide_eq_false hno)
          clear hno ht hz
          go_wp2_with fail
          rw [← HZ.out, ← HWZ.out]
          refine HHJ.out.mono ?_
          rintro e w5 ⟨rfl, rfl⟩
          go_wp2_with fail
          go_ret
          exact ⟨by rw [HNO.out]; simp, HBZ.out⟩
        | false =>
          by_cases hs : 512 < s.size
          · have hno : ¬ okR N l := okR_no HX.out (.inr hs)
            have HNO := Lib.hid (decide_eq_false hno)
            have hsI : (512 : Int) < (s.size : Int) := by omega
            clear hno ht hz
            go_wp2_with fail
            rw [← HZ.out, ← HWZ.out]
            refine HHJ.out.mono ?_
            rintro e w5 ⟨rfl, rfl⟩
            go_wp2_with fail
            go_ret
            exact ⟨by rw [HNO.out]; simp, HBZ.out⟩
          · have hsI : ¬ (512 : Int) < (s.size : Int) := by omega
            have HK2 := Lib.hid (okR_step HK.out hkN (Nat.le_of_not_lt hs) ht.symm)
            have HRP := Lib.hid (HRZ.out.put (j := k) (by rw [seenV_len]; exact hkN) (.bool true))
            rw [seenV_snoc _ s hkN, ← HTK.out] at HRP
            rw [← HTK.out] at HK2
            clear ht hz
            go_wp2_with fail
            rw [← HZ.out, ← HWZ.out]
            refine HHJ.out.mono ?_
            rintro e w5 ⟨rfl, rfl⟩
            go_wp2_with fail
            exact ⟨⟨j + 1, by go_num, by omega, by rw [hb0]; exact HRP, HK2, Lib.hid (HBZ.out.setCell (p := ⟨w1.heap.size, k, none⟩) (Nat.le_refl _) _), Lib.hid (by simpa [World.setCell] using HLZ.out)⟩, by simp [intOf]; omega⟩
      · rw [decide_eq_false hin] at HHJ
        have hno : ¬ okR N l := okR_no HX.out (.inl hin)
        have HNO := Lib.hid (decide_eq_false hno)
        clear hno hz
        go_wp2_with fail
        rw [← HZ.out, ← HWZ.out]
        refine HHJ.out.mono ?_
        rintro e w5 ⟨rfl, rfl⟩
        go_wp2_with fail
        go_ret
        exact ⟨by rw [HNO.out]; simp, HBZ.out⟩
    · have hjj : m = j := by omega
      have hk := HK.out
      rw [List.take_of_length_le (by rw [← HM.out]; omega)] at hk
      have HYES := Lib.hid (decide_eq_true hk)
      clear hk
      have hltI : ¬ (j : Int) < (m : Int) := by omega
      go_wp2_with fail
      go_ret
      exact ⟨by rw [HYES.out]; simp, HB.out⟩
end Go.Proofs.YthamfbfeokmhgaaGreatDoor
