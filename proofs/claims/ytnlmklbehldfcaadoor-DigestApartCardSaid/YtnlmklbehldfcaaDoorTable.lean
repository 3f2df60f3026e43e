/- The contract of the document's table of roots: the chapter's H and K. -/
import Derived.Test.YtnlmklbehldfcaaDoorRoot
set_option linter.unusedVariables false
namespace Go.Proofs.YtnlmklbehldfcaaDoor
open Go.ChangeShapes Go.WideShapes Go.ChangeAt Go.RowKit

theorem Tryd.infoU32 : (Tryd.prog.info? 34).map (fun i => (i.zero, i.size, i.bytes)) = some (some (.int .u32 0), 1, 4) := by kernel_rfl
def wvs (l : List Wd) : List Value := l.map fun (x : Wd) => Value.int .u32 (nv x)
theorem wvs_len (l : List Wd) : (wvs l).length = l.length := by simp [wvs]
theorem wvs_app (l m : List Wd) : wvs (l ++ m) = wvs l ++ wvs m := by simp [wvs]
theorem wvs_at {l : List Wd} {i : Nat} {x : Wd} (h : l[i]? = some x) : (wvs l)[i]? = some (.int .u32 (nv x)) := by simp [wvs, h]
theorem R2_lt : ∀ i, i < 8 → R2.getD i 0 < 1099511627776 := of_decide_eq_true (by kernel_rfl)
theorem R3_lt : ∀ i, i < 64 → R3.getD i 0 < 1099511627776 := of_decide_eq_true (by kernel_rfl)
theorem PL_getD {i : Nat} (h : i < 64) : PL.getD i 0 < 400 := by
  have hx : PL[i]? = some (PL.getD i 0) := getD_some 0 (by rw [PL_len]; exact h)
  exact (PL_pos _ (List.mem_of_getElem? hx)).2

set_option maxHeartbeats 1000000 in
set_option maxRecDepth 100000 in
theorem table_any (n pw : Nat) (W : List Wd) (w : World) (hn : 0 < n ∧ n ≤ 64) (hpw : 2 ≤ pw ∧ pw ≤ 3) (hW : W.length = n)
    (hR : ∀ i, i < n → ∃ r, r < 1099511627776 ∧ r ^ pw ≤ PL.getD i 0 * 65536 ^ (2 * pw) ∧ PL.getD i 0 * 65536 ^ (2 * pw) < (r + 1) ^ pw ∧ r % 4294967296 = (W.getD i 0).toNat) :
    Calls Tryd.prog 19 #[.int .i64 (n : Int), .int .i64 (pw : Int)] w fun e w' => ∃ v, e = .returned v ∧ Arr w.heap.size w' v (wvs W) ∧ Below w.heap.size w w' := by
  have hpr := primes_any n w hn.2
  have HPR := Lib.hid hpr
  have HR := Lib.hid hR
  have HW := Lib.hid hW
  obtain ⟨n1, n64⟩ := hn
  have HPW := Lib.hid hpw
  clear hpr hR hW hpw
  go_enter Tryd.func19, Tryd.ntmps19
  go_wp2_with fail
  refine HPR.out.mono ?_
  rintro e w1 ⟨vp, rfl, harr, hb1⟩
  obtain ⟨b, cap, hv, hb2, hb3, hb4, hb5, hb6, hb7⟩ := harr.pos (by intro e; have := is_len (PL.take n); rw [e, List.length_take, PL_len] at this; simp at this; omega)
  have hpl : (ivs (PL.take n)).length = n := by rw [is_len, List.length_take, PL_len]; omega
  rw [hpl] at hv
  subst hv
  have HC := Lib.hid hb7
  have HB1 := Lib.hid hb1
  clear harr hb7 hb1 hb2 hb4 hb5 hb6 hpl
  go_wp2
  go_loopw [5, 7] (fun v iv wr => ∃ i : Nat, i ≤ n ∧ iv = .int .i64 i ∧ Arr w1.heap.size wr v (wvs (W.take i)) ∧ Below w1.heap.size w1 wr) (fun _ iv _ => n - (intOf iv).toNat)
  case atStart => exact ⟨0, Nat.zero_le _, rfl, Arr.nil _ _, Below.refl _ _⟩
  case round =>
    obtain ⟨i, hi, rfl, harr, hbel⟩ := hrel
    have hsz := hbel.size
    have hsz1 := HB1.out.size
    obtain ⟨p0, q0, hv⟩ := harr.form
    obtain ⟨N, hN⟩ : ∃ N, N = (wvs (W.take i)).length := ⟨_, rfl⟩
    rw [← hN] at hv
    subst hv
    have hN2 : N ≤ 64 := by rw [hN, wvs_len, List.length_take]; omega
    have HA := Lib.hid harr
    have HB := Lib.hid hbel
    have HN := Lib.hid hN
    by_cases hlt : i < n
    · obtain ⟨r, r1, r2, r3, r4⟩ := HR.out i hlt
      have hroot := fun wx => root_any (PL.getD i 0) pw r wx HPW.out (PL_getD (by omega)) r1 r2 r3
      rw [r4] at hroot
      have hp : PL[i]? = some (PL.getD i 0) := getD_some 0 (by rw [PL_len]; omega)
      have hpt : (PL.take n)[i]? = some (PL.getD i 0) := by rw [List.getElem?_take_of_lt hlt]; exact hp
      have hw : W[i]? = some (W.getD i 0) := getD_some 0 (by rw [HW.out]; exact hlt)
      obtain ⟨x, hx⟩ : ∃ x, x = W.getD i 0 := ⟨_, rfl⟩
      obtain ⟨p, hpe⟩ : ∃ p, p = PL.getD i 0 := ⟨_, rfl⟩
      rw [← hx] at hroot hw
      rw [← hpe] at hroot hpt
      have hroot' : ∀ wx, Calls Tryd.prog 28 #[.int .i64 (p : Int), .int .i64 (pw : Int)] wx fun e w' => e = .returned (.int .u32 (nv x)) ∧ Below wx.heap.size wx w' := hroot
      have cp : wr.cell? ⟨b, i, none⟩ = some (.int .i64 (p : Int)) := (hbel.cell (p := ⟨b, i, none⟩) hb3).trans (HC.out i _ (is_at hpt))
      have h01 : (0 : Int) ≤ i := by omega
      have h02 : (i : Int) < n := by omega
      have HROOT := Lib.hid hroot'
      have HX := Lib.hid hw
      clear hroot hroot' hp hpt hw hx hpe r1 r2 r3 r4 harr hbel hN hi
      obtain ⟨w0, rfl⟩ : ∃ w0, w0 = wr := ⟨wr, rfl⟩
      go_wp2_with fail
      with_reducible refine (HROOT.out _).mono ?_
      rintro e w2 ⟨rfl, hb2⟩
      have HB2 := Lib.hid hb2
      have HA2 := Lib.hid (HA.out.below hb2)
      have hsz2 := hb2.size
      clear hb2
      go_wp2_with (at_builtin; refine wpList_append_arr rfl _ _ 39 rfl 34 (.int .u32 0) 4 Tryd.underlying39 Tryd.infoU32 rfl w1.heap.size (.slice p0 N q0) _ [.int .u32 (nv x)] rfl (HA2.out.alloc _) _ _ _ rfl rfl news_new one1 (Nat.zero_lt_succ _) (by rw [sizeAl]; omega) (by rw [← HN.out]; show _ + 1 ≤ _; omega) (by decide) ?_; rintro v4 w4 harr4 hb4)
      refine ⟨⟨i + 1, hlt, by go_num, by rw [take_snoc HX.out, wvs_app]; exact harr4, ((HB.out.trans (HB2.out.mono hsz)).alloc (by omega) _).trans hb4⟩, by simp [intOf]; omega⟩
    · have hie : i = n := by omega
      have hfull : W.take i = W := by rw [hie, ← HW.out, List.take_length]
      rw [hfull] at HA
      clear hfull hie harr hbel hN
      go_wp2
      go_ret
      exact ⟨_, rfl, HA.out.mono HB1.out.size, HB1.out.trans (HB.out.mono HB1.out.size)⟩
theorem tableH (w : World) : Calls Tryd.prog 19 #[.int .i64 8, .int .i64 2] w fun e w' => ∃ v, e = .returned v ∧ Arr w.heap.size w' v (wvs (stW H0)) ∧ Below w.heap.size w w' :=
  table_any 8 2 (stW H0) w (by omega) (by omega) rfl (fun i hi => ⟨_, R2_lt i hi, (R2_ok i hi).1, (R2_ok i hi).2.1, (R2_ok i hi).2.2⟩)
theorem tableK (w : World) : Calls Tryd.prog 19 #[.int .i64 64, .int .i64 3] w fun e w' => ∃ v, e = .returned v ∧ Arr w.heap.size w' v (wvs KK) ∧ Below w.heap.size w w' :=
  table_any 64 3 KK w (by omega) (by omega) rfl (fun i hi => ⟨_, R3_lt i hi, (R3_ok i hi).1, (R3_ok i hi).2.1, (R3_ok i hi).2.2⟩)
end Go.Proofs.YtnlmklbehldfcaaDoor
