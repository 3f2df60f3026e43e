/- The contract of the reference's Least: the least cost, row by row. -/
import Derived.Test.YteppgjdkoakpeaaFronts3
set_option linter.unusedVariables false
namespace Go.Proofs.Yteppgjdkoakpeaa
open Go.ChangeShapes Go.WideShapes Go.ChangeAt Go.RowKit

theorem ld_le_sum (a b : Ls) (i j : Nat) : ld a b i j ≤ i + j := by
  induction j with
  | zero => rw [ld_left]; omega
  | succ j ih => have := ld_put a b i j; omega

def fillC (m j : Nat) : Value := .int .i64 (if j < m then (j : Int) else 0)
def rowC (a b : Ls) (i j t : Nat) : Value := .int .i64 (if t ≤ j then (ld a b (i + 1) t : Int) else (ld a b i t : Int))
def ldC (a b : Ls) (i t : Nat) : Value := .int .i64 (ld a b i t : Int)

theorem fill_set {w : World} {B T N m : Nat} (h : w.rowIs B T N (fillC m)) : (w.setCell ⟨B, m, none⟩ (.int .i64 (m : Int))).rowIs B T N (fillC (m + 1)) := by
  refine (h.set m _).congr fun j hj => ?_
  unfold fillC
  by_cases e : j = m
  · subst e
    rw [if_pos rfl, if_pos (by omega)]
  · rw [if_neg e]
    by_cases h1 : j < m
    · rw [if_pos h1, if_pos (by omega)]
    · rw [if_neg h1, if_neg (by omega)]
theorem row_first {w : World} {B T N i : Nat} {a b : Ls} (h : w.rowIs B T N (ldC a b i)) : (w.setCell ⟨B, 0, none⟩ (.int .i64 ((i : Int) + 1))).rowIs B T N (rowC a b i 0) := by
  refine (h.set 0 _).congr fun j hj => ?_
  unfold rowC ldC
  by_cases e : j = 0
  · subst e
    rw [if_pos rfl, if_pos (by omega), ld_left]
    rfl
  · rw [if_neg e, if_neg (by omega)]
theorem row_set {w : World} {B T N i j : Nat} {a b : Ls} {v : Int} (h : w.rowIs B T N (rowC a b i j)) (hv : v = (ld a b (i + 1) (j + 1) : Int)) : (w.setCell ⟨B, j + 1, none⟩ (.int .i64 v)).rowIs B T N (rowC a b i (j + 1)) := by
  refine (h.set (j + 1) _).congr fun t ht => ?_
  unfold rowC
  by_cases e : t = j + 1
  · subst e
    rw [if_pos rfl, if_pos (by omega), hv]
  · rw [if_neg e]
    by_cases h1 : t ≤ j
    · rw [if_pos h1, if_pos (by omega)]
    · rw [if_neg h1, if_neg (by omega)]

set_option maxRecDepth 100000 in
set_option maxHeartbeats 4000000 in
theorem least_any (a b : Ls) (va vb : Value) (w : World) (ha : Reads w va a) (hb : Reads w vb b) (h3 : a.length ≤ 1000000) (h4 : b.length ≤ 1000000) :
    Calls Try.prog 11 #[va, vb] w fun r w' => r = .returned (.int .i64 (ld a b a.length b.length : Int)) ∧ Below w.heap.size w w' := by
  obtain ⟨aa, ca, rfl, hfa⟩ := ha.form
  obtain ⟨ab, cb, rfl, hfb⟩ := hb.form
  obtain ⟨al, hal⟩ : ∃ n, n = a.length := ⟨_, rfl⟩
  obtain ⟨bl, hbl⟩ : ∃ n, n = b.length := ⟨_, rfl⟩
  rw [← hal] at h3 ⊢
  rw [← hbl] at h4 ⊢
  have hmk := run_make_row' (P := Try.prog) 45 3 (.int .i64 0) 8 Try.underlying45 Try.infoInt rfl .i64 .i64 (bl + 1) (by omega) (by omega)
  rw [show ((bl + 1 : Nat) : Int) = (bl : Int) + 1 by omega] at hmk
  have HFA := Lib.hid hfa
  have HFB := Lib.hid hfb
  have HAL := Lib.hid hal
  have HBL := Lib.hid hbl
  clear ha hb hfa hfb hal hbl
  go_enter Try.func11, Try.ntmps11
  go_wp2
  go_loopw [6] (fun jv wr => ∃ m : Nat, m ≤ bl + 1 ∧ jv = .int .i64 m ∧ wr.rowIs w.heap.size 3 (bl + 1) (fillC m) ∧ Below w.heap.size w wr) (fun jv _ => bl + 1 - (intOf jv).toNat)
  case atStart => exact ⟨0, by omega, rfl, (World.rowIs_made w _ (bl + 1) 3).congr (fun j _ => by simp [fillC]), (Below.refl _ _).alloc (Nat.le_refl _) _⟩
  case round =>
    obtain ⟨m, hm, rfl, hrow, hbel⟩ := hrel
    have HR := Lib.hid hrow
    have HB := Lib.hid hbel
    by_cases hlt : m < bl + 1
    · have h01 : (0 : Int) ≤ m := by omega
      have h02 : (m : Int) < bl + 1 := by omega
      have hc := HR.out.cell hlt
      have hf := HR.out.frozen m
      clear hrow hbel
      go_wp2
      exact ⟨⟨m + 1, by omega, by go_num, fill_set HR.out, HB.out.setCell (by simp) _⟩, by simp [intOf]; omega⟩
    · have hrow0 : wr.rowIs w.heap.size 3 (bl + 1) (ldC a b 0) := HR.out.congr (fun j hj => by unfold fillC ldC; rw [if_pos (by omega), ld_zero])
      have HR0 := Lib.hid hrow0
      clear hrow hbel hrow0
      go_wp2
      go_loopw [7] (fun iv wr => ∃ i : Nat, i ≤ al ∧ iv = .int .i64 i ∧ wr.rowIs w.heap.size 3 (bl + 1) (ldC a b i) ∧ Below w.heap.size w wr) (fun iv _ => al - (intOf iv).toNat)
      case atStart => exact ⟨0, by omega, rfl, HR0.out, HB.out⟩
      case round =>
        obtain ⟨i, hi, rfl, hrow, hbel⟩ := hrel
        have HRI := Lib.hid hrow
        have HBI := Lib.hid hbel
        clear hrow hbel
        by_cases hil : i < al
        · have h11 : (0 : Int) ≤ i := by omega
          have h12 : (i : Int) < al := by omega
          have hc0 := HRI.out.cell (show 0 < bl + 1 by omega)
          have hf0 := HRI.out.frozen 0
          have hl0 : ldC a b i 0 = .int .i64 (i : Int) := by unfold ldC; rw [ld_left]
          rw [hl0] at hc0
          clear hl0
          go_wp2
          go_loopw [8, 9] (fun ov jv wr => ∃ j : Nat, j ≤ bl ∧ jv = .int .i64 j ∧ ov = .int .i64 (ld a b i j : Int) ∧ wr.rowIs w.heap.size 3 (bl + 1) (rowC a b i j) ∧ Below w.heap.size w wr) (fun _ jv _ => bl - (intOf jv).toNat)
          case atStart => exact ⟨0, by omega, rfl, by rw [ld_left], row_first HRI.out, HBI.out.setCell (by simp) _⟩
          case round =>
            obtain ⟨j, hj, rfl, rfl, hrow, hbel⟩ := hrel
            have HRJ := Lib.hid hrow
            have HBJ := Lib.hid hbel
            clear hrow hbel
            by_cases hjl : j < bl
            · have hjc1 : wr.cell? ⟨w.heap.size, j + 1, none⟩ = some (.int .i64 (ld a b i (j + 1) : Int)) := by
                rw [HRJ.out.cell (by omega)]
                unfold rowC
                rw [if_neg (by omega)]
              have hjc0 : wr.cell? ⟨w.heap.size, j, none⟩ = some (.int .i64 (ld a b (i + 1) j : Int)) := by
                rw [HRJ.out.cell (by omega)]
                unfold rowC
                rw [if_pos (Nat.le_refl _)]
              have hjf := HRJ.out.frozen (j + 1)
              obtain ⟨ba, oa, rfl, hca⟩ := HFA.out (by intro e; have := HAL.out; rw [e] at this; simp at this; omega)
              obtain ⟨bb, ob, rfl, hcb⟩ := HFB.out (by intro e; have := HBL.out; rw [e] at this; simp at this; omega)
              obtain ⟨u, hu⟩ : ∃ u, a[i]? = some u := ⟨a[i]'(by rw [← HAL.out]; exact hil), by simp⟩
              obtain ⟨v, hv⟩ : ∃ v, b[j]? = some v := ⟨b[j]'(by rw [← HBL.out]; exact hjl), by simp⟩
              have cu := (HBJ.out.cell (p := ⟨ba, oa + i, none⟩) hca.1).trans (hca.2 i u hu)
              have cv := (HBJ.out.cell (p := ⟨bb, ob + j, none⟩) hcb.1).trans (hcb.2 j v hv)
              have n1 := ld_le_sum a b i (j + 1)
              have n2 := ld_le_sum a b (i + 1) j
              obtain ⟨U, hU⟩ : ∃ U, U = ld a b i (j + 1) := ⟨_, rfl⟩
              obtain ⟨L, hL⟩ : ∃ L, L = ld a b (i + 1) j := ⟨_, rfl⟩
              obtain ⟨O, hO⟩ : ∃ O, O = ld a b i j := ⟨_, rfl⟩
              have hsame := ld_same (a := a) (b := b) (i := i) (j := j)
              have hstep := ld_step (a := a) (b := b) (i := i) (j := j)
              rw [← hO] at hsame ⊢
              rw [← hU, ← hL] at hstep
              rw [← hU] at hjc1 n1
              rw [← hL] at hjc0 n2
              have HSA := Lib.hid hsame
              have HST := Lib.hid hstep
              have HU := Lib.hid hu
              have HV := Lib.hid hv
              have EU := Lib.hid hU
              clear hsame hstep hu hv hU hL hO hca hcb
              have h21 : (0 : Int) ≤ j := by omega
              have h22 : (j : Int) < bl := by omega
              have h23 : (j : Int) + 1 < (bl : Int) + 1 := by omega
              have h24 : (0 : Int) ≤ (j : Int) + 1 := by omega
              have h25 : (j : Int) < (bl : Int) + 1 := by omega
              by_cases huv : u = v
              · subst huv
                go_wp2
                go_quiet (fail)
                go_wp2
                refine ⟨⟨j + 1, by omega, by go_num, ?_, row_set (rowIs_drewN HRJ.out) ?_, (Below.drewN HBJ.out).setCell (by simp) _⟩, by simp [intOf]; omega⟩
                · rw [EU.out]
                · rw [HSA.out (HU.out.trans HV.out.symm)]
              · have HNE := Lib.hid huv
                clear huv
                go_wp2
                go_quiet (fail)
                have hne : ¬ a[i]? = b[j]? := by rw [HU.out, HV.out]; intro e; exact HNE.out (Option.some.inj e)
                have hst := HST.out hne
                have HST2 := Lib.hid hst
                clear hne hst
                by_cases hUL : U < L
                · go_wp2
                  · exact absurd (ba_eq' (by assumption)) HNE.out
                  · refine ⟨⟨j + 1, by omega, by go_num, ?_, row_set (rowIs_drewN HRJ.out) ?_, (Below.drewN HBJ.out).setCell (by simp) _⟩, by simp [intOf]; omega⟩
                    · rw [EU.out]
                    · rw [HST2.out, if_pos hUL]; omega
                · go_wp2
                  · exact absurd (ba_eq' (by assumption)) HNE.out
                  · refine ⟨⟨j + 1, by omega, by go_num, ?_, row_set (rowIs_drewN HRJ.out) ?_, (Below.drewN HBJ.out).setCell (by simp) _⟩, by simp [intOf]; omega⟩
                    · rw [EU.out]
                    · rw [HST2.out, if_neg hUL]; omega
            · have ej : j = bl := by omega
              subst ej
              go_wp2
              refine ⟨⟨i + 1, by omega, by go_num, HRJ.out.congr (fun t ht => by unfold rowC ldC; rw [if_pos (by omega)]), HBJ.out⟩, by simp [intOf]; omega⟩
        · have ei : i = al := by omega
          have hcl := HRI.out.cell (show bl < bl + 1 by omega)
          have hll : ldC a b i bl = .int .i64 (ld a b al bl : Int) := by unfold ldC; rw [ei]
          rw [hll] at hcl
          have h31 : (bl : Int) < (bl : Int) + 1 := by omega
          have h32 : (0 : Int) ≤ bl := by omega
          clear hll
          go_wp2
          go_ret
          exact ⟨rfl, HBI.out⟩
end Go.Proofs.Yteppgjdkoakpeaa
