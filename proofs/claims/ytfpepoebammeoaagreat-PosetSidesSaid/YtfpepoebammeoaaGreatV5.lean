/- The contracts of ready's methods. -/
import Derived.Test.YtfpepoebammeoaaGreatV4
set_option linter.unusedVariables false
namespace Go.Proofs.YtfpepoebammeoaaGreat
open Go.ChangeShapes Go.WideShapes Go.ChangeAt Go.RowKit

theorem methLen {p : Addr} {v : Value} {w : World} (hc : w.cell? p = some v) : (Go.method 277 103 (.pointer (some p)) "Len").run Tryz.prog w = .ok (74, v) w := run_method_emb (pth := [⟨101, 0, true⟩]) (by kernel_rfl) (by kernel_rfl) Tryz.underlying99 hc
theorem methLess {p : Addr} {v : Value} {w : World} (hc : w.cell? p = some v) : (Go.method 277 103 (.pointer (some p)) "Less").run Tryz.prog w = .ok (138, v) w := run_method_emb (pth := [⟨101, 0, true⟩]) (by kernel_rfl) (by kernel_rfl) Tryz.underlying99 hc
theorem methSwap {p : Addr} {v : Value} {w : World} (hc : w.cell? p = some v) : (Go.method 277 103 (.pointer (some p)) "Swap").run Tryz.prog w = .ok (140, v) w := run_method_emb (pth := [⟨101, 0, true⟩]) (by kernel_rfl) (by kernel_rfl) Tryz.underlying99 hc
theorem methPush (p : Addr) (w : World) : (Go.method 277 103 (.pointer (some p)) "Push").run Tryz.prog w = .ok (142, .pointer (some p)) w := by kernel_rfl
theorem methPop (p : Addr) (w : World) : (Go.method 277 103 (.pointer (some p)) "Pop").run Tryz.prog w = .ok (141, .pointer (some p)) w := by kernel_rfl

theorem len_any (a : Option Addr) (n c : Nat) (w : World) : Calls Tryz.prog 74 #[.slice a n c] w fun e w' => e = .returned (.int .i64 n) ∧ w' = w := by
  go_enter Tryz.func74, Tryz.ntmps74
  go_wp2
  go_ret
  exact ⟨rfl, rfl⟩

theorem less_any (a : List Int) (b n c i j : Nat) (w : World) (hn : n = a.length) (hc : n ≤ c) (hm : c ≤ maxLen) (hi : i < n) (hj : j < n) (hx : w.cell? ⟨b, i, none⟩ = some (.int .i64 (a.getD i 0))) (hy : w.cell? ⟨b, j, none⟩ = some (.int .i64 (a.getD j 0))) :
    Calls Tryz.prog 138 #[.slice (some ⟨b, 0, none⟩) n c, .int .i64 (i : Nat), .int .i64 (j : Nat)] w fun e w' => e = .returned (.bool (decide (a.getD i 0 < a.getD j 0))) ∧ ∃ d, w' = w.drewN d := by
  unfold maxLen at hm
  obtain ⟨x, ex⟩ : ∃ x, x = a.getD i 0 := ⟨_, rfl⟩
  obtain ⟨y, ey⟩ : ∃ y, y = a.getD j 0 := ⟨_, rfl⟩
  rw [← ex] at hx ⊢
  rw [← ey] at hy ⊢
  clear ex ey hn
  go_enter Tryz.func138, Tryz.ntmps138
  go_wp2
  go_quiet (fail)
  go_wp2
  go_ret
  exact ⟨rfl, _, rfl⟩

theorem swap_any (a : List Int) (b n c i j : Nat) (w : World) (hn : n = a.length) (hc : n ≤ c) (hm : c ≤ maxLen) (hi : i < n) (hj : j < n) (hx : w.cell? ⟨b, i, none⟩ = some (.int .i64 (a.getD i 0))) (hy : w.cell? ⟨b, j, none⟩ = some (.int .i64 (a.getD j 0)))
    (fx : w.frozen? ⟨b, i, none⟩ = false) (fy : w.frozen? ⟨b, j, none⟩ = false) :
    Calls Tryz.prog 140 #[.slice (some ⟨b, 0, none⟩) n c, .int .i64 (i : Nat), .int .i64 (j : Nat)] w fun e w' => e = .returned (.tuple #[]) ∧ ∃ d, w' = ((w.setCell ⟨b, i, none⟩ (.int .i64 (a.getD j 0))).setCell ⟨b, j, none⟩ (.int .i64 (a.getD i 0))).drewN d := by
  unfold maxLen at hm
  obtain ⟨x, ex⟩ : ∃ x, x = a.getD i 0 := ⟨_, rfl⟩
  obtain ⟨y, ey⟩ : ∃ y, y = a.getD j 0 := ⟨_, rfl⟩
  rw [← ex] at hx ⊢
  rw [← ey] at hy ⊢
  clear ex ey hn
  obtain ⟨z, hz⟩ : ∃ z, (w.setCell ⟨b, i, none⟩ (.int .i64 y)).cell? ⟨b, j, none⟩ = some z := by
    by_cases e : i = j
    · subst e
      exact ⟨_, World.cell?_setCell_same _ _ _ hx⟩
    · exact ⟨_, (World.cell?_setCell_other _ _ _ _ (fun h => e (by injection h))).trans hy⟩
  go_enter Tryz.func140, Tryz.ntmps140
  go_region
  go_wp2
  go_end0
  exact ⟨rfl, 1, rfl⟩

theorem rpop_any (a : List Int) (p b m c : Nat) (w : World) (hc : m + 1 ≤ c) (hm : c ≤ maxLen) (hp : w.cell? ⟨p, 0, none⟩ = some (.slice (some ⟨b, 0, none⟩) (m + 1) c)) (hf : w.frozen? ⟨p, 0, none⟩ = false) (hx : w.cell? ⟨b, m, none⟩ = some (.int .i64 (a.getD m 0))) :
    Calls Tryz.prog 141 #[.pointer (some ⟨p, 0, none⟩)] w fun e w' => e = .returned (.iface 3 (.int .i64 (a.getD m 0))) ∧ ∃ d, w' = (w.setCell ⟨p, 0, none⟩ (.slice (some ⟨b, 0, none⟩) m c)).drewN d := by
  unfold maxLen at hm
  obtain ⟨x, ex⟩ : ∃ x, x = a.getD m 0 := ⟨_, rfl⟩
  rw [← ex] at hx ⊢
  clear ex
  have h0 : m ≠ c := by omega
  go_enter Tryz.func141, Tryz.ntmps141
  go_wp2
  go_ret
  exact ⟨rfl, 0, rfl⟩

theorem oneI {k : IntKind} {x : Int} : ∀ u ∈ [Value.int k x], u.oneCell' = true := by
  intro u hu
  rw [List.mem_singleton] at hu
  rw [hu]; rfl
theorem infoInt : (Tryz.prog.info? 3).map (fun i => (i.zero, i.size, i.bytes)) = some (some (.int .i64 0), 1, 8) := by kernel_rfl
theorem rpush_any (a : List Int) (p B n c : Nat) (ad : Option Addr) (x : Int) (w : World) (hn : n ≤ 1000000000) (hp : w.cell? ⟨p, 0, none⟩ = some (.slice ad n c)) (hf : w.frozen? ⟨p, 0, none⟩ = false) (hr : Row 1 B w (.slice ad n c) n (iv a)) (hlt : p < B) (hB : B ≤ w.heap.size) :
    Calls Tryz.prog 142 #[.pointer (some ⟨p, 0, none⟩), .iface 3 (.int .i64 x)] w fun e w' => e = .returned (.tuple #[]) ∧ ∃ v' w1 d, w' = (w1.setCell ⟨p, 0, none⟩ v').drewN d ∧ Row 1 B w1 v' (n + 1) (iv a ++ [.int .i64 x]) ∧ Off (fun i => (Value.slice ad n c).ownBlock = some i) w w1 ∧
      (v'.ownBlock = (Value.slice ad n c).ownBlock ∨ ∃ k, v'.ownBlock = some k ∧ w.heap.size ≤ k) := by
  have hpl : p < w.heap.size := by omega
  have HR := Lib.hid hr
  have hnz : ¬ (Value.slice ad n c).ownBlock = some p := fun e => by have := (hr.lt p e).1; omega
  clear hr
  obtain ⟨wz, hwz⟩ : ∃ wz, wz = (w.alloc (.cells #[.int .i64 x] 3)).drew := ⟨_, rfl⟩
  have hszz : wz.heap.size = w.heap.size + 1 := by rw [hwz]; show (w.alloc _).heap.size = _; simp
  have hoz : Off (fun _ => False) w wz := by rw [hwz]; exact ((Off.refl _ w).alloc _).drew
  have HR2 : Hid (Row 1 B (w.alloc (.cells #[.int .i64 x] 3)).drew (.slice ad n c) n (iv a)) := Lib.hid ((HR.out.alloc _).drew)
  have HS : Hid (Src Tryz.prog 1 99 (.slice (some ⟨w.heap.size, 0, none⟩) 1 1) 1 [.int .i64 x] (w.alloc (.cells #[.int .i64 x] 3)).drew) := Lib.hid (by
    have h := Tryz.underlying99
    refine Src.ofSlice _ h _ 1 1 [.int .i64 x] rfl (fun j u hj => ?_) oneI
    have e2 : (⟨w.heap.size, 0, none⟩ : Addr).add j = ⟨w.heap.size, j, none⟩ := by unfold Addr.add; split <;> simp_all
    rw [e2]
    show (w.alloc (.cells #[.int .i64 x] 3)).cell? _ = _
    rw [World.cell?_alloc_at _ _ _ _ rfl]
    simpa using hj)
  have hB2 : B ≤ (w.alloc (.cells #[.int .i64 x] 3)).drew.heap.size := by rw [← hwz, hszz]; omega
  have hn2 : n + 1 ≤ 1099511627776 := by omega
  have hb2 : 8 ≤ 64 := by decide
  have HK1 : Hid (∀ w6, Off (fun i => (Value.slice ad n c).ownBlock = some i) (w.alloc (.cells #[.int .i64 x] 3)).drew w6 → w6.cell? ⟨p, 0, none⟩ = some (.slice ad n c)) := Lib.hid fun w6 ho6 => by
    rw [← hwz] at ho6
    exact (ho6.cell (p := ⟨p, 0, none⟩) (by rw [hszz]; show p < _; omega) hnz).trans ((hoz.cell (p := ⟨p, 0, none⟩) hpl (fun h => h)).trans hp)
  have HK2 : Hid (∀ w6, Off (fun i => (Value.slice ad n c).ownBlock = some i) (w.alloc (.cells #[.int .i64 x] 3)).drew w6 → w6.frozen? ⟨p, 0, none⟩ = false) := Lib.hid fun w6 ho6 => by
    rw [← hwz] at ho6
    exact (ho6.frozen (p := ⟨p, 0, none⟩) (by rw [hszz]; show p < _; omega) hnz).trans ((hoz.frozen (p := ⟨p, 0, none⟩) hpl (fun h => h)).trans hf)
  have HZ : Hid (Off (fun i => (Value.slice ad n c).ownBlock = some i) w (w.alloc (.cells #[.int .i64 x] 3)).drew) := Lib.hid (((Off.refl _ w).alloc _).drew)
  have HSZ : Hid (w.heap.size ≤ (w.alloc (.cells #[.int .i64 x] 3)).drew.heap.size) := Lib.hid (by rw [← hwz, hszz]; omega)
  clear hwz hszz hoz wz
  have ta : ∀ w' : World, (Instr.typeAssert (.iface 3 (.int .i64 x)) 20 3 false).run Tryz.prog w' = .ok (.int .i64 x) w' := fun _ => by kernel_rfl
  go_enter Tryz.func142, Tryz.ntmps142
  go_region_law (refine step_append_row rfl (.tmp 8) (.tmp 11) 99 99 rfl 1 3 (.int .i64 0) 8 Tryz.underlying99 infoInt rfl B (.slice ad n c) n (iv a) (by simp [Act.eval]) HR2.out (.slice (some ⟨w.heap.size, 0, none⟩) 1 1) (by simp [Act.eval]) 1 [.int .i64 x] HS.out hB2 hn2 hb2 ?_; intro v6 w6 hr6 ho6 hw6; have k1 := HK1.out w6 ho6; have k2 := HK2.out w6 ho6; obtain ⟨a6, c6, hv6⟩ := hr6.form; subst hv6)
  all_goals
    go_end0
    exact ⟨rfl, _, w6, 0, rfl, hr6, HZ.out.trans ho6, hw6.imp id fun h => ⟨_, h, HSZ.out⟩⟩
end Go.Proofs.YtfpepoebammeoaaGreat
