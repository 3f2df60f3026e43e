/- The contract of the law's key: what an op does, without places. -/
import Derived.IntWalk
import Derived.Deep.RegionHeld3
import Derived.Test.YtgjcblginkdinaaGreatDoorU3
import Derived.Test.YtgjcblginkdinaaGreatDoorU34
import Derived.Test.YtgjcblginkdinaaGreatDoorU40
set_option linter.unusedVariables false
namespace Go.Proofs.YtgjcblginkdinaaGreatDoor
open Go.ChangeShapes Go.WideShapes Go.ChangeAt Go.RowKit

def u8 (x : Int) : UInt8 := UInt8.ofNat (x % 256).toNat
theorem u8_back (x : Int) : ((u8 x).toNat : Int) = x % 256 := by
  unfold u8
  have h0 : 0 ≤ x % 256 := Int.emod_nonneg _ (by decide)
  have h1 : x % 256 < 256 := Int.emod_lt_of_pos _ (by decide)
  rw [UInt8.toNat_ofNat']
  omega
def endB : ByteArray := ⟨#[101, 110, 100]⟩
def nameB (deps : Lb) (nm : ByteArray) (r : Rf) : ByteArray := if 0 ≤ r.at_ then deps.getD r.at_.toNat ByteArray.empty else if r.at_ = -2 then nm else endB
def sideB (deps : Lb) (nm : ByteArray) (r : Rf) : ByteArray := nameB deps nm r ++ ⟨#[46]⟩ ++ tx [u8 (r.n / 256), u8 r.n]
theorem two_bytes (w : World) (x y : Int) (t1 t2 t3 : TypeId) (h1 : Tryz.prog.underlying t1 = some (.slice t2)) (h2 : Tryz.prog.underlying t2 = some (.int .u8)) (h3 : Tryz.prog.underlying t3 = some .string) (b : Nat) (hb : b = w.heap.size) :
    (convert t1 t3 (.slice (some ⟨b, 0, none⟩) 2 2)).run Tryz.prog (w.alloc (.cells #[.int .u8 (x % 256), .int .u8 (y % 256)] t2)) = .ok (.string (tx [u8 x, u8 y])) (w.alloc (.cells #[.int .u8 (x % 256), .int .u8 (y % 256)] t2)) := by
  subst hb
  refine run_convert_bytes_back _ t1 t3 t2 ⟨w.heap.size, 0, none⟩ 2 [u8 x, u8 y] h1 h2 h3 (fun j hj => ?_)
  have hj2 : j < 2 := hj
  rcases j with _ | _ | j
  · rw [show (⟨w.heap.size, 0, none⟩ : Addr).add 0 = ⟨w.heap.size, 0, none⟩ from rfl, World.cell?_alloc_at _ _ _ _ rfl]
    simp [u8_back]
  · rw [show (⟨w.heap.size, 0, none⟩ : Addr).add (0 + 1) = ⟨w.heap.size, 1, none⟩ from rfl, World.cell?_alloc_at _ _ _ _ rfl]
    simp [u8_back]
  · omega
theorem tx_size2 (x y : UInt8) : (tx [x, y]).size = 2 := rfl

set_option maxHeartbeats 2000000 in
set_option maxRecDepth 100000 in
theorem side_any (deps : Lb) (da : Option Addr) (m dc : Nat) (nm : ByteArray) (r : Rf) (bd bn : Nat) (w : World) (hd : Reads w (.slice da m dc) deps) (hm : m = deps.length) (hc : w.cell? ⟨bd, 0, none⟩ = some (.slice da m dc)) (hn : w.cell? ⟨bn, 0, none⟩ = some (.string nm)) (hk : 0 ≤ r.at_ → r.at_ < m)
    (hz : (nameB deps nm r).size ≤ 140737488355328) :
    Calls Tryz.prog 56 #[rfV r, .pointer (some ⟨bd, 0, none⟩), .pointer (some ⟨bn, 0, none⟩)] w fun e w' => e = .returned (.string (sideB deps nm r)) ∧ Below w.heap.size w w' := by
  obtain ⟨x, n⟩ := r
  simp only at hk
  have hxx := fun (w1 : World) => two_bytes (w.alloc (.cells #[.int .i64 x, .int .i64 n] 54)) (n / 256) n 101 5 9 Tryz.underlying101 Tryz.underlying5 Tryz.underlying9 (w.heap.size + 1) (by simp)
  have hcv := hxx w
  clear hxx
  have kp : ∀ i j v, w.cell? ⟨i, j, none⟩ = some v → (w.alloc (.cells #[.int .i64 x, .int .i64 n] 54)).cell? ⟨i, j, none⟩ = some v := fun i j v hv => (((Below.refl _ w).alloc (Nat.le_refl _) _).cell (p := ⟨i, j, none⟩) (cell_lt hv)).trans hv
  have hc1 := kp _ _ _ hc
  have hn1 := kp _ _ _ hn
  have hB : ∀ o1 o2, Below w.heap.size w ((w.alloc o1).alloc o2) := fun o1 o2 => ((Below.refl _ _).alloc (Nat.le_refl _) _).alloc (by simp) _
  have hfin : ∀ s : ByteArray, s = nameB deps nm ⟨x, n⟩ → s ++ ⟨#[46]⟩ ++ tx [u8 (n / 256), u8 n] = sideB deps nm ⟨x, n⟩ := fun s h => by rw [h]; rfl
  obtain ⟨SB, hSB⟩ : ∃ z, z = sideB deps nm ⟨x, n⟩ := ⟨_, rfl⟩
  rw [← hSB] at hfin ⊢
  obtain ⟨d, hdn⟩ : ∃ d, d = nameB deps nm ⟨x, n⟩ := ⟨_, rfl⟩
  rw [← hdn] at hz hfin
  have hF := hfin d rfl
  have z1 : ¬ 9223372036854775807 < d.size + 1 := by omega
  have z2 : (d ++ ⟨#[46]⟩ : ByteArray).size = d.size + 1 := by rw [ByteArray.size_append]; rfl
  have z3 : ¬ 9223372036854775807 < (d ++ ⟨#[46]⟩ : ByteArray).size + 2 := by omega
  have z4 : ¬ 9223372036854775807 < (d ++ ⟨#[46]⟩ : ByteArray).size + (tx [u8 (n / 256), u8 n]).size := by rw [tx_size2]; omega
  have HF := Lib.hid hF
  have HB := Lib.hid hB
  by_cases h0 : 0 ≤ x
  · obtain ⟨q, rfl⟩ : ∃ q : Nat, x = (q : Nat) := ⟨x.toNat, (Int.toNat_of_nonneg h0).symm⟩
    have hq : q < m := Int.ofNat_lt.1 (hk h0)
    obtain ⟨d', hd1⟩ : ∃ d, deps[q]? = some d := ⟨deps[q]'(hm ▸ hq), by simp⟩
    have hdd : d' = d := by rw [hdn]; unfold nameB; rw [if_pos h0, Int.toNat_natCast, List.getD_eq_getElem?_getD, hd1]; rfl
    subst hdd
    obtain ⟨b, o, rfl, hnl, hbo, hx⟩ := hd.at hd1
    have hdc := kp _ _ _ (hx q d' hd1)
    clear hnl hx hd1 hm hd hk kp hc hn hn1 hB hfin hSB hdn hF z2 hz
    go_enter Tryz.func56, Tryz.ntmps56
    go_wp2_with fail
    go_ret
    first | exact ⟨rfl, HB.out _ _⟩ | exact ⟨congrArg (fun s => Ending.returned (.string s)) HF.out, HB.out _ _⟩
  · by_cases h2 : x = -2
    · subst h2
      have hdd : nm = d := by rw [hdn]; unfold nameB; rw [if_neg h0, if_pos rfl]
      subst hdd
      clear hm hd hk kp hc hn hc1 hB hfin hSB hdn hF z2 hz
      go_enter Tryz.func56, Tryz.ntmps56
      go_wp2_with fail
      go_ret
      first | exact ⟨rfl, HB.out _ _⟩ | exact ⟨congrArg (fun s => Ending.returned (.string s)) HF.out, HB.out _ _⟩
    · have hdd : endB = d := by rw [hdn]; unfold nameB; rw [if_neg h0, if_neg h2]
      subst hdd
      have h3 : (x == -2) = false := by simpa using h2
      clear hm hd hk kp hc hn hc1 hn1 hB hfin hSB hdn hF z2 hz
      unfold endB at HF z1 z3 z4
      go_enter Tryz.func56, Tryz.ntmps56
      go_wp2_with fail
      go_ret
      first | exact ⟨rfl, HB.out _ _⟩ | exact ⟨congrArg (fun s => Ending.returned (.string s)) HF.out, HB.out _ _⟩

def kindB (k : Int) : ByteArray := tx [u8 (48 + k)]
def keyB (k : Int) (deps : Lb) (nm : ByteArray) (a b : Rf) : ByteArray := if k = 2 ∨ k = 3 then kindB k ++ sideB deps nm a ++ (⟨#[45]⟩ ++ sideB deps nm b) else kindB k ++ sideB deps nm a
theorem conv_one (x : Int) (t1 t2 t3 : TypeId) (h1 : Tryz.prog.underlying t1 = some (.slice t2)) (h2 : Tryz.prog.underlying t2 = some (.int .u8)) (h3 : Tryz.prog.underlying t3 = some .string) (b : Nat) (W : World) (hc : W.cell? ⟨b, 0, none⟩ = some (.int .u8 (x % 256))) :
    (convert t1 t3 (.slice (some ⟨b, 0, none⟩) 1 1)).run Tryz.prog W = .ok (.string (tx [u8 x])) W := by
  refine run_convert_bytes_back _ t1 t3 t2 ⟨b, 0, none⟩ 1 [u8 x] h1 h2 h3 (fun j hj => ?_)
  have hj2 : j < 1 := hj
  obtain rfl : j = 0 := by omega
  rw [show (⟨b, 0, none⟩ : Addr).add 0 = ⟨b, 0, none⟩ from rfl, hc]
  simp [u8_back]
theorem bcells {W w1 : World} (hb : Below W.heap.size W w1) : ∀ b o, b < W.heap.size → w1.cell? ⟨b, o, none⟩ = W.cell? ⟨b, o, none⟩ := fun b o h => hb.cell (p := ⟨b, o, none⟩) h
theorem side_size (deps : Lb) (nm : ByteArray) (r : Rf) : (sideB deps nm r).size = (nameB deps nm r).size + 3 := by
  unfold sideB
  rw [ByteArray.size_append, ByteArray.size_append, tx_size2]; rfl
theorem kS {W4 W W2 : World} {p : Nat} {x y : Value} (h : (W.cell? ⟨p, 0, none⟩ = some x ∧ W.cell? ⟨p, 1, none⟩ = some y) ∧ Below W4.heap.size W4 W) (hb : Below W.heap.size W W2) : (W2.cell? ⟨p, 0, none⟩ = some x ∧ W2.cell? ⟨p, 1, none⟩ = some y) ∧ Below W4.heap.size W4 W2 :=
  ⟨⟨(hb.cell (p := ⟨p, 0, none⟩) (cell_lt h.1.1)).trans h.1.1, (hb.cell (p := ⟨p, 1, none⟩) (cell_lt h.1.2)).trans h.1.2⟩, h.2.trans (hb.mono h.2.size)⟩
theorem boxK (w : World) (x1 x2 x3 x4 : Array Value) (t1 t2 t3 t4 : TypeId) : Below w.heap.size w ((((w.alloc (.cells x1 t1)).alloc (.cells x2 t2)).alloc (.cells x3 t3)).alloc (.cells x4 t4)) :=
  ((((Below.refl _ _).alloc (Nat.le_refl _) _).alloc (by simp) _).alloc (by simp; omega) _).alloc (by simp; omega) _

set_option maxHeartbeats 4000000 in
set_option maxRecDepth 100000 in
theorem key_any (k : Int) (deps : Lb) (da : Option Addr) (m dc : Nat) (nm : ByteArray) (a b : Rf) (w : World) (hk0 : 1 ≤ k) (hk1 : k ≤ 5) (hd : Reads w (.slice da m dc) deps) (hm : m = deps.length) (hka : 0 ≤ a.at_ → a.at_ < m) (hkb : k = 2 ∨ k = 3 → 0 ≤ b.at_ → b.at_ < m)
    (hza : (nameB deps nm a).size ≤ 140737488355328) (hzb : k = 2 ∨ k = 3 → (nameB deps nm b).size ≤ 140737488355328) :
    Calls Tryz.prog 27 #[.int .i64 k, .slice da m dc, .string nm, rfV a, rfV b] w fun e w' => e = .returned (.string (keyB k deps nm a b)) ∧ Below w.heap.size w w' := by
  have hBW := boxK w #[.slice da m dc] #[.string nm] #[.int .i64 a.at_, .int .i64 a.n] #[.int .i64 b.at_, .int .i64 b.n] 22 9 54 54
  obtain ⟨W4, hW4⟩ : ∃ z, z = (((w.alloc (.cells #[.slice da m dc] 22)).alloc (.cells #[.string nm] 9)).alloc (.cells #[.int .i64 a.at_, .int .i64 a.n] 54)).alloc (.cells #[.int .i64 b.at_, .int .i64 b.n] 54) := ⟨_, rfl⟩
  have g0 : W4.cell? ⟨w.heap.size, 0, none⟩ = some (.slice da m dc) := by rw [hW4]; simp [go_sem]
  have g1 : W4.cell? ⟨w.heap.size + 1, 0, none⟩ = some (.string nm) := by rw [hW4]; simp [go_sem]
  have g2 : W4.cell? ⟨w.heap.size + 1 + 1, 0, none⟩ = some (.int .i64 a.at_) := by rw [hW4]; simp [go_sem]
  have g3 : W4.cell? ⟨w.heap.size + 1 + 1, 1, none⟩ = some (.int .i64 a.n) := by rw [hW4]; simp [go_sem]
  have g4 : W4.cell? ⟨w.heap.size + 1 + 1 + 1, 0, none⟩ = some (.int .i64 b.at_) := by rw [hW4]; simp [go_sem]
  have g5 : W4.cell? ⟨w.heap.size + 1 + 1 + 1, 1, none⟩ = some (.int .i64 b.n) := by rw [hW4]; simp [go_sem]
  have cs : ∀ (r : Rf) wz, Below W4.heap.size W4 wz → (0 ≤ r.at_ → r.at_ < m) → (nameB deps nm r).size ≤ 140737488355328 → Calls Tryz.prog 56 #[rfV r, .pointer (some ⟨w.heap.size, 0, none⟩), .pointer (some ⟨w.heap.size + 1, 0, none⟩)] wz fun e w' => e = .returned (.string (sideB deps nm r)) ∧ Below wz.heap.size wz w' := fun r wz hz hk hs =>
    side_any deps da m dc nm r _ _ wz ((hd.below (hW4 ▸ hBW)).below hz) hm ((hz.cell (p := ⟨w.heap.size, 0, none⟩) (cell_lt g0)).trans g0) ((hz.cell (p := ⟨w.heap.size + 1, 0, none⟩) (cell_lt g1)).trans g1) hk hs
  have ca : ∀ wz, Below W4.heap.size W4 wz → Calls Tryz.prog 56 #[rfV a, .pointer (some ⟨w.heap.size, 0, none⟩), .pointer (some ⟨w.heap.size + 1, 0, none⟩)] wz fun e w' => e = .returned (.string (sideB deps nm a)) ∧ Below wz.heap.size wz w' := fun wz hz => cs a wz hz hka hza
  have cb : k = 2 ∨ k = 3 → ∀ wz, Below W4.heap.size W4 wz → Calls Tryz.prog 56 #[rfV b, .pointer (some ⟨w.heap.size, 0, none⟩), .pointer (some ⟨w.heap.size + 1, 0, none⟩)] wz fun e w' => e = .returned (.string (sideB deps nm b)) ∧ Below wz.heap.size wz w' := fun h wz hz => cs b wz hz (hkb h) (hzb h)
  have sa := side_size deps nm a
  have sb := side_size deps nm b
  have hfin : keyB k deps nm a b = if k = 2 ∨ k = 3 then kindB k ++ sideB deps nm a ++ (⟨#[45]⟩ ++ sideB deps nm b) else kindB k ++ sideB deps nm a := rfl
  obtain ⟨SA, hSA⟩ : ∃ z, z = sideB deps nm a := ⟨_, rfl⟩
  obtain ⟨SB, hSB⟩ : ∃ z, z = sideB deps nm b := ⟨_, rfl⟩
  rw [← hSA] at ca hfin sa
  rw [← hSB] at cb hfin sb
  have hsa : SA.size ≤ 140737488355331 := by omega
  have hsb : k = 2 ∨ k = 3 → SB.size ≤ 140737488355331 := fun h => by have := hzb h; omega
  have hkB : kindB k = tx [u8 (48 + k)] := rfl
  obtain ⟨KB, hKB⟩ : ∃ z, z = tx [u8 (48 + k)] := ⟨_, rfl⟩
  have hks : KB.size = 1 := by rw [hKB]; rfl
  rw [hkB, ← hKB] at hfin
  have hcv : ∀ bb W, W.cell? ⟨bb, 0, none⟩ = some (.int .u8 ((48 + k) % 256)) → (convert 101 9 (.slice (some ⟨bb, 0, none⟩) 1 1)).run Tryz.prog W = .ok (.string KB) W := fun bb W h => by
    rw [hKB]; exact conv_one (48 + k) 101 5 9 Tryz.underlying101 Tryz.underlying5 Tryz.underlying9 bb W h
  have z1 : ¬ 9223372036854775807 < KB.size + SA.size := by omega
  have z1' : (KB ++ SA).size = KB.size + SA.size := ByteArray.size_append ..
  have z2 : k = 2 ∨ k = 3 → ¬ 9223372036854775807 < 1 + SB.size := fun h => by have := hsb h; omega
  have z3' : ((⟨#[45]⟩ : ByteArray) ++ SB).size = 1 + SB.size := by rw [ByteArray.size_append]; rfl
  have z3 : k = 2 ∨ k = 3 → ¬ 9223372036854775807 < (KB ++ SA).size + ((⟨#[45]⟩ : ByteArray) ++ SB).size := fun h => by have := hsb h; omega
  have z4 : k = 2 ∨ k = 3 → ¬ 9223372036854775807 < KB.size + SA.size + (1 + SB.size) := fun h => by have := hsb h; omega
  have hb0 : Below W4.heap.size W4 W4.drew := (Below.refl _ _).drew
  have hb1 : ∀ o, Below W4.heap.size W4 ((W4.alloc o).drew) := fun o => ((Below.refl _ _).alloc (Nat.le_refl _) _).drew
  have hBW4 : Below w.heap.size w W4 := hW4 ▸ hBW
  obtain ⟨xa, na⟩ := a
  obtain ⟨xb, nb⟩ := b
  simp only at g2 g3 g4 g5 hW4
  have hlt0 := cell_lt g0
  have hlt4 := cell_lt g4
  have CA := Lib.hid ca
  have CB := Lib.hid cb
  have HF := Lib.hid hfin
  have HBW := Lib.hid hBW4
  have HZ2 := Lib.hid z2
  have HZ3 := Lib.hid z3
  have HZ4 := Lib.hid z4
  have HWE := Lib.hid hW4
  have wq1 : IntKind.i64.wrap (48 + k) = 48 + k := IntWalk.i64_in _ (by omega)
  have wq2 : IntKind.u8.wrap (48 + k) = (48 + k) % 256 := rfl
  obtain ⟨Y, hY⟩ : ∃ y, y = (48 + k) % 256 := ⟨_, rfl⟩
  rw [← hY] at wq2 hcv
  clear hY
  clear cs ca cb sa sb hfin hSA hSB hsa hsb hkB hKB hks z1' z2 z3' z3 z4 hBW hBW4 hza hzb hka hkb hm hd hW4
  go_enter Tryz.func27, Tryz.ntmps27
  go_wp2_with fail
  rw [← HWE.out]
  refine wp_region_held_drew (S := (fun W => (W.cell? ⟨w.heap.size + 1 + 1, 0, none⟩ = some (.int .i64 xa) ∧ W.cell? ⟨w.heap.size + 1 + 1, 1, none⟩ = some (.int .i64 na)) ∧ Below W4.heap.size W4 W)) (by kernel_rfl) ?_ (fun hHeld => ?_)
  · exact ⟨⟨g2, g3⟩, hb0⟩
  refine tkH 0 ⟨some 14, .move (.tmp 0), 3, "law.go:196", #[], none⟩ ?_
  try simp only [Act.put, List.setIfInBounds_toArray, List.set_cons_zero, List.set_cons_succ]
  refine tkH 1 ⟨some 15, .binOp BinOp.add 3 (.const (Value.int IntKind.i64 48)) (.tmp 14) 3, 3, "law.go:196", #[⟨0, .data⟩], none⟩ ?_
  try simp only [Act.put, List.setIfInBounds_toArray, List.set_cons_zero, List.set_cons_succ]
  refine tkH 2 ⟨some 16, .convert 3 5 (.tmp 15), 5, "law.go:196", #[⟨1, .data⟩], none⟩ ?_
  try simp only [Act.put, List.setIfInBounds_toArray, List.set_cons_zero, List.set_cons_succ]
  refine tkH 5 ⟨some 19, .move (.tmp 11), 102, "law.go:196", #[], none⟩ ?_
  try simp only [Act.put, List.setIfInBounds_toArray, List.set_cons_zero, List.set_cons_succ]
  refine tkH 6 ⟨some 20, .load 54 (.tmp 8), 54, "law.go:196", #[], none⟩ ?_
  try simp only [Act.put, List.setIfInBounds_toArray, List.set_cons_zero, List.set_cons_succ]
  refine wpAnyH_ready (rs := [3, 7]) (by kernel_rfl) (by simp) ?_
  refine AllReadyH.cons (o := ⟨some 17, .buildSlice 101 1 #[(0, .tmp 16)], 101, "law.go:196", #[⟨2, .data⟩], none⟩) rfl (fun KK hK => ?_) (AllReadyH.cons (o := ⟨some 21, .call { callee := Callee.value (.tmp 19), args := #[.tmp 20], argTypes := #[54] }, 9, "law.go:196", #[⟨5, .data⟩, ⟨6, .data⟩], none⟩) rfl (fun KK hK => ?_) AllReadyH.nil)
  · go_simp
    refine hK.out _ _ ?_ (fun hHeld => ?_)
    · exact kS hHeld ((Below.refl _ _).alloc (Nat.le_refl _) _)
    clear hK KK
    try simp only [Act.put, List.setIfInBounds_toArray, List.set_cons_zero, List.set_cons_succ]
    refine wpAnyH_ready (rs := [4, 7]) (by kernel_rfl) (by simp) ?_
    refine AllReadyH.cons (o := ⟨some 18, .convert 101 9 (.tmp 17), 9, "law.go:196", #[⟨3, .data⟩], none⟩) rfl (fun KK hK => ?_) (AllReadyH.cons (o := ⟨some 21, .call { callee := Callee.value (.tmp 19), args := #[.tmp 20], argTypes := #[54] }, 9, "law.go:196", #[⟨5, .data⟩, ⟨6, .data⟩], none⟩) rfl (fun KK hK => ?_) AllReadyH.nil)
    · go_simp
      refine hK.out _ _ ?_ (fun hHeld => ?_)
      · exact hHeld
      clear hK KK
      try simp only [Act.put, List.setIfInBounds_toArray, List.set_cons_zero, List.set_cons_succ]
      refine wpAnyH_ready (rs := [7]) (by kernel_rfl) (by simp) ?_
      refine AllReadyH.cons (o := ⟨some 21, .call { callee := Callee.value (.tmp 19), args := #[.tmp 20], argTypes := #[54] }, 9, "law.go:196", #[⟨5, .data⟩, ⟨6, .data⟩], none⟩) rfl (fun KK hK => ?_) AllReadyH.nil
      go_simp
      go_at_call 56
      (with_reducible refine (CA.out _ hHeld.2).mono ?_)
      rintro e w2 ⟨rfl, hb⟩
      have hcc := bcells hb
      refine hK.out _ _ ?_ (fun hHeld => ?_)
      · exact kS hHeld hb
      clear hK KK
      try simp only [Act.put, List.setIfInBounds_toArray, List.set_cons_zero, List.set_cons_succ]
      refine tkH 8 ⟨some 22, .binOp BinOp.add 9 (.tmp 18) (.tmp 21) 9, 9, "law.go:196", #[⟨4, .data⟩, ⟨7, .data⟩], none⟩ ?_
      try simp only [Act.put, List.setIfInBounds_toArray, List.set_cons_zero, List.set_cons_succ]
      refine tkH 9 ⟨some 12, .assign (.tmp 22), 9, "law.go:196", #[⟨8, .data⟩, ⟨7, .chain⟩, ⟨0, .phase⟩, ⟨1, .phase⟩, ⟨2, .phase⟩, ⟨3, .phase⟩, ⟨4, .phase⟩, ⟨5, .phase⟩, ⟨6, .phase⟩, ⟨7, .phase⟩, ⟨8, .phase⟩], none⟩ ?_
      try simp only [Act.put, List.setIfInBounds_toArray, List.set_cons_zero, List.set_cons_succ]
      refine wpAnyH_done (by kernel_rfl) ?_ _
      (first | have HX := Lib.hid hHeld.2 | skip)
      clear hHeld
      have e4 := (HX.out.cell (p := ⟨w.heap.size + 1 + 1 + 1, 0, none⟩) hlt4).trans g4
      have e5 := (HX.out.cell (p := ⟨w.heap.size + 1 + 1 + 1, 1, none⟩) hlt4).trans g5
      clear hcc hb
      by_cases h23 : k = 2 ∨ k = 3
      · have HC := Lib.hid (CB.out h23)
        have zz2 := HZ2.out h23
        have zz3 := HZ3.out h23
        have zz4 := HZ4.out h23
        have hf := HF.out
        rw [if_pos h23] at hf
        have HG := Lib.hid hf
        clear hf
        rcases h23 with rfl | rfl
        · go_wp2_with fail
          refine (HC.out _ HX.out).mono ?_
          rintro e w3 ⟨rfl, hb3⟩
          have HY := Lib.hid ((HBW.out.trans (HX.out.mono HBW.out.size)).trans (hb3.mono (Nat.le_trans HBW.out.size HX.out.size)))
          clear hb3
          go_wp2_with fail
          go_ret
          exact ⟨congrArg (fun s => Ending.returned (.string s)) HG.out.symm, HY.out⟩
        · go_wp2_with fail
          refine (HC.out _ HX.out).mono ?_
          rintro e w3 ⟨rfl, hb3⟩
          have HY := Lib.hid ((HBW.out.trans (HX.out.mono HBW.out.size)).trans (hb3.mono (Nat.le_trans HBW.out.size HX.out.size)))
          clear hb3
          go_wp2_with fail
          go_ret
          exact ⟨congrArg (fun s => Ending.returned (.string s)) HG.out.symm, HY.out⟩
      · have n2 : (k == 2) = false := by simp; omega
        have n3 : (k == 3) = false := by simp; omega
        have hf := HF.out
        rw [if_neg h23] at hf
        have HG := Lib.hid hf
        clear hf h23
        have HY := Lib.hid (HBW.out.trans (HX.out.mono HBW.out.size))
        go_wp2_with fail
        go_ret
        exact ⟨congrArg (fun s => Ending.returned (.string s)) HG.out.symm, HY.out⟩
    · go_simp
      go_at_call 56
      (with_reducible refine (CA.out _ hHeld.2).mono ?_)
      rintro e w2 ⟨rfl, hb⟩
      have hcc := bcells hb
      refine hK.out _ _ ?_ (fun hHeld => ?_)
      · exact kS hHeld hb
      clear hK KK
      try simp only [Act.put, List.setIfInBounds_toArray, List.set_cons_zero, List.set_cons_succ]
      refine wpAnyH_ready (rs := [4]) (by kernel_rfl) (by simp) ?_
      refine AllReadyH.cons (o := ⟨some 18, .convert 101 9 (.tmp 17), 9, "law.go:196", #[⟨3, .data⟩], none⟩) rfl (fun KK hK => ?_) AllReadyH.nil
      go_simp
      refine hK.out _ _ ?_ (fun hHeld => ?_)
      · exact hHeld
      clear hK KK
      try simp only [Act.put, List.setIfInBounds_toArray, List.set_cons_zero, List.set_cons_succ]
      refine tkH 8 ⟨some 22, .binOp BinOp.add 9 (.tmp 18) (.tmp 21) 9, 9, "law.go:196", #[⟨4, .data⟩, ⟨7, .data⟩], none⟩ ?_
      try simp only [Act.put, List.setIfInBounds_toArray, List.set_cons_zero, List.set_cons_succ]
      refine tkH 9 ⟨some 12, .assign (.tmp 22), 9, "law.go:196", #[⟨8, .data⟩, ⟨7, .chain⟩, ⟨0, .phase⟩, ⟨1, .phase⟩, ⟨2, .phase⟩, ⟨3, .phase⟩, ⟨4, .phase⟩, ⟨5, .phase⟩, ⟨6, .phase⟩, ⟨7, .phase⟩, ⟨8, .phase⟩], none⟩ ?_
      try simp only [Act.put, List.setIfInBounds_toArray, List.set_cons_zero, List.set_cons_succ]
      refine wpAnyH_done (by kernel_rfl) ?_ _
      (first | have HX := Lib.hid hHeld.2 | skip)
      clear hHeld
      have e4 := (HX.out.cell (p := ⟨w.heap.size + 1 + 1 + 1, 0, none⟩) hlt4).trans g4
      have e5 := (HX.out.cell (p := ⟨w.heap.size + 1 + 1 + 1, 1, none⟩) hlt4).trans g5
      clear hcc hb
      by_cases h23 : k = 2 ∨ k = 3
      · have HC := Lib.hid (CB.out h23)
        have zz2 := HZ2.out h23
        have zz3 := HZ3.out h23
        have zz4 := HZ4.out h23
        have hf := HF.out
        rw [if_pos h23] at hf
        have HG := Lib.hid hf
        clear hf
        rcases h23 with rfl | rfl
        · go_wp2_with fail
          refine (HC.out _ HX.out).mono ?_
          rintro e w3 ⟨rfl, hb3⟩
          have HY := Lib.hid ((HBW.out.trans (HX.out.mono HBW.out.size)).trans (hb3.mono (Nat.le_trans HBW.out.size HX.out.size)))
          clear hb3
          go_wp2_with fail
          go_ret
          exact ⟨congrArg (fun s => Ending.returned (.string s)) HG.out.symm, HY.out⟩
        · go_wp2_with fail
          refine (HC.out _ HX.out).mono ?_
          rintro e w3 ⟨rfl, hb3⟩
          have HY := Lib.hid ((HBW.out.trans (HX.out.mono HBW.out.size)).trans (hb3.mono (Nat.le_trans HBW.out.size HX.out.size)))
          clear hb3
          go_wp2_with fail
          go_ret
          exact ⟨congrArg (fun s => Ending.returned (.string s)) HG.out.symm, HY.out⟩
      · have n2 : (k == 2) = false := by simp; omega
        have n3 : (k == 3) = false := by simp; omega
        have hf := HF.out
        rw [if_neg h23] at hf
        have HG := Lib.hid hf
        clear hf h23
        have HY := Lib.hid (HBW.out.trans (HX.out.mono HBW.out.size))
        go_wp2_with fail
        go_ret
        exact ⟨congrArg (fun s => Ending.returned (.string s)) HG.out.symm, HY.out⟩
  · go_simp
    go_at_call 56
    (with_reducible refine (CA.out _ hHeld.2).mono ?_)
    rintro e w2 ⟨rfl, hb⟩
    have hcc := bcells hb
    refine hK.out _ _ ?_ (fun hHeld => ?_)
    · exact kS hHeld hb
    clear hK KK
    try simp only [Act.put, List.setIfInBounds_toArray, List.set_cons_zero, List.set_cons_succ]
    refine wpAnyH_ready (rs := [3]) (by kernel_rfl) (by simp) ?_
    refine AllReadyH.cons (o := ⟨some 17, .buildSlice 101 1 #[(0, .tmp 16)], 101, "law.go:196", #[⟨2, .data⟩], none⟩) rfl (fun KK hK => ?_) AllReadyH.nil
    go_simp
    refine hK.out _ _ ?_ (fun hHeld => ?_)
    · exact kS hHeld ((Below.refl _ _).alloc (Nat.le_refl _) _)
    clear hK KK
    try simp only [Act.put, List.setIfInBounds_toArray, List.set_cons_zero, List.set_cons_succ]
    refine wpAnyH_ready (rs := [4]) (by kernel_rfl) (by simp) ?_
    refine AllReadyH.cons (o := ⟨some 18, .convert 101 9 (.tmp 17), 9, "law.go:196", #[⟨3, .data⟩], none⟩) rfl (fun KK hK => ?_) AllReadyH.nil
    go_simp
    refine hK.out _ _ ?_ (fun hHeld => ?_)
    · exact hHeld
    clear hK KK
    try simp only [Act.put, List.setIfInBounds_toArray, List.set_cons_zero, List.set_cons_succ]
    refine tkH 8 ⟨some 22, .binOp BinOp.add 9 (.tmp 18) (.tmp 21) 9, 9, "law.go:196", #[⟨4, .data⟩, ⟨7, .data⟩], none⟩ ?_
    try simp only [Act.put, List.setIfInBounds_toArray, List.set_cons_zero, List.set_cons_succ]
    refine tkH 9 ⟨some 12, .assign (.tmp 22), 9, "law.go:196", #[⟨8, .data⟩, ⟨7, .chain⟩, ⟨0, .phase⟩, ⟨1, .phase⟩, ⟨2, .phase⟩, ⟨3, .phase⟩, ⟨4, .phase⟩, ⟨5, .phase⟩, ⟨6, .phase⟩, ⟨7, .phase⟩, ⟨8, .phase⟩], none⟩ ?_
    try simp only [Act.put, List.setIfInBounds_toArray, List.set_cons_zero, List.set_cons_succ]
    refine wpAnyH_done (by kernel_rfl) ?_ _
    (first | have HX := Lib.hid hHeld.2 | skip)
    clear hHeld
    have e4 := (HX.out.cell (p := ⟨w.heap.size + 1 + 1 + 1, 0, none⟩) hlt4).trans g4
    have e5 := (HX.out.cell (p := ⟨w.heap.size + 1 + 1 + 1, 1, none⟩) hlt4).trans g5
    clear hcc hb
    by_cases h23 : k = 2 ∨ k = 3
    · have HC := Lib.hid (CB.out h23)
      have zz2 := HZ2.out h23
      have zz3 := HZ3.out h23
      have zz4 := HZ4.out h23
      have hf := HF.out
      rw [if_pos h23] at hf
      have HG := Lib.hid hf
      clear hf
      rcases h23 with rfl | rfl
      · go_wp2_with fail
        refine (HC.out _ HX.out).mono ?_
        rintro e w3 ⟨rfl, hb3⟩
        have HY := Lib.hid ((HBW.out.trans (HX.out.mono HBW.out.size)).trans (hb3.mono (Nat.le_trans HBW.out.size HX.out.size)))
        clear hb3
        go_wp2_with fail
        go_ret
        exact ⟨congrArg (fun s => Ending.returned (.string s)) HG.out.symm, HY.out⟩
      · go_wp2_with fail
        refine (HC.out _ HX.out).mono ?_
        rintro e w3 ⟨rfl, hb3⟩
        have HY := Lib.hid ((HBW.out.trans (HX.out.mono HBW.out.size)).trans (hb3.mono (Nat.le_trans HBW.out.size HX.out.size)))
        clear hb3
        go_wp2_with fail
        go_ret
        exact ⟨congrArg (fun s => Ending.returned (.string s)) HG.out.symm, HY.out⟩
    · have n2 : (k == 2) = false := by simp; omega
      have n3 : (k == 3) = false := by simp; omega
      have hf := HF.out
      rw [if_neg h23] at hf
      have HG := Lib.hid hf
      clear hf h23
      have HY := Lib.hid (HBW.out.trans (HX.out.mono HBW.out.size))
      go_wp2_with fail
      go_ret
      exact ⟨congrArg (fun s => Ending.returned (.string s)) HG.out.symm, HY.out⟩
end Go.Proofs.YtgjcblginkdinaaGreatDoor
