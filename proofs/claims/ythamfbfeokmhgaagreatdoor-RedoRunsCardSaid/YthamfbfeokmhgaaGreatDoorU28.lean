/- The contract of the function that spreads a block to 64 numbers. The contract of the function that mixes all whole blocks in. -/
import Derived.Deep.OwnRows
import Derived.Deep.RegionWith
import Derived.Test.YthamfbfeokmhgaaGreatDoorU11
set_option linter.unusedVariables false
namespace Go.Proofs.YthamfbfeokmhgaaGreatDoor
open Go.ChangeShapes Go.WideShapes Go.ChangeAt Go.RowKit

attribute [local go_sem] wd_add wd_xor wd_and wd_or wd_andNot wd_ofByte wd_shl24 wd_shl16 wd_shl8 wd_shr3 wd_shr10 bv_u8

theorem rowIs_drewN {w : World} {B T N n : Nat} {f : Nat → Value} (h : w.rowIs B T N f) : (w.drewN n).rowIs B T N f := h
def z32 : Array Value := (List.replicate 64 (Value.int .u32 0)).toArray
theorem z32_at (i : Nat) (h : i < 64) : z32[i]? = some (.int .u32 (nv ((sch [] 0).getD i 0))) := by
  rw [z32, List.getElem?_toArray, List.getElem?_replicate, if_pos h]; rfl

theorem byte_getD (s : ByteArray) (i : Nat) (h : i < s.size) : s.data.toList.getD i 0 = s[i] := by
  have h' : i < s.data.toList.length := by rw [Array.length_toList]; exact h
  rw [List.getD_eq_getElem?_getD, List.getElem?_eq_getElem h']; rfl
theorem wdAt_bytes (s : ByteArray) (k : Nat) (h : 4 * k + 3 < s.size) :
    BitVec.ofNat 32 (s[4 * k]'(by omega)).toNat <<< 24 ||| BitVec.ofNat 32 (s[4 * k + 1]'(by omega)).toNat <<< 16 ||| BitVec.ofNat 32 (s[4 * k + 2]'(by omega)).toNat <<< 8 ||| BitVec.ofNat 32 (s[4 * k + 3]'(by omega)).toNat = wdAt s.data.toList k := by
  rw [wdAt, byte_getD s _ (by omega), byte_getD s _ (by omega), byte_getD s _ (by omega), byte_getD s _ (by omega)]; rfl

set_option maxHeartbeats 4000000 in
set_option maxRecDepth 100000 in
theorem spread_any (s : ByteArray) (w : World) (hs : s.size = 64) :
    Calls Tryz.prog 92 #[.string s] w fun e w' => e = .returned (.agg ((sch s.data.toList 64).map u).toArray) ∧ Below w.heap.size w w' := by
  go_enter Tryz.func92, Tryz.ntmps92
  go_wp2
  go_loopw [10] (fun iv wr => ∃ (k : Nat), k ≤ 16 ∧ iv = .int .i64 k ∧ wr.rowIs (w.heap.size + 1) 174 64 (fun j => .int .u32 (nv ((sch s.data.toList k).getD j 0))) ∧ wr.rowIs w.heap.size 174 64 (fun _ => .int .u32 0) ∧ Below w.heap.size w wr) (fun iv _ => 64 - (intOf iv).toNat)
  case atStart =>
    have e1 : ∀ w0 : World, (w0.alloc (.cells z32 174)).rowIs w0.heap.size 174 64 (fun j => .int .u32 (nv ((sch s.data.toList 0).getD j 0))) := fun w0 => World.rowIs_alloc w0 z32 _ _ z32_at
    refine ⟨0, by omega, rfl, ?_, (World.rowIs.alloc ((e1 w).congr fun i _ => rfl) _), ((Below.refl _ _).alloc (Nat.le_refl _) _).alloc (by rw [sizeAl]; omega) _⟩
    have := e1 (w.alloc (.cells z32 174))
    rw [sizeAl] at this
    exact this
  case round =>
    obtain ⟨k, hk, rfl, hrow, hrow0, hbel⟩ := hrel
    have HR := Lib.hid hrow
    have HR0 := Lib.hid hrow0
    have HB := Lib.hid hbel
    by_cases hlt : k < 16
    · have h01 : (0 : Int) ≤ k := by omega
      have h02 : (k : Int) < 16 := by omega
      have h64 : (k : Int) < 64 := by omega
      have hsz : s.data.toList.length = 64 := by rw [Array.length_toList]; exact hs
      have j0 : (0 : Int) ≤ 4 * k := by omega
      have j1 : (0 : Int) ≤ 4 * k + 1 := by omega
      have j2 : (0 : Int) ≤ 4 * k + 2 := by omega
      have j3 : (0 : Int) ≤ 4 * k + 3 := by omega
      have l0 : 4 * (k : Int) < 64 := by omega
      have l1 : 4 * (k : Int) + 1 < 64 := by omega
      have l2 : 4 * (k : Int) + 2 < 64 := by omega
      have l3 : 4 * (k : Int) + 3 < 64 := by omega
      have hcell := hrow.cell (i := k) (by omega)
      have hfroz := hrow.frozen k
      clear hrow hrow0 hbel
      obtain ⟨w0, rfl⟩ : ∃ w0, w0 = wr := ⟨wr, rfl⟩
      go_wp2
      have hw4 := wdAt_bytes s k (by omega)
      have HW4 := Lib.hid hw4
      clear hw4
      go_region
      go_wp2
      refine ⟨⟨k + 1, by omega, by go_num, ?_, (HR0.out.setOther (by show w.heap.size ≠ w.heap.size + 1; omega) _).drew, ?_⟩, by simp [intOf]; omega⟩
      · refine World.rowIs.drew ((HR.out.set k _).congr fun j hj => ?_)
        rw [sch_getD]
        by_cases e : j = k
        · rw [if_pos e, if_pos e, nextW, if_pos hlt, HW4.out]
        · rw [if_neg e, if_neg e]
      · exact Below.drewN (n := 1) (HB.out.setCell (p := ⟨w.heap.size + 1, k, none⟩) (by show w.heap.size ≤ w.heap.size + 1; omega) _)
    · have hke : k = 16 := by omega
      have hrow16 := hrow
      rw [hke] at hrow16
      have HR16 := Lib.hid hrow16
      have HKE := Lib.hid hke
      clear hke hrow16 HR
      clear hrow hrow0 hbel
      go_wp2
      go_loopw [5] (fun iv wr => ∃ (k : Nat), 16 ≤ k ∧ k ≤ 64 ∧ iv = .int .i64 k ∧ wr.rowIs (w.heap.size + 1) 174 64 (fun j => .int .u32 (nv ((sch s.data.toList k).getD j 0))) ∧ wr.rowIs w.heap.size 174 64 (fun _ => .int .u32 0) ∧ Below w.heap.size w wr) (fun iv _ => 64 - (intOf iv).toNat)
      case atStart => exact ⟨16, by omega, by omega, rfl, HR16.out, HR0.out, HB.out⟩
      case round =>
        obtain ⟨k, hk16, hk, rfl, hrow, hrow0, hbel⟩ := hrel
        clear HR16 HR0 HB
        have HR := Lib.hid hrow
        have HR0 := Lib.hid hrow0
        have HB := Lib.hid hbel
        by_cases hlt : k < 64
        · have h01 : (16 : Int) ≤ k := by omega
          have h02 : (k : Int) < 64 := by omega
          obtain ⟨m, rfl⟩ : ∃ m, k = m + 16 := ⟨k - 16, by omega⟩
          have g15 := hrow.cell (i := m + 1) (by omega)
          have g2 := hrow.cell (i := m + 14) (by omega)
          have g16 := hrow.cell (i := m) (by omega)
          have g7 := hrow.cell (i := m + 9) (by omega)
          have gk := hrow.cell (i := m + 16) (by omega)
          have hfroz := hrow.frozen (m + 16)
          have hnx : nextW s.data.toList (sch s.data.toList (m + 16)) (m + 16) = (sch s.data.toList (m + 16)).getD m 0 + ls0 ((sch s.data.toList (m + 16)).getD (m + 1) 0) + (sch s.data.toList (m + 16)).getD (m + 9) 0 + ls1 ((sch s.data.toList (m + 16)).getD (m + 14) 0) := by
            rw [nextW, if_neg (by omega)]; rfl
          obtain ⟨x15, e15⟩ : ∃ x, x = (sch s.data.toList (m + 16)).getD (m + 1) 0 := ⟨_, rfl⟩
          obtain ⟨x2, e2⟩ : ∃ x, x = (sch s.data.toList (m + 16)).getD (m + 14) 0 := ⟨_, rfl⟩
          obtain ⟨x16, e16⟩ : ∃ x, x = (sch s.data.toList (m + 16)).getD m 0 := ⟨_, rfl⟩
          obtain ⟨x7, e7⟩ : ∃ x, x = (sch s.data.toList (m + 16)).getD (m + 9) 0 := ⟨_, rfl⟩
          obtain ⟨xk, ek⟩ : ∃ x, x = (sch s.data.toList (m + 16)).getD (m + 16) 0 := ⟨_, rfl⟩
          rw [← e15, ← e2, ← e16, ← e7] at hnx
          rw [← e15] at g15
          rw [← e2] at g2
          rw [← e16] at g16
          rw [← e7] at g7
          rw [← ek] at gk
          have HNX := Lib.hid hnx
          clear hrow hrow0 hbel hnx e15 e2 e16 e7 ek hk16 hk
          obtain ⟨w0, rfl⟩ : ∃ w0, w0 = wr := ⟨wr, rfl⟩
          go_wp2
          go_quiet (fail)
          generalize hwz : w0.drewN nq = wz
          have HWZ := Lib.hid hwz
          have g16' : wz.cell? ⟨w.heap.size + 1, m, none⟩ = some (.int .u32 (nv x16)) := by rw [← hwz]; exact g16
          have g7' : wz.cell? ⟨w.heap.size + 1, m + 9, none⟩ = some (.int .u32 (nv x7)) := by rw [← hwz]; exact g7
          have gk' : wz.cell? ⟨w.heap.size + 1, m + 16, none⟩ = some (.int .u32 (nv xk)) := by rw [← hwz]; exact gk
          have hfroz' : wz.frozen? ⟨w.heap.size + 1, m + 16, none⟩ = false := by rw [← hwz]; exact hfroz
          clear hwz g16 g7 gk hfroz g15 g2
          go_wp2_with fail
          refine (turn7 _ _).mono ?_
          rintro e1 w1 ⟨rfl, rfl⟩
          go_wp2_with fail
          refine (turn18 _ _).mono ?_
          rintro e1 w1 ⟨rfl, rfl⟩
          go_wp2_with fail
          refine (turn17 _ _).mono ?_
          rintro e1 w1 ⟨rfl, rfl⟩
          go_wp2_with fail
          refine (turn19 _ _).mono ?_
          rintro e1 w1 ⟨rfl, rfl⟩
          go_wp2
          go_region
          go_wp2
          refine ⟨⟨m + 16 + 1, by omega, by omega, by go_num, ?_, ?_, ?_⟩, by simp [intOf]; omega⟩
          · refine World.rowIs.drew ((World.rowIs.set (f := fun j => .int .u32 (nv ((sch s.data.toList (m + 16)).getD j 0))) ?_ (m + 16) _).congr fun j hj => ?_)
            · rw [← HWZ.out]; exact HR.out
            · rw [sch_getD s.data.toList (m + 16) j]
              by_cases e : j = m + 16
              · rw [if_pos e, if_pos e, HNX.out]; rfl
              · rw [if_neg e, if_neg e]
          · refine World.rowIs.drew (World.rowIs.setOther ?_ (by show w.heap.size ≠ w.heap.size + 1; omega) _)
            rw [← HWZ.out]; exact HR0.out
          · refine Below.drew (Below.setCell ?_ (p := ⟨w.heap.size + 1, m + 16, none⟩) (by show w.heap.size ≤ w.heap.size + 1; omega) _)
            rw [← HWZ.out]; exact Below.drewN HB.out
        · have hke : k = 64 := by omega
          subst hke
          have hra : wr.rangeAt (w.heap.size + 1) 0 ((sch s.data.toList 64).map u) := by
            intro j v hv
            rw [Nat.zero_add]
            have hj : j < 64 := by
              have := (List.getElem?_eq_some_iff.1 hv).1
              rw [List.length_map, sch_len] at this
              exact this
            rw [HR.out.cell hj]
            rw [List.getElem?_map, getD_some (0 : Wd) (by rw [sch_len]; exact hj)] at hv
            exact hv
          have hth : wr.there w.heap.size 0 64 := by
            intro j hj
            rw [Nat.zero_add]
            exact ⟨by rw [HR0.out.cell hj]; rfl, HR0.out.frozen j⟩
          have hln : ((sch s.data.toList 64).map u).length = 64 := by rw [List.length_map, sch_len]
          have h1c : ((sch s.data.toList 64).map u).toArray.all (·.oneCell') = true := all_oneCell_toArray (by
            intro v hv
            obtain ⟨x, _, rfl⟩ := List.mem_map.1 hv
            rfl)
          obtain ⟨cs, hcs⟩ : ∃ cs, cs = (sch s.data.toList 64).map u := ⟨_, rfl⟩
          rw [← hcs] at hra hln h1c
          have HCS := Lib.hid hcs
          have HRA := Lib.hid hra
          have HTH := Lib.hid hth
          have HLN := Lib.hid hln
          have H1C := Lib.hid h1c
          clear hrow hrow0 hbel hra hth hln h1c hcs
          have hst : (storeCells ⟨w.heap.size, 0, none⟩ cs).run Tryz.prog wr = .ok () (wr.setCells w.heap.size 0 cs) := by
            have h := run_storeCells_cells (P := Tryz.prog) w.heap.size 0 cs 0 wr (fun j hj => by simpa using (HTH.out j (by rw [← HLN.out]; exact hj)).1) (fun j hj => by simpa using (HTH.out j (by rw [← HLN.out]; exact hj)).2)
              (fun v hv => (Array.all_eq_true_iff_forall_mem.1 H1C.out) v (by simpa using hv))
            simpa using h
          go_wp2_with (refine wpList_load_mid rfl 174 (.tmp 3) rfl (w.heap.size + 1) 0 rfl cs _ HRA.out Tryz.underlying174 rfl (by rw [HLN.out]; kernel_rfl) ?_)
          refine ret_cells (b := w.heap.size) (o := 0) cs rfl rfl rfl (World.rangeAt_setCells_same wr w.heap.size 0 cs (by rw [HLN.out]; exact HTH.out)) Tryz.underlying174 rfl (by rw [HLN.out]; kernel_rfl) ⟨?_, ?_⟩
          · rw [HCS.out]
          · exact Below.setCells' (Nat.le_refl _) cs 0 wr HB.out
end Go.Proofs.YthamfbfeokmhgaaGreatDoor
set_option linter.unusedVariables false
namespace Go.Proofs.YthamfbfeokmhgaaGreatDoor
open Go.ChangeShapes Go.WideShapes Go.ChangeAt Go.RowKit

def Has8 (w : World) (b : Nat) (S : St) : Prop := w.rowIs b 151 8 (fun j => (uS S).getD j undef)
theorem Has8.cells {w : World} {b : Nat} {S : St} (h : Has8 w b S) :
    (w.cell? ⟨b, 0, none⟩ = some (.int .u32 (nv S.a)) ∧ w.cell? ⟨b, 1, none⟩ = some (.int .u32 (nv S.b)) ∧ w.cell? ⟨b, 2, none⟩ = some (.int .u32 (nv S.c)) ∧ w.cell? ⟨b, 3, none⟩ = some (.int .u32 (nv S.d)) ∧ w.cell? ⟨b, 4, none⟩ = some (.int .u32 (nv S.e)) ∧ w.cell? ⟨b, 5, none⟩ = some (.int .u32 (nv S.f)) ∧ w.cell? ⟨b, 6, none⟩ = some (.int .u32 (nv S.g)) ∧ w.cell? ⟨b, 7, none⟩ = some (.int .u32 (nv S.h))) ∧
    (w.frozen? ⟨b, 0, none⟩ = false ∧ w.frozen? ⟨b, 1, none⟩ = false ∧ w.frozen? ⟨b, 2, none⟩ = false ∧ w.frozen? ⟨b, 3, none⟩ = false ∧ w.frozen? ⟨b, 4, none⟩ = false ∧ w.frozen? ⟨b, 5, none⟩ = false ∧ w.frozen? ⟨b, 6, none⟩ = false ∧ w.frozen? ⟨b, 7, none⟩ = false) :=
  ⟨⟨h.cell (i := 0) (by omega), h.cell (i := 1) (by omega), h.cell (i := 2) (by omega), h.cell (i := 3) (by omega), h.cell (i := 4) (by omega), h.cell (i := 5) (by omega), h.cell (i := 6) (by omega), h.cell (i := 7) (by omega)⟩,
   ⟨h.frozen 0, h.frozen 1, h.frozen 2, h.frozen 3, h.frozen 4, h.frozen 5, h.frozen 6, h.frozen 7⟩⟩
theorem rowIs_below {w w' : World} {b t n : Nat} {f : Nat → Value} (h : w.rowIs b t n f) (hb : Below w.heap.size w w') : w'.rowIs b t n f :=
  h.of_block (hb.block b h.lt)
theorem Has8.below {w w' : World} {b : Nat} {S : St} (h : Has8 w b S) (hb : Below w.heap.size w w') : Has8 w' b S := rowIs_below h hb
theorem Has8.there {w : World} {b : Nat} {S : St} (h : Has8 w b S) : w.there b 0 8 := by
  intro j hj
  rw [Nat.zero_add]
  exact ⟨by rw [World.rowIs.cell h hj]; rfl, World.rowIs.frozen h j⟩

theorem Has8.set {w : World} {b : Nat} {S : St} (h : Has8 w b S) (T : St) : Has8 ((((((((w.setCell ⟨b, 0, none⟩ (.int .u32 (nv T.a))).setCell ⟨b, 1, none⟩ (.int .u32 (nv T.b))).setCell ⟨b, 2, none⟩ (.int .u32 (nv T.c))).setCell ⟨b, 3, none⟩ (.int .u32 (nv T.d))).setCell ⟨b, 4, none⟩ (.int .u32 (nv T.e))).setCell ⟨b, 5, none⟩ (.int .u32 (nv T.f))).setCell ⟨b, 6, none⟩ (.int .u32 (nv T.g))).setCell ⟨b, 7, none⟩ (.int .u32 (nv T.h))) b T := by
  have h' : w.rowIs b 151 8 (fun j => (uS S).getD j undef) := h
  refine ((((((((h'.set 0 _).set 1 _).set 2 _).set 3 _).set 4 _).set 5 _).set 6 _).set 7 _).congr fun j hj => ?_
  rcases (by omega : j = 0 ∨ j = 1 ∨ j = 2 ∨ j = 3 ∨ j = 4 ∨ j = 5 ∨ j = 6 ∨ j = 7) with rfl | rfl | rfl | rfl | rfl | rfl | rfl | rfl <;> rfl
theorem Has8.other {w : World} {b c : Nat} {S : St} {x0 x1 x2 x3 x4 x5 x6 x7 : Value} (h : Has8 w c S) (hc : c ≠ b) : Has8 ((((((((w.setCell ⟨b, 0, none⟩ x0).setCell ⟨b, 1, none⟩ x1).setCell ⟨b, 2, none⟩ x2).setCell ⟨b, 3, none⟩ x3).setCell ⟨b, 4, none⟩ x4).setCell ⟨b, 5, none⟩ x5).setCell ⟨b, 6, none⟩ x6).setCell ⟨b, 7, none⟩ x7) c S :=
  (((((((World.rowIs.setOther h (a := ⟨b, 0, none⟩) hc _).setOther (a := ⟨b, 1, none⟩) hc _).setOther (a := ⟨b, 2, none⟩) hc _).setOther (a := ⟨b, 3, none⟩) hc _).setOther (a := ⟨b, 4, none⟩) hc _).setOther (a := ⟨b, 5, none⟩) hc _).setOther (a := ⟨b, 6, none⟩) hc _).setOther (a := ⟨b, 7, none⟩) hc _

set_option maxHeartbeats 4000000 in
set_option maxRecDepth 100000 in
theorem mixAll_any (S0 : St) (s : ByteArray) (w : World) (hk : HasK w) (hs : s.size ≤ 1000000) :
    Calls Tryz.prog 73 #[.agg (uS S0), .string s] w fun e w' => e = .returned (.agg (uS (mixL KK (s.size / 64) S0 s.data.toList))) ∧ Below w.heap.size w w' := by
  obtain ⟨R, hR⟩ : ∃ R, mixL KK (s.size / 64) S0 s.data.toList = R := ⟨_, rfl⟩
  rw [hR]
  have HR := Lib.hid hR
  have HK := Lib.hid hk
  clear hR hk
  go_enter Tryz.func73, Tryz.ntmps73
  go_wp2
  go_loopw [1] (fun sv wr => ∃ (x : ByteArray) (S : St), sv = .string x ∧ x.size ≤ 1000000 ∧ Hid (mixL KK (x.size / 64) S x.data.toList = R) ∧ Has8 wr w.heap.size S ∧ Has8 wr (w.heap.size + 1) ⟨0, 0, 0, 0, 0, 0, 0, 0⟩ ∧ Below w.heap.size w wr) (fun sv _ => match sv with | .string x => x.size | _ => 0)
  case atStart =>
    have e1 : ∀ (w0 : World) (S : St), Has8 (w0.alloc (.cells (uS S) 151)) w0.heap.size S := fun w0 S => World.rowIs_alloc w0 (uS S) _ _ (fun i hi => by
      have hi8 : i < 8 := hi
      rw [Array.getElem?_eq_getElem hi, Array.getD_eq_getD_getElem?, Array.getElem?_eq_getElem hi]; rfl)
    refine ⟨s, S0, rfl, hs, HR, World.rowIs.alloc (e1 w S0) _, ?_, ((Below.refl _ _).alloc (Nat.le_refl _) _).alloc (by rw [sizeAl]; omega) _⟩
    have := e1 (w.alloc (.cells (uS S0) 151)) ⟨0, 0, 0, 0, 0, 0, 0, 0⟩
    rw [sizeAl] at this
    exact this
  case round =>
    obtain ⟨x, S, rfl, hx, HM, h8, hz8, hbel⟩ := hrel
    have H8 := Lib.hid h8
    have HZ8 := Lib.hid hz8
    have HB := Lib.hid hbel
    have HKr := Lib.hid (HK.out.below hbel)
    by_cases hlt : 64 ≤ x.size
    · obtain ⟨⟨c0, c1, c2, c3, c4, c5, c6, c7⟩, z0, z1, z2, z3, z4, z5, z6, z7⟩ := h8.cells
      have h64 : (64 : Int) ≤ x.size := by omega
      clear h8 hz8 hbel
      obtain ⟨w0, rfl⟩ : ∃ w0, w0 = wr := ⟨wr, rfl⟩
      go_wp2
      go_region_with (first
        | (go_at_call 92
           refine (spread_any _ _ (by rw [ByteArray.size_extract]; omega)).mono ?_
           rintro e w1 ⟨rfl, hb1⟩
           have hr1 := Has8.below (S := S) (b := w.heap.size) (by exact H8.out) hb1
           have hk1 := HasK.below (by exact HKr.out) hb1
           obtain ⟨⟨a0, a1, a2, a3, a4, a5, a6, a7⟩, y0, y1, y2, y3, y4, y5, y6, y7⟩ := hr1.cells
           have HR1 := Lib.hid hr1
           have HK1 := Lib.hid hk1
           have HB1 := Lib.hid hb1
           clear hr1 hk1 hb1)
        | (go_at_call 91
           refine (mix_any S _ _ (sch_len _ _) (by exact HK1.out)).mono ?_
           rintro e w2 ⟨rfl, hb2⟩
           have hr2 := Has8.below (S := S) (b := w.heap.size) (by exact HR1.out) hb2
           obtain ⟨⟨b0, b1, b2, b3, b4, b5, b6, b7⟩, x0, x1, x2, x3, x4, x5, x6, x7⟩ := hr2.cells
           have HR2 := Lib.hid hr2
           have HB2 := Lib.hid hb2
           clear hr2 hb2))
      all_goals go_wp2
      all_goals refine ⟨⟨_, mixB KK S (x.data.toList.take 64), rfl, by simp [ByteArray.size_extract]; omega, Lib.hid ?_, Has8.set HR2.out (mixB KK S (x.data.toList.take 64)), Has8.other (Has8.below (Has8.below (by exact HZ8.out) HB1.out) (by exact HB2.out)) (by omega), below8 ?_ (Nat.le_refl _)⟩, ?_⟩
      all_goals first
        | (show x.size - 64 < _; omega)
        | (show (x.extract 64 x.size).size < x.size; rw [ByteArray.size_extract]; omega)
        | exact Below.trans (Below.trans (by first | exact HB.out | exact HB.out.drew) (HB1.out.mono HB.out.size)) (HB2.out.mono (Nat.le_trans HB.out.size HB1.out.size))
        | (obtain ⟨m, hm⟩ : ∃ m, x.size / 64 = m + 1 := ⟨x.size / 64 - 1, by omega⟩
           have e1 : (x.extract 64 x.size).size / 64 = m := by rw [ByteArray.size_extract]; omega
           have e2 : (x.extract 64 x.size).data.toList = x.data.toList.drop 64 := by
             have hl : x.data.toList.length = x.size := Array.length_toList
             simp
             exact List.take_of_length_le (by rw [List.length_drop]; omega)
           have := HM.out
           rw [hm, mixL] at this
           rw [e1, e2]
           exact this)
      all_goals trace_state
    · obtain ⟨⟨c0, c1, c2, c3, c4, c5, c6, c7⟩, -, -, -, -, -, -, -, -⟩ := h8.cells
      obtain ⟨⟨d0, d1, d2, d3, d4, d5, d6, d7⟩, z0, z1, z2, z3, z4, z5, z6, z7⟩ := hz8.cells
      clear h8 hz8 hbel
      go_wp2
      refine ret8 rfl rfl rfl HZ8.out.there Tryz.underlying151 rfl (by kernel_rfl) ⟨?_, below8 HB.out (by omega)⟩
      have h0 : x.size / 64 = 0 := by omega
      have := HM.out
      rw [h0, mixL] at this
      rw [this]
end Go.Proofs.YthamfbfeokmhgaaGreatDoor
