/- The lines of an op are put on their vertices. -/
import Derived.Deep.RegionHeld3
import Derived.Test.YtojnagonhihknaaGreatDoorU13
import Derived.Test.YtojnagonhihknaaGreatDoorU20
import Derived.Test.YtojnagonhihknaaGreatDoorU21
import Derived.Test.YtojnagonhihknaaGreatDoorU30
set_option linter.unusedVariables false
namespace Go.Proofs.YtojnagonhihknaaGreatDoor
open Go.ChangeShapes Go.WideShapes Go.ChangeAt Go.RowKit Go.WideMaps Go.Maps

def lnX (A B : ByteArray × Int) (l : ByteArray) (x : Vx) : Vx := { x with line := l, ap := A.1, an := A.2, bp := B.1, bn := B.2 }
def lnV (A B : ByteArray × Int) (next : Nat) (ls : Lb) (vs : List Vx) : List Vx := vs.mapIdx fun j x => if next ≤ j then (match ls[j - next]? with | some l => lnX A B l x | none => x) else x
theorem lnV_nil (A B : ByteArray × Int) (next : Nat) (vs : List Vx) : lnV A B next [] vs = vs := by
  unfold lnV
  apply List.ext_getElem?
  intro j
  rw [List.getElem?_mapIdx]
  cases vs[j]? with
  | none => rfl
  | some x => simp
theorem lnV_len (A B : ByteArray × Int) (next : Nat) (ls : Lb) (vs : List Vx) : (lnV A B next ls vs).length = vs.length := by unfold lnV; rw [List.length_mapIdx]
theorem lnV_at (A B : ByteArray × Int) (next : Nat) (ls : Lb) (vs : List Vx) (j : Nat) : (lnV A B next ls vs)[j]? = vs[j]?.map fun x => if next ≤ j then (match ls[j - next]? with | some l => lnX A B l x | none => x) else x := by unfold lnV; rw [List.getElem?_mapIdx]
theorem lnV_next {A B : ByteArray × Int} {next k : Nat} {ls : Lb} {vs : List Vx} {x : Vx} (hk : k ≤ ls.length) (hx : vs[next + k]? = some x) : (lnV A B next (ls.take k) vs)[next + k]? = some x := by
  rw [lnV_at, hx, Option.map_some, if_pos (by omega), show next + k - next = k by omega, List.getElem?_eq_none (by rw [List.length_take]; omega)]
theorem lnV_step {A B : ByteArray × Int} {next k : Nat} {ls : Lb} {vs : List Vx} {x : Vx} {l : ByteArray} (hl : ls[k]? = some l) (hx : vs[next + k]? = some x) : (lnV A B next (ls.take k) vs).set (next + k) (lnX A B l x) = lnV A B next (ls.take (k + 1)) vs := by
  have hk := (List.getElem?_eq_some_iff.1 hl).1
  have hlt := (List.getElem?_eq_some_iff.1 hx).1
  apply List.ext_getElem?
  intro j
  rw [List.getElem?_set, lnV_len, lnV_at, lnV_at]
  by_cases e : next + k = j
  · subst e
    rw [if_pos rfl, if_pos hlt, hx, Option.map_some, if_pos (by omega), show next + k - next = k by omega, List.getElem?_take_of_lt (by omega), hl]
  · rw [if_neg e]
    congr 1
    funext y
    by_cases hj : next ≤ j
    · rw [if_pos hj, if_pos hj]
      by_cases h2 : j - next < k
      · rw [List.getElem?_take_of_lt h2, List.getElem?_take_of_lt (by omega)]
      · rw [List.getElem?_eq_none (by rw [List.length_take]; omega), List.getElem?_eq_none (by rw [List.length_take]; omega)]
    · rw [if_neg hj, if_neg hj]
def ahdN (ea next k : Nat) : Nat := if k = 0 then ea else next + k - 1
def cpN (ea next k : Nat) : List (Int × Int) := (List.range k).map fun i => ((ahdN ea next i : Int), ((next + i : Nat) : Int))
theorem cpN_step (ea next k : Nat) : cpN ea next (k + 1) = cpN ea next k ++ [((ahdN ea next k : Int), ((next + k : Nat) : Int))] := by unfold cpN; rw [List.range_succ, List.map_append, List.map_singleton]
theorem ahdN_step (ea next k : Nat) : ahdN ea next (k + 1) = next + k := by unfold ahdN; rw [if_neg (by omega)]; omega

abbrev LnS (wz : World) (p q bv n cap ea eb : Nat) (xa xb : Vx) (W : World) : Prop :=
  W.cell? ⟨p, 1, none⟩ = some (.slice (some ⟨bv, 0, none⟩) n cap) ∧ W.cell? ⟨q, 0, none⟩ = some (.int .i64 (ea : Int)) ∧ W.cell? ⟨q, 1, none⟩ = some (.int .i64 (eb : Int)) ∧ W.cell? ⟨bv, ea * 8, none⟩ = some (.string xa.pn) ∧ W.cell? ⟨bv, ea * 8 + 1, none⟩ = some (.int .i64 xa.n) ∧ W.cell? ⟨bv, eb * 8, none⟩ = some (.string xb.pn) ∧ W.cell? ⟨bv, eb * 8 + 1, none⟩ = some (.int .i64 xb.n) ∧ Below wz.heap.size wz W
theorem infoP2 : (Tryz.prog.info? 54).map (fun i => (i.zero, i.size, i.bytes)) = some (some (.agg #[.int .i64 0, .int .i64 0]), 2, 16) := by kernel_rfl
theorem prs_one {L : List (Int × Int)} {a b : Int} : prs (L ++ [(a, b)]) = prs L ++ [.int .i64 a, .int .i64 b] := by rw [prs_app]; rfl
theorem src_pair {w : World} (a b : Int) : Src Tryz.prog 2 28 (.slice (some ⟨w.heap.size, 0, none⟩) 1 1) 1 [.int .i64 a, .int .i64 b] (w.alloc (.cells #[.int .i64 a, .int .i64 b] 54)) :=
  src_new Tryz.underlying28 [.int .i64 a, .int .i64 b] 1 54 1 rfl (by intro u hu; simp only [List.mem_cons, List.not_mem_nil, or_false] at hu; rcases hu with rfl | rfl <;> rfl)
theorem SM.putLine {Z : Nat → Prop} {w : World} {p bl bj bv n cap j : Nat} {uv : Value} {S : Sk} {x : Vx} (h : SM Z w p bl bj (.slice (some ⟨bv, 0, none⟩) n cap) uv S) (hx : S.vs[j]? = some x) (l : ByteArray) (A B : ByteArray × Int) :
    SM Z (((((w.setCell ⟨bv, j * 8 + 2, none⟩ (.string l)).setCell ⟨bv, j * 8 + 4, none⟩ (.string A.1)).setCell ⟨bv, j * 8 + 5, none⟩ (.int .i64 A.2)).setCell ⟨bv, j * 8 + 6, none⟩ (.string B.1)).setCell ⟨bv, j * 8 + 7, none⟩ (.int .i64 B.2)) p bl bj (.slice (some ⟨bv, 0, none⟩) n cap) uv { S with vs := S.vs.set j (lnX A B l x) } ∧
      Off (fun k => k = bv) w (((((w.setCell ⟨bv, j * 8 + 2, none⟩ (.string l)).setCell ⟨bv, j * 8 + 4, none⟩ (.string A.1)).setCell ⟨bv, j * 8 + 5, none⟩ (.int .i64 A.2)).setCell ⟨bv, j * 8 + 6, none⟩ (.string B.1)).setCell ⟨bv, j * 8 + 7, none⟩ (.int .i64 B.2)) := by
  have hlt := (List.getElem?_eq_some_iff.1 hx).1
  have hs : ∀ y : Vx, (S.vs.set j y)[j]? = some y := fun y => by rw [List.getElem?_set_self hlt]
  obtain ⟨s1, o1⟩ := h.setV hx (i := 2) (y := { x with line := l }) (u := .string l) (by decide) rfl
  obtain ⟨s2, o2⟩ := s1.setV (hs _) (i := 4) (y := { x with line := l, ap := A.1 }) (u := .string A.1) (by decide) rfl
  simp only [List.set_set] at s2
  obtain ⟨s3, o3⟩ := s2.setV (hs _) (i := 5) (y := { x with line := l, ap := A.1, an := A.2 }) (u := .int .i64 A.2) (by decide) rfl
  simp only [List.set_set] at s3
  obtain ⟨s4, o4⟩ := s3.setV (hs _) (i := 6) (y := { x with line := l, ap := A.1, an := A.2, bp := B.1 }) (u := .string B.1) (by decide) rfl
  simp only [List.set_set] at s4
  obtain ⟨s5, o5⟩ := s4.setV (hs _) (i := 7) (y := lnX A B l x) (u := .int .i64 B.2) (by decide) rfl
  simp only [List.set_set] at s5
  exact ⟨s5, (((o1.trans o2).trans o3).trans o4).trans o5⟩
def anyCell (W : World) (a : Addr) : Value := (W.cell? a).getD .nilIface
theorem anyCell_of {W : World} {a : Addr} (h : (W.cell? a).isSome = true) : W.cell? a = some (anyCell W a) := by
  unfold anyCell
  cases e : W.cell? a with
  | none => rw [e] at h; cases h
  | some v => rfl
theorem anyCell_set {W : World} {b o : Nat} {u : Value} {x : Addr} (h : W.cell? x = some (anyCell W x)) : (W.setCell ⟨b, o, none⟩ u).cell? x = some (anyCell (W.setCell ⟨b, o, none⟩ u) x) := anyCell_of (World.isSome_setCells b [u] o W x (by rw [h]; rfl))
abbrev LV (q8 q9 bv J : Nat) (xa xb : Vx) (W : World) : Prop :=
  W.cell? ⟨q8, 0, none⟩ = some (.string xa.pn) ∧ W.cell? ⟨q8, 1, none⟩ = some (.int .i64 xa.n) ∧ W.cell? ⟨q9, 0, none⟩ = some (.string xb.pn) ∧ W.cell? ⟨q9, 1, none⟩ = some (.int .i64 xb.n) ∧
  W.cell? ⟨bv, J + 2, none⟩ = some (anyCell W ⟨bv, J + 2, none⟩) ∧ W.cell? ⟨bv, J + 4, none⟩ = some (anyCell W ⟨bv, J + 4, none⟩) ∧ W.cell? ⟨bv, J + 5, none⟩ = some (anyCell W ⟨bv, J + 5, none⟩) ∧ W.cell? ⟨bv, J + 6, none⟩ = some (anyCell W ⟨bv, J + 6, none⟩) ∧ W.cell? ⟨bv, J + 7, none⟩ = some (anyCell W ⟨bv, J + 7, none⟩) ∧
  W.frozen? ⟨bv, J + 2, none⟩ = false ∧ W.frozen? ⟨bv, J + 4, none⟩ = false ∧ W.frozen? ⟨bv, J + 5, none⟩ = false ∧ W.frozen? ⟨bv, J + 6, none⟩ = false ∧ W.frozen? ⟨bv, J + 7, none⟩ = false
theorem lv_set {q8 q9 bv J : Nat} {xa xb : Vx} {W : World} (h8 : q8 ≠ bv) (h9 : q9 ≠ bv) (o : Nat) (u : Value) (h : LV q8 q9 bv J xa xb W) : LV q8 q9 bv J xa xb (W.setCell ⟨bv, o, none⟩ u) := by
  obtain ⟨a1, a2, a3, a4, b1, b2, b3, b4, b5, f1, f2, f3, f4, f5⟩ := h
  have hne : ∀ q j, q ≠ bv → (W.setCell ⟨bv, o, none⟩ u).cell? ⟨q, j, none⟩ = W.cell? ⟨q, j, none⟩ := fun q j hq => World.cell?_setCell_other _ _ _ _ (fun e => hq (by injection e with e; exact e.symm))
  exact ⟨(hne _ _ h8).trans a1, (hne _ _ h8).trans a2, (hne _ _ h9).trans a3, (hne _ _ h9).trans a4, anyCell_set b1, anyCell_set b2, anyCell_set b3, anyCell_set b4, anyCell_set b5,
    by rw [World.frozen?_setCell]; exact f1, by rw [World.frozen?_setCell]; exact f2, by rw [World.frozen?_setCell]; exact f3, by rw [World.frozen?_setCell]; exact f4, by rw [World.frozen?_setCell]; exact f5⟩
structure LnT (Z : Nat → Prop) (w : World) (p bl bj bv n cap : Nat) (uv lv : Value) (S : Sk) (ls : Lb) (ea eb : Nat) (xa xb : Vx) (q8 q9 : Nat) (W3 : World) : Prop where
  sm : SM Z W3 p bl bj (.slice (some ⟨bv, 0, none⟩) n cap) uv S
  rd : ∀ wr, Off Z W3 wr → Reads wr lv ls
  c8 : W3.cell? ⟨q8, 0, none⟩ = some (.string xa.pn) ∧ W3.cell? ⟨q8, 1, none⟩ = some (.int .i64 xa.n)
  c9 : W3.cell? ⟨q9, 0, none⟩ = some (.string xb.pn) ∧ W3.cell? ⟨q9, 1, none⟩ = some (.int .i64 xb.n)
  c5 : W3.cell? ⟨w.heap.size, 0, none⟩ = some (.int .i64 (ea : Int)) ∧ W3.cell? ⟨w.heap.size, 1, none⟩ = some (.int .i64 (eb : Int))
  z8 : ¬ Z q8
  z9 : ¬ Z q9
  z5 : ¬ Z w.heap.size
  lo : Below w.heap.size w W3
theorem lnT_made {Z : Nat → Prop} {w : World} {p bl bj bv n cap : Nat} {uv lv : Value} {S : Sk} {ls : Lb} {ea eb : Nat} {xa xb : Vx} (h : SM Z w p bl bj (.slice (some ⟨bv, 0, none⟩) n cap) uv S) (hls : ∀ wr, Off Z w wr → Reads wr lv ls) (t1 t2 : TypeId) (x0 x1 y0 y1 : Value) :
    let W3 := (((w.alloc (.cells #[.int .i64 (ea : Int), .int .i64 (eb : Int)] t1)).alloc (.cells #[x0, x1] t2)).alloc (.cells #[y0, y1] t2)).drew
    (x0 = .string xa.pn → x1 = .int .i64 xa.n → y0 = .string xb.pn → y1 = .int .i64 xb.n → LnT Z w p bl bj bv n cap uv lv S ls ea eb xa xb (w.heap.size + 1) (w.heap.size + 1 + 1) W3) ∧
    (y0 = .string xa.pn → y1 = .int .i64 xa.n → x0 = .string xb.pn → x1 = .int .i64 xb.n → LnT Z w p bl bj bv n cap uv lv S ls ea eb xa xb (w.heap.size + 1 + 1) (w.heap.size + 1) W3) := by
  intro W3
  obtain ⟨q1, q2, q3, qb, qs⟩ := boxA3 (Below.refl _ (((w.alloc (.cells #[.int .i64 (ea : Int), .int .i64 (eb : Int)] t1)).alloc (.cells #[x0, x1] t2)).alloc (.cells #[y0, y1] t2)))
  have hsm := h.below qb.drew
  have hrd : ∀ wr, Off Z W3 wr → Reads wr lv ls := fun wr ho => hls wr ((Off.of_below qb.drew).trans ho)
  have hz : ∀ k, w.heap.size ≤ k → ¬ Z k := fun k hk hz => by have := h.zlt k hz; omega
  exact ⟨fun e1 e2 e3 e4 => ⟨hsm, hrd, ⟨(q2 0).trans (by rw [e1]; rfl), (q2 1).trans (by rw [e2]; rfl)⟩, ⟨(q3 0).trans (by rw [e3]; rfl), (q3 1).trans (by rw [e4]; rfl)⟩, ⟨q1 0, q1 1⟩, hz _ (by omega), hz _ (by omega), hz _ (Nat.le_refl _), qb.drew⟩,
    fun e1 e2 e3 e4 => ⟨hsm, hrd, ⟨(q3 0).trans (by rw [e1]; rfl), (q3 1).trans (by rw [e2]; rfl)⟩, ⟨(q2 0).trans (by rw [e3]; rfl), (q2 1).trans (by rw [e4]; rfl)⟩, ⟨q1 0, q1 1⟩, hz _ (by omega), hz _ (by omega), hz _ (Nat.le_refl _), qb.drew⟩⟩
set_option maxHeartbeats 4000000 in
set_option maxRecDepth 100000 in
theorem glines_any {Z : Nat → Prop} {p : Nat} {S : Sk} (ea eb next : Nat) (xa xb : Vx) (lv : Value) (ls : Lb) (w : World) (h : SX Z w p S) (ha : S.vs[ea]? = some xa) (hb : S.vs[eb]? = some xb) (hls : ∀ wr, Off Z w wr → Reads wr lv ls) (hn : next + ls.length ≤ S.vs.length) (hvs : S.vs.length ≤ 1000000000) (hpu : S.put.length + ls.length + 1 ≤ 1000000000) :
    Calls Tryz.prog 56 #[.pointer (some ⟨p, 0, none⟩), .agg #[.int .i64 (ea : Int), .int .i64 (eb : Int)], lv, .int .i64 (next : Int)] w fun e w' => e = .returned (.tuple #[]) ∧
      SPost Z w p { S with vs := lnV (xa.pn, xa.n) (xb.pn, xb.n) next ls S.vs, put := S.put ++ cpN ea next ls.length ++ [((ahdN ea next ls.length : Int), (eb : Int))] } w' := by
  obtain ⟨bl, bj, vv, uv, h⟩ := h
  have hla := (List.getElem?_eq_some_iff.1 ha).1
  have hlb := (List.getElem?_eq_some_iff.1 hb).1
  obtain ⟨bv, cap, hvv, _, _, _, _, _, _⟩ := h.rv.pos (by omega)
  obtain ⟨n, hnn⟩ : ∃ n, n = S.vs.length := ⟨_, rfl⟩
  rw [← hnn] at hvv hla hlb hvs hn
  subst hvv
  have hb1 : Below w.heap.size w (w.alloc (.cells #[.int .i64 (ea : Int), .int .i64 (eb : Int)] 54)) := (Below.refl _ _).alloc (Nat.le_refl _) _
  have h1 := h.below hb1
  have c1 := h1.c1
  have a0 := (h1.cellV ha (i := 0) rfl).1
  have a1 := (h1.cellV ha (i := 1) rfl).1
  have b0 := (h1.cellV hb (i := 0) rfl).1
  have b1 := (h1.cellV hb (i := 1) rfl).1
  rw [Nat.add_zero] at a0 b0
  obtain ⟨wz, hwz⟩ : ∃ wz, wz = w.alloc (.cells #[.int .i64 (ea : Int), .int .i64 (eb : Int)] 54) := ⟨_, rfl⟩
  have e0 : wz.cell? ⟨w.heap.size, 0, none⟩ = some (.int .i64 (ea : Int)) := by rw [hwz, World.cell?_alloc_at _ _ _ _ rfl]; rfl
  have e1 : wz.cell? ⟨w.heap.size, 1, none⟩ = some (.int .i64 (eb : Int)) := by rw [hwz, World.cell?_alloc_at _ _ _ _ rfl]; rfl
  rw [← hwz] at h1 hb1 c1 a0 a1 b0 b1
  have hsz : wz.heap.size = w.heap.size + 1 := by rw [hwz]; simp
  have HS : Hid (∀ W, Below wz.heap.size wz W → LnS wz p w.heap.size bv n cap ea eb xa xb W) := Lib.hid (fun W hb => by
    have c : ∀ q i u, wz.cell? ⟨q, i, none⟩ = some u → W.cell? ⟨q, i, none⟩ = some u := fun q i u hq => (hb.cell (p := ⟨q, i, none⟩) (cell_lt hq)).trans hq
    exact ⟨c _ _ _ c1, c _ _ _ e0, c _ _ _ e1, c _ _ _ a0, c _ _ _ a1, c _ _ _ b0, c _ _ _ b1, hb⟩)
  obtain ⟨m, hm⟩ : ∃ m, m = ls.length := ⟨_, rfl⟩
  obtain ⟨la, lc, hlv, hlm⟩ := (hls w (Off.refl _ _)).form
  rw [← hm] at hlv hn hpu ⊢
  subst hlv
  have HT1 := Lib.hid ((lnT_made (ea := ea) (eb := eb) (xa := xa) (xb := xb) h hls 54 24 (.string xa.pn) (.int .i64 xa.n) (.string xb.pn) (.int .i64 xb.n)).1 rfl rfl rfl rfl)
  have HT2 := Lib.hid ((lnT_made (ea := ea) (eb := eb) (xa := xa) (xb := xb) h hls 54 24 (.string xb.pn) (.int .i64 xb.n) (.string xa.pn) (.int .i64 xa.n)).2 rfl rfl rfl rfl)
  have HM := Lib.hid hm
  have H := Lib.hid h
  have H1 := Lib.hid h1
  have HS0 := Lib.hid (HS.out _ (Below.refl _ wz).drew)
  have HWZ := Lib.hid hwz
  clear c1 e0 e1 a0 a1 b0 b1 hsz
  have HA := Lib.hid ha
  have HB := Lib.hid hb
  have HNN := Lib.hid hnn
  have HB1 := Lib.hid hb1
  clear h h1 ha hb hnn hls hb1
  go_enter Tryz.func56, Tryz.ntmps56
  go_wp2_with fail
  rw [← HWZ.out]
  go_region_held3 (fun W => W.cell? ⟨p, 1, none⟩ = some (.slice (some ⟨bv, 0, none⟩) n cap) ∧ W.cell? ⟨w.heap.size, 0, none⟩ = some (.int .i64 (ea : Int)) ∧ W.cell? ⟨w.heap.size, 1, none⟩ = some (.int .i64 (eb : Int)) ∧ W.cell? ⟨bv, ea * 8, none⟩ = some (.string xa.pn) ∧ W.cell? ⟨bv, ea * 8 + 1, none⟩ = some (.int .i64 xa.n) ∧ W.cell? ⟨bv, eb * 8, none⟩ = some (.string xb.pn) ∧ W.cell? ⟨bv, eb * 8 + 1, none⟩ = some (.int .i64 xb.n) ∧ Below wz.heap.size wz W)
    (first | with_reducible exact HS0.out | (refine HS.out _ ?_; rw [HWZ.out]; first | exact ((Below.refl _ _).alloc (Nat.le_refl _) _).drew | exact (((Below.refl _ _).alloc (Nat.le_refl _) _).alloc (by simp) _).drew))
    (fail)
  all_goals
    rename_i hHeld
    clear hHeld HS0 HS H1 HB1
  all_goals
    first
      | (have HT := HT1; have hT := HT.out; clear HT1 HT2; obtain ⟨W3, hW3⟩ : ∃ W3, W3 = (((w.alloc (.cells #[.int .i64 (ea : Int), .int .i64 (eb : Int)] 54)).alloc (.cells #[.string xa.pn, .int .i64 xa.n] 24)).alloc (.cells #[.string xb.pn, .int .i64 xb.n] 24)).drew := ⟨_, rfl⟩; (rw [← hW3]); (rw [← hW3] at hT); clear HT hW3; (generalize w.heap.size + 1 + 1 = q9 at hT ⊢); generalize w.heap.size + 1 = q8 at hT ⊢)
      | (have HT := HT2; have hT := HT.out; clear HT1 HT2; obtain ⟨W3, hW3⟩ : ∃ W3, W3 = (((w.alloc (.cells #[.int .i64 (ea : Int), .int .i64 (eb : Int)] 54)).alloc (.cells #[.string xb.pn, .int .i64 xb.n] 24)).alloc (.cells #[.string xa.pn, .int .i64 xa.n] 24)).drew := ⟨_, rfl⟩; (rw [← hW3]); (rw [← hW3] at hT); clear HT hW3; (generalize w.heap.size + 1 + 1 = q8 at hT ⊢); generalize w.heap.size + 1 = q9 at hT ⊢)
    clear HWZ
    have d0 := hT.c5.1
    have d1 := hT.c5.2
    have HT := Lib.hid hT
    obtain ⟨q5, hq5⟩ : ∃ q5, q5 = w.heap.size := ⟨_, rfl⟩
    rw [← hq5] at d0 d1 ⊢
    have HQ5 := Lib.hid hq5
    clear hT hq5
    go_wp2_with fail
    go_loopw [10, 36] (fun av iv wr => ∃ (k : Nat) (uk : Value) (Zk : Nat → Prop), av = .int .i64 (ahdN ea next k : Int) ∧ iv = .int .i64 (k : Nat) ∧ k ≤ m ∧ Hid (SM Zk wr p bl bj (.slice (some ⟨bv, 0, none⟩) n cap) uk { S with vs := lnV (xa.pn, xa.n) (xb.pn, xb.n) next (ls.take k) S.vs, put := S.put ++ cpN ea next k }) ∧ Hid (Off Z W3 wr) ∧ Hid (∀ i, Zk i → Z i ∨ W3.heap.size ≤ i)) (fun _ iv _ => m - (intOf iv).toNat)
    case atStart => exact ⟨0, uv, Z, by simp [ahdN], rfl, Nat.zero_le _, Lib.hid (by simpa [lnV_nil, cpN] using HT.out.sm), Lib.hid (Off.refl _ _), Lib.hid (fun i h => .inl h)⟩
    case round =>
      obtain ⟨k, uk, Zk, rfl, rfl, hk, HSM, HOF, HZN⟩ := hrel
      by_cases hkm : k < m
      · obtain ⟨l, hl⟩ : ∃ l, ls[k]? = some l := ⟨ls[k]'(by rw [← HM.out]; exact hkm), by simp⟩
        obtain ⟨x, hx⟩ : ∃ x, S.vs[next + k]? = some x := ⟨S.vs[next + k]'(by rw [← HNN.out]; omega), by simp⟩
        have hrd := HT.out.rd wr HOF.out
        obtain ⟨lb, lo, rfl, _, hcl⟩ := hrd.at hl
        have l0 := hcl.2 k l hl
        have c1 := HSM.out.c1
        have hnx := lnV_next (A := (xa.pn, xa.n)) (B := (xb.pn, xb.n)) (by rw [← HM.out]; exact hk) hx
        have v2 := HSM.out.cellV hnx (i := 2) rfl
        have v4 := HSM.out.cellV hnx (i := 4) rfl
        have v5 := HSM.out.cellV hnx (i := 5) rfl
        have v6 := HSM.out.cellV hnx (i := 6) rfl
        have v7 := HSM.out.cellV hnx (i := 7) rfl
        have hzlt := HT.out.sm.zlt
        have hzz := HT.out
        have cw : ∀ q i u, ¬ Z q → W3.cell? ⟨q, i, none⟩ = some u → wr.cell? ⟨q, i, none⟩ = some u := fun q i u hq hc => (HOF.out.cell (p := ⟨q, i, none⟩) (cell_lt hc) hq).trans hc
        have hL0 : LV q8 q9 bv ((next + k) * 8) xa xb wr := ⟨cw _ _ _ hzz.z8 hzz.c8.1, cw _ _ _ hzz.z8 hzz.c8.2, cw _ _ _ hzz.z9 hzz.c9.1, cw _ _ _ hzz.z9 hzz.c9.2, anyCell_of (by rw [v2.1]; rfl), anyCell_of (by rw [v4.1]; rfl), anyCell_of (by rw [v5.1]; rfl), anyCell_of (by rw [v6.1]; rfl), anyCell_of (by rw [v7.1]; rfl), v2.2, v4.2, v5.2, v6.2, v7.2⟩
        have hb8 : q8 ≠ bv := fun e => hzz.z8 (e ▸ hzz.sm.zv bv rfl)
        have hb9 : q9 ≠ bv := fun e => hzz.z9 (e ▸ hzz.sm.zv bv rfl)
        obtain ⟨j, hj⟩ : ∃ j, j = next + k := ⟨_, rfl⟩
        rw [← hj] at hL0
        have HL0 := Lib.hid hL0
        have HLD := Lib.hid (fun W (h : LV q8 q9 bv (j * 8) xa xb W) => (show LV q8 q9 bv (j * 8) xa xb W.drew from h))
        have HL1 := Lib.hid (fun o u W (h : LV q8 q9 bv (j * 8) xa xb W) => lv_set hb8 hb9 o u h)
        have hkn : j < n := by omega
        have i4 : IntKind.i64.wrap ((next : Int) + (k : Int)) = (j : Int) := by rw [IntKind.wrap_i64]; omega
        have HJ := Lib.hid hj
        obtain ⟨v2, g2⟩ := v2
        obtain ⟨v4, g4⟩ := v4
        obtain ⟨v5, g5⟩ := v5
        obtain ⟨v6, g6⟩ := v6
        obtain ⟨v7, g7⟩ := v7
        rw [← hj] at v2 v4 v5 v6 v7 g2 g4 g5 g6 g7
        have x80 := hL0.1
        have x81 := hL0.2.1
        have x90 := hL0.2.2.1
        have x91 := hL0.2.2.2.1
        clear hzlt hzz cw hL0 hrd hcl hnx d0 d1 hj hm
        go_wp2_with fail
        go_region_held3 (fun W => W.cell? ⟨q8, 0, none⟩ = some (.string xa.pn) ∧ W.cell? ⟨q8, 1, none⟩ = some (.int .i64 xa.n) ∧ W.cell? ⟨q9, 0, none⟩ = some (.string xb.pn) ∧ W.cell? ⟨q9, 1, none⟩ = some (.int .i64 xb.n) ∧ W.cell? ⟨bv, j * 8 + 2, none⟩ = some (anyCell W ⟨bv, j * 8 + 2, none⟩) ∧ W.cell? ⟨bv, j * 8 + 4, none⟩ = some (anyCell W ⟨bv, j * 8 + 4, none⟩) ∧ W.cell? ⟨bv, j * 8 + 5, none⟩ = some (anyCell W ⟨bv, j * 8 + 5, none⟩) ∧ W.cell? ⟨bv, j * 8 + 6, none⟩ = some (anyCell W ⟨bv, j * 8 + 6, none⟩) ∧ W.cell? ⟨bv, j * 8 + 7, none⟩ = some (anyCell W ⟨bv, j * 8 + 7, none⟩) ∧ W.frozen? ⟨bv, j * 8 + 2, none⟩ = false ∧ W.frozen? ⟨bv, j * 8 + 4, none⟩ = false ∧ W.frozen? ⟨bv, j * 8 + 5, none⟩ = false ∧ W.frozen? ⟨bv, j * 8 + 6, none⟩ = false ∧ W.frozen? ⟨bv, j * 8 + 7, none⟩ = false)
          (first | with_reducible exact HLD.out _ HL0.out | with_reducible exact HLD.out _ (HL1.out _ _ _ HL0.out) | with_reducible exact HLD.out _ (HL1.out _ _ _ (HL1.out _ _ _ (HL1.out _ _ _ HL0.out))) | with_reducible exact HLD.out _ (HL1.out _ _ _ (HL1.out _ _ _ (HL1.out _ _ _ (HL1.out _ _ _ (HL1.out _ _ _ HL0.out))))))
          (fail)
        rename_i hHeld
        clear hHeld HL0 HL1 HLD
        have hsm1 := HSM.out.putLine (j := j) (x := x) (by rw [HJ.out]; exact lnV_next (by rw [← HM.out]; exact hk) hx) l (xa.pn, xa.n) (xb.pn, xb.n)
        rw [show (j : Nat) = next + k from HJ.out, lnV_step hl hx, ← HJ.out] at hsm1
        obtain ⟨w5, hw5⟩ : ∃ w5, w5 = (((((wr.setCell ⟨bv, j * 8 + 2, none⟩ (.string l)).setCell ⟨bv, j * 8 + 4, none⟩ (.string xa.pn)).setCell ⟨bv, j * 8 + 4 + 1, none⟩ (.int .i64 xa.n)).setCell ⟨bv, j * 8 + 6, none⟩ (.string xb.pn)).setCell ⟨bv, j * 8 + 6 + 1, none⟩ (.int .i64 xb.n)).drew := ⟨_, rfl⟩
        rw [← hw5]
        have hsm5 := hsm1.1.below (w' := w5) (by rw [hw5]; exact (Below.refl _ _).drew)
        have hof5 : Off Z W3 w5 := HOF.out.trans (((hsm1.2.drew).mono (fun i hi => by subst hi; exact HT.out.sm.zv _ rfl)).trans (by rw [hw5]; exact Off.refl _ _))
        clear hsm1 hw5 v2 v4 v5 v6 v7 g2 g4 g5 g6 g7 x80 x81 x90 x91 l0 c1
        obtain ⟨a, ha⟩ : ∃ a, a = ahdN ea next k := ⟨_, rfl⟩
        obtain ⟨pl, hpl⟩ : ∃ pl, pl = (S.put ++ cpN ea next k).length := ⟨_, rfl⟩
        have hru := hsm5.ru
        have c2 := hsm5.c2
        simp only [← hpl] at hru
        obtain ⟨ua, uc, hua⟩ := hru.form
        subst hua
        obtain ⟨wy, hwy⟩ : ∃ wy, wy = w5.alloc (.cells #[.int .i64 (a : Int), .int .i64 (j : Int)] 54) := ⟨_, rfl⟩
        have hby : Below w5.heap.size w5 wy := by rw [hwy]; exact (Below.refl _ _).alloc (Nat.le_refl _) _
        have hsy := hsm5.below hby
        have hsrc : Src Tryz.prog 2 28 (.slice (some ⟨w5.heap.size, 0, none⟩) 1 1) 1 [.int .i64 (a : Int), .int .i64 (j : Int)] wy := by rw [hwy]; exact src_pair _ _
        have hn2 : pl + 1 ≤ 1099511627776 := by
          have : (cpN ea next k).length = k := by unfold cpN; simp
          rw [hpl, List.length_append, this]
          omega
        have HRY := Lib.hid (hru.below hby)
        have HSRC := Lib.hid hsrc
        have hnp : ¬ (Value.slice ua pl uc).ownBlock = some p := fun e => (hsy.uw p e).1 rfl
        have HC2 : Hid (∀ w6, Off (fun i => (Value.slice ua pl uc).ownBlock = some i) wy w6 → w6.cell? ⟨p, 2, none⟩ = some (.slice ua pl uc) ∧ w6.frozen? ⟨p, 2, none⟩ = false) := Lib.hid fun w6 ho6 =>
          ⟨(ho6.cell (p := ⟨p, 2, none⟩) (hsy.zlt p hsy.zp) hnp).trans hsy.c2, (ho6.frozen (p := ⟨p, 2, none⟩) (hsy.zlt p hsy.zp) hnp).trans (hsy.fz 2 (by omega))⟩
        have HSY := Lib.hid hsy
        have HBY := Lib.hid hby
        have HWY := Lib.hid hwy
        have HOF5 := Lib.hid hof5
        have HPL := Lib.hid hpl
        have HA9 := Lib.hid ha
        have HB0 : Hid (0 ≤ wy.heap.size) := Lib.hid (Nat.zero_le _)
        rw [← ha]
        clear hru hsm5 hof5 hsrc hnp hsy hby hwy hpl ha HSM HOF
        rw [HWY.out] at HSRC HRY HB0 HC2
        go_wp2_with (at_builtin; refine wpList_append_row rfl (.tmp 65) (.tmp 71) 28 28 rfl 2 54 (.agg #[.int .i64 0, .int .i64 0]) 16 Tryz.underlying28 infoP2 rfl 0 (.slice ua pl uc) pl (prs (S.put ++ cpN ea next k)) (by simp [Act.eval]) HRY.out (.slice (some ⟨w5.heap.size, 0, none⟩) 1 1) (by simp [Act.eval]) 1 [.int .i64 (a : Int), .int .i64 (j : Int)] HSRC.out HB0.out hn2 (by decide) ?_; intro v6 w6 hr6 ho6 hw6; obtain ⟨k1, k2⟩ := HC2.out w6 ho6; obtain ⟨a6, c6, hv6⟩ := hr6.form; subst hv6)
        rw [← HWY.out] at ho6 hw6
        have hr7 : Row 2 0 w6 (.slice a6 (pl + 1) c6) (S.put ++ cpN ea next (k + 1)).length (prs (S.put ++ cpN ea next (k + 1))) := by
          rw [cpN_step, ← HA9.out, ← HJ.out, ← List.append_assoc, prs_one, List.length_append, ← HPL.out]
          exact hr6
        obtain ⟨hs7, ho7⟩ := HSY.out.pushU ho6 hr7 (hw6.imp id fun h => ⟨_, h, Nat.le_refl _⟩)
        have hof7 : Off Z W3 (w6.setCell ⟨p, 2, none⟩ (.slice a6 (pl + 1) c6)) := by
          have hoy : Off Z W3 wy := HOF5.out.trans (Off.of_below HBY.out)
          have hsub : ∀ i, Zk i → i < W3.heap.size → Z i := fun i hi hl => (HZN.out i hi).resolve_right (by omega)
          exact hoy.trans' ho7 (fun i hl hi => hsub i hi hl)
        have hwys : W3.heap.size ≤ wy.heap.size := (HOF5.out.trans (Off.of_below HBY.out)).size
        have hzn7 : ∀ i, (Zk i ∨ (Value.slice a6 (pl + 1) c6).ownBlock = some i) → Z i ∨ W3.heap.size ≤ i := fun i hi => by
          rcases hi with hi | hi
          · exact HZN.out i hi
          · rcases hw6 with e | e
            · exact HZN.out i (HSY.out.zu i (e ▸ hi))
            · rw [e] at hi
              injection hi with hi
              exact .inr (by omega)
        refine ⟨⟨k + 1, .slice a6 (pl + 1) c6, fun i => Zk i ∨ (Value.slice a6 (pl + 1) c6).ownBlock = some i, by rw [ahdN_step, HJ.out], by go_num, by omega, Lib.hid hs7, Lib.hid hof7, Lib.hid hzn7⟩, by simp [intOf]; omega⟩
      · have hkm2 : k = m := by omega
        have hall : ls.take m = ls := List.take_of_length_le (by rw [← HM.out]; exact Nat.le_refl _)
        subst hkm2
        have hsm := HSM.out
        rw [hall] at hsm
        have e1 := (HOF.out.cell (p := ⟨q5, 1, none⟩) (cell_lt d1) (by rw [HQ5.out]; exact HT.out.z5)).trans d1
        obtain ⟨a, ha⟩ : ∃ a, a = ahdN ea next k := ⟨_, rfl⟩
        obtain ⟨pl, hpl⟩ : ∃ pl, pl = (S.put ++ cpN ea next k).length := ⟨_, rfl⟩
        have hru := hsm.ru
        simp only [← hpl] at hru
        obtain ⟨ua, uc, hua⟩ := hru.form
        subst hua
        obtain ⟨wy, hwy⟩ : ∃ wy, wy = wr.drew.alloc (.cells #[.int .i64 (a : Int), .int .i64 (eb : Int)] 54) := ⟨_, rfl⟩
        have hby : Below wr.heap.size wr wy := by rw [hwy]; exact ((Below.refl _ _).drew).alloc (Nat.le_refl _) _
        have hsy := hsm.below hby
        have hsrc : Src Tryz.prog 2 28 (.slice (some ⟨wr.drew.heap.size, 0, none⟩) 1 1) 1 [.int .i64 (a : Int), .int .i64 (eb : Int)] wy := by rw [hwy]; exact src_pair _ _
        have hn2 : pl + 1 ≤ 1099511627776 := by
          have : (cpN ea next k).length = k := by unfold cpN; simp
          rw [hpl, List.length_append, this]
          omega
        have hnp : ¬ (Value.slice ua pl uc).ownBlock = some p := fun e => (hsy.uw p e).1 rfl
        have hq5l : q5 < wr.heap.size := cell_lt e1
        have hnq : ¬ (Value.slice ua pl uc).ownBlock = some q5 := fun e => by
          rcases HZN.out q5 (hsm.zu q5 e) with h | h
          · rw [HQ5.out] at h; exact HT.out.z5 h
          · have hlt : q5 < W3.heap.size := cell_lt d1
            omega
        have hS0 : ∀ W, Off (fun i => (Value.slice ua pl uc).ownBlock = some i) wr W → W.cell? ⟨q5, 1, none⟩ = some (.int .i64 (eb : Int)) ∧ W.cell? ⟨p, 2, none⟩ = some (.slice ua pl uc) ∧ W.frozen? ⟨p, 2, none⟩ = false := fun W ho =>
          ⟨(ho.cell (p := ⟨q5, 1, none⟩) hq5l hnq).trans e1, (ho.cell (p := ⟨p, 2, none⟩) (hsm.zlt p hsm.zp) hnp).trans hsm.c2, (ho.frozen (p := ⟨p, 2, none⟩) (hsm.zlt p hsm.zp) hnp).trans (hsm.fz 2 (by omega))⟩
        have HS6 := Lib.hid (hS0 wr.drew ((Off.refl _ _).drew))
        have HS7 := Lib.hid (hS0 wy (Off.of_below hby))
        have HSO := Lib.hid (fun w8 (ho : Off (fun i => (Value.slice ua pl uc).ownBlock = some i) wy w8) => hS0 w8 ((Off.of_below hby).trans ho))
        have HRA7 := Lib.hid (hru.below hby)
        have HSRC7 := Lib.hid hsrc
        have HSY := Lib.hid hsy
        have HBY := Lib.hid hby
        have HPL := Lib.hid hpl
        have HA9 := Lib.hid ha
        have HSZ7 : Hid (0 ≤ wy.heap.size) := Lib.hid (Nat.zero_le _)
        have HWY := Lib.hid hwy
        rw [hwy] at HS7 HSO HRA7 HSRC7 HSZ7
        rw [← ha]
        clear hru hsm hsrc hnp hnq hS0 hsy hby hwy hpl ha e1 d0 d1 hq5l hall
        go_wp2_with fail
        refine wp_region_til (S := (fun W => W.cell? ⟨q5, 1, none⟩ = some (.int .i64 (eb : Int)) ∧ W.cell? ⟨p, 2, none⟩ = some (.slice ua pl uc) ∧ W.frozen? ⟨p, 2, none⟩ = false)) 13 (by kernel_rfl) ?_ (fun hHeld => ?_)
        · exact HS6.out
        refine tkT 0 ⟨some 79, .move (.tmp 0), 68, "sketch.go:75", #[], none⟩ ?_
        try simp only [Act.put, List.setIfInBounds_toArray, List.set_cons_zero, List.set_cons_succ]
        refine tkT 1 ⟨some 80, .move (.tmp 0), 68, "sketch.go:75", #[], none⟩ ?_
        try simp only [Act.put, List.setIfInBounds_toArray, List.set_cons_zero, List.set_cons_succ]
        refine tkT 2 ⟨some 81, .nilCheck (.tmp 80), 0, "sketch.go:75", #[⟨1, .data⟩], none⟩ ?_
        try simp only [Act.put, List.setIfInBounds_toArray, List.set_cons_zero, List.set_cons_succ]
        refine tkT 3 ⟨some 82, .fieldAddr 74 (.tmp 81) 2, 0, "sketch.go:75", #[⟨2, .data⟩], none⟩ ?_
        try simp only [Act.put, List.setIfInBounds_toArray, List.set_cons_zero, List.set_cons_succ]
        refine tkT 4 ⟨some 83, .load 28 (.tmp 82), 28, "sketch.go:75", #[⟨3, .data⟩], none⟩ ?_
        try simp only [Act.put, List.setIfInBounds_toArray, List.set_cons_zero, List.set_cons_succ]
        refine tkT 5 ⟨some 84, .move (.tmp 10), 3, "sketch.go:75", #[], none⟩ ?_
        try simp only [Act.put, List.setIfInBounds_toArray, List.set_cons_zero, List.set_cons_succ]
        refine tkT 6 ⟨some 85, .indexAddr 54 (.tmp 5) (.const (Value.int IntKind.i64 1)), 0, "sketch.go:75", #[], none⟩ ?_
        try simp only [Act.put, List.setIfInBounds_toArray, List.set_cons_zero, List.set_cons_succ]
        refine tkT 7 ⟨some 86, .load 3 (.tmp 85), 3, "sketch.go:75", #[⟨6, .data⟩], none⟩ ?_
        try simp only [Act.put, List.setIfInBounds_toArray, List.set_cons_zero, List.set_cons_succ]
        refine tkT 8 ⟨some 87, .build 54 #[(0, .tmp 84), (1, .tmp 86)], 54, "sketch.go:75", #[⟨5, .data⟩, ⟨7, .data⟩], none⟩ ?_
        try simp only [Act.put, List.setIfInBounds_toArray, List.set_cons_zero, List.set_cons_succ]
        refine til_one (i := 9) (o := ⟨some 88, .buildSlice 28 1 #[(0, .tmp 87)], 28, "sketch.go:75", #[⟨8, .data⟩], none⟩) (by kernel_rfl) rfl (fun KK hK => ?_)
        go_simp
        refine hK.out _ _ ?_ (fun hHeld => ?_)
        · exact HS7.out
        clear hK KK
        try simp only [Act.put, List.setIfInBounds_toArray, List.set_cons_zero, List.set_cons_succ]
        refine til_one (i := 10) (o := ⟨some 89, .call { callee := Callee.builtin Builtin.append, args := #[.tmp 83, .tmp 88], argTypes := #[28, 28] }, 28, "sketch.go:75", #[⟨4, .data⟩, ⟨9, .data⟩], none⟩) (by kernel_rfl) rfl (fun KK hK => ?_)
        refine step_append_row rfl (.tmp 83) (.tmp 88) 28 28 rfl 2 54 (.agg #[.int .i64 0, .int .i64 0]) 16 Tryz.underlying28 infoP2 rfl 0 (.slice ua pl uc) pl (prs (S.put ++ cpN ea next k)) (by simp [Act.eval]) HRA7.out (.slice (some ⟨wr.drew.heap.size, 0, none⟩) 1 1) (by simp [Act.eval]) 1 [.int .i64 (a : Int), .int .i64 (eb : Int)] HSRC7.out HSZ7.out hn2 (by decide) ?_
        intro v8 w8 hr8 ho8 hw8
        obtain ⟨a8, c8, hv8⟩ := hr8.form
        subst hv8
        have HR8 := Lib.hid hr8
        have HO8 := Lib.hid ho8
        have HW8 := Lib.hid hw8
        have HS8 := Lib.hid (HSO.out w8 ho8)
        clear hr8 ho8 hw8
        refine hK.out _ _ ?_ (fun hHeld => ?_)
        · exact HS8.out
        clear hK KK
        try simp only [Act.put, List.setIfInBounds_toArray, List.set_cons_zero, List.set_cons_succ]
        refine til_one (i := 11) (o := ⟨some 90, .nilCheck (.tmp 79), 0, "sketch.go:75", #[⟨0, .data⟩, ⟨0, .phase⟩, ⟨1, .phase⟩, ⟨2, .phase⟩, ⟨3, .phase⟩, ⟨4, .phase⟩, ⟨5, .phase⟩, ⟨6, .phase⟩, ⟨7, .phase⟩, ⟨8, .phase⟩, ⟨9, .phase⟩, ⟨10, .phase⟩], none⟩) (by kernel_rfl) rfl (fun KK hK => ?_)
        go_simp
        refine hK.out _ _ ?_ (fun hHeld => ?_)
        · exact HS8.out
        clear hK KK
        try simp only [Act.put, List.setIfInBounds_toArray, List.set_cons_zero, List.set_cons_succ]
        refine tkT 12 ⟨some 91, .fieldAddr 74 (.tmp 90) 2, 0, "sketch.go:75", #[⟨11, .data⟩, ⟨0, .phase⟩, ⟨1, .phase⟩, ⟨2, .phase⟩, ⟨3, .phase⟩, ⟨4, .phase⟩, ⟨5, .phase⟩, ⟨6, .phase⟩, ⟨7, .phase⟩, ⟨8, .phase⟩, ⟨9, .phase⟩, ⟨10, .phase⟩], none⟩ ?_
        try simp only [Act.put, List.setIfInBounds_toArray, List.set_cons_zero, List.set_cons_succ]
        refine til_last (o := ⟨none, .store 28 (.tmp 91) (.tmp 89), 0, "sketch.go:75", #[⟨12, .data⟩, ⟨10, .data⟩, ⟨10, .chain⟩, ⟨0, .phase⟩, ⟨1, .phase⟩, ⟨2, .phase⟩, ⟨3, .phase⟩, ⟨4, .phase⟩, ⟨5, .phase⟩, ⟨6, .phase⟩, ⟨7, .phase⟩, ⟨8, .phase⟩, ⟨9, .phase⟩, ⟨10, .phase⟩], none⟩) (by kernel_rfl) rfl (by kernel_rfl) (fun KK hK => ?_)
        go_simp
        obtain ⟨_, q1, qf⟩ := hHeld
        go_simp
        refine hK.out _ _ ?_
        clear hK KK
        try simp only [Act.put, List.setIfInBounds_toArray, List.set_cons_zero, List.set_cons_succ]
        have hr8b : Row 2 0 w8 (.slice a8 (pl + 1) c8) (S.put ++ cpN ea next k ++ [(((a : Nat) : Int), (eb : Int))]).length (prs (S.put ++ cpN ea next k ++ [(((a : Nat) : Int), (eb : Int))])) := by
          rw [prs_one, List.length_append, ← HPL.out]
          exact HR8.out
        have ho8 : Off (fun i => (Value.slice ua pl uc).ownBlock = some i) wy w8 := by rw [HWY.out]; exact HO8.out
        have hw8 : (Value.slice a8 (pl + 1) c8).ownBlock = (Value.slice ua pl uc).ownBlock ∨ (Value.slice a8 (pl + 1) c8).ownBlock = some wy.heap.size := by rw [HWY.out]; exact HW8.out
        obtain ⟨hs8, hof8⟩ := HSY.out.pushU ho8 hr8b (hw8.imp id fun h => ⟨_, h, Nat.le_refl _⟩)
        have hoy : Off Z W3 wy := HOF.out.trans (Off.of_below HBY.out)
        have hof9 : Off Z W3 (w8.setCell ⟨p, 2, none⟩ (.slice a8 (pl + 1) c8)) := hoy.trans' hof8 (fun i hl hi => (HZN.out i hi).resolve_right (by omega))
        have hzn9 : ∀ i, (Zk i ∨ (Value.slice a8 (pl + 1) c8).ownBlock = some i) → Z i ∨ w.heap.size ≤ i := fun i hi => by
          have hlo := HT.out.lo.size
          have hys := hoy.size
          rcases hi with hi | hi
          · rcases HZN.out i hi with h | h
            · exact .inl h
            · exact .inr (by omega)
          · rcases hw8 with e | e
            · rcases HZN.out i (HSY.out.zu i (e ▸ hi)) with h | h
              · exact .inl h
              · exact .inr (by omega)
            · rw [e] at hi
              injection hi with hi
              exact .inr (by omega)
        have HP : Hid (SPost Z w p { S with vs := lnV (xa.pn, xa.n) (xb.pn, xb.n) next ls S.vs, put := S.put ++ cpN ea next k ++ [((ahdN ea next k : Int), (eb : Int))] } (w8.setCell ⟨p, 2, none⟩ (.slice a8 (pl + 1) c8))) := Lib.hid (by rw [← HA9.out]; exact ⟨_, ⟨_, _, _, _, hs8⟩, (Off.of_below HT.out.lo).trans hof9, hzn9⟩)
        clear hr8b ho8 hw8 hs8 hof8 hoy hof9 hzn9
        go_wp2_with fail
        first
          | (go_ret; exact ⟨rfl, HP.out⟩)
          | exact bodyPost_end (v := .tuple #[]) (by simp [results, Tryz.results56, go_sem]) rfl ⟨rfl, HP.out⟩
end Go.Proofs.YtojnagonhihknaaGreatDoor
