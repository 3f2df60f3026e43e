/- Vertices: in memory, and read. Vertices that are the same aren't told apart; nor are pairs. The sketch in memory: its box, its map of lots, its vertices, its pairs, its map of joins. -/
import Derived.Laws.StructEq
import Derived.Test.YtojnagonhihknaaGreatDoorU15
import Derived.Test.YtojnagonhihknaaGreatDoorU20
import Derived.Test.YtojnagonhihknaaGreatDoorU4
set_option linter.unusedVariables false
namespace Go.Proofs.YtojnagonhihknaaGreatDoor
open Go.ChangeShapes Go.WideShapes Go.ChangeAt Go.RowKit

structure Vx where
  pn : ByteArray
  n : Int
  line : ByteArray
  del : Int
  ap : ByteArray
  an : Int
  bp : ByteArray
  bn : Int
def vcs (x : Vx) : List Value := [.string x.pn, .int .i64 x.n, .string x.line, .int .i64 x.del, .string x.ap, .int .i64 x.an, .string x.bp, .int .i64 x.bn]
def VAt (w : World) (b o : Nat) (x : Vx) : Prop := ∀ i v, (vcs x)[i]? = some v → w.cell? ⟨b, o + i, none⟩ = some v
def VReads (w : World) (v : Value) (vs : List Vx) : Prop :=
  (vs = [] ∧ ∃ a c, v = .slice a 0 c) ∨ (vs ≠ [] ∧ ∃ b o c, v = .slice (some ⟨b, o, none⟩) vs.length c ∧ vs.length ≤ c ∧ c ≤ 9223372036854775807 ∧ b < w.heap.size ∧ ∀ j x, vs[j]? = some x → VAt w b (o + j * 8) x)
theorem VReads.below {w w' : World} {v : Value} {vs : List Vx} (h : VReads w v vs) (hb : Below w.heap.size w w') : VReads w' v vs := by
  rcases h with h | ⟨hn, b, o, c, h1, h2, h3, h4, h5⟩
  · exact .inl h
  · exact .inr ⟨hn, b, o, c, h1, h2, h3, Nat.lt_of_lt_of_le h4 hb.size, fun j x hx i v hv => (hb.cell (p := ⟨b, o + j * 8 + i, none⟩) h4).trans (h5 j x hx i v hv)⟩
theorem VReads.form {w : World} {v : Value} {vs : List Vx} (h : VReads w v vs) : ∃ a c, v = .slice a vs.length c ∧ vs.length ≤ 9223372036854775807 := by
  rcases h with ⟨rfl, a, c, rfl⟩ | ⟨hn, b, o, c, rfl, hc, hm, _⟩
  · exact ⟨_, _, rfl, Nat.zero_le _⟩
  · exact ⟨_, _, rfl, by omega⟩
theorem VReads.at {w : World} {a : Option Addr} {n c : Nat} {vs : List Vx} (h : VReads w (.slice a n c) vs) {j : Nat} {x : Vx} (hx : vs[j]? = some x) : ∃ b o, a = some ⟨b, o, none⟩ ∧ b < w.heap.size ∧ VAt w b (o + j * 8) x := by
  rcases h with ⟨rfl, a', c', e⟩ | ⟨hn, b, o, c', e, hc, hm, hl, hxx⟩
  · simp at hx
  · simp only [Value.slice.injEq] at e
    obtain ⟨rfl, rfl, rfl⟩ := e
    exact ⟨b, o, rfl, hl, hxx j x hx⟩
end Go.Proofs.YtojnagonhihknaaGreatDoor
set_option linter.unusedVariables false
set_option linter.unusedSimpArgs false
namespace Go.Proofs.YtojnagonhihknaaGreatDoor
open Go.ChangeShapes Go.WideShapes Go.ChangeAt Go.RowKit

set_option maxRecDepth 100000 in
theorem eqId (a : ByteArray) (n : Int) (d : Nat) (w : World) : (Op.equalIn (d + 2) 24 (.agg #[.string a, .int .i64 n]) (.agg #[.string a, .int .i64 n])).run Tryz.prog w = .ok true w := by
  have u1 := Tryz.underlying24
  have u2 := Tryz.underlying9
  have u3 := Tryz.underlying3
  have z1 := Tryz.sizeOf3
  have z2 := Tryz.sizeOf9
  have i1 := Tryz.isAgg3
  have i2 := Tryz.isAgg9
  rw [run_equalIn_struct w _ _ _ _ (by kernel_rfl) (by kernel_rfl)]
  simp [Op.eqFields, Program.fieldsOf, u1, go_sem, u2, u3, z1, z2, i1, i2]
set_option maxRecDepth 100000 in
theorem neqVx (x : Vx) (w : World) : (binOp .neq 42 (.agg #[.string x.pn, .int .i64 x.n, .string x.line, .int .i64 x.del, .string x.ap, .int .i64 x.an, .string x.bp, .int .i64 x.bn]) (.agg #[.string x.pn, .int .i64 x.n, .string x.line, .int .i64 x.del, .string x.ap, .int .i64 x.an, .string x.bp, .int .i64 x.bn])).run Tryz.prog w = .ok (.bool false) w := by
  have u0 := Tryz.underlying42
  have u1 := Tryz.underlying24
  have u2 := Tryz.underlying9
  have u3 := Tryz.underlying3
  have z1 := Tryz.sizeOf3
  have z2 := Tryz.sizeOf9
  have z3 := Tryz.sizeOf24
  have i1 := Tryz.isAgg3
  have i2 := Tryz.isAgg9
  have i3 := Tryz.isAgg24
  rw [run_neq_struct, show (10000 : Nat) = 9999 + 1 from rfl, run_equalIn_struct w _ _ _ _ (by kernel_rfl) (by kernel_rfl)]
  simp [Op.eqFields, Program.fieldsOf, u0, go_sem, u2, u3, z1, z2, z3, i1, i2, i3, eqId]
end Go.Proofs.YtojnagonhihknaaGreatDoor
set_option linter.unusedVariables false
namespace Go.Proofs.YtojnagonhihknaaGreatDoor
open Go.ChangeShapes Go.WideShapes Go.ChangeAt Go.RowKit Go.WideMaps Go.Maps

def prs (L : List (Int × Int)) : List Value := L.flatMap fun q => [.int .i64 q.1, .int .i64 q.2]
theorem prs_app (L M : List (Int × Int)) : prs (L ++ M) = prs L ++ prs M := by unfold prs; rw [List.flatMap_append]
def vxs (L : List Vx) : List Value := L.flatMap vcs
theorem vxs_app (L M : List Vx) : vxs (L ++ M) = vxs L ++ vxs M := by unfold vxs; rw [List.flatMap_append]
theorem vcs_len (x : Vx) : (vcs x).length = 8 := rfl
theorem vxs_len (L : List Vx) : (vxs L).length = L.length * 8 := by
  unfold vxs
  induction L with
  | nil => rfl
  | cons q r ih => rw [List.flatMap_cons, List.length_append, ih, List.length_cons, vcs_len]; omega
theorem vxs_at {L : List Vx} {j : Nat} {x : Vx} {i : Nat} {v : Value} (h : L[j]? = some x) (hv : (vcs x)[i]? = some v) : (vxs L)[j * 8 + i]? = some v := by
  induction L generalizing j with
  | nil => simp at h
  | cons y r ih =>
    have hi : i < 8 := by
      have := (List.getElem?_eq_some_iff.1 hv).1
      rwa [vcs_len] at this
    have e : vxs (y :: r) = vcs y ++ vxs r := by unfold vxs; rw [List.flatMap_cons]
    rw [e]
    cases j with
    | zero =>
      simp at h; subst h
      rw [List.getElem?_append_left (by rw [vcs_len]; omega), Nat.zero_mul, Nat.zero_add]
      exact hv
    | succ j =>
      have h' : r[j]? = some x := by simpa using h
      rw [List.getElem?_append_right (by rw [vcs_len]; omega), vcs_len, show (j + 1) * 8 + i - 8 = j * 8 + i by omega]
      exact ih h'
theorem vxs_set {L : List Vx} {j : Nat} {x y : Vx} {i : Nat} {u : Value} (h : L[j]? = some x) (hi : i < 8) (hy : vcs y = (vcs x).set i u) : (vxs L).set (j * 8 + i) u = vxs (L.set j y) := by
  induction L generalizing j with
  | nil => simp at h
  | cons z r ih =>
    have e : ∀ (a : Vx) (l : List Vx), vxs (a :: l) = vcs a ++ vxs l := fun a l => by unfold vxs; rw [List.flatMap_cons]
    cases j with
    | zero =>
      simp at h; subst h
      rw [List.set_cons_zero, e, e, hy, List.set_append_left _ _ (by rw [vcs_len]; omega), Nat.zero_mul, Nat.zero_add]
    | succ j =>
      have h' : r[j]? = some x := by simpa using h
      rw [List.set_cons_succ, e, e, List.set_append_right _ _ (by rw [vcs_len]; omega), vcs_len, show (j + 1) * 8 + i - 8 = j * 8 + i by omega, ih h']

structure Sk where
  ks : Lb
  f : ByteArray → Int
  m : ByteArray → Int
  vs : List Vx
  put : List (Int × Int)
  js : List (Int × Int)
  wt : Int × Int → Int
  c : Nat
structure SM (Z : Nat → Prop) (w : World) (p bl bj : Nat) (vv uv : Value) (S : Sk) : Prop where
  zlt : ∀ i, Z i → i < w.heap.size
  zp : Z p
  zl : Z bl
  zj : Z bj
  zv : ∀ b, vv.ownBlock = some b → Z b
  zu : ∀ b, uv.ownBlock = some b → Z b
  pl : p ≠ bl
  pj : p ≠ bj
  lj : bl ≠ bj
  vw : ∀ b, vv.ownBlock = some b → b ≠ p ∧ b ≠ bl ∧ b ≠ bj ∧ uv.ownBlock ≠ some b
  uw : ∀ b, uv.ownBlock = some b → b ≠ p ∧ b ≠ bl ∧ b ≠ bj
  c0 : w.cell? ⟨p, 0, none⟩ = some (.map (some bl))
  c1 : w.cell? ⟨p, 1, none⟩ = some vv
  c2 : w.cell? ⟨p, 2, none⟩ = some uv
  c3 : w.cell? ⟨p, 3, none⟩ = some (.map (some bj))
  fz : ∀ j, j < 4 → w.frozen? ⟨p, j, none⟩ = false
  lots : MLot w bl S.ks S.f S.m
  joins : MJ w bj S.c S.js S.wt
  rv : Row 8 0 w vv S.vs.length (vxs S.vs)
  ru : Row 2 0 w uv S.put.length (prs S.put)
section
variable {Z Z' Y : Nat → Prop} {w w' : World} {p bl bj : Nat} {vv uv : Value} {S : Sk}
theorem SM.off (h : SM Z w p bl bj vv uv S) (ho : Off Y w w') (hz : ∀ i, Z i → ¬ Y i) : SM Z w' p bl bj vv uv S := by
  have hp := h.zlt p h.zp
  have hc : ∀ j, w'.cell? ⟨p, j, none⟩ = w.cell? ⟨p, j, none⟩ := fun j => ho.cell (p := ⟨p, j, none⟩) hp (hz p h.zp)
  exact ⟨fun i hi => Nat.lt_of_lt_of_le (h.zlt i hi) ho.size, h.zp, h.zl, h.zj, h.zv, h.zu, h.pl, h.pj, h.lj, h.vw, h.uw, (hc 0).trans h.c0, (hc 1).trans h.c1, (hc 2).trans h.c2, (hc 3).trans h.c3,
    fun j hj => (ho.frozen (p := ⟨p, j, none⟩) hp (hz p h.zp)).trans (h.fz j hj), h.lots.off ho (hz _ h.zl), h.joins.off ho (hz _ h.zj), h.rv.off ho (fun b hb => hz b (h.zv b hb)), h.ru.off ho (fun b hb => hz b (h.zu b hb))⟩
theorem SM.below (h : SM Z w p bl bj vv uv S) (hb : Below w.heap.size w w') : SM Z w' p bl bj vv uv S := h.off (Y := fun _ => False) (Off.of_below hb) (fun _ _ h => h)
theorem SM.grow (h : SM Z w p bl bj vv uv S) (hz : ∀ i, Z i → Z' i) (hl : ∀ i, Z' i → i < w.heap.size) : SM Z' w p bl bj vv uv S :=
  ⟨hl, hz _ h.zp, hz _ h.zl, hz _ h.zj, fun b hb => hz _ (h.zv b hb), fun b hb => hz _ (h.zu b hb), h.pl, h.pj, h.lj, h.vw, h.uw, h.c0, h.c1, h.c2, h.c3, h.fz, h.lots, h.joins, h.rv, h.ru⟩
theorem boxS_set {u x : Value} {j : Nat} (hc : w.cell? ⟨p, j, none⟩ = some x) (k : Nat) : (w.setCell ⟨p, j, none⟩ u).cell? ⟨p, k, none⟩ = if k = j then some u else w.cell? ⟨p, k, none⟩ := by
  by_cases e : k = j
  · subst e
    rw [if_pos rfl]
    exact World.cell?_setCell_same _ _ _ hc
  · rw [if_neg e]
    exact World.cell?_setCell_other _ _ _ _ (fun h => e (by injection h with _ h; exact h.symm))
theorem SM.pushV {w6 : World} {v' : Value} {vs' : List Vx} (h : SM Z w p bl bj vv uv S) (ho : Off (fun i => vv.ownBlock = some i) w w6) (hr : Row 8 0 w6 v' vs'.length (vxs vs')) (hw : v'.ownBlock = vv.ownBlock ∨ ∃ k, v'.ownBlock = some k ∧ w.heap.size ≤ k) :
    SM (fun i => Z i ∨ v'.ownBlock = some i) (w6.setCell ⟨p, 1, none⟩ v') p bl bj v' uv { S with vs := vs' } ∧ Off Z w (w6.setCell ⟨p, 1, none⟩ v') := by
  have hp := h.zlt p h.zp
  have hnp : ¬ vv.ownBlock = some p := fun e => (h.vw p e).1 rfl
  have hnl : ¬ vv.ownBlock = some bl := fun e => (h.vw bl e).2.1 rfl
  have hnj : ¬ vv.ownBlock = some bj := fun e => (h.vw bj e).2.2.1 rfl
  have hc : ∀ j, w6.cell? ⟨p, j, none⟩ = w.cell? ⟨p, j, none⟩ := fun j => ho.cell (p := ⟨p, j, none⟩) hp hnp
  have hc2 : ∀ k, (w6.setCell ⟨p, 1, none⟩ v').cell? ⟨p, k, none⟩ = if k = 1 then some v' else w6.cell? ⟨p, k, none⟩ := fun k => boxS_set (u := v') ((hc 1).trans h.c1) k
  have hvw : ∀ b, v'.ownBlock = some b → b ≠ p ∧ b ≠ bl ∧ b ≠ bj ∧ uv.ownBlock ≠ some b := fun b hb => by
    rcases hw with e | ⟨k, e, hk⟩
    · exact h.vw b (e ▸ hb)
    · rw [e] at hb
      injection hb with hb
      subst hb
      have h1 := h.zlt bl h.zl
      have h2 := h.zlt bj h.zj
      exact ⟨by omega, by omega, by omega, fun e => by have := h.zlt _ (h.zu _ e); omega⟩
  have ho2 := ho.setCell (p := ⟨p, 1, none⟩)
  have hset : Off (fun i => i = p) w6 (w6.setCell ⟨p, 1, none⟩ v') := Off.setCell (Z := fun i => i = p) (Off.refl _ _) (p := ⟨p, 1, none⟩) (.inr rfl) _
  refine ⟨⟨fun i hi => ?_, .inl h.zp, .inl h.zl, .inl h.zj, fun b hb => .inr hb, fun b hb => .inl (h.zu b hb), h.pl, h.pj, h.lj, hvw, h.uw, by rw [hc2, if_neg (by omega), hc]; exact h.c0, by rw [hc2]; rfl, by rw [hc2, if_neg (by omega), hc]; exact h.c2, by rw [hc2, if_neg (by omega), hc]; exact h.c3,
    fun j hj => by rw [World.frozen?_setCell]; exact (ho.frozen (p := ⟨p, j, none⟩) hp hnp).trans (h.fz j hj), (h.lots.off ho hnl).off hset (fun e => h.pl e.symm), (h.joins.off ho hnj).off hset (fun e => h.pj e.symm), hr.setOther (fun e => (hvw p e).1 rfl) _, (h.ru.off ho (fun b hb e => (h.vw b e).2.2.2 hb)).setOther (fun e => (h.uw p e).1 rfl) _⟩,
    (ho.mono fun i hi => h.zv i hi).setCell (p := ⟨p, 1, none⟩) (.inr h.zp) _⟩
  show i < (w6.setCell ⟨p, 1, none⟩ v').heap.size
  simp only [World.setCell, Array.size_modify]
  rcases hi with hi | hi
  · exact Nat.lt_of_lt_of_le (h.zlt i hi) ho.size
  · exact (hr.lt i hi).2
theorem SM.pushU {w6 : World} {v' : Value} {L' : List (Int × Int)} (h : SM Z w p bl bj vv uv S) (ho : Off (fun i => uv.ownBlock = some i) w w6) (hr : Row 2 0 w6 v' L'.length (prs L')) (hw : v'.ownBlock = uv.ownBlock ∨ ∃ k, v'.ownBlock = some k ∧ w.heap.size ≤ k) :
    SM (fun i => Z i ∨ v'.ownBlock = some i) (w6.setCell ⟨p, 2, none⟩ v') p bl bj vv v' { S with put := L' } ∧ Off Z w (w6.setCell ⟨p, 2, none⟩ v') := by
  have hp := h.zlt p h.zp
  have hnp : ¬ uv.ownBlock = some p := fun e => (h.uw p e).1 rfl
  have hnl : ¬ uv.ownBlock = some bl := fun e => (h.uw bl e).2.1 rfl
  have hnj : ¬ uv.ownBlock = some bj := fun e => (h.uw bj e).2.2 rfl
  have hc : ∀ j, w6.cell? ⟨p, j, none⟩ = w.cell? ⟨p, j, none⟩ := fun j => ho.cell (p := ⟨p, j, none⟩) hp hnp
  have hc2 : ∀ k, (w6.setCell ⟨p, 2, none⟩ v').cell? ⟨p, k, none⟩ = if k = 2 then some v' else w6.cell? ⟨p, k, none⟩ := fun k => boxS_set (u := v') ((hc 2).trans h.c2) k
  have huw : ∀ b, v'.ownBlock = some b → (b ≠ p ∧ b ≠ bl ∧ b ≠ bj) ∧ vv.ownBlock ≠ some b := fun b hb => by
    rcases hw with e | ⟨k, e, hk⟩
    · exact ⟨h.uw b (e ▸ hb), fun e2 => (h.vw b e2).2.2.2 (e ▸ hb)⟩
    · rw [e] at hb
      injection hb with hb
      subst hb
      have h1 := h.zlt bl h.zl
      have h2 := h.zlt bj h.zj
      exact ⟨⟨by omega, by omega, by omega⟩, fun e => by have := h.zlt _ (h.zv _ e); omega⟩
  have hset : Off (fun i => i = p) w6 (w6.setCell ⟨p, 2, none⟩ v') := Off.setCell (Z := fun i => i = p) (Off.refl _ _) (p := ⟨p, 2, none⟩) (.inr rfl) _
  refine ⟨⟨fun i hi => ?_, .inl h.zp, .inl h.zl, .inl h.zj, fun b hb => .inl (h.zv b hb), fun b hb => .inr hb, h.pl, h.pj, h.lj, fun b hb => ⟨(h.vw b hb).1, (h.vw b hb).2.1, (h.vw b hb).2.2.1, fun e => (huw b e).2 hb⟩, fun b hb => (huw b hb).1, by rw [hc2, if_neg (by omega), hc]; exact h.c0, by rw [hc2, if_neg (by omega), hc]; exact h.c1, by rw [hc2]; rfl, by rw [hc2, if_neg (by omega), hc]; exact h.c3,
    fun j hj => by rw [World.frozen?_setCell]; exact (ho.frozen (p := ⟨p, j, none⟩) hp hnp).trans (h.fz j hj), (h.lots.off ho hnl).off hset (fun e => h.pl e.symm), (h.joins.off ho hnj).off hset (fun e => h.pj e.symm), (h.rv.off ho (fun b hb e => (h.vw b hb).2.2.2 e)).setOther (fun e => (h.vw p e).1 rfl) _, hr.setOther (fun e => (huw p e).1.1 rfl) _⟩,
    (ho.mono fun i hi => h.zu i hi).setCell (p := ⟨p, 2, none⟩) (.inr h.zp) _⟩
  show i < (w6.setCell ⟨p, 2, none⟩ v').heap.size
  simp only [World.setCell, Array.size_modify]
  rcases hi with hi | hi
  · exact Nat.lt_of_lt_of_le (h.zlt i hi) ho.size
  · exact (hr.lt i hi).2
theorem SM.setV {b n cap j i : Nat} {x y : Vx} {u : Value} (h : SM Z w p bl bj (.slice (some ⟨b, 0, none⟩) n cap) uv S) (hx : S.vs[j]? = some x) (hi : i < 8) (hy : vcs y = (vcs x).set i u) :
    SM Z (w.setCell ⟨b, j * 8 + i, none⟩ u) p bl bj (.slice (some ⟨b, 0, none⟩) n cap) uv { S with vs := S.vs.set j y } ∧ Off (fun k => k = b) w (w.setCell ⟨b, j * 8 + i, none⟩ u) := by
  have hb : (Value.slice (some ⟨b, 0, none⟩) n cap).ownBlock = some b := rfl
  obtain ⟨h1, h2, h3, h4⟩ := h.vw b hb
  have hset : Off (fun k => k = b) w (w.setCell ⟨b, j * 8 + i, none⟩ u) := Off.setCell (Z := fun k => k = b) (Off.refl _ _) (p := ⟨b, j * 8 + i, none⟩) (.inr rfl) _
  have hp := h.zlt p h.zp
  have hlt : j < S.vs.length := (List.getElem?_eq_some_iff.1 hx).1
  have hc : ∀ q, (w.setCell ⟨b, j * 8 + i, none⟩ u).cell? ⟨p, q, none⟩ = w.cell? ⟨p, q, none⟩ := fun q => hset.cell (p := ⟨p, q, none⟩) hp (fun e => h1 e.symm)
  obtain ⟨n', hn⟩ : ∃ n', n' = S.vs.length := ⟨_, rfl⟩
  have hrv : Row 8 0 w (.slice (some ⟨b, 0, none⟩) n cap) n (vxs S.vs) := by
    have := h.rv
    obtain ⟨a, c, e⟩ := this.form
    simp only [Value.slice.injEq] at e
    obtain ⟨_, e, _⟩ := e
    rw [← e] at this
    exact this
  have hnv : n = S.vs.length := by
    have := h.rv.1
    have h2 := hrv.1
    omega
  have hput := hrv.put (j := j * 8 + i) (by rw [vxs_len]; omega) u
  rw [vxs_set hx hi hy] at hput
  refine ⟨⟨fun k hk => by simpa [World.setCell] using h.zlt k hk, h.zp, h.zl, h.zj, h.zv, h.zu, h.pl, h.pj, h.lj, h.vw, h.uw, (hc 0).trans h.c0, (hc 1).trans h.c1, (hc 2).trans h.c2, (hc 3).trans h.c3, fun q hq => by rw [World.frozen?_setCell]; exact h.fz q hq,
    h.lots.off hset (fun e => h2 e.symm), h.joins.off hset (fun e => h3 e.symm), ?_, h.ru.setOther (fun e => h4 e) _⟩, hset⟩
  show Row 8 0 _ _ (S.vs.set j y).length (vxs (S.vs.set j y))
  rw [List.length_set, ← hnv]
  exact hput
theorem SM.cellV {b n cap j i : Nat} {x : Vx} {u : Value} (h : SM Z w p bl bj (.slice (some ⟨b, 0, none⟩) n cap) uv S) (hx : S.vs[j]? = some x) (hu : (vcs x)[i]? = some u) : w.cell? ⟨b, j * 8 + i, none⟩ = some u ∧ w.frozen? ⟨b, j * 8 + i, none⟩ = false := by
  have hlt : j < S.vs.length := (List.getElem?_eq_some_iff.1 hx).1
  obtain ⟨b', cap', e, _, _, _, _, hf, hc⟩ := h.rv.pos (by omega)
  simp only [Value.slice.injEq, Option.some.injEq, Addr.mk.injEq] at e
  obtain ⟨⟨rfl, _⟩, _, rfl⟩ := e
  have hi : i < 8 := by
    have := (List.getElem?_eq_some_iff.1 hu).1
    rwa [vcs_len] at this
  exact ⟨hc _ _ (vxs_at hx hu), (hf (j * 8 + i) (by omega)).2⟩
theorem SM.tick {w2 : World} {js' : List (Int × Int)} {wt' : Int × Int → Int} {c' : Nat} (h : SM Z w p bl bj vv uv S) (ho : Off (fun k => k = bj) w w2) (hj : MJ w2 bj c' js' wt') : SM Z w2 p bl bj vv uv { S with js := js', wt := wt', c := c' } := by
  have hp := h.zlt p h.zp
  have hc : ∀ q, w2.cell? ⟨p, q, none⟩ = w.cell? ⟨p, q, none⟩ := fun q => ho.cell (p := ⟨p, q, none⟩) hp h.pj
  exact ⟨fun k hk => Nat.lt_of_lt_of_le (h.zlt k hk) ho.size, h.zp, h.zl, h.zj, h.zv, h.zu, h.pl, h.pj, h.lj, h.vw, h.uw, (hc 0).trans h.c0, (hc 1).trans h.c1, (hc 2).trans h.c2, (hc 3).trans h.c3, fun q hq => (ho.frozen (p := ⟨p, q, none⟩) hp h.pj).trans (h.fz q hq),
    h.lots.off ho h.lj, hj, h.rv.off ho (fun b hb => (h.vw b hb).2.2.1), h.ru.off ho (fun b hb => (h.uw b hb).2.2)⟩
theorem SM.lot {w2 : World} {ks' : Lb} {f' m' : ByteArray → Int} (h : SM Z w p bl bj vv uv S) (ho : Off (fun k => k = bl) w w2) (hl : MLot w2 bl ks' f' m') : SM Z w2 p bl bj vv uv { S with ks := ks', f := f', m := m' } := by
  have hp := h.zlt p h.zp
  have hc : ∀ q, w2.cell? ⟨p, q, none⟩ = w.cell? ⟨p, q, none⟩ := fun q => ho.cell (p := ⟨p, q, none⟩) hp h.pl
  exact ⟨fun k hk => Nat.lt_of_lt_of_le (h.zlt k hk) ho.size, h.zp, h.zl, h.zj, h.zv, h.zu, h.pl, h.pj, h.lj, h.vw, h.uw, (hc 0).trans h.c0, (hc 1).trans h.c1, (hc 2).trans h.c2, (hc 3).trans h.c3, fun q hq => (ho.frozen (p := ⟨p, q, none⟩) hp h.pl).trans (h.fz q hq),
    hl, h.joins.off ho (fun e => h.lj e.symm), h.rv.off ho (fun b hb => (h.vw b hb).2.1), h.ru.off ho (fun b hb => (h.uw b hb).2.1)⟩
end
def SX (Z : Nat → Prop) (w : World) (p : Nat) (S : Sk) : Prop := ∃ bl bj vv uv, SM Z w p bl bj vv uv S
theorem SX.off {Z Y : Nat → Prop} {w w' : World} {p : Nat} {S : Sk} (h : SX Z w p S) (ho : Off Y w w') (hz : ∀ i, Z i → ¬ Y i) : SX Z w' p S := by
  obtain ⟨bl, bj, vv, uv, h⟩ := h
  exact ⟨bl, bj, vv, uv, h.off ho hz⟩
theorem SX.below {Z : Nat → Prop} {w w' : World} {p : Nat} {S : Sk} (h : SX Z w p S) (hb : Below w.heap.size w w') : SX Z w' p S := h.off (Y := fun _ => False) (Off.of_below hb) (fun _ _ h => h)
theorem SX.zlt {Z : Nat → Prop} {w : World} {p : Nat} {S : Sk} (h : SX Z w p S) : ∀ i, Z i → i < w.heap.size := by
  obtain ⟨bl, bj, vv, uv, h⟩ := h
  exact h.zlt
def SPost (Z : Nat → Prop) (w : World) (p : Nat) (S' : Sk) (w' : World) : Prop := ∃ Z', SX Z' w' p S' ∧ Off Z w w' ∧ ∀ i, Z' i → Z i ∨ w.heap.size ≤ i
end Go.Proofs.YtojnagonhihknaaGreatDoor
