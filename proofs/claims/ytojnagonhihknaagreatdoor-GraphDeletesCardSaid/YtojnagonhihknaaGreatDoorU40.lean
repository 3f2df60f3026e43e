/- Which refs have no line: the closures of lacks. Which patches of a set ask for lines that are not there: lacks and its outer closure. What Build asks of a set, and what it finds out by that: refs mean vertices. Mathematics. slices.Collect and slices.SortedFunc upon slices.Values over named patches. A set that is told by its names and what stands beside them; the lots and the vertices that lay makes. -/
import Derived.Test.YtojnagonhihknaaGreatDoorU18
import Derived.Test.YtojnagonhihknaaGreatDoorU28
import Derived.Test.YtojnagonhihknaaGreatDoorU30
import Derived.Test.YtojnagonhihknaaGreatDoorU33
import Derived.Test.YtojnagonhihknaaGreatDoorU39
set_option linter.unusedVariables false
namespace Go.Proofs.YtojnagonhihknaaGreatDoor
open Go.ChangeShapes Go.WideShapes Go.ChangeAt Go.RowKit Go.WideMaps Go.Maps

def lackR (m : ByteArray → Int) (deps : Lb) (r : Rf) : Bool := decide (0 ≤ r.at_) && decide (m (deps.getD r.at_.toNat ByteArray.empty) ≤ r.n)
structure LackS (w : World) (ks : Lb) (f m : ByteArray → Int) (sb mb qs qp : Nat) (nm t : ByteArray) (dv ov : Value) (deps : Lb) : Prop where
  s : w.cell? ⟨qs, 0, none⟩ = some (.pointer (some ⟨sb, 0, none⟩))
  sl : qs < w.heap.size
  p : w.cell? ⟨qp, 0, none⟩ = some (.string nm) ∧ w.cell? ⟨qp, 1, none⟩ = some (.string t) ∧ w.cell? ⟨qp, 2, none⟩ = some dv ∧ w.cell? ⟨qp, 3, none⟩ = some ov
  pl : qp < w.heap.size
  c : w.cell? ⟨sb, 0, none⟩ = some (.map (some mb))
  cl : sb < w.heap.size
  map : MLot w mb ks f m
  deps : Reads w dv deps
theorem LackS.below {w w' : World} {ks : Lb} {f m : ByteArray → Int} {sb mb qs qp : Nat} {nm t : ByteArray} {dv ov : Value} {deps : Lb} (h : LackS w ks f m sb mb qs qp nm t dv ov deps) (hb : Below w.heap.size w w') : LackS w' ks f m sb mb qs qp nm t dv ov deps := by
  have hp : ∀ j, w'.cell? ⟨qp, j, none⟩ = w.cell? ⟨qp, j, none⟩ := fun j => hb.cell (p := ⟨qp, j, none⟩) h.pl
  exact ⟨(hb.cell (p := ⟨qs, 0, none⟩) h.sl).trans h.s, Nat.lt_of_lt_of_le h.sl hb.size, ⟨(hp 0).trans h.p.1, (hp 1).trans h.p.2.1, (hp 2).trans h.p.2.2.1, (hp 3).trans h.p.2.2.2⟩, Nat.lt_of_lt_of_le h.pl hb.size, (hb.cell (p := ⟨sb, 0, none⟩) h.cl).trans h.c, Nat.lt_of_lt_of_le h.cl hb.size, h.map.below hb, h.deps.below hb⟩
set_option maxHeartbeats 2000000 in
set_option maxRecDepth 100000 in
theorem lack1_any {ks : Lb} {f m : ByteArray → Int} {sb mb qs qp : Nat} {nm t : ByteArray} {dv ov : Value} {deps : Lb} (r : Rf) (w : World) (h : LackS w ks f m sb mb qs qp nm t dv ov deps) (hr : 0 ≤ r.at_ → r.at_ < deps.length ∧ deps.getD r.at_.toNat ByteArray.empty ∈ ks ∧ (deps.getD r.at_.toNat ByteArray.empty).size ≤ 140737488355328) :
    Calls Tryz.prog 55 #[rfV r, .pointer (some ⟨qs, 0, none⟩), .pointer (some ⟨qp, 0, none⟩)] w fun e w' => e = .returned (.bool (lackR m deps r)) ∧ Below w.heap.size w w' := by
  obtain ⟨x, y⟩ := r
  obtain ⟨W, hW⟩ : ∃ W, W = w.alloc (.cells #[.int .i64 x, .int .i64 y] 57) := ⟨_, rfl⟩
  have hb : Below w.heap.size w W := by rw [hW]; exact (Below.refl _ _).alloc (Nat.le_refl _) _
  have hz := h.below hb
  obtain ⟨z1, z2, ⟨z3, z4, z5, z6⟩, z7, z8, z9, zM, zd⟩ := hz
  have HB := Lib.hid hb
  unfold lackR
  simp only at hr ⊢
  by_cases h0 : 0 ≤ x
  · obtain ⟨h1, h2, h3⟩ := hr h0
    have hlk : ∀ mm, (Instr.lookup 71 (.map (some mb)) (.string (deps.getD x.toNat ByteArray.empty)) false).run Tryz.prog (W.drewN mm) = .ok (lotV (f (deps.getD x.toNat ByteArray.empty)) (m (deps.getD x.toNat ByteArray.empty))) (W.drewN mm) := fun mm =>
      (zM.below (below_dn (Below.refl _ _))).look h3 h2
    have hlt : x.toNat < deps.length := by omega
    have hat : deps[x.toNat]? = some (deps.getD x.toNat ByteArray.empty) := by
      rw [List.getD_eq_getElem?_getD, List.getElem?_eq_getElem hlt]; rfl
    obtain ⟨j, hj⟩ : ∃ j, j = x.toNat := ⟨_, rfl⟩
    have hx : x = (j : Int) := by omega
    rw [← hj] at hlk hat hlt ⊢
    obtain ⟨who, hwho⟩ : ∃ z, z = deps.getD j ByteArray.empty := ⟨_, rfl⟩
    rw [← hwho] at hlk hat ⊢
    obtain ⟨fw, hfw⟩ : ∃ z, z = f who := ⟨_, rfl⟩
    obtain ⟨mw, hmw⟩ : ∃ z, z = m who := ⟨_, rfl⟩
    rw [← hfw] at hlk
    rw [← hmw] at hlk ⊢
    have hfl : ∀ W, (Instr.field 104 (lotV fw mw) 1).run Tryz.prog W = .ok (.int .i64 mw) W := fun W => by kernel_rfl
    have hge : decide ((x : Int) ≥ 0) = true := decide_eq_true h0
    obtain ⟨da, dc, rfl, _⟩ := zd.form
    obtain ⟨db, dof, rfl, _, hcs⟩ := zd.at hat
    have hcell := hcs.2 j who hat
    have hd0 : decide (0 ≤ x) = true := decide_eq_true h0
    rw [hd0]
    subst hx
    clear hr h h1 h2 h3 zd zM hcs hwho hfw hmw hat hj hd0 hb
    subst hW
    go_enter Tryz.func55, Tryz.ntmps55
    go_wp2_with fail
    go_quiet (fail)
    go_wp2_with fail
    go_ret
    exact ⟨by simp, HB.out.trans (below_dn (Below.refl _ _))⟩
  · have hd0 : decide (0 ≤ x) = false := decide_eq_false h0
    have hge : decide ((x : Int) ≥ 0) = false := decide_eq_false h0
    rw [hd0]
    clear hr h zd zM hd0 hb
    subst hW
    go_enter Tryz.func55, Tryz.ntmps55
    go_wp2_with fail
    go_quiet (fail)
    go_wp2_with fail
    go_ret
    exact ⟨by simp, HB.out.trans (below_dn (Below.refl _ _))⟩
end Go.Proofs.YtojnagonhihknaaGreatDoor
set_option linter.unusedVariables false
namespace Go.Proofs.YtojnagonhihknaaGreatDoor
open Go.ChangeShapes Go.WideShapes Go.ChangeAt Go.RowKit Go.WideMaps Go.Maps

def RefK (ks : Lb) (deps : Lb) (r : Rf) : Prop := 0 ≤ r.at_ → r.at_ < deps.length ∧ deps.getD r.at_.toNat ByteArray.empty ∈ ks ∧ (deps.getD r.at_.toNat ByteArray.empty).size ≤ 140737488355328
theorem refsG_len (z : Opp) : (refsG z).length ≤ 2 := by
  unfold refsG
  split <;> simp
set_option maxHeartbeats 2000000 in
set_option maxRecDepth 100000 in
theorem lackO_any {ks : Lb} {f m : ByteArray → Int} {sb mb qs qp : Nat} {nm t : ByteArray} {dv ov : Value} {deps : Lb} (z : Opp) (la : Option Addr) (ln lc : Nat) (w : World) (h : LackS w ks f m sb mb qs qp nm t dv ov deps) (hr : ∀ r ∈ refsG z, RefK ks deps r) :
    Calls Tryz.prog 52 #[opV z (.slice la ln lc), .pointer (some ⟨qs, 0, none⟩), .pointer (some ⟨qp, 0, none⟩)] w fun e w' => e = .returned (.bool ((refsG z).any (lackR m deps))) ∧ Below w.heap.size w w' := by
  have hb : ∀ o, Below w.heap.size w (w.alloc o) := fun o => (Below.refl _ _).alloc (Nat.le_refl _) _
  have cr : ∀ wz, Calls Tryz.prog 54 #[opV z (.slice la ln lc)] wz fun e w' => ∃ v, e = .returned v ∧ RfReads w' v (refsG z) ∧ Below wz.heap.size wz w' := fun wz => refs_any z la ln lc wz
  have cc : ∀ v wz, Below w.heap.size w wz → RfReads wz v (refsG z) → Calls Tryz.prog 53 #[v, .func (.func 55) #[] #[.pointer (some ⟨qs, 0, none⟩), .pointer (some ⟨qp, 0, none⟩)]] wz fun e w' => e = .returned (.bool ((refsG z).any (lackR m deps))) ∧ Below wz.heap.size wz w' := fun v wz hz hv =>
    containsLacksR_any qs qp (refsG z) (lackR m deps) v wz hv (Nat.le_trans (refsG_len z) (by decide)) fun p hp wy hy _ => lack1_any p wy ((h.below hz).below hy) (hr p hp)
  obtain ⟨b, hbq⟩ : ∃ b, b = (refsG z).any (lackR m deps) := ⟨_, rfl⟩
  rw [← hbq] at cc ⊢
  have CR := Lib.hid cr
  have CC := Lib.hid cc
  have HB := Lib.hid hb
  clear cr cc hb h hr
  obtain ⟨K, ⟨x, y⟩, ⟨u, v⟩, ls⟩ := z
  clear hbq
  go_enter Tryz.func52, Tryz.ntmps52
  go_wp2_with fail
  refine (CR.out _).mono ?_
  rintro e w2 ⟨v2, rfl, hv2, hb2⟩
  have HB2 := Lib.hid ((HB.out _).trans (hb2.mono (HB.out _).size))
  have HV2 := Lib.hid hv2
  clear hb2 hv2
  go_wp2_with fail
  refine (CC.out _ _ HB2.out HV2.out).mono ?_
  rintro e w3 ⟨rfl, hb3⟩
  have HB3 := Lib.hid (HB2.out.trans (hb3.mono HB2.out.size))
  clear hb3
  go_wp2_with fail
  go_ret
  exact ⟨rfl, HB3.out⟩
def lackP (m : ByteArray → Int) (p : Pt) : Bool := p.ops.any fun o => (refsG o).any (lackR m p.deps)
theorem OReads.lines {w : World} {ov : Value} {xs : List Opp} {j : Nat} {x : Opp} {lv : Value} (h : Reads w lv x.lines) : ∃ la lc, lv = .slice la x.lines.length lc := by
  obtain ⟨a, c, rfl, _⟩ := h.form
  exact ⟨a, c, rfl⟩
set_option maxHeartbeats 2000000 in
set_option maxRecDepth 100000 in
theorem lacks_any {ks : Lb} {f m : ByteArray → Int} {sb mb : Nat} (nm : ByteArray) (p : Pt) (dv ov : Value) (w : World) (hc : w.cell? ⟨sb, 0, none⟩ = some (.map (some mb))) (hl : sb < w.heap.size) (hM : MLot w mb ks f m) (hp : PReads w p.note dv ov p) (hn : p.ops.length ≤ 1000000) (hr : ∀ o ∈ p.ops, ∀ r ∈ refsG o, RefK ks p.deps r) :
    Calls Tryz.prog 26 #[.pointer (some ⟨sb, 0, none⟩), npV nm p.note dv ov] w fun e w' => e = .returned (.bool (lackP m p)) ∧ Below w.heap.size w w' := by
  obtain ⟨W, hW⟩ : ∃ W, W = (w.alloc (.cells #[.pointer (some ⟨sb, 0, none⟩)] 68)).alloc (.cells #[.string nm, .string p.note, dv, ov] 49) := ⟨_, rfl⟩
  obtain ⟨q1, q2, qb, qs⟩ := boxA2 (Below.refl _ ((w.alloc (.cells #[.pointer (some ⟨sb, 0, none⟩)] 68)).alloc (.cells #[.string nm, .string p.note, dv, ov] 49)))
  rw [← hW] at q1 q2 qb qs
  have hS : LackS W ks f m sb mb w.heap.size (w.heap.size + 1) nm p.note dv ov p.deps := ⟨q1 0, by omega, ⟨q2 0, q2 1, q2 2, q2 3⟩, by omega, (qb.cell (p := ⟨sb, 0, none⟩) hl).trans hc, Nat.lt_of_lt_of_le hl qb.size, hM.below qb, hp.deps.below qb⟩
  have hO := hp.ops.below qb
  have cc := containsLacksO_any w.heap.size (w.heap.size + 1) p.ops (fun o => (refsG o).any (lackR m p.deps)) ov W hO hn fun z hz lv wy hy hlv => by
    obtain ⟨la, lc, rfl⟩ := OReads.lines (w := wy) (ov := ov) (xs := p.ops) (j := 0) hlv
    exact lackO_any z la z.lines.length lc wy (hS.below hy) (hr z hz)
  obtain ⟨b, hbq⟩ : ∃ b, b = lackP m p := ⟨_, rfl⟩
  rw [← hbq]
  have hbq2 : b = p.ops.any (fun o => (refsG o).any (lackR m p.deps)) := hbq
  rw [← hbq2] at cc
  have CC := Lib.hid cc
  have QB := Lib.hid qb
  clear cc hS hO hc hl hM hr hbq hbq2 q1 q2 qb qs hp hn
  subst hW
  go_enter Tryz.func26, Tryz.ntmps26
  go_wp2_with fail
  refine CC.out.mono ?_
  rintro e w3 ⟨rfl, hb3⟩
  have HB3 := Lib.hid (QB.out.trans (hb3.mono QB.out.size))
  clear hb3
  go_wp2_with fail
  go_ret
  exact ⟨rfl, HB3.out⟩
end Go.Proofs.YtojnagonhihknaaGreatDoor
set_option linter.unusedVariables false
set_option linter.unusedSimpArgs false
namespace Go.Proofs.YtojnagonhihknaaGreatDoor

def mR (R : GSet ByteArray) (x : ByteArray) : Int := match R.find? (fun y => decide (y.1 = x)) with | some y => (madeX y : Int) | none => 0
theorem mR_of {R : GSet ByteArray} (hM : ∀ x ∈ R, ∀ y ∈ R, x.1 = y.1 → x = y) {x : ByteArray × List (GOp ByteArray)} (hx : x ∈ R) : mR R x.1 = (madeX x : Int) := by
  unfold mR
  cases h : R.find? (fun y => decide (y.1 = x.1)) with
  | none =>
    have := List.find?_eq_none.1 h x hx
    simp at this
  | some y =>
    have h1 := List.find?_some h
    have h2 := List.mem_of_find?_eq_some h
    have : y = x := hM y h2 x hx (by simpa using h1)
    rw [this]
theorem mR_perm {R M : GSet ByteArray} (hp : M.Perm R) (hM : ∀ x ∈ R, ∀ y ∈ R, x.1 = y.1 → x = y) (x : ByteArray) : mR M x = mR R x := by
  by_cases h : ∃ y ∈ R, y.1 = x
  · obtain ⟨y, hy, rfl⟩ := h
    rw [mR_of hM hy, mR_of (fun a ha b hb => hM a (hp.mem_iff.1 ha) b (hp.mem_iff.1 hb)) (hp.mem_iff.2 hy)]
  · have h1 : R.find? (fun y => decide (y.1 = x)) = none := List.find?_eq_none.2 fun y hy => by simpa using fun e => h ⟨y, hy, e⟩
    have h2 : M.find? (fun y => decide (y.1 = x)) = none := List.find?_eq_none.2 fun y hy => by simpa using fun e => h ⟨y, hp.mem_iff.1 hy, e⟩
    unfold mR
    rw [h1, h2]
theorem ref_cases {deps made : Nat} {r : Rf} (h : refB deps made r = true) : (r.at_ = -1 ∧ (r.n = 0 ∨ r.n = 1)) ∨ (r.at_ = -2 ∧ 0 ≤ r.n ∧ r.n < made) ∨ (0 ≤ r.at_ ∧ r.at_ < deps ∧ 0 ≤ r.n ∧ r.n < 300) := by
  unfold refB at h
  split at h
  · rename_i e
    simp only [Bool.or_eq_true, decide_eq_true_eq] at h
    exact .inl ⟨e, h⟩
  · split at h
    · rename_i e
      simp only [Bool.and_eq_true, decide_eq_true_eq] at h
      exact .inr (.inl ⟨e, h.1, h.2⟩)
    · simp only [Bool.and_eq_true, decide_eq_true_eq] at h
      exact .inr (.inr ⟨h.1.1.1, h.1.1.2, h.1.2, h.2⟩)
theorem op_cases {deps made : Nat} {o : Opp} (h : opR deps made o = true) : ((o.kind = 1 ∧ o.lines.length ≠ 0) ∨ ((o.kind = 2 ∨ o.kind = 3) ∧ o.lines.length = 0)) ∧ refB deps made o.a = true ∧ refB deps made o.b = true ∨ (o.kind = 4 ∨ o.kind = 5) ∧ o.lines.length = 0 ∧ refB deps made o.a = true := by
  unfold opR betwB at h
  split at h
  · rename_i e
    simp only [Bool.and_eq_true, decide_eq_true_eq] at h
    exact .inl ⟨.inl ⟨e, h.1.1⟩, h.2.1.1.1.1, h.2.1.1.1.2⟩
  · split at h
    · rename_i e
      simp only [Bool.and_eq_true, decide_eq_true_eq] at h
      exact .inl ⟨.inr ⟨e, h.1⟩, h.2.1.1.1.1, h.2.1.1.1.2⟩
    · split at h
      · rename_i e
        simp only [Bool.and_eq_true, decide_eq_true_eq] at h
        exact .inr ⟨e, h.1.1.1, h.2⟩
      · cases h
theorem opsR_at {deps : Nat} {ops : List Opp} (h : opsR deps 0 ops = true) {k : Nat} {o : Opp} (ho : ops[k]? = some o) : opR deps (madeN (ops.take k)) o = true := by
  obtain ⟨hk, rfl⟩ := List.getElem?_eq_some_iff.1 ho
  have e : ops = ops.take k ++ (ops[k] :: ops.drop (k + 1)) := by rw [← List.drop_eq_getElem_cons hk, List.take_append_drop]
  rw [e, opsR_app, Nat.zero_add, Bool.and_eq_true] at h
  have h2 := h.2
  simp only [opsR, Bool.and_eq_true] at h2
  exact h2.1
theorem right_ops {p : Pt} (h : rightP p = true) : p.ops.length ≤ 400 ∧ p.deps.length ≤ 64 ∧ opsR p.deps.length 0 p.ops = true ∧ madeN p.ops ≤ 300 := by
  unfold rightP soundB at h
  simp only [Bool.and_eq_true, decide_eq_true_eq] at h
  obtain ⟨⟨⟨⟨_, h1⟩, h2⟩, h3⟩, _⟩ := h
  obtain ⟨h4, h5⟩ := (opsB_iff p.deps.length p.ops 0 (by omega)).1 h3
  exact ⟨h1, (risB_iff.1 h2).1, h4, by omega⟩
structure GoodS (S : SetP) : Prop where
  uniq : (S.map (·.1)).Nodup
  named : ∀ p ∈ S, p.1 ≠ nil0
  right : ∀ p ∈ S, rightP p.2 = true
  closed : ∀ p ∈ S, ∀ d ∈ p.2.deps, d ∈ S.map (·.1)
theorem bsOf_inj {a b : ByteArray} (h : bsOf a = bsOf b) : a = b := ba_ext h
theorem sdeps_names (S : SetP) : (sdeps S).map (·.1) = S.map (·.1) := by unfold sdeps; rw [List.map_map]; rfl
theorem good_of {S : SetP} {out : Lb} (h : LinR (sdeps S) out 0) (hw : S.any wrongG = false) : GoodS S := by
  have hL := lin_ok h
  have hwp : ∀ p ∈ S, p.1 ≠ nil0 ∧ rightP p.2 = true := fun p hp => by
    have := List.any_eq_false.1 hw p hp
    unfold wrongG at this
    simp only [Bool.or_eq_true, decide_eq_true_eq, Bool.not_eq_true', not_or, Bool.not_eq_false] at this
    exact this
  have hu : ((sdeps S).map (·.1)).Nodup := by
    have h1 := hL.uniq
    have e : ((sdeps S).map fun p => bsOf p.1) = ((sdeps S).map (·.1)).map bsOf := by rw [List.map_map]; rfl
    rw [e] at h1
    exact List.Pairwise.imp (fun hab e2 => hab (by rw [e2])) (List.pairwise_map.1 h1)
  rw [sdeps_names] at hu
  refine ⟨hu, fun p hp => (hwp p hp).1, fun p hp => (hwp p hp).2, fun p hp d hd => ?_⟩
  have hp2 : (p.1, p.2.deps) ∈ sdeps S := List.mem_map.2 ⟨p, hp, rfl⟩
  obtain ⟨k, hk, he⟩ := List.getElem_of_mem ((hL.mem _).2 (nsB_mem.2 ⟨_, hp2, rfl⟩))
  have h2 := (hL.mem _).1 (List.mem_of_mem_take (hL.behind k hk _ hp2 he.symm d hd))
  obtain ⟨q, hq, e⟩ := nsB_mem.1 h2
  obtain ⟨z, hz, rfl⟩ := List.mem_map.1 hq
  exact List.mem_map.2 ⟨z, hz, bsOf_inj e⟩
theorem gset_names (S : SetP) : (gsetS S).map (·.1) = S.map (·.1) := by unfold gsetS; rw [List.map_map]; rfl
theorem GoodS.tame {S : SetP} (h : GoodS S) : Tame nil0 (gsetS S) := by
  refine tame_of (by rw [gset_names]; exact h.uniq) (fun x hx => ?_)
  obtain ⟨p, hp, rfl⟩ := List.mem_map.1 hx
  exact h.named p hp
theorem getD_mem {l : Lb} {i : Nat} (h : i < l.length) : l.getD i ByteArray.empty ∈ l := by
  rw [List.getD_eq_getElem?_getD, List.getElem?_eq_getElem h]
  exact List.getElem_mem h
theorem GoodS.refK {S : SetP} (h : GoodS S) (hf : S.fine) {ks : Lb} (hk : ∀ x, x ∈ S.map (·.1) → x ∈ ks) {p : ByteArray × Pt} (hp : p ∈ S) {o : Opp} (ho : o ∈ p.2.ops) : ∀ r ∈ refsG o, RefK ks p.2.deps r := fun r hr h0 => by
  obtain ⟨k, hk2⟩ := List.getElem?_of_mem ho
  obtain ⟨_, _, hR, _⟩ := right_ops (h.right p hp)
  have hop := op_cases (opsR_at hR hk2)
  have hrb : refB p.2.deps.length (madeN (p.2.ops.take k)) r = true := by
    unfold refsG at hr
    rcases hop with ⟨h1, h2, h3⟩ | ⟨h1, _, h2⟩
    · rw [if_neg (by omega)] at hr
      simp only [List.mem_cons, List.not_mem_nil, or_false] at hr
      rcases hr with rfl | rfl
      · exact h2
      · exact h3
    · rw [if_pos h1, List.mem_singleton] at hr
      rw [hr]; exact h2
  have hlt : r.at_.toNat < p.2.deps.length := by
    rcases ref_cases hrb with ⟨e, _⟩ | ⟨e, _⟩ | ⟨_, e, _⟩ <;> omega
  have hm := h.closed p hp _ (getD_mem hlt)
  refine ⟨by omega, hk _ hm, ?_⟩
  obtain ⟨q, hq, e⟩ := List.mem_map.1 hm
  rw [← e]
  exact (hf.2 q hq).2.1
def NoLack (S : SetP) : Prop := ∀ p ∈ S, lackP (mR (gsetS S)) p.2 = false
theorem GoodS.refD {S : SetP} (h : GoodS S) (hf : S.fine) (hl : NoLack S) {R : GSet ByteArray} (hR : R.Perm (gsetS S)) {p : ByteArray × Pt} (hp : p ∈ S) {o : Opp} (ho : o ∈ p.2.ops) {made : Nat} (hmade : made ≤ madeN p.2.ops) {r : Rf} (hr : r ∈ refsG o) (hrb : refB p.2.deps.length made r = true) : RefD R p.1 p.2.deps r := by
  have hmem : ∀ q ∈ S, gpt q ∈ R := fun q hq => hR.mem_iff.2 (List.mem_map.2 ⟨q, hq, rfl⟩)
  have hnm : ∀ q ∈ S, q.1 ∈ R.map (·.1) := fun q hq => List.mem_map.2 ⟨_, hmem q hq, rfl⟩
  have h300 := (right_ops (h.right p hp)).2.2.2
  rcases ref_cases hrb with ⟨e, hn⟩ | ⟨e, hn0, hn1⟩ | ⟨e0, e1, hn0, hn1⟩
  · refine ⟨.inl e, by omega, by omega, ?_, fun hne => absurd e hne⟩
    unfold idR
    rw [if_pos e]
    rcases hn with hn | hn
    · rw [hn]; exact .inl rfl
    · rw [hn]; exact .inr (.inl rfl)
  · have ew : whoR p.1 p.2.deps r = p.1 := by unfold whoR; rw [if_pos e]
    refine ⟨.inr (.inl e), hn0, by omega, ?_, fun _ => by rw [ew]; exact ⟨hnm p hp, (hf.2 p hp).2.1⟩⟩
    unfold idR
    rw [if_neg (by omega), ew]
    refine .inr (.inr ⟨gpt p, hmem p hp, rfl, ?_⟩)
    show r.n.toNat < madeX (gpt p)
    rw [madeX_gpt]
    omega
  · have hlt : r.at_.toNat < p.2.deps.length := by omega
    have ew : whoR p.1 p.2.deps r = p.2.deps.getD r.at_.toNat ByteArray.empty := by unfold whoR; rw [if_neg (by omega)]
    have hm := h.closed p hp _ (getD_mem hlt)
    obtain ⟨q, hq, eq⟩ := List.mem_map.1 hm
    refine ⟨.inr (.inr ⟨e0, e1⟩), hn0, by omega, ?_, fun _ => by rw [ew, ← eq]; exact ⟨hnm q hq, (hf.2 q hq).2.1⟩⟩
    unfold idR
    rw [if_neg (by omega), ew, ← eq]
    refine .inr (.inr ⟨gpt q, hmem q hq, rfl, ?_⟩)
    have h1 := hl p hp
    unfold lackP at h1
    have h2 := List.any_eq_false.1 h1 o ho
    have h3 := List.any_eq_false.1 (by simpa using h2) r hr
    unfold lackR at h3
    simp only [Bool.and_eq_true, decide_eq_true_eq, not_and] at h3
    have h4 := h3 e0
    rw [← eq] at h4
    have h5 : mR (gsetS S) q.1 = (madeX (gpt q) : Int) := mR_of h.tame.one (x := gpt q) (List.mem_map.2 ⟨q, hq, rfl⟩)
    rw [h5] at h4
    show r.n.toNat < madeX (gpt q)
    omega
theorem GoodS.refs {S : SetP} (h : GoodS S) (hf : S.fine) (hl : NoLack S) {R : GSet ByteArray} (hR : R.Perm (gsetS S)) {p : ByteArray × Pt} (hp : p ∈ S) {k : Nat} {o : Opp} (hk : p.2.ops[k]? = some o) :
    (((o.kind = 1 ∧ o.lines.length ≠ 0) ∨ ((o.kind = 2 ∨ o.kind = 3) ∧ o.lines.length = 0)) ∧ RefD R p.1 p.2.deps o.a ∧ RefD R p.1 p.2.deps o.b) ∨ ((o.kind = 4 ∨ o.kind = 5) ∧ o.lines.length = 0 ∧ RefD R p.1 p.2.deps o.a) := by
  obtain ⟨_, _, hO, _⟩ := right_ops (h.right p hp)
  have ho := List.mem_of_getElem? hk
  have hm := madeN_take p.2.ops k
  rcases op_cases (opsR_at hO hk) with ⟨h1, h2, h3⟩ | ⟨h1, h4, h2⟩
  · have e : refsG o = [o.a, o.b] := by unfold refsG; rw [if_neg (by omega)]
    exact .inl ⟨h1, h.refD hf hl hR hp ho hm (by rw [e]; simp) h2, h.refD hf hl hR hp ho hm (by rw [e]; simp) h3⟩
  · have e : refsG o = [o.a] := by unfold refsG; rw [if_pos h1]
    exact .inr ⟨h1, h4, h.refD hf hl hR hp ho hm (by rw [e]; simp) h2⟩
theorem GoodS.allRefs {S : SetP} (h : GoodS S) (hf : S.fine) (hl : NoLack S) : Refs nil0 (gsetS S) := fun x hx o ho => by
  obtain ⟨p, hp, rfl⟩ := List.mem_map.1 hx
  obtain ⟨z, hz, rfl⟩ := List.mem_map.1 ho
  obtain ⟨k, hk⟩ := List.getElem?_of_mem hz
  rcases h.refs hf hl (List.Perm.refl _) hp hk with ⟨h1, h2, h3⟩ | ⟨h1, _, h2⟩
  · exact ⟨by show 1 ≤ z.kind; omega, by show z.kind ≤ 5; omega, h2.id, fun _ => h3.id⟩
  · exact ⟨by show 1 ≤ z.kind; omega, by show z.kind ≤ 5; omega, h2.id, fun hk => by have : z.kind < 4 := hk; omega⟩
def BuildR (S : SetP) (k : Int) : Prop := ∃ out k1, LinR (sdeps S) out k1 ∧ ((k1 ≠ 0 ∧ k = k1) ∨ (k1 = 0 ∧ S.any wrongG = true ∧ k = 10) ∨ (k1 = 0 ∧ S.any wrongG = false ∧ ¬ NoLack S ∧ k = 14) ∨ (k1 = 0 ∧ S.any wrongG = false ∧ NoLack S ∧ k = 0))
theorem BuildR.good {S : SetP} (h : BuildR S 0) : GoodS S ∧ NoLack S := by
  obtain ⟨out, k1, hL, ⟨h1, h2⟩ | ⟨_, _, h2⟩ | ⟨_, _, _, h2⟩ | ⟨h1, h2, h3, _⟩⟩ := h
  · omega
  · omega
  · omega
  · subst h1
    exact ⟨good_of hL h2, h3⟩
theorem BuildR.names {S : SetP} {k : Int} (h : BuildR S k) (hk : k ≠ 14) (hk2 : k ≠ 0) : k = 10 ∨ k = 11 ∨ k = 12 := by
  obtain ⟨out, k1, hL, ⟨h1, h2⟩ | ⟨_, _, h2⟩ | ⟨_, _, _, h2⟩ | ⟨_, _, _, h2⟩⟩ := h
  · rcases hL with ⟨_, _, e⟩ | ⟨_, _, _, _, ⟨_, _, e⟩ | ⟨_, _, e⟩⟩ <;> omega
  all_goals omega
end Go.Proofs.YtojnagonhihknaaGreatDoor
set_option linter.unusedVariables false
namespace Go.Proofs.YtojnagonhihknaaGreatDoor
open Go.ChangeShapes Go.WideShapes Go.ChangeAt Go.RowKit Go.Shelf

set_option maxHeartbeats 1000000 in
set_option maxRecDepth 100000 in
theorem ncollect_any (E : Bes) (hE : SlE E) (zs : Lb) (Bs : Nat) (a : Option Addr) (n c : Nat) (w : World) (hn : n = zs.length) (hnn : n ≤ 1000000) (hc : w.cell? ⟨Bs, 0, none⟩ = some (.slice a n c))
    (hI : ∀ j x, zs[j]? = some x → ∃ b o, a = some ⟨b, o, none⟩ ∧ b < w.heap.size ∧ EntAt w b (o + j * 4) E x) :
    Calls Tryz.prog 82 #[.func (.func 84) #[] #[.pointer (some ⟨Bs, 0, none⟩)]] w fun e w' => ∃ ov, e = .returned ov ∧ OutN E (w.heap.size + 1) w' ov zs ∧ Below w.heap.size w w' := by
  have AP := nappendSeq_any E hE zs Bs a n c w hn hnn hc hI
  have HAP := Lib.hid AP
  clear AP hc hI hn
  go_enter Tryz.func82, Tryz.ntmps82
  go_wp2_with fail
  refine HAP.out.mono ?_
  rintro e w1 ⟨ov, rfl, ho, hb⟩
  have HO := Lib.hid ho
  clear ho
  go_wp2_with fail
  go_ret
  exact ⟨_, rfl, HO.out, hb⟩
def NReads (E : Bes) (w : World) (v : Value) (M : Lb) : Prop :=
  (M = [] ∧ ∃ a c, v = .slice a 0 c) ∨ (M ≠ [] ∧ ∃ b c, v = .slice (some ⟨b, 0, none⟩) M.length c ∧ M.length ≤ c ∧ c ≤ 9223372036854775807 ∧ b < w.heap.size ∧ ∀ j x, M[j]? = some x → EntAt w b (j * 4) E x)
theorem SlE.one {E : Bes} (h : SlE E) (x : ByteArray) : (E x).2.1.oneCell' = true ∧ (E x).2.2.oneCell' = true := by
  obtain ⟨⟨a, n, c, e1⟩, a', n', c', e2⟩ := h x
  rw [e1, e2]
  exact ⟨rfl, rfl⟩
set_option maxHeartbeats 1000000 in
set_option maxRecDepth 100000 in
theorem nsorted_any (E : Bes) (hE : SlE E) (zs : Lb) (Bs : Nat) (a : Option Addr) (n c : Nat) (w : World) (hn : n = zs.length) (hnn : n ≤ 1000000) (hc : w.cell? ⟨Bs, 0, none⟩ = some (.slice a n c))
    (hI : ∀ j x, zs[j]? = some x → ∃ b o, a = some ⟨b, o, none⟩ ∧ b < w.heap.size ∧ EntAt w b (o + j * 4) E x) :
    Calls Tryz.prog 46 #[.func (.func 84) #[] #[.pointer (some ⟨Bs, 0, none⟩)], .func (.func 48) #[] #[]] w fun e w' => ∃ ov M, e = .returned ov ∧ M.Perm zs ∧ M.Pairwise (fun x y => ¬ y.data.toList < x.data.toList) ∧ NReads E w' ov M ∧ (∀ g, ov.ownBlock = some g → w.heap.size ≤ g) ∧ Below w.heap.size w w' := by
  have CO := ncollect_any E hE zs Bs a n c w hn hnn hc hI
  have HCO := Lib.hid CO
  have HN := Lib.hid hn
  clear CO hc hI hn
  go_enter Tryz.func46, Tryz.ntmps46
  go_wp2_with fail
  refine HCO.out.mono ?_
  rintro e w1 ⟨ov, rfl, ho, hb⟩
  have hrow := ho.row
  rw [← HN.out] at hrow
  by_cases h0 : n = 0
  · subst h0
    obtain ⟨oa, oc, rfl⟩ := hrow.form
    have hz : zs = [] := List.length_eq_zero_iff.1 HN.out.symm
    have HSN := Lib.hid (sortN_none oa oc w1)
    have HZ := Lib.hid hz
    have HOW := Lib.hid (fun g (hg : (Value.slice oa 0 oc).ownBlock = some g) => (show w.heap.size ≤ g by have := (hrow.lt g hg).1; omega))
    clear hrow ho hz
    go_wp2_with fail
    refine HSN.out.mono ?_
    rintro e w3 ⟨rfl, rfl⟩
    go_wp2_with fail
    go_ret
    exact ⟨_, [], rfl, by rw [HZ.out], List.Pairwise.nil, .inl ⟨rfl, _, _, rfl⟩, HOW.out, hb⟩
  · obtain ⟨b, cap, rfl, hb1, hb2, hcap, hmx, hfz, hcx⟩ := hrow.pos (by omega)
    have hsort := sortN_any E hE.one zs w1 hrow HN.out.symm hnn
    have hend : ∀ (M : Lb) w3, M.Perm zs → NA w3 b E M → Off (fun i => i = b) w1 w3 → NReads E w3 (.slice (some ⟨b, 0, none⟩) n cap) M ∧ Below w.heap.size w w3 := fun M w3 hp hA ho3 => by
      have hl : M.length = n := by rw [hp.length_eq, HN.out]
      refine ⟨.inr ⟨fun h => by rw [h] at hl; exact h0 hl.symm, b, cap, by rw [hl], by rw [hl]; exact hcap, (by unfold maxLen at hmx; omega), Nat.lt_of_lt_of_le hb2 ho3.size, fun j x hx i v hv => (hA j x hx i v hv).1⟩, hb.trans (ho3.below (fun i hi => by omega) hb.size)⟩
    have HSO := Lib.hid hsort
    have HEND := Lib.hid hend
    clear hsort hend hcx hfz ho hrow
    go_wp2_with fail
    refine HSO.out.mono ?_
    rintro e w3 ⟨rfl, M, hp, hpw, hA, ho3⟩
    have HE3 := Lib.hid (HEND.out M w3 hp hA ho3)
    have HP := Lib.hid hp
    have HPW := Lib.hid hpw
    clear hp hpw hA ho3
    go_wp2_with fail
    go_ret
    exact ⟨_, M, rfl, HP.out, HPW.out, HE3.out.1, fun g hg => (by
      have hbg : b = g := by simpa [Value.ownBlock] using hg
      omega), HE3.out.2⟩
end Go.Proofs.YtojnagonhihknaaGreatDoor
set_option linter.unusedVariables false
set_option linter.unusedSimpArgs false
namespace Go.Proofs.YtojnagonhihknaaGreatDoor
open Go.ChangeShapes Go.WideShapes Go.ChangeAt Go.RowKit Go.WideMaps Go.Maps

theorem bes_of {S : SetP} {w : World} {a : Option Addr} {n c : Nat} (hr : GReads w (.slice a n c) S) (hn : (S.map (·.1)).Nodup) : ∃ (E : Bes) (pf : ByteArray → Pt), SlE E ∧ (∀ p ∈ S, pf p.1 = p.2 ∧ (E p.1).1 = p.2.note ∧ PReads w p.2.note (E p.1).2.1 (E p.1).2.2 p.2) ∧
    ∀ (j : Nat) (x : ByteArray), (S.map (·.1))[j]? = some x → ∃ b o, a = some ⟨b, o, none⟩ ∧ b < w.heap.size ∧ EntAt w b (o + j * 4) E x := by
  have key : ∀ x : ByteArray, ∃ z : (ByteArray × Value × Value) × Pt, ((∃ a n c, z.1.2.1 = .slice a n c) ∧ ∃ a n c, z.1.2.2 = .slice a n c) ∧ ∀ (j : Nat) (p : ByteArray × Pt), S[j]? = some p → p.1 = x → z.2 = p.2 ∧ z.1.1 = p.2.note ∧ PReads w p.2.note z.1.2.1 z.1.2.2 p.2 ∧ ∃ b o, a = some ⟨b, o, none⟩ ∧ b < w.heap.size ∧ w.cell? ⟨b, o + j * 4, none⟩ = some (.string p.1) ∧ w.cell? ⟨b, o + j * 4 + 1, none⟩ = some (.string z.1.1) ∧ w.cell? ⟨b, o + j * 4 + 2, none⟩ = some z.1.2.1 ∧ w.cell? ⟨b, o + j * 4 + 3, none⟩ = some z.1.2.2 := by
    intro x
    by_cases h : ∃ (j : Nat) (p : ByteArray × Pt), S[j]? = some p ∧ p.1 = x
    · obtain ⟨j, p, hj, hx⟩ := h
      obtain ⟨b, o, ha, hl, _, _, dv, ov, h0, h1, h2, h3, h4⟩ := hr.at hj
      obtain ⟨da, dc, hdv, _⟩ := h4.deps.form
      obtain ⟨oa, oc, hov, _⟩ := h4.ops.form
      refine ⟨((p.2.note, dv, ov), p.2), ⟨⟨_, _, _, hdv⟩, _, _, _, hov⟩, fun j2 p2 hj2 hx2 => ?_⟩
      have e : (S.map (·.1))[j]? = (S.map (·.1))[j2]? := by rw [List.getElem?_map, List.getElem?_map, hj, hj2]; show some p.1 = some p2.1; rw [hx, hx2]
      have hlt : j < (S.map (·.1)).length := by rw [List.length_map]; exact (List.getElem?_eq_some_iff.1 hj).1
      have ej : j = j2 := (List.getElem?_inj hlt hn).1 e
      subst ej
      rw [hj] at hj2
      injection hj2 with e2
      subst e2
      exact ⟨rfl, rfl, h4, b, o, ha, hl, h0, h1, h2, h3⟩
    · exact ⟨((ByteArray.empty, .slice none 0 0, .slice none 0 0), ⟨ByteArray.empty, [], []⟩), ⟨⟨_, _, _, rfl⟩, _, _, _, rfl⟩, fun j p hj hx => absurd ⟨j, p, hj, hx⟩ h⟩
  obtain ⟨F, hF⟩ := Classical.axiomOfChoice key
  refine ⟨fun x => (F x).1, fun x => (F x).2, fun x => (hF x).1, fun p hp => ?_, fun j x hx => ?_⟩
  · obtain ⟨j, hj⟩ := List.getElem?_of_mem hp
    obtain ⟨h1, h2, h3, _⟩ := (hF p.1).2 j p hj rfl
    exact ⟨h1, h2, h3⟩
  · rw [List.getElem?_map] at hx
    obtain ⟨p, hp, rfl⟩ := Option.map_eq_some_iff.1 hx
    obtain ⟨_, _, _, b, o, ha, hl, c0, c1, c2, c3⟩ := (hF p.1).2 j p hp rfl
    refine ⟨b, o, ha, hl, fun i v hv => ?_⟩
    have hi : i < 4 := by have := (List.getElem?_eq_some_iff.1 hv).1; simpa [encN] using this
    match i, hi, hv with
    | 0, _, hv => simp [encN] at hv; subst hv; exact c0
    | 1, _, hv => simp [encN] at hv; subst hv; exact c1
    | 2, _, hv => simp [encN] at hv; subst hv; exact c2
    | 3, _, hv => simp [encN] at hv; subst hv; exact c3
def risG (pf : ByteArray → Pt) (M : Lb) : GSet ByteArray := M.map fun x => gpt (x, pf x)
theorem risG_names (pf : ByteArray → Pt) (M : Lb) : (risG pf M).map (·.1) = M := by unfold risG; rw [List.map_map]; exact List.map_id _
theorem risG_perm {S : SetP} {pf : ByteArray → Pt} {M : Lb} (hp : M.Perm (S.map (·.1))) (hf : ∀ p ∈ S, pf p.1 = p.2) : (risG pf M).Perm (gsetS S) := by
  have h1 : (risG pf M).Perm ((S.map (·.1)).map fun x => gpt (x, pf x)) := hp.map _
  have h2 : ((S.map (·.1)).map fun x => gpt (x, pf x)) = gsetS S := by
    unfold gsetS
    rw [List.map_map]
    refine List.map_congr_left fun p hpS => ?_
    show gpt (p.1, pf p.1) = gpt p
    rw [hf p hpS]
  rw [h2] at h1
  exact h1
def ltB (a b : ByteArray) : Prop := a.data.toList < b.data.toList
theorem ltB_asymm (a b : ByteArray) (h : ltB a b) : ¬ ltB b a := fun h2 => List.lt_irrefl _ (List.lt_trans h h2)
theorem rise_of {M : Lb} (hn : M.Nodup) (h : M.Pairwise fun x y => ¬ y.data.toList < x.data.toList) : M.Pairwise ltB := by
  refine (hn.and h).imp fun {a b} hab => ?_
  obtain ⟨hne, hab⟩ := hab
  refine Classical.byContradiction fun hn2 => hne (ba_ext ?_)
  exact List.le_antisymm (List.not_lt.1 hab) (List.not_lt.1 hn2)
theorem ltB_nil {x : ByteArray} (h : x ≠ nil0) : ltB nil0 x := by
  show ([] : List UInt8) < x.data.toList
  cases e : x.data.toList with
  | nil => exact absurd (ba_ext (by rw [e])) h
  | cons a l => exact List.nil_lt_cons _ _
structure LyS (R : GSet ByteArray) (j : Nat) (ids : List (ByteArray × Nat)) (S1 : Sk) : Prop where
  ks : S1.ks = (R.take j).map (·.1)
  f : S1.f = fR R
  m : S1.m = mR R
  vs : S1.vs = (vs0 nil0 ids).map vxG
  put : S1.put = []
  js : S1.js = []
  wt : S1.wt = fun _ => 0
  c : S1.c = 0
def LyI (Zb : Nat → Prop) (W3 : World) (p : Nat) (R : GSet ByteArray) (j : Nat) (ids : List (ByteArray × Nat)) (wr : World) : Prop := ∃ S1, SPost Zb W3 p S1 wr ∧ LyS R j ids S1
theorem LyI.step {Z Z1 Z3 : Nat → Prop} {W0 w1 w3 : World} {p : Nat} {R : GSet ByteArray} {j : Nat} {ids : List (ByteArray × Nat)} {S3 : Sk} (ho : Off Z W0 w1) (hz : ∀ i, Z1 i → Z i ∨ W0.heap.size ≤ i) (hx : SX Z3 w3 p S3) (ho2 : Off Z1 w1 w3) (hz3 : ∀ i, Z3 i → Z1 i ∨ w1.heap.size ≤ i) (hk : LyS R j ids S3) : LyI Z W0 p R j ids w3 :=
  ⟨S3, ⟨Z3, hx, ho.trans' ho2 (fun i hl hi => (hz i hi).resolve_right (by omega)), fun i hi => by
    have := ho.size
    rcases hz3 i hi with h | h
    · exact hz i h
    · exact .inr (by omega)⟩, hk⟩
theorem LyI.below {Z : Nat → Prop} {W0 w1 w3 : World} {p : Nat} {R : GSet ByteArray} {j : Nat} {ids : List (ByteArray × Nat)} (h : LyI Z W0 p R j ids w1) (hb : Below w1.heap.size w1 w3) : LyI Z W0 p R j ids w3 := by
  obtain ⟨S1, ⟨Z1, k1, k2, k3⟩, k4⟩ := h
  exact ⟨S1, ⟨Z1, k1.below hb, k2.trans (Off.of_below hb), k3⟩, k4⟩
theorem LyS.skd {R : GSet ByteArray} {j : Nat} {S1 : Sk} (h : LyS R j (idsR nil0 R) S1) (hj : R.length ≤ j) : SkD R [] S1 ∧ S1.m = mR R := by
  refine ⟨⟨by rw [h.ks, List.take_of_length_le hj], h.f, vs0 nil0 (idsR nil0 R), [], fun _ => 0, DInv.start nil0 (idsR nil0 R) (plR nil0 R), h.vs, by rw [h.put]; rfl, fun a b => by rw [h.wt], fun q hq => absurd hq (by rw [h.js]; simp), by rw [h.c]; exact Nat.zero_le _, Nat.zero_le _, by rw [h.js]; exact Nat.zero_le _⟩, h.m⟩
theorem vs0_snoc (e : ByteArray) (ids : List (ByteArray × Nat)) (x : ByteArray) (n : Nat) : (vs0 e (ids ++ [(x, n)])).map vxG = (vs0 e ids).map vxG ++ [⟨x, (n : Int), ⟨#[]⟩, 0, e, 0, e, 0⟩] := by unfold vs0; rw [List.map_append, List.map_append]; rfl
theorem vs0_len (e : ByteArray) (ids : List (ByteArray × Nat)) : ((vs0 e ids).map vxG).length = ids.length := by unfold vs0; rw [List.length_map, List.length_map]
end Go.Proofs.YtojnagonhihknaaGreatDoor
