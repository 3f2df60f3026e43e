/- The contract of join: a step taken into the hunks. -/
import Derived.Test.YteppgjdkoakpeaaDoorJoinMem
import Derived.Deep.CutRange
set_option linter.unusedVariables false
namespace Go.Proofs.YteppgjdkoakpeaaDoor
open Go.ChangeShapes Go.WideShapes Go.ChangeAt Go.RowKit

def Tame (ps : List (Hk × Value)) : Prop := ps.length ≤ 1000000 ∧ ∀ p ∈ ps, (0 ≤ p.1.at_ ∧ p.1.at_ ≤ 1000000) ∧ (0 ≤ p.1.cut ∧ p.1.cut ≤ 1000000) ∧ p.1.put.length ≤ 1000000

/-- Where the step's hunk is the last one. -/
structure Ready (Z : Nat → Prop) (base : Nat) (w wx : World) (hv : Value) (s : Stp) (b : Ls) (hs : List Hk) (g cap : Nat) (init : List (Hk × Value)) (k : Hk) (pv : Value) : Prop where
  val : hv = .slice (some ⟨g, 0, none⟩) (init.length + 1) cap
  own : OwnP Z base wx hv (init ++ [(k, pv)])
  off : Off Z w wx
  b0 : wx.cell? ⟨w.heap.size, 0, none⟩ = some (.int .i64 s.x)
  b1 : wx.cell? ⟨w.heap.size, 1, none⟩ = some (.int .i64 s.y)
  b2 : wx.cell? ⟨w.heap.size, 2, none⟩ = some (.bool s.cut)
  lt : w.heap.size < wx.heap.size
  eq : init.map (·.1) ++ [bump b s k] = joinS b hs s
  tame : init.length ≤ 1000000 ∧ (0 ≤ k.cut ∧ k.cut ≤ 1000000) ∧ k.put.length ≤ 1000000

theorem own_drewN {w : World} {base size n m : Nat} {e : TypeId} {v : Value} {xs : List Value} (h : w.ownsRow base e size v n xs) : (w.drewN m).ownsRow base e size v n xs := h

theorem wpList_push_lies {P : Program} {ops : Array Oper} {rest : List Oper} {o : Oper} {a : Act} {Q : Exit → Act → World → Prop} (hgd : o.guard = none) (s x : Operand) (t : TypeId)
    (ho : o.op = .call { callee := .builtin .append, args := #[s, x], argTypes := #[t, t] })
    (base : Nat) (e : TypeId) (z : Value) (size bytes : Nat) (ht : P.underlying t = some (.slice e)) (hinfo : (P.info? e).map (fun i => (i.zero, i.size, i.bytes)) = some (some z, size, bytes)) (hzs : z.cells.size = size) (hsz : 0 < size)
    (wr : World) (v : Value) (n : Nat) (xs : List Value) (hs : a.eval s = v) (hown : wr.ownsRow base e size v n xs)
    (us : List Value) (c : Nat) (t1 : TypeId) (W : World) (hW : W = wr.alloc (.cells us.toArray t1)) (B : Nat) (hB : B = wr.heap.size) (hx : a.eval x = .slice (some ⟨B, 0, none⟩) 1 c) (hl : us.length = size) (h1 : ∀ u ∈ us, u.oneCell' = true)
    (h63 : n + 1 ≤ 140737488355328) (hbytes : (n + 1) * bytes ≤ 140737488355328) (hbase : base ≤ wr.heap.size)
    (h : ∀ g cap w', w'.ownsRow base e size (.slice (some ⟨g, 0, none⟩) (n + 1) cap) (n + 1) (xs ++ us) → (wr.alloc (.cells us.toArray t1)).grownBy w' v.ownBlock → (v.ownBlock = some g ∨ g = wr.heap.size + 1) →
      wpList P ops Q rest (a.put o.dst (.slice (some ⟨g, 0, none⟩) (n + 1) cap)) w') :
    wpList P ops Q (o :: rest) a W := by
  subst hW hB
  obtain ⟨i, hi, hz, hsize, hby⟩ := info_parts hinfo
  refine wpList_append_lies _ hgd s x t ho base e i z size bytes ht hi hz hsize hby hzs hsz v n xs hs (hown.alloc _) ⟨wr.heap.size, 0, none⟩ 1 c us hx (by rw [hl]; omega) ?_ h1 (by omega) (by unfold maxLen; omega) hbytes (by simp; omega) (wr.heap.size + 1) (by simp) ?_
  · intro j u hj
    rw [show (⟨wr.heap.size, 0, none⟩ : Addr).add j = ⟨wr.heap.size, j, none⟩ by unfold Addr.add; split <;> simp_all, World.cell?_alloc_at _ _ _ _ rfl]
    simpa using hj
  · intro g cap w' h1' h2' h3' _
    exact h g cap w' h1' h2' h3'

theorem Ready.start {Z : Nat → Prop} {base : Nat} {w : World} {b : Ls} {init : List (Hk × Value)} {k : Hk} {pv : Value} {s : Stp} {g cap d : Nat} (h : OwnP Z base w (.slice (some ⟨g, 0, none⟩) (init.length + 1) cap) (init ++ [(k, pv)])) (ht : Tame (init ++ [(k, pv)]))
    (ho : ¬ hend k < s.x) : Ready Z base w ((w.alloc (.cells #[.int .i64 s.x, .int .i64 s.y, .bool s.cut] 57)).drewN d) (.slice (some ⟨g, 0, none⟩) (init.length + 1) cap) s b ((init ++ [(k, pv)]).map (·.1)) g cap init k pv := by
  have h3 := ht.2 (k, pv) (by simp)
  have h4 := ht.1
  rw [List.length_append, List.length_singleton] at h4
  have hc : ∀ j u, [Value.int .i64 s.x, .int .i64 s.y, .bool s.cut][j]? = some u → ((w.alloc (.cells #[.int .i64 s.x, .int .i64 s.y, .bool s.cut] 57)).drewN d).cell? ⟨w.heap.size, j, none⟩ = some u := by
    intro j u hu
    show (w.alloc (.cells #[.int .i64 s.x, .int .i64 s.y, .bool s.cut] 57)).cell? ⟨w.heap.size, j, none⟩ = some u
    rw [World.cell?_alloc_at _ _ _ _ rfl]
    simpa using hu
  refine ⟨rfl, (h.alloc _).drewN, ((Off.refl Z w).alloc _).drewN, hc 0 _ rfl, hc 1 _ rfl, hc 2 _ rfl, ?_, ?_, by omega, h3.2.1, h3.2.2⟩
  · show w.heap.size < (w.alloc _).heap.size
    simp
  · rw [List.map_append, List.map_singleton, joinS_old]
    rw [openH_snoc, decide_eq_false_iff_not]
    exact ho

theorem Ready.pushed {Z : Nat → Prop} {base : Nat} {w w3 : World} {b : Ls} {hv : Value} {ps : List (Hk × Value)} {s : Stp} {g cap d : Nat} {t1 : TypeId} (h : OwnP Z base w hv ps) (ht : Tame ps) (hZ : ∀ i, w.heap.size ≤ i → Z i) (ho : openH (ps.map (·.1)) s.x = true)
    (hown : w3.ownsRow base 26 3 (.slice (some ⟨g, 0, none⟩) (ps.length + 1) cap) (ps.length + 1) (hcells ps ++ [.int .i64 s.x, .int .i64 0, .slice none 0 0]))
    (hg : (((w.alloc (.cells #[.int .i64 s.x, .int .i64 s.y, .bool s.cut] 57)).drewN d).alloc (.cells [.int .i64 s.x, .int .i64 0, .slice none 0 0].toArray t1)).grownBy w3 hv.ownBlock)
    (hat : hv.ownBlock = some g ∨ g = ((w.alloc (.cells #[.int .i64 s.x, .int .i64 s.y, .bool s.cut] 57)).drewN d).heap.size + 1) :
    Ready Z base w w3 (.slice (some ⟨g, 0, none⟩) (ps.length + 1) cap) s b (ps.map (·.1)) g cap ps ⟨s.x, 0, []⟩ (.slice none 0 0) := by
  have hsz : ((w.alloc (.cells #[.int .i64 s.x, .int .i64 s.y, .bool s.cut] 57)).drewN d).heap.size = w.heap.size + 1 := by
    show (w.alloc _).heap.size = _
    simp
  have hsz2 : (((w.alloc (.cells #[.int .i64 s.x, .int .i64 s.y, .bool s.cut] 57)).drewN d).alloc (.cells [.int .i64 s.x, .int .i64 0, .slice none 0 0].toArray t1)).heap.size = w.heap.size + 2 := by
    rw [World.size_alloc]; omega
  rw [hsz] at hat
  have hp := ((((h.alloc (.cells #[.int .i64 s.x, .int .i64 s.y, .bool s.cut] 57)).drewN (n := d)).alloc (.cells [.int .i64 s.x, .int .i64 0, .slice none 0 0].toArray t1)).push (k := ⟨s.x, 0, []⟩) rfl hown hg (by rw [hsz2]; exact hat) (fun i hi => hZ i (by omega)))
  have hne : some w.heap.size ≠ hv.ownBlock := by
    intro e
    have := h.row.lt w.heap.size e.symm
    omega
  have hc : ∀ j u, [Value.int .i64 s.x, .int .i64 s.y, .bool s.cut][j]? = some u → w3.cell? ⟨w.heap.size, j, none⟩ = some u := by
    intro j u hu
    rw [hg.cell_far ⟨w.heap.size, j, none⟩ (by rw [hsz2]; simp) hne]
    rw [World.cell?_alloc_lt]
    · show (w.alloc (.cells #[.int .i64 s.x, .int .i64 s.y, .bool s.cut] 57)).cell? ⟨w.heap.size, j, none⟩ = some u
      rw [World.cell?_alloc_at _ _ _ _ rfl]
      simpa using hu
    · rw [hsz]; simp
  have hoff := ((((Off.refl Z w).alloc (.cells #[.int .i64 s.x, .int .i64 s.y, .bool s.cut] 57)).drewN (n := d)).alloc (.cells [.int .i64 s.x, .int .i64 0, .slice none 0 0].toArray t1)).grown hg (fun k hk => h.zrow k hk)
  have hs3 := hg.size
  refine ⟨rfl, hp, hoff, hc 0 _ rfl, hc 1 _ rfl, hc 2 _ rfl, by omega, ?_, ht.1, by simp, by simp⟩
  rw [joinS_new ho]

theorem Ready.lastCell {Z : Nat → Prop} {base : Nat} {w wx : World} {hv : Value} {s : Stp} {b : Ls} {hs : List Hk} {g cap : Nat} {init : List (Hk × Value)} {k : Hk} {pv : Value} (h : Ready Z base w wx hv s b hs g cap init k pv) :
    wx.cell? ⟨g, init.length * 3 + 1, none⟩ = some (.int .i64 k.cut) ∧ wx.cell? ⟨g, init.length * 3 + 2, none⟩ = some pv ∧ (∀ j, wx.frozen? ⟨g, j, none⟩ = false) := by
  have hr := h.own.row
  rw [h.val, List.length_append, List.length_singleton] at hr
  have hat := hcells_at (ps := init ++ [(k, pv)]) (j := init.length) (p := (k, pv)) (by rw [List.getElem?_append_right (by omega)]; simp)
  refine ⟨?_, ?_, fun j => hr.frozenAt j⟩
  · rw [hr.cellAt _ (by omega)]; exact hat.2.1
  · rw [hr.cellAt _ (by omega)]; exact hat.2.2

theorem reads_cell {w : World} {bb ob n c : Nat} {xs : Ls} {y : Nat} {u : ByteArray} (h : Reads w (.slice (some ⟨bb, ob, none⟩) n c) xs) (hy : xs[y]? = some u) : w.cell? ⟨bb, ob + y, none⟩ = some (.string u) := by
  rcases h with ⟨rfl, _⟩ | ⟨_, b, o, c', e, _, _, hx⟩
  · simp at hy
  · simp only [Value.slice.injEq, Option.some.injEq, Addr.mk.injEq] at e
    obtain ⟨⟨rfl, rfl, _⟩, _, _⟩ := e
    exact hx.2 y u hy

theorem Ready.cutDone {Z : Nat → Prop} {base : Nat} {w wx : World} {hv : Value} {s : Stp} {b : Ls} {hs : List Hk} {g cap : Nat} {init : List (Hk × Value)} {k : Hk} {pv : Value} (h : Ready Z base w wx hv s b hs g cap init k pv) (hc : s.cut = true) {c : Int} (e : c = k.cut + 1) {o : Nat} (eo : o = init.length * 3 + 1) :
    ∃ ps', ps'.map (·.1) = joinS b hs s ∧ OwnP Z base (wx.setCell ⟨g, o, none⟩ (.int .i64 c)) hv ps' ∧ Off Z w (wx.setCell ⟨g, o, none⟩ (.int .i64 c)) := by
  subst e eo
  have ho := h.own
  have hz := h.own.zrow g (by rw [h.val]; rfl)
  rw [h.val] at ho
  obtain ⟨h1, h2⟩ := ho.setCut rfl (k.cut + 1)
  rw [h.val]
  refine ⟨_, ?_, h1, h.off.grown h2 (fun i hi => by simp only [Option.some.injEq] at hi; subst hi; exact hz)⟩
  rw [← h.eq, List.map_append, List.map_singleton]
  simp [bump, hc]

theorem grown_ad (w : World) (o : Obj) : w.grownBy (w.alloc o).drew none := ⟨rfl, rfl, rfl, by show _ ≤ (w.alloc o).heap.size; simp, fun k hk h => (World.grownBy_alloc w o none).block k hk h⟩
theorem size_ad (w : World) (o : Obj) : (w.alloc o).drew.heap.size = w.heap.size + 1 := World.size_alloc w o
theorem Ready.aside {Z : Nat → Prop} {base : Nat} {w wx : World} {hv : Value} {s : Stp} {b : Ls} {hs : List Hk} {g cap : Nat} {init : List (Hk × Value)} {k : Hk} {pv : Value} (h : Ready Z base w wx hv s b hs g cap init k pv) :
    ∀ o, (wx.alloc o).cell? ⟨g, init.length * 3 + 2, none⟩ = some pv := fun o => by
  have hr := h.own.row
  rw [h.val] at hr
  rw [World.cell?_alloc_lt _ _ _ (hr.lt g rfl).2]
  exact h.lastCell.2.1

theorem Ready.still {Z : Nat → Prop} {base : Nat} {w wx wa w5 : World} {hv : Value} {s : Stp} {b : Ls} {hs : List Hk} {g cap : Nat} {init : List (Hk × Value)} {k : Hk} {pv : Value} (h : Ready Z base w wx hv s b hs g cap init k pv) (hwa : wx.grownBy wa none) (hg : wa.grownBy w5 pv.ownBlock) :
    w5.cell? ⟨g, init.length * 3 + 2, none⟩ = some pv ∧ ∀ j, w5.frozen? ⟨g, j, none⟩ = false := by
  have ho := h.own.grown hwa
  have hlast := ho.puts (k, pv) (by simp)
  have hr := ho.row.kept hg (own_ne ho.row hlast.1 (by decide))
  rw [h.val, List.length_append, List.length_singleton] at hr
  have hat := hcells_at (ps := init ++ [(k, pv)]) (j := init.length) (p := (k, pv)) (by rw [List.getElem?_append_right (by omega)]; simp)
  exact ⟨by rw [hr.cellAt _ (by omega)]; exact hat.2.2, fun j => hr.frozenAt j⟩

theorem Ready.putDone {Z : Nat → Prop} {base : Nat} {w wx w5 : World} {hv : Value} {s : Stp} {b : Ls} {hs : List Hk} {g cap : Nat} {init : List (Hk × Value)} {k : Hk} {pv : Value} (h : Ready Z base w wx hv s b hs g cap init k pv) (hc : s.cut = false) (hZ : ∀ i, w.heap.size ≤ i → Z i)
    {g' cap' n m : Nat} {u : ByteArray} {y : Nat} (hu : b[y]? = some u) (hy : s.y = (y : Int)) {wa : World} (hwa : wx.grownBy wa none) (hn : n = k.put.length + 1) (hm : m = k.put.length + 1)
    (hown : w5.ownsRow base 9 1 (.slice (some ⟨g', 0, none⟩) m cap') n (k.put.map .string ++ [.string u])) (hg : wa.grownBy w5 pv.ownBlock) (hat : pv.ownBlock = some g' ∨ g' = wa.heap.size) {o : Nat} (eo : o = init.length * 3 + 2) :
    ∃ ps', ps'.map (·.1) = joinS b hs s ∧ OwnP Z base (w5.setCell ⟨g, o, none⟩ (.slice (some ⟨g', 0, none⟩) m cap')) hv ps' ∧ Off Z w (w5.setCell ⟨g, o, none⟩ (.slice (some ⟨g', 0, none⟩) m cap')) := by
  subst eo hn hm
  have ho := h.own.grown hwa
  have hz := h.own.zrow g (by rw [h.val]; rfl)
  have hlast := h.own.puts (k, pv) (by simp)
  rw [h.val] at ho
  have hs1 := hwa.size
  have hs2 := h.off.size
  obtain ⟨h1, h2⟩ := ho.setPut rfl hown hg hat (fun i hi => hZ i (by omega))
  rw [h.val]
  refine ⟨_, ?_, h1, ((h.off.grown hwa (by simp)).grown hg hlast.2).grown h2 (fun i hi => by simp only [Option.some.injEq] at hi; subst hi; exact hz)⟩
  rw [← h.eq, List.map_append, List.map_singleton]
  simp [bump, hc, hy, List.getD, hu]


set_option maxHeartbeats 4000000 in
theorem join_nilCut (Z : Nat → Prop) (base : Nat) (w : World) (hv vb : Value) (ps : List (Hk × Value)) (X Y : Int) (b : Ls) (hown : OwnP Z base w hv ps) (hZ : ∀ i, w.heap.size ≤ i → Z i) (hbase : base ≤ w.heap.size) (hb : ∀ w', Off Z w w' → Reads w' vb b)
    (ht : Tame ps) (hs : true = true ∨ ∃ y : Nat, Y = (y : Int) ∧ y < b.length) (hx : 0 ≤ X ∧ X ≤ 1000000) (hps : ps = []) :
    Calls Tryd.prog 21 #[hv, .agg #[.int .i64 X, .int .i64 Y, .bool true], vb] w fun e w' => ∃ hv', e = .returned hv' ∧ ∃ ps', ps'.map (·.1) = joinS b (ps.map (·.1)) ⟨X, Y, true⟩ ∧ OwnP Z base w' hv' ps' ∧ Off Z w w' := by
  have HB := Lib.hid hb
  have HT := Lib.hid ht
  have HZ := Lib.hid hZ
  have HO := Lib.hid hown
  obtain ⟨x1, x2⟩ := hx
  have hlp := ht.1
  have hrow := hown.row
  subst hps
  obtain ⟨ao, cap0, rfl⟩ : ∃ ao cap, hv = .slice ao 0 cap := by
    rcases hown.row.2 with ⟨h, _⟩ | ⟨g, cap, cur, h, _⟩
    · exact ⟨_, _, h⟩
    · exact ⟨_, _, h⟩
  have hop : openH (([] : List (Hk × Value)).map (·.1)) X = true := rfl
  have HR := Lib.hid hrow
  have HOP := Lib.hid hop
  clear hown hrow ht hZ hb hop hs
  go_enter Tryd.func21, Tryd.ntmps21
  go_wp2
  go_quiet (fail)
  go_wp2_with (at_builtin; refine wpList_push_lies rfl _ _ 23 rfl base 26 (.agg #[.int .i64 0, .int .i64 0, .slice none 0 0]) 3 40 Tryd.underlying23 Tryd.infoHunk rfl (by decide) _ _ _ _ rfl (by exact own_drewN (HR.out.alloc _)) [.int .i64 X, .int .i64 0, .slice none 0 0] 1 _ _ rfl _ (by show _ = (World.alloc _ _).heap.size; simp) rfl rfl (by simp [Value.oneCell']) (by omega) (by omega) (by show _ ≤ (World.alloc _ _).heap.size; simp; omega) ?_; intro g cap w3 hown3 hgr hat; have hrd := Ready.pushed (s := ⟨X, _, _⟩) (b := b) HO.out HT.out HZ.out HOP.out hown3 hgr hat; obtain ⟨l1, l2, l3⟩ := hrd.lastCell; have l1 : w3.cell? ⟨g, 1, none⟩ = some (.int .i64 0) := l1; have l2 : w3.cell? ⟨g, 2, none⟩ = some (.slice none 0 0) := l2; have c0 := hrd.b0; have c1 := hrd.b1; have c2 := hrd.b2; have HRD := Lib.hid hrd; clear hrd hown3 hgr hat)
  go_ret
  obtain ⟨ps', e1, e2, e3⟩ := HRD.out.cutDone rfl (c := 1) rfl (o := 1) rfl
  exact ⟨_, rfl, ps', e1, e2, e3⟩

set_option maxHeartbeats 4000000 in
theorem join_newCut (Z : Nat → Prop) (base : Nat) (w : World) (hv vb : Value) (ps : List (Hk × Value)) (X Y : Int) (b : Ls) (hown : OwnP Z base w hv ps) (hZ : ∀ i, w.heap.size ≤ i → Z i) (hbase : base ≤ w.heap.size) (hb : ∀ w', Off Z w w' → Reads w' vb b)
    (ht : Tame ps) (hs : true = true ∨ ∃ y : Nat, Y = (y : Int) ∧ y < b.length) (hx : 0 ≤ X ∧ X ≤ 1000000) (hps : ∃ init k pv, ps = init ++ [(k, pv)] ∧ hend k < X) :
    Calls Tryd.prog 21 #[hv, .agg #[.int .i64 X, .int .i64 Y, .bool true], vb] w fun e w' => ∃ hv', e = .returned hv' ∧ ∃ ps', ps'.map (·.1) = joinS b (ps.map (·.1)) ⟨X, Y, true⟩ ∧ OwnP Z base w' hv' ps' ∧ Off Z w w' := by
  have HB := Lib.hid hb
  have HT := Lib.hid ht
  have HZ := Lib.hid hZ
  have HO := Lib.hid hown
  obtain ⟨x1, x2⟩ := hx
  have hlp := ht.1
  have hrow := hown.row
  obtain ⟨init, k, pv, hps, hend1⟩ := hps
  obtain ⟨N, hN⟩ : ∃ N, N = init.length := ⟨_, rfl⟩
  have hpl : ps.length = N + 1 := by rw [hps, List.length_append, List.length_singleton, hN]
  obtain ⟨g0, cap0, rfl⟩ : ∃ g cap, hv = .slice (some ⟨g, 0, none⟩) (N + 1) cap := by
    rcases hown.row.2 with ⟨_, h⟩ | ⟨g, cap, cur, h, _⟩
    · omega
    · exact ⟨g, cap, by rw [h, hpl]⟩
  have hsl := HT.out.2 (k, pv) (by rw [hps]; simp)
  obtain ⟨⟨q1, q2⟩, ⟨q3, q4⟩, q5⟩ := hsl
  have hcc := hcells_at (ps := ps) (j := N) (p := (k, pv)) (by rw [hps, hN, List.getElem?_append_right (by omega)]; simp)
  have hrow' := hrow
  rw [hpl] at hrow' hlp
  have ha1 : ∀ o d, ((w.alloc o).drewN d).cell? ⟨g0, N * 3, none⟩ = some (.int .i64 k.at_) := fun o d => by
    show (w.alloc o).cell? _ = _
    rw [World.cell?_alloc_lt _ _ _ (hrow'.lt g0 rfl).2, hrow'.cellAt _ (by omega)]
    exact hcc.1
  have ha2 : ∀ o d, ((w.alloc o).drewN d).cell? ⟨g0, N * 3 + 1, none⟩ = some (.int .i64 k.cut) := fun o d => by
    show (w.alloc o).cell? _ = _
    rw [World.cell?_alloc_lt _ _ _ (hrow'.lt g0 rfl).2, hrow'.cellAt _ (by omega)]
    exact hcc.2.1
  have hb1 : ∀ o, (w.alloc o).cell? ⟨g0, N * 3, none⟩ = some (.int .i64 k.at_) := fun o => ha1 o 0
  have hb2 : ∀ o, (w.alloc o).cell? ⟨g0, N * 3 + 1, none⟩ = some (.int .i64 k.cut) := fun o => ha2 o 0
  have e0 : (((N : Int) + 1) == 0) = false := by rw [beq_eq_false_iff_ne]; omega
  obtain ⟨ka, hka⟩ : ∃ ka, ka = k.at_ := ⟨_, rfl⟩
  obtain ⟨kc, hkc⟩ : ∃ kc, kc = k.cut := ⟨_, rfl⟩
  rw [← hka] at q1 q2 hb1
  rw [← hkc] at q3 q4 hb2
  have HR := Lib.hid hrow'
  have HPS := Lib.hid hps
  have HPL := Lib.hid hpl
  have HKA := Lib.hid hka
  have HKC := Lib.hid hkc
  have HNN := Lib.hid hN
  have h0N : (0 : Int) ≤ N := by omega
  have h1N : (N : Int) < (N : Int) + 1 := by omega
  have hop : openH (ps.map (·.1)) X = true := by
    rw [hps, List.map_append, List.map_singleton, openH_snoc, decide_eq_true_iff]
    exact hend1
  have ht1 : ka + kc < X := by rw [hka, hkc]; exact hend1
  have HOP := Lib.hid hop
  clear hown hrow ht hZ hb hop hs hps hcc hpl hend1 hka hkc ha1 ha2 hrow' hN
  go_enter Tryd.func21, Tryd.ntmps21
  go_wp2
  go_quiet (fail)
  go_wp2_with (at_builtin; refine wpList_push_lies rfl _ _ 23 rfl base 26 (.agg #[.int .i64 0, .int .i64 0, .slice none 0 0]) 3 40 Tryd.underlying23 Tryd.infoHunk rfl (by decide) _ _ _ _ rfl (by exact own_drewN (HR.out.alloc _)) [.int .i64 X, .int .i64 0, .slice none 0 0] 1 _ _ rfl _ (by show _ = (World.alloc _ _).heap.size; simp) rfl rfl (by simp [Value.oneCell']) (by omega) (by omega) (by show _ ≤ (World.alloc _ _).heap.size; simp; omega) ?_; intro g cap w3 hown3 hgr hat; rw [← HPL.out] at hown3; have hrd := Ready.pushed (s := ⟨X, _, _⟩) (b := b) HO.out HT.out HZ.out HOP.out hown3 hgr hat; obtain ⟨l1, l2, l3⟩ := hrd.lastCell; rw [HPL.out] at l1 l2; have c0 := hrd.b0; have c1 := hrd.b1; have c2 := hrd.b2; have HRD := Lib.hid hrd; clear hrd hown3 hgr hat)
  go_ret
  obtain ⟨ps', e1, e2, e3⟩ := HRD.out.cutDone rfl (c := 1) rfl (o := ((N + 1) * 3 + 1)) (by rw [HPL.out])
  rw [HPL.out] at e2
  exact ⟨_, rfl, ps', e1, e2, e3⟩

set_option maxHeartbeats 4000000 in
theorem join_oldCut (Z : Nat → Prop) (base : Nat) (w : World) (hv vb : Value) (ps : List (Hk × Value)) (X Y : Int) (b : Ls) (hown : OwnP Z base w hv ps) (hZ : ∀ i, w.heap.size ≤ i → Z i) (hbase : base ≤ w.heap.size) (hb : ∀ w', Off Z w w' → Reads w' vb b)
    (ht : Tame ps) (hs : true = true ∨ ∃ y : Nat, Y = (y : Int) ∧ y < b.length) (hx : 0 ≤ X ∧ X ≤ 1000000) (hps : ∃ init k pv, ps = init ++ [(k, pv)] ∧ ¬ hend k < X) :
    Calls Tryd.prog 21 #[hv, .agg #[.int .i64 X, .int .i64 Y, .bool true], vb] w fun e w' => ∃ hv', e = .returned hv' ∧ ∃ ps', ps'.map (·.1) = joinS b (ps.map (·.1)) ⟨X, Y, true⟩ ∧ OwnP Z base w' hv' ps' ∧ Off Z w w' := by
  have HB := Lib.hid hb
  have HT := Lib.hid ht
  have HZ := Lib.hid hZ
  have HO := Lib.hid hown
  obtain ⟨x1, x2⟩ := hx
  have hlp := ht.1
  have hrow := hown.row
  obtain ⟨init, k, pv, hps, hend1⟩ := hps
  obtain ⟨N, hN⟩ : ∃ N, N = init.length := ⟨_, rfl⟩
  have hpl : ps.length = N + 1 := by rw [hps, List.length_append, List.length_singleton, hN]
  obtain ⟨g0, cap0, rfl⟩ : ∃ g cap, hv = .slice (some ⟨g, 0, none⟩) (N + 1) cap := by
    rcases hown.row.2 with ⟨_, h⟩ | ⟨g, cap, cur, h, _⟩
    · omega
    · exact ⟨g, cap, by rw [h, hpl]⟩
  have hsl := HT.out.2 (k, pv) (by rw [hps]; simp)
  obtain ⟨⟨q1, q2⟩, ⟨q3, q4⟩, q5⟩ := hsl
  have hcc := hcells_at (ps := ps) (j := N) (p := (k, pv)) (by rw [hps, hN, List.getElem?_append_right (by omega)]; simp)
  have hrow' := hrow
  rw [hpl] at hrow' hlp
  have ha1 : ∀ o d, ((w.alloc o).drewN d).cell? ⟨g0, N * 3, none⟩ = some (.int .i64 k.at_) := fun o d => by
    show (w.alloc o).cell? _ = _
    rw [World.cell?_alloc_lt _ _ _ (hrow'.lt g0 rfl).2, hrow'.cellAt _ (by omega)]
    exact hcc.1
  have ha2 : ∀ o d, ((w.alloc o).drewN d).cell? ⟨g0, N * 3 + 1, none⟩ = some (.int .i64 k.cut) := fun o d => by
    show (w.alloc o).cell? _ = _
    rw [World.cell?_alloc_lt _ _ _ (hrow'.lt g0 rfl).2, hrow'.cellAt _ (by omega)]
    exact hcc.2.1
  have hb1 : ∀ o, (w.alloc o).cell? ⟨g0, N * 3, none⟩ = some (.int .i64 k.at_) := fun o => ha1 o 0
  have hb2 : ∀ o, (w.alloc o).cell? ⟨g0, N * 3 + 1, none⟩ = some (.int .i64 k.cut) := fun o => ha2 o 0
  have e0 : (((N : Int) + 1) == 0) = false := by rw [beq_eq_false_iff_ne]; omega
  obtain ⟨ka, hka⟩ : ∃ ka, ka = k.at_ := ⟨_, rfl⟩
  obtain ⟨kc, hkc⟩ : ∃ kc, kc = k.cut := ⟨_, rfl⟩
  rw [← hka] at q1 q2 hb1
  rw [← hkc] at q3 q4 hb2
  have HR := Lib.hid hrow'
  have HPS := Lib.hid hps
  have HPL := Lib.hid hpl
  have HKA := Lib.hid hka
  have HKC := Lib.hid hkc
  have HNN := Lib.hid hN
  have h0N : (0 : Int) ≤ N := by omega
  have h1N : (N : Int) < (N : Int) + 1 := by omega
  have HE := Lib.hid hend1
  have ht1 : ¬ ka + kc < X := by rw [hka, hkc]; exact hend1
  have ht2 : decide (ka + kc < X) = false := decide_eq_false ht1
  clear hown hrow ht hZ hb hs hps hcc hpl hend1 hka hkc ha1 ha2 hrow' hN
  go_enter Tryd.func21, Tryd.ntmps21
  go_wp2
  go_quiet (fail)
  have hps2 := HPS.out
  subst hps2
  have hNN := HNN.out
  subst hNN
  have HRD := Lib.hid (Ready.start (s := ⟨X, Y, true⟩) (b := b) (d := nq) HO.out HT.out (by show ¬ hend k < X; have := HE.out; omega))
  obtain ⟨l1, l2, l3⟩ := HRD.out.lastCell
  rw [← HKC.out] at l1
  have c0 := HRD.out.b0
  have c1 := HRD.out.b1
  have c2 := HRD.out.b2
  go_wp2
  go_ret
  obtain ⟨ps', e1, e2, e3⟩ := HRD.out.cutDone rfl (c := (kc + 1)) (by rw [HKC.out]) (o := (init.length * 3 + 1)) rfl
  rw [List.map_append] at e1
  exact ⟨_, rfl, ps', e1, e2, e3⟩

set_option maxHeartbeats 4000000 in
theorem join_nilPut (Z : Nat → Prop) (base : Nat) (w : World) (hv vb : Value) (ps : List (Hk × Value)) (X Y : Int) (b : Ls) (hown : OwnP Z base w hv ps) (hZ : ∀ i, w.heap.size ≤ i → Z i) (hbase : base ≤ w.heap.size) (hb : ∀ w', Off Z w w' → Reads w' vb b)
    (ht : Tame ps) (hs : false = true ∨ ∃ y : Nat, Y = (y : Int) ∧ y < b.length) (hx : 0 ≤ X ∧ X ≤ 1000000) (hps : ps = []) :
    Calls Tryd.prog 21 #[hv, .agg #[.int .i64 X, .int .i64 Y, .bool false], vb] w fun e w' => ∃ hv', e = .returned hv' ∧ ∃ ps', ps'.map (·.1) = joinS b (ps.map (·.1)) ⟨X, Y, false⟩ ∧ OwnP Z base w' hv' ps' ∧ Off Z w w' := by
  have HB := Lib.hid hb
  have HT := Lib.hid ht
  have HZ := Lib.hid hZ
  have HO := Lib.hid hown
  obtain ⟨x1, x2⟩ := hx
  have hlp := ht.1
  have hrow := hown.row
  obtain ⟨y, rfl, hy⟩ : ∃ y : Nat, Y = (y : Int) ∧ y < b.length := hs.resolve_left (by decide)
  obtain ⟨u, hu⟩ : ∃ u, b[y]? = some u := ⟨b[y]'hy, by simp⟩
  obtain ⟨ab, cb, rfl, hbf⟩ := (hb w (Off.refl Z w)).form
  obtain ⟨bb, ob, rfl, -⟩ := hbf (by rintro rfl; simp at hy)
  obtain ⟨bl, hbl⟩ : ∃ n, n = b.length := ⟨_, rfl⟩
  rw [← hbl] at HB hy ⊢
  have y0 : (0 : Int) ≤ y := by omega
  have y1 : (y : Int) < bl := by omega
  have HU := Lib.hid hu
  have HBL := Lib.hid hbl
  clear hu hbl hbf
  subst hps
  obtain ⟨ao, cap0, rfl⟩ : ∃ ao cap, hv = .slice ao 0 cap := by
    rcases hown.row.2 with ⟨h, _⟩ | ⟨g, cap, cur, h, _⟩
    · exact ⟨_, _, h⟩
    · exact ⟨_, _, h⟩
  have hop : openH (([] : List (Hk × Value)).map (·.1)) X = true := rfl
  have HR := Lib.hid hrow
  have HOP := Lib.hid hop
  clear hown hrow ht hZ hb hop hs
  go_enter Tryd.func21, Tryd.ntmps21
  go_wp2
  go_quiet (fail)
  go_wp2_with (at_builtin; refine wpList_push_lies rfl _ _ 23 rfl base 26 (.agg #[.int .i64 0, .int .i64 0, .slice none 0 0]) 3 40 Tryd.underlying23 Tryd.infoHunk rfl (by decide) _ _ _ _ rfl (by exact own_drewN (HR.out.alloc _)) [.int .i64 X, .int .i64 0, .slice none 0 0] 1 _ _ rfl _ (by show _ = (World.alloc _ _).heap.size; simp) rfl rfl (by simp [Value.oneCell']) (by omega) (by omega) (by show _ ≤ (World.alloc _ _).heap.size; simp; omega) ?_; intro g cap w3 hown3 hgr hat; have hrd := Ready.pushed (s := ⟨X, _, _⟩) (b := b) HO.out HT.out HZ.out HOP.out hown3 hgr hat; obtain ⟨l1, l2, l3⟩ := hrd.lastCell; have l1 : w3.cell? ⟨g, 1, none⟩ = some (.int .i64 0) := l1; have l2 : w3.cell? ⟨g, 2, none⟩ = some (.slice none 0 0) := l2; have c0 := hrd.b0; have c1 := hrd.b1; have c2 := hrd.b2; have HRD := Lib.hid hrd; clear hrd hown3 hgr hat)
  have HPO := Lib.hid (World.ownsRow_nil w3 base 9 1)
  have hcu := reads_cell (HB.out w3 HRD.out.off) HU.out
  have hlt3 := HRD.out.lt
  have la := HRD.out.aside
  have la : ∀ o, (w3.alloc o).cell? ⟨g, 2, none⟩ = some (.slice none 0 0) := la
  obtain ⟨si, hsi, hsz, hsz1, hsby⟩ := info_parts Tryd.infoStr
  have HSI := Lib.hid hsi
  have HSZ := Lib.hid hsz
  have HSZ1 := Lib.hid hsz1
  have HSBY := Lib.hid hsby
  clear hsi hsz hsz1 hsby
  go_wp2
  go_region_law (refine step_append_lies _ rfl (.tmp 55) (.tmp 61) 22 rfl base 9 si (.string ByteArray.empty) 1 16 Tryd.underlying22 HSI.out HSZ.out HSZ1.out HSBY.out rfl (by decide) (.slice none 0 0) 0 [] (by simp [Act.eval]) (by exact (HPO.out.alloc _).drew) ⟨w3.heap.size, 0, none⟩ 1 1 [.string u] (by simp [Act.eval]) rfl (by intro j u' hj; show (w3.alloc (.cells #[.string u] 9)).cell? _ = _; rw [show (⟨w3.heap.size, 0, none⟩ : Addr).add j = ⟨w3.heap.size, j, none⟩ by unfold Addr.add; split <;> simp_all, World.cell?_alloc_at _ _ _ _ rfl]; simpa using hj) (by simp [Value.oneCell']) (by decide) (by unfold maxLen; omega) (by omega) (by show _ ≤ (w3.alloc _).heap.size; simp; omega) (w3.heap.size + 1) (by show (w3.alloc _).heap.size = _; simp) ?_; intro g' cap' w5 hown5 hgr5 hat5 hlt5; obtain ⟨s1, s2⟩ := HRD.out.still (grown_ad w3 _) hgr5; have s1 : w5.cell? ⟨g, 2, none⟩ = some (.slice none 0 0) := s1; have HOW5 := Lib.hid hown5; have HG5 := Lib.hid hgr5; have HAT5 := Lib.hid hat5; clear hown5 hgr5 hat5)
  all_goals go_wp2
  all_goals go_ret
  all_goals obtain ⟨ps', e1, e2, e3⟩ := HRD.out.putDone rfl HZ.out HU.out rfl (grown_ad w3 _) (n := 0 + 1) (m := 0 + 1) rfl rfl HOW5.out HG5.out (by rw [size_ad]; exact HAT5.out) (o := 2) rfl
  all_goals exact ⟨_, rfl, ps', e1, e2, e3⟩

set_option maxHeartbeats 4000000 in
theorem join_newPut (Z : Nat → Prop) (base : Nat) (w : World) (hv vb : Value) (ps : List (Hk × Value)) (X Y : Int) (b : Ls) (hown : OwnP Z base w hv ps) (hZ : ∀ i, w.heap.size ≤ i → Z i) (hbase : base ≤ w.heap.size) (hb : ∀ w', Off Z w w' → Reads w' vb b)
    (ht : Tame ps) (hs : false = true ∨ ∃ y : Nat, Y = (y : Int) ∧ y < b.length) (hx : 0 ≤ X ∧ X ≤ 1000000) (hps : ∃ init k pv, ps = init ++ [(k, pv)] ∧ hend k < X) :
    Calls Tryd.prog 21 #[hv, .agg #[.int .i64 X, .int .i64 Y, .bool false], vb] w fun e w' => ∃ hv', e = .returned hv' ∧ ∃ ps', ps'.map (·.1) = joinS b (ps.map (·.1)) ⟨X, Y, false⟩ ∧ OwnP Z base w' hv' ps' ∧ Off Z w w' := by
  have HB := Lib.hid hb
  have HT := Lib.hid ht
  have HZ := Lib.hid hZ
  have HO := Lib.hid hown
  obtain ⟨x1, x2⟩ := hx
  have hlp := ht.1
  have hrow := hown.row
  obtain ⟨y, rfl, hy⟩ : ∃ y : Nat, Y = (y : Int) ∧ y < b.length := hs.resolve_left (by decide)
  obtain ⟨u, hu⟩ : ∃ u, b[y]? = some u := ⟨b[y]'hy, by simp⟩
  obtain ⟨ab, cb, rfl, hbf⟩ := (hb w (Off.refl Z w)).form
  obtain ⟨bb, ob, rfl, -⟩ := hbf (by rintro rfl; simp at hy)
  obtain ⟨bl, hbl⟩ : ∃ n, n = b.length := ⟨_, rfl⟩
  rw [← hbl] at HB hy ⊢
  have y0 : (0 : Int) ≤ y := by omega
  have y1 : (y : Int) < bl := by omega
  have HU := Lib.hid hu
  have HBL := Lib.hid hbl
  clear hu hbl hbf
  obtain ⟨init, k, pv, hps, hend1⟩ := hps
  obtain ⟨N, hN⟩ : ∃ N, N = init.length := ⟨_, rfl⟩
  have hpl : ps.length = N + 1 := by rw [hps, List.length_append, List.length_singleton, hN]
  obtain ⟨g0, cap0, rfl⟩ : ∃ g cap, hv = .slice (some ⟨g, 0, none⟩) (N + 1) cap := by
    rcases hown.row.2 with ⟨_, h⟩ | ⟨g, cap, cur, h, _⟩
    · omega
    · exact ⟨g, cap, by rw [h, hpl]⟩
  have hsl := HT.out.2 (k, pv) (by rw [hps]; simp)
  obtain ⟨⟨q1, q2⟩, ⟨q3, q4⟩, q5⟩ := hsl
  have hcc := hcells_at (ps := ps) (j := N) (p := (k, pv)) (by rw [hps, hN, List.getElem?_append_right (by omega)]; simp)
  have hrow' := hrow
  rw [hpl] at hrow' hlp
  have ha1 : ∀ o d, ((w.alloc o).drewN d).cell? ⟨g0, N * 3, none⟩ = some (.int .i64 k.at_) := fun o d => by
    show (w.alloc o).cell? _ = _
    rw [World.cell?_alloc_lt _ _ _ (hrow'.lt g0 rfl).2, hrow'.cellAt _ (by omega)]
    exact hcc.1
  have ha2 : ∀ o d, ((w.alloc o).drewN d).cell? ⟨g0, N * 3 + 1, none⟩ = some (.int .i64 k.cut) := fun o d => by
    show (w.alloc o).cell? _ = _
    rw [World.cell?_alloc_lt _ _ _ (hrow'.lt g0 rfl).2, hrow'.cellAt _ (by omega)]
    exact hcc.2.1
  have hb1 : ∀ o, (w.alloc o).cell? ⟨g0, N * 3, none⟩ = some (.int .i64 k.at_) := fun o => ha1 o 0
  have hb2 : ∀ o, (w.alloc o).cell? ⟨g0, N * 3 + 1, none⟩ = some (.int .i64 k.cut) := fun o => ha2 o 0
  have e0 : (((N : Int) + 1) == 0) = false := by rw [beq_eq_false_iff_ne]; omega
  obtain ⟨ka, hka⟩ : ∃ ka, ka = k.at_ := ⟨_, rfl⟩
  obtain ⟨kc, hkc⟩ : ∃ kc, kc = k.cut := ⟨_, rfl⟩
  rw [← hka] at q1 q2 hb1
  rw [← hkc] at q3 q4 hb2
  have HR := Lib.hid hrow'
  have HPS := Lib.hid hps
  have HPL := Lib.hid hpl
  have HKA := Lib.hid hka
  have HKC := Lib.hid hkc
  have HNN := Lib.hid hN
  have h0N : (0 : Int) ≤ N := by omega
  have h1N : (N : Int) < (N : Int) + 1 := by omega
  have hop : openH (ps.map (·.1)) X = true := by
    rw [hps, List.map_append, List.map_singleton, openH_snoc, decide_eq_true_iff]
    exact hend1
  have ht1 : ka + kc < X := by rw [hka, hkc]; exact hend1
  have HOP := Lib.hid hop
  clear hown hrow ht hZ hb hop hs hps hcc hpl hend1 hka hkc ha1 ha2 hrow' hN
  go_enter Tryd.func21, Tryd.ntmps21
  go_wp2
  go_quiet (fail)
  go_wp2_with (at_builtin; refine wpList_push_lies rfl _ _ 23 rfl base 26 (.agg #[.int .i64 0, .int .i64 0, .slice none 0 0]) 3 40 Tryd.underlying23 Tryd.infoHunk rfl (by decide) _ _ _ _ rfl (by exact own_drewN (HR.out.alloc _)) [.int .i64 X, .int .i64 0, .slice none 0 0] 1 _ _ rfl _ (by show _ = (World.alloc _ _).heap.size; simp) rfl rfl (by simp [Value.oneCell']) (by omega) (by omega) (by show _ ≤ (World.alloc _ _).heap.size; simp; omega) ?_; intro g cap w3 hown3 hgr hat; rw [← HPL.out] at hown3; have hrd := Ready.pushed (s := ⟨X, _, _⟩) (b := b) HO.out HT.out HZ.out HOP.out hown3 hgr hat; obtain ⟨l1, l2, l3⟩ := hrd.lastCell; rw [HPL.out] at l1 l2; have c0 := hrd.b0; have c1 := hrd.b1; have c2 := hrd.b2; have HRD := Lib.hid hrd; clear hrd hown3 hgr hat)
  have HPO := Lib.hid (World.ownsRow_nil w3 base 9 1)
  have hcu := reads_cell (HB.out w3 HRD.out.off) HU.out
  have hlt3 := HRD.out.lt
  have la := HRD.out.aside
  rw [HPL.out] at la
  obtain ⟨si, hsi, hsz, hsz1, hsby⟩ := info_parts Tryd.infoStr
  have HSI := Lib.hid hsi
  have HSZ := Lib.hid hsz
  have HSZ1 := Lib.hid hsz1
  have HSBY := Lib.hid hsby
  clear hsi hsz hsz1 hsby
  go_wp2
  go_region_law (refine step_append_lies _ rfl (.tmp 55) (.tmp 61) 22 rfl base 9 si (.string ByteArray.empty) 1 16 Tryd.underlying22 HSI.out HSZ.out HSZ1.out HSBY.out rfl (by decide) (.slice none 0 0) 0 [] (by simp [Act.eval]) (by exact (HPO.out.alloc _).drew) ⟨w3.heap.size, 0, none⟩ 1 1 [.string u] (by simp [Act.eval]) rfl (by intro j u' hj; show (w3.alloc (.cells #[.string u] 9)).cell? _ = _; rw [show (⟨w3.heap.size, 0, none⟩ : Addr).add j = ⟨w3.heap.size, j, none⟩ by unfold Addr.add; split <;> simp_all, World.cell?_alloc_at _ _ _ _ rfl]; simpa using hj) (by simp [Value.oneCell']) (by decide) (by unfold maxLen; omega) (by omega) (by show _ ≤ (w3.alloc _).heap.size; simp; omega) (w3.heap.size + 1) (by show (w3.alloc _).heap.size = _; simp) ?_; intro g' cap' w5 hown5 hgr5 hat5 hlt5; obtain ⟨s1, s2⟩ := HRD.out.still (grown_ad w3 _) hgr5; rw [HPL.out] at s1; have HOW5 := Lib.hid hown5; have HG5 := Lib.hid hgr5; have HAT5 := Lib.hid hat5; clear hown5 hgr5 hat5)
  all_goals go_wp2
  all_goals go_ret
  all_goals obtain ⟨ps', e1, e2, e3⟩ := HRD.out.putDone rfl HZ.out HU.out rfl (grown_ad w3 _) (n := 0 + 1) (m := 0 + 1) rfl rfl HOW5.out HG5.out (by rw [size_ad]; exact HAT5.out) (o := ((N + 1) * 3 + 2)) (by rw [HPL.out])
  all_goals rw [HPL.out] at e2
  all_goals exact ⟨_, rfl, ps', e1, e2, e3⟩

set_option maxHeartbeats 4000000 in
theorem join_oldPut (Z : Nat → Prop) (base : Nat) (w : World) (hv vb : Value) (ps : List (Hk × Value)) (X Y : Int) (b : Ls) (hown : OwnP Z base w hv ps) (hZ : ∀ i, w.heap.size ≤ i → Z i) (hbase : base ≤ w.heap.size) (hb : ∀ w', Off Z w w' → Reads w' vb b)
    (ht : Tame ps) (hs : false = true ∨ ∃ y : Nat, Y = (y : Int) ∧ y < b.length) (hx : 0 ≤ X ∧ X ≤ 1000000) (hps : ∃ init k pv, ps = init ++ [(k, pv)] ∧ ¬ hend k < X) :
    Calls Tryd.prog 21 #[hv, .agg #[.int .i64 X, .int .i64 Y, .bool false], vb] w fun e w' => ∃ hv', e = .returned hv' ∧ ∃ ps', ps'.map (·.1) = joinS b (ps.map (·.1)) ⟨X, Y, false⟩ ∧ OwnP Z base w' hv' ps' ∧ Off Z w w' := by
  have HB := Lib.hid hb
  have HT := Lib.hid ht
  have HZ := Lib.hid hZ
  have HO := Lib.hid hown
  obtain ⟨x1, x2⟩ := hx
  have hlp := ht.1
  have hrow := hown.row
  obtain ⟨y, rfl, hy⟩ : ∃ y : Nat, Y = (y : Int) ∧ y < b.length := hs.resolve_left (by decide)
  obtain ⟨u, hu⟩ : ∃ u, b[y]? = some u := ⟨b[y]'hy, by simp⟩
  obtain ⟨ab, cb, rfl, hbf⟩ := (hb w (Off.refl Z w)).form
  obtain ⟨bb, ob, rfl, -⟩ := hbf (by rintro rfl; simp at hy)
  obtain ⟨bl, hbl⟩ : ∃ n, n = b.length := ⟨_, rfl⟩
  rw [← hbl] at HB hy ⊢
  have y0 : (0 : Int) ≤ y := by omega
  have y1 : (y : Int) < bl := by omega
  have HU := Lib.hid hu
  have HBL := Lib.hid hbl
  clear hu hbl hbf
  obtain ⟨init, k, pv, hps, hend1⟩ := hps
  obtain ⟨N, hN⟩ : ∃ N, N = init.length := ⟨_, rfl⟩
  have hpl : ps.length = N + 1 := by rw [hps, List.length_append, List.length_singleton, hN]
  obtain ⟨g0, cap0, rfl⟩ : ∃ g cap, hv = .slice (some ⟨g, 0, none⟩) (N + 1) cap := by
    rcases hown.row.2 with ⟨_, h⟩ | ⟨g, cap, cur, h, _⟩
    · omega
    · exact ⟨g, cap, by rw [h, hpl]⟩
  have hsl := HT.out.2 (k, pv) (by rw [hps]; simp)
  obtain ⟨⟨q1, q2⟩, ⟨q3, q4⟩, q5⟩ := hsl
  have hcc := hcells_at (ps := ps) (j := N) (p := (k, pv)) (by rw [hps, hN, List.getElem?_append_right (by omega)]; simp)
  have hrow' := hrow
  rw [hpl] at hrow' hlp
  have ha1 : ∀ o d, ((w.alloc o).drewN d).cell? ⟨g0, N * 3, none⟩ = some (.int .i64 k.at_) := fun o d => by
    show (w.alloc o).cell? _ = _
    rw [World.cell?_alloc_lt _ _ _ (hrow'.lt g0 rfl).2, hrow'.cellAt _ (by omega)]
    exact hcc.1
  have ha2 : ∀ o d, ((w.alloc o).drewN d).cell? ⟨g0, N * 3 + 1, none⟩ = some (.int .i64 k.cut) := fun o d => by
    show (w.alloc o).cell? _ = _
    rw [World.cell?_alloc_lt _ _ _ (hrow'.lt g0 rfl).2, hrow'.cellAt _ (by omega)]
    exact hcc.2.1
  have hb1 : ∀ o, (w.alloc o).cell? ⟨g0, N * 3, none⟩ = some (.int .i64 k.at_) := fun o => ha1 o 0
  have hb2 : ∀ o, (w.alloc o).cell? ⟨g0, N * 3 + 1, none⟩ = some (.int .i64 k.cut) := fun o => ha2 o 0
  have e0 : (((N : Int) + 1) == 0) = false := by rw [beq_eq_false_iff_ne]; omega
  obtain ⟨ka, hka⟩ : ∃ ka, ka = k.at_ := ⟨_, rfl⟩
  obtain ⟨kc, hkc⟩ : ∃ kc, kc = k.cut := ⟨_, rfl⟩
  rw [← hka] at q1 q2 hb1
  rw [← hkc] at q3 q4 hb2
  have HR := Lib.hid hrow'
  have HPS := Lib.hid hps
  have HPL := Lib.hid hpl
  have HKA := Lib.hid hka
  have HKC := Lib.hid hkc
  have HNN := Lib.hid hN
  have h0N : (0 : Int) ≤ N := by omega
  have h1N : (N : Int) < (N : Int) + 1 := by omega
  have HE := Lib.hid hend1
  have ht1 : ¬ ka + kc < X := by rw [hka, hkc]; exact hend1
  have ht2 : decide (ka + kc < X) = false := decide_eq_false ht1
  clear hown hrow ht hZ hb hs hps hcc hpl hend1 hka hkc ha1 ha2 hrow' hN
  go_enter Tryd.func21, Tryd.ntmps21
  go_wp2
  go_quiet (fail)
  have hps2 := HPS.out
  subst hps2
  have hNN := HNN.out
  subst hNN
  have HRD := Lib.hid (Ready.start (s := ⟨X, y, false⟩) (b := b) (d := nq) HO.out HT.out (by show ¬ hend k < X; have := HE.out; omega))
  generalize (w.alloc (.cells #[.int .i64 X, .int .i64 (y : Int), .bool false] 57)).drewN nq = w3 at HRD ⊢
  obtain ⟨l1, l2, l3⟩ := HRD.out.lastCell
  have c0 := HRD.out.b0
  have c1 := HRD.out.b1
  have c2 := HRD.out.b2
  have hpo := (HRD.out.own.puts (k, pv) (by simp)).1
  have HPO := Lib.hid hpo
  clear hpo
  have hcu := reads_cell (HB.out w3 HRD.out.off) HU.out
  have hlt3 := HRD.out.lt
  have la := HRD.out.aside
  obtain ⟨si, hsi, hsz, hsz1, hsby⟩ := info_parts Tryd.infoStr
  have HSI := Lib.hid hsi
  have HSZ := Lib.hid hsz
  have HSZ1 := Lib.hid hsz1
  have HSBY := Lib.hid hsby
  clear hsi hsz hsz1 hsby
  go_wp2
  go_region_law (refine step_append_lies _ rfl (.tmp 55) (.tmp 61) 22 rfl base 9 si (.string ByteArray.empty) 1 16 Tryd.underlying22 HSI.out HSZ.out HSZ1.out HSBY.out rfl (by decide) pv k.put.length (k.put.map .string) (by simp [Act.eval]) (by exact (HPO.out.alloc _).drew) ⟨w3.heap.size, 0, none⟩ 1 1 [.string u] (by simp [Act.eval]) rfl (by intro j u' hj; show (w3.alloc (.cells #[.string u] 9)).cell? _ = _; rw [show (⟨w3.heap.size, 0, none⟩ : Addr).add j = ⟨w3.heap.size, j, none⟩ by unfold Addr.add; split <;> simp_all, World.cell?_alloc_at _ _ _ _ rfl]; simpa using hj) (by simp [Value.oneCell']) (by decide) (by unfold maxLen; omega) (by omega) (by show _ ≤ (w3.alloc _).heap.size; simp; omega) (w3.heap.size + 1) (by show (w3.alloc _).heap.size = _; simp) ?_; intro g' cap' w5 hown5 hgr5 hat5 hlt5; obtain ⟨s1, s2⟩ := HRD.out.still (grown_ad w3 _) hgr5; have HOW5 := Lib.hid hown5; have HG5 := Lib.hid hgr5; have HAT5 := Lib.hid hat5; clear hown5 hgr5 hat5)
  all_goals go_wp2
  all_goals go_ret
  all_goals obtain ⟨ps', e1, e2, e3⟩ := HRD.out.putDone rfl HZ.out HU.out rfl (grown_ad w3 _) (n := k.put.length + 1) (m := k.put.length + 1) rfl rfl HOW5.out HG5.out (by rw [size_ad]; exact HAT5.out) (o := (init.length * 3 + 2)) rfl
  all_goals exact ⟨_, rfl, ps', e1, e2, e3⟩

theorem join_any (Z : Nat → Prop) (base : Nat) (w : World) (hv vb : Value) (ps : List (Hk × Value)) (s : Stp) (b : Ls) (hown : OwnP Z base w hv ps) (hZ : ∀ i, w.heap.size ≤ i → Z i) (hbase : base ≤ w.heap.size) (hb : ∀ w', Off Z w w' → Reads w' vb b)
    (ht : Tame ps) (hs : s.cut = true ∨ ∃ y : Nat, s.y = (y : Int) ∧ y < b.length) (hx : 0 ≤ s.x ∧ s.x ≤ 1000000) :
    Calls Tryd.prog 21 #[hv, .agg #[.int .i64 s.x, .int .i64 s.y, .bool s.cut], vb] w fun e w' => ∃ hv', e = .returned hv' ∧ ∃ ps', ps'.map (·.1) = joinS b (ps.map (·.1)) s ∧ OwnP Z base w' hv' ps' ∧ Off Z w w' := by
  obtain ⟨X, Y, C⟩ := s
  rcases List.eq_nil_or_concat ps with hps | ⟨init, ⟨k, pv⟩, hps⟩
  · cases C
    · exact join_nilPut Z base w hv vb ps X Y b hown hZ hbase hb ht hs hx hps
    · exact join_nilCut Z base w hv vb ps X Y b hown hZ hbase hb ht hs hx hps
  · rw [List.concat_eq_append] at hps
    by_cases he : hend k < X
    · cases C
      · exact join_newPut Z base w hv vb ps X Y b hown hZ hbase hb ht hs hx ⟨init, k, pv, hps, he⟩
      · exact join_newCut Z base w hv vb ps X Y b hown hZ hbase hb ht hs hx ⟨init, k, pv, hps, he⟩
    · cases C
      · exact join_oldPut Z base w hv vb ps X Y b hown hZ hbase hb ht hs hx ⟨init, k, pv, hps, he⟩
      · exact join_oldCut Z base w hv vb ps X Y b hown hZ hbase hb ht hs hx ⟨init, k, pv, hps, he⟩
end Go.Proofs.YteppgjdkoakpeaaDoor
