/- lay: a sketch with all vertices laid out. -/
import Derived.Deep.RegionHeld3
import Derived.Test.YtojnagonhihknaaGreatDoorU17
import Derived.Test.YtojnagonhihknaaGreatDoorU20
import Derived.Test.YtojnagonhihknaaGreatDoorU27
import Derived.Test.YtojnagonhihknaaGreatDoorU30
import Derived.Test.YtojnagonhihknaaGreatDoorU40
set_option linter.unusedVariables false
set_option linter.unusedSimpArgs false
namespace Go.Proofs.YtojnagonhihknaaGreatDoor
open Go.ChangeShapes Go.WideShapes Go.ChangeAt Go.RowKit Go.WideMaps Go.Maps

theorem step_append_rowW {P : Program} {w : World} {ops : Array Oper} {o : Oper} {a : Act} {K : Act → World → Prop} {Q : Exit → Act → World → Prop} {E : Prop} (hgd : o.guard = none) (s x : Operand) (t tx : TypeId)
    (ho : o.op = .call { callee := .builtin .append, args := #[s, x], argTypes := #[t, tx] }) (k : Nat) (e : TypeId) (z : Value) (bytes : Nat) (ht : P.underlying t = some (.slice e)) (hinfo : (P.info? e).map (fun i => (i.zero, i.size, i.bytes)) = some (some z, k, bytes)) (hzk : z.cells.size = k)
    (B : Nat) (v : Value) (n : Nat) (cs : List Value) (hs : a.eval s = v) (h : Row k B w v n cs) (xv : Value) (hx : a.eval x = xv) (m : Nat) (news : List Value) (hsrc : Src P k tx xv m news w)
    (hB : B ≤ w.heap.size) (hl : n + m ≤ 1099511627776) (hb : bytes ≤ 128)
    (hK : ∀ v' w', Row k B w' v' (n + m) (cs ++ news) → Off (fun i => v.ownBlock = some i) w w' → (v'.ownBlock = v.ownBlock ∨ v'.ownBlock = some w.heap.size) → K (a.put o.dst v') w') :
    if Region.wanted o (yielded ops a.tmps) = true then Oper.wp P o a w K Q else E := by
  have hw : Region.wanted o (yielded ops a.tmps) = true := by simp [Region.wanted, hgd]
  rw [if_pos hw]
  exact wp_append_rowW s x t tx ho k e z bytes ht hinfo hzk B v n cs hs h xv hx m news hsrc hB hl hb hK
theorem infoVx : (Tryz.prog.info? 42).map (fun i => (i.zero, i.size, i.bytes)) = some (some (.agg #[.string ByteArray.empty, .int .i64 0, .string ByteArray.empty, .int .i64 0, .string ByteArray.empty, .int .i64 0, .string ByteArray.empty, .int .i64 0]), 8, 96) := by kernel_rfl
abbrev vxN (x : ByteArray) (k : Int) : List Value := [.string x, .int .i64 k, .string ByteArray.empty, .int .i64 0, .string ByteArray.empty, .int .i64 0, .string ByteArray.empty, .int .i64 0]
theorem src_vx {w : World} (x : ByteArray) (k : Int) : Src Tryz.prog 8 27 (.slice (some ⟨w.heap.size, 0, none⟩) 1 1) 1 (vxN x k) (w.alloc (.cells (vxN x k).toArray 42)) :=
  src_new Tryz.underlying27 (vxN x k) 1 42 1 rfl (by intro u hu; simp only [vxN, List.mem_cons, List.not_mem_nil, or_false] at hu; rcases hu with rfl | rfl | rfl | rfl | rfl | rfl | rfl | rfl <;> rfl)
theorem MLot.add {W : World} {b : Nat} {ks : Lb} {f m : ByteArray → Int} (h : MLot W b ks f m) {x : ByteArray} (hs : x.size ≤ 140737488355328) (hx : x ∉ ks) (hn : ks.length ≤ 1000000) : ∃ W', (Instr.mapUpdate 71 (.map (some b)) (.string x) (lotV (f x) (m x))).run Tryz.prog W = .ok () W' ∧ MLot W' b (ks ++ [x]) f m ∧ Off (fun j => j = b) W W' := by
  obtain ⟨D, h1, h2, h3, h4⟩ := h
  obtain ⟨W', hrun, ho, hg⟩ := h1.update slaw Tryz.underlying71 (by unfold maxLen; omega) (lS_key hs) (lotElem_mk (f x) (m x))
  exact ⟨W', hrun, MLot.put h1 h2 h3 h4 hx rfl rfl ho, ⟨hg.os, hg.tape, hg.output, hg.size, fun j hj hne => hg.block j hj (fun e => hne (by simp at e; omega))⟩⟩
abbrev LyC (p q6 : Nat) (vv : Value) (x t : ByteArray) (dv ov : Value) (W : World) : Prop := W.cell? ⟨p, 1, none⟩ = some vv ∧ W.cell? ⟨q6, 0, none⟩ = some (.string x) ∧ W.cell? ⟨q6, 1, none⟩ = some (.string t) ∧ W.cell? ⟨q6, 2, none⟩ = some dv ∧ W.cell? ⟨q6, 3, none⟩ = some ov
theorem LyC.below {p q6 : Nat} {vv : Value} {x t : ByteArray} {dv ov : Value} {W W' : World} (h : LyC p q6 vv x t dv ov W) (hb : Below W.heap.size W W') : LyC p q6 vv x t dv ov W' := by
  obtain ⟨a0, a1, a2, a3, a4⟩ := h
  exact ⟨(hb.cell (p := ⟨p, 1, none⟩) (cell_lt a0)).trans a0, (hb.cell (p := ⟨q6, 0, none⟩) (cell_lt a1)).trans a1, (hb.cell (p := ⟨q6, 1, none⟩) (cell_lt a2)).trans a2, (hb.cell (p := ⟨q6, 2, none⟩) (cell_lt a3)).trans a3, (hb.cell (p := ⟨q6, 3, none⟩) (cell_lt a4)).trans a4⟩
def LotBx (wr w7 : World) (q7 : Nat) (f m : Int) : Prop := Below wr.heap.size wr w7 ∧ wr.heap.size ≤ q7 ∧ w7.cell? ⟨q7, 0, none⟩ = some (.int .i64 f) ∧ w7.cell? ⟨q7, 1, none⟩ = some (.int .i64 m)
theorem lot_set {wr w : World} {q : Nat} {u0 u1 : Value} {f m : Int} (hb : Below wr.heap.size wr w) (hq : wr.heap.size ≤ q) (h0 : w.cell? ⟨q, 0, none⟩ = some u0) (h1 : w.cell? ⟨q, 1, none⟩ = some u1) : LotBx wr ((w.setCell ⟨q, 0, none⟩ (.int .i64 f)).setCell ⟨q, 1, none⟩ (.int .i64 m)) q f m := by
  refine ⟨(hb.setCell (p := ⟨q, 0, none⟩) hq _).setCell (p := ⟨q, 1, none⟩) hq _, hq, ?_, ?_⟩
  · rw [World.cell?_setCell_other _ _ _ _ (by simp)]
    exact World.cell?_setCell_same _ _ _ h0
  · exact World.cell?_setCell_same _ _ _ ((World.cell?_setCell_other _ _ _ _ (by simp)).trans h1)
theorem lot_new {wr w : World} {f m : Int} (hb : Below wr.heap.size wr w) (t : TypeId) : LotBx wr (w.alloc (.cells #[.int .i64 f, .int .i64 m] t)) w.heap.size f m :=
  ⟨hb.alloc hb.size _, hb.size, by rw [World.cell?_alloc_at _ _ _ _ rfl]; rfl, by rw [World.cell?_alloc_at _ _ _ _ rfl]; rfl⟩
theorem below_dd {w w' : World} (h : Below w.heap.size w w') : Below w.drew.heap.size w.drew w'.drew := ⟨h.os, h.tape, h.output, h.size, h.block⟩
theorem lay_begin (w : World) (R : GSet ByteArray) : ∀ w4, w4 = (((w.alloc (.map #[] 0)).alloc (.cells #[.string ⟨#[]⟩, .int .i64 0, .string ⟨#[]⟩, .int .i64 0, .string ⟨#[]⟩, .int .i64 0, .string ⟨#[]⟩, .int .i64 0, .string ⟨#[]⟩, .int .i64 1, .string ⟨#[]⟩, .int .i64 0, .string ⟨#[]⟩, .int .i64 0, .string ⟨#[]⟩, .int .i64 0] 42)).alloc (.map #[] 0)).alloc (.cells #[.map (some w.heap.size), .slice (some ⟨w.heap.size + 1, 0, none⟩) 2 2, .slice none 0 0, .map (some (w.heap.size + 1 + 1))] 74) →
    ∃ S1, SX (fun i => w.heap.size ≤ i ∧ i < w.heap.size + 4) w4 (w.heap.size + 1 + 1 + 1) S1 ∧ LyS R 0 (idsR nil0 []) S1 ∧ Below w.heap.size w w4 ∧ w4.heap.size = w.heap.size + 4 := by
  intro w4 hw4
  obtain ⟨s, hs⟩ : ∃ s, s = w.heap.size := ⟨_, rfl⟩
  obtain ⟨wa, hwa⟩ : ∃ wa, wa = w.alloc (.map #[] 0) := ⟨_, rfl⟩
  obtain ⟨X, hX⟩ : ∃ X : List Value, X = [.string ⟨#[]⟩, .int .i64 0, .string ⟨#[]⟩, .int .i64 0, .string ⟨#[]⟩, .int .i64 0, .string ⟨#[]⟩, .int .i64 0, .string ⟨#[]⟩, .int .i64 1, .string ⟨#[]⟩, .int .i64 0, .string ⟨#[]⟩, .int .i64 0, .string ⟨#[]⟩, .int .i64 0] := ⟨_, rfl⟩
  obtain ⟨wb, hwb⟩ : ∃ wb, wb = wa.alloc (.cells X.toArray 42) := ⟨_, rfl⟩
  obtain ⟨wc, hwc⟩ : ∃ wc, wc = wb.alloc (.map #[] 0) := ⟨_, rfl⟩
  have ea : wa.heap.size = s + 1 := by rw [hwa, hs]; simp
  have eb : wb.heap.size = s + 2 := by rw [hwb]; simp [ea]
  have ec : wc.heap.size = s + 3 := by rw [hwc]; simp [eb]
  have h4 : w4 = wc.alloc (.cells #[.map (some w.heap.size), .slice (some ⟨w.heap.size + 1, 0, none⟩) 2 2, .slice none 0 0, .map (some (w.heap.size + 1 + 1))] 74) := by rw [hw4, hwc, hwb, hwa, hX]
  rw [← hs] at h4 ⊢
  have e4 : w4.heap.size = s + 4 := by rw [h4]; simp [ec]
  have b1 : Below s w wa := by rw [hwa, hs]; exact (Below.refl _ _).alloc (Nat.le_refl _) _
  have b2 : Below wa.heap.size wa wb := by rw [hwb]; exact (Below.refl _ _).alloc (Nat.le_refl _) _
  have b3 : Below wb.heap.size wb wc := by rw [hwc]; exact (Below.refl _ _).alloc (Nat.le_refl _) _
  have b4 : Below wc.heap.size wc w4 := by rw [h4]; exact (Below.refl _ _).alloc (Nat.le_refl _) _
  have b34 : Below wb.heap.size wb w4 := b3.trans (b4.mono (by omega))
  have b24 : Below wa.heap.size wa w4 := b2.trans (b34.mono (by omega))
  have b14 : Below s w w4 := b1.trans (b24.mono (by omega))
  have hc : ∀ j, w4.cell? ⟨s + 3, j, none⟩ = #[Value.map (some s), .slice (some ⟨s + 1, 0, none⟩) 2 2, .slice none 0 0, .map (some (s + 1 + 1))][j]? := fun j => by rw [h4]; exact World.cell?_alloc_at _ _ _ _ ec.symm
  have hl : MLot w4 s [] (fR R) (mR R) := by
    have := (MLot.made w (fR R) (mR R))
    rw [← hwa, ← hs] at this
    exact this.below b24
  have hj : MJ w4 (s + 2) 0 [] (fun _ => 0) := by
    have := MJ.made wb
    rw [← hwc, eb] at this
    exact this.off (Z := fun _ => False) (Off.of_below b4) (fun h => h)
  have hv : Row 8 0 w4 (.slice (some ⟨s + 1, 0, none⟩) 2 2) 2 X := by
    have := row_new (k := 8) (B := 0) (w := wa) (e := 42) (n := 2) (cs := X) (cap := 2) (xs := X.toArray) (fr := (0, 0)) (Nat.zero_le _) (by rw [hX]; rfl) (Nat.le_refl _) (by unfold maxLen; omega) (by rw [hX]; exact Nat.le_refl _) (.inl rfl) (fun j u hu => by simpa using hu)
    rw [ea] at this
    rw [hwb] at b34
    exact this.below b34
  refine ⟨⟨[], fR R, mR R, (vs0 nil0 (idsR nil0 [])).map vxG, [], [], fun _ => 0, 0⟩, ⟨s, s + 2, .slice (some ⟨s + 1, 0, none⟩) 2 2, .slice none 0 0, ?_⟩, ⟨rfl, rfl, rfl, rfl, rfl, rfl, rfl, rfl⟩, b14, e4⟩
  refine ⟨fun i hi => by rw [e4]; exact hi.2, ⟨by omega, by omega⟩, ⟨by omega, by omega⟩, ⟨by omega, by omega⟩, fun b hb => ?_, fun b hb => ?_, by omega, by omega, by omega, fun b hb => ?_, fun b hb => ?_, hc 0, hc 1, hc 2, hc 3, fun j hj => ?_, hl, hj, ?_, Row.nil _ _ _⟩
  · have : s + 1 = b := by simpa [Value.ownBlock] using hb
    omega
  · simp [Value.ownBlock] at hb
  · have : s + 1 = b := by simpa [Value.ownBlock] using hb
    exact ⟨by omega, by omega, by omega, by simp [Value.ownBlock]⟩
  · simp [Value.ownBlock] at hb
  · rw [h4]
    exact World.frozen?_alloc_at _ _ _ _ ec.symm
  · have e : vxs ((vs0 nil0 (idsR nil0 [])).map vxG) = X := by rw [hX]; rfl
    show Row 8 0 w4 _ 2 (vxs ((vs0 nil0 (idsR nil0 [])).map vxG))
    rw [e]
    exact hv
set_option maxHeartbeats 16000000 in
set_option maxRecDepth 100000 in
theorem glay_any (S : SetP) (hG : GoodS S) (hf : S.fine) (v : Value) (w : World) (hr : GReads w v S) (hn60 : S.length ≤ 1000000) (hml : ∀ p ∈ S, linesN p.2.ops ≤ 1000000) (hids : ∀ R : GSet ByteArray, R.Perm (gsetS S) → (idsR nil0 R).length ≤ 1000000) :
    Calls Tryz.prog 25 #[v] w fun e w' => ∃ p R Z S1, e = .returned (.pointer (some ⟨p, 0, none⟩)) ∧ R.Perm (gsetS S) ∧ (R.map (·.1)).Pairwise ltB ∧ SX Z w' p S1 ∧ SkD R [] S1 ∧ S1.m = mR R ∧ (∀ i, Z i → w.heap.size ≤ i) ∧ Below w.heap.size w w' := by
  obtain ⟨a, c, rfl, hlen⟩ := hr.form
  obtain ⟨E, pf, hE, hpf, hI⟩ := bes_of hr hG.uniq
  obtain ⟨n, hnn⟩ : ∃ n, n = S.length := ⟨_, rfl⟩
  rw [← hnn] at hr hlen hn60 ⊢
  obtain ⟨s, hs⟩ : ∃ s, s = w.heap.size := ⟨_, rfl⟩
  have HBEG := Lib.hid (fun R => lay_begin w R _ rfl)
  have HR := Lib.hid hr
  have HNN := Lib.hid hnn
  have HG := Lib.hid hG
  have HF := Lib.hid hf
  have HE := Lib.hid hE
  have HPF := Lib.hid hpf
  have HI := Lib.hid hI
  have HML := Lib.hid hml
  have HIDS := Lib.hid hids
  clear hr hnn hG hf hE hpf hI hml hids hs hlen
  have hmm := @run_makeMap Tryz.prog
  go_enter Tryz.func25, Tryz.ntmps25
  go_wp2_with fail
  obtain ⟨w4, hw4⟩ : ∃ w4, w4 = (((w.alloc (.map #[] 0)).alloc (.cells #[.string ⟨#[]⟩, .int .i64 0, .string ⟨#[]⟩, .int .i64 0, .string ⟨#[]⟩, .int .i64 0, .string ⟨#[]⟩, .int .i64 0, .string ⟨#[]⟩, .int .i64 1, .string ⟨#[]⟩, .int .i64 0, .string ⟨#[]⟩, .int .i64 0, .string ⟨#[]⟩, .int .i64 0] 42)).alloc (.map #[] 0)).alloc (.cells #[.map (some w.heap.size), .slice (some ⟨w.heap.size + 1, 0, none⟩) 2 2, .slice none 0 0, .map (some (w.heap.size + 1 + 1))] 74) := ⟨_, rfl⟩
  rw [← hw4]
  have hb4 : Below w.heap.size w w4 ∧ w4.heap.size = w.heap.size + 4 := by
    obtain ⟨_, _, _, k1, k2⟩ := HBEG.out []
    rw [← hw4] at k1 k2
    exact ⟨k1, k2⟩
  have HW4 := Lib.hid hw4
  obtain ⟨p, hp⟩ : ∃ p, p = w.heap.size + 1 + 1 + 1 := ⟨_, rfl⟩
  rw [← hp]
  have HP := Lib.hid hp
  have hso : ∀ w5, w5 = w4.alloc (.cells #[.slice a n c] 22) → Calls Tryz.prog 46 #[.func (.func 84) #[] #[.pointer (some ⟨w4.heap.size, 0, none⟩)], .func (.func 48) #[] #[]] w5 fun e w' => ∃ ov M, e = .returned ov ∧ M.Perm (S.map (·.1)) ∧ M.Pairwise (fun x y => ¬ y.data.toList < x.data.toList) ∧ NReads E w' ov M ∧ (∀ g, ov.ownBlock = some g → w5.heap.size ≤ g) ∧ Below w5.heap.size w5 w' := fun w5 hw5 => by
    have hb5 : Below w4.heap.size w4 w5 := by rw [hw5]; exact (Below.refl _ _).alloc (Nat.le_refl _) _
    have hb05 : Below w.heap.size w w5 := hb4.1.trans (hb5.mono (by omega))
    refine nsorted_any E HE.out (S.map (·.1)) w4.heap.size a n c w5 (by rw [List.length_map]; exact HNN.out) hn60 (by rw [hw5]; exact World.cell?_alloc_at _ _ _ _ rfl) (fun j x hx => ?_)
    obtain ⟨b, o, ha, hl, hen⟩ := HI.out j x hx
    exact ⟨b, o, ha, Nat.lt_of_lt_of_le hl hb05.size, fun i u hu => (hb05.cell (p := ⟨b, o + j * 4 + i, none⟩) hl).trans (hen i u hu)⟩
  have HSO := Lib.hid hso
  have HB4 := Lib.hid hb4
  clear hso hw4 hp hb4
  refine (nvalues_in a n c _).mono ?_
  rintro e w5 ⟨rfl, hw5⟩
  have HSO5 := Lib.hid (HSO.out w5 hw5)
  have HW5 := Lib.hid hw5
  clear hw5 HSO
  go_wp2_with fail
  refine HSO5.out.mono ?_
  rintro e w6 ⟨ov, M, rfl, hperm, hpw, hnr, hown, hb6⟩
  have hb5 : Below w4.heap.size w4 w5 := by rw [HW5.out]; exact (Below.refl _ _).alloc (Nat.le_refl _) _
  have hs5 : w5.heap.size = w4.heap.size + 1 := by rw [HW5.out]; simp
  have hb46 : Below w4.heap.size w4 w6 := hb5.trans (hb6.mono (by omega))
  have hndM : M.Nodup := hperm.nodup_iff.2 HG.out.uniq
  have hRp : (risG pf M).Perm (gsetS S) := risG_perm hperm (fun p hp => (HPF.out p hp).1)
  have hrise : ((risG pf M).map (·.1)).Pairwise ltB := by rw [risG_names]; exact rise_of hndM hpw
  have hmlen : M.length = n := by rw [hperm.length_eq, List.length_map, HNN.out]
  have hbw6 : Below w.heap.size w w6 := HB4.out.1.trans (hb46.mono (by have := HB4.out.2; omega))
  have hly0 : LyI (fun i => w.heap.size ≤ i ∧ i < w.heap.size + 4) w6 p (risG pf M) 0 (idsR nil0 []) w6 := by
    obtain ⟨S1, k1, k2, k3, k4⟩ := HBEG.out (risG pf M)
    rw [← HW4.out, ← HP.out] at k1
    exact ⟨S1, ⟨_, k1.below hb46, Off.refl _ _, fun i hi => .inl hi⟩, k2⟩
  have hown4 : ∀ g, ov.ownBlock = some g → ¬ (w.heap.size ≤ g ∧ g < w.heap.size + 4) := fun g hg h => by
    have h1 := hown g hg
    have h2 := HB4.out.2
    omega
  obtain ⟨R, hR⟩ : ∃ R, R = risG pf M := ⟨_, rfl⟩
  rw [← hR] at hRp hrise hly0
  have hRat : ∀ (j : Nat) x, M[j]? = some x → R[j]? = some (gpt (x, pf x)) := fun j x hx => by rw [hR]; unfold risG; rw [List.getElem?_map, hx]; rfl
  have hRlen : R.length = n := by rw [hR]; unfold risG; rw [List.length_map, hmlen]
  have hRnd : (R.map (·.1)).Nodup := by rw [hR, risG_names]; exact hndM
  have hpfx : ∀ x ∈ M, ∃ q ∈ S, q.1 = x ∧ pf x = q.2 ∧ (E x).1 = q.2.note ∧ PReads w q.2.note (E x).2.1 (E x).2.2 q.2 := fun x hx => by
    obtain ⟨q, hq, e⟩ := List.mem_map.1 (hperm.mem_iff.1 hx)
    subst e
    exact ⟨q, hq, rfl, HPF.out q hq⟩
  obtain ⟨oa, oc, hov, hmle⟩ : ∃ oa oc, ov = .slice oa n oc ∧ n ≤ 9223372036854775807 := by
    rcases hnr with ⟨e, a', c', e2⟩ | ⟨_, b', c', e2, h3, h4, _⟩
    · rw [e] at hmlen; simp at hmlen; exact ⟨a', c', by rw [e2, ← hmlen], by omega⟩
    · exact ⟨_, c', by rw [e2, hmlen], by omega⟩
  subst hov
  have HNR := Lib.hid hnr
  have HOWN := Lib.hid hown4
  have HRP := Lib.hid hRp
  have HRI := Lib.hid hrise
  have HLY0 := Lib.hid hly0
  have HBW6 := Lib.hid hbw6
  have HRA := Lib.hid hRat
  have HRL := Lib.hid hRlen
  have HRN := Lib.hid hRnd
  have HPX := Lib.hid hpfx
  have HMLE := Lib.hid hmlen
  obtain ⟨Zb, hZb⟩ : ∃ Zb : Nat → Prop, Zb = fun i => w.heap.size ≤ i ∧ i < w.heap.size + 4 := ⟨_, rfl⟩
  have HZB : Hid (∀ i, Zb i → w.heap.size ≤ i) := Lib.hid (fun i hi => by rw [hZb] at hi; exact hi.1)
  have HOWZ : Hid (∀ g, (Value.slice oa n oc).ownBlock = some g → ¬ Zb g) := Lib.hid (fun g hg h => by rw [hZb] at h; exact hown4 g hg h)
  have HLZ : Hid (LyI Zb w6 p R 0 (idsR nil0 []) w6) := Lib.hid (by rw [hZb]; exact hly0)
  have hb6s : w.heap.size ≤ w6.heap.size := hbw6.size
  clear hperm hpw hnr hown hb6 hb5 hs5 hb46 hndM hRp hrise hmlen hbw6 hly0 hown4 hRat hRlen hRnd hpfx HSO5 HW5 HBEG HLY0 hZb HOWN HPF HI hR HB4 HW4 HP hmm
  go_wp2_with fail
  go_loopw [22] (fun iv wr => ∃ j : Nat, j ≤ n ∧ iv = .int .i64 (j : Nat) ∧ Hid (LyI Zb w6 p R j (idsR nil0 (R.take j)) wr)) (fun iv _ => n - (intOf iv).toNat)
  case atStart => exact ⟨0, Nat.zero_le _, rfl, HLZ⟩
  case round =>
    clear HLZ
    obtain ⟨j, hj, rfl, HLY⟩ := hrel
    by_cases hlt : j < n
    · obtain ⟨x, hx⟩ : ∃ x, M[j]? = some x := ⟨M[j]'(by rw [HMLE.out]; exact hlt), by simp⟩
      obtain ⟨q, hqS, hqx, hpfq, hEx, hprw⟩ := HPX.out x (List.mem_of_getElem? hx)
      obtain ⟨S1, ⟨Z1, ⟨bl, bj, vv, uv, hsm⟩, hoff, hzn⟩, hlys⟩ := HLY.out
      obtain ⟨g, hgo, hgl, hent⟩ : ∃ g, oa = some ⟨g, 0, none⟩ ∧ g < w6.heap.size ∧ EntAt w6 g (j * 4) E x := by
        rcases HNR.out with ⟨e, _⟩ | ⟨_, b', c', e2, _, _, h5, h6⟩
        · rw [e] at hx; simp at hx
        · simp only [Value.slice.injEq] at e2
          exact ⟨b', e2.1, h5, h6 j x hx⟩
      subst hgo
      have hgz : ¬ Zb g := HOWZ.out g rfl
      obtain ⟨m0, m1, m2, m3⟩ := hent.four
      rw [hEx] at m1
      obtain ⟨⟨da, dn, dc, hdv⟩, oa2, on, oc2, hov2⟩ := HE.out x
      rw [hdv] at m2 hprw
      rw [hov2] at m3 hprw
      have cw : ∀ i u, w6.cell? ⟨g, j * 4 + i, none⟩ = some u → wr.cell? ⟨g, j * 4 + i, none⟩ = some u := fun i u hu => (hoff.cell (p := ⟨g, j * 4 + i, none⟩) hgl hgz).trans hu
      have e0 := cw 0 _ m0
      have e1 := cw 1 _ m1
      have e2 := cw 2 _ m2
      have e3 := cw 3 _ m3
      rw [Nat.add_zero] at e0
      have hglw : g < wr.heap.size := Nat.lt_of_lt_of_le hgl hoff.size
      have hbwr : Below w.heap.size w wr := HBW6.out.trans (hoff.below HZB.out hb6s)
      obtain ⟨t, ht⟩ : ∃ t, t = q.2.note := ⟨_, rfl⟩
      rw [← ht] at e1 hprw
      obtain ⟨w1, hw1⟩ : ∃ w1, w1 = wr.alloc (.cells #[.string x, .string t, .slice da dn dc, .slice oa2 on oc2] 49) := ⟨_, rfl⟩
      obtain ⟨p1, pb, ps⟩ := boxA1 (Below.refl _ (wr.alloc (.cells #[.string x, .string t, .slice da dn dc, .slice oa2 on oc2] 49)))
      rw [← hw1] at p1 pb ps
      obtain ⟨q6, hq6⟩ : ∃ q6, q6 = wr.heap.size := ⟨_, rfl⟩
      simp only [← hq6] at p1
      have hpd : Below wr.heap.size wr w1.drew := pb.drew
      have hsm1 := hsm.below hpd
      obtain ⟨nv, hnv⟩ : ∃ nv, nv = S1.vs.length := ⟨_, rfl⟩
      have hnvl : nv = (idsR nil0 (R.take j)).length := by rw [hnv, hlys.vs, vs0_len]
      obtain ⟨bv, cap, hvv, _, _, _, _, _, _⟩ := hsm.rv.pos (by rw [← hnv, hnvl]; unfold idsR; simp)
      rw [← hnv] at hvv
      subst hvv
      have hRj := HRA.out j x hx
      rw [hpfq, ← hqx] at hRj
      have hRid : (idsR nil0 R).length ≤ 1000000 := HIDS.out R HRP.out
      have hfx : fR R x = (nv : Int) := by
        unfold fR
        rw [hnvl, ← hqx]
        have := firstR_len nil0 HRN.out hRj
        rw [show (gpt (q.1, q.2)).1 = q.1 from rfl] at this
        rw [this]
      have htm : Tame nil0 R := tame_perm HRP.out HG.out.tame
      have hmx : mR R x = (madeN q.2.ops : Int) := by
        have h1 := mR_of htm.one (List.mem_of_getElem? hRj)
        rw [show (gpt (q.1, q.2)).1 = q.1 from rfl, hqx] at h1
        rw [h1, madeX_gpt]
      obtain ⟨mk, hmk⟩ : ∃ mk, mk = madeN q.2.ops := ⟨_, rfl⟩
      rw [← hmk] at hmx
      have hnotin : x ∉ S1.ks := fun hin => by
        rw [hlys.ks] at hin
        obtain ⟨i, hi, e⟩ := List.getElem_of_mem hin
        rw [List.length_map, List.length_take] at hi
        have h1 : (R.map (·.1))[i]? = some x := by
          rw [List.getElem?_map]
          rw [List.getElem_map] at e
          have h2 : i < (R.take j).length := by rw [List.length_take]; omega
          have h3 : (R.take j)[i]? = some (R.take j)[i] := List.getElem?_eq_getElem h2
          rw [List.getElem?_take_of_lt (by omega)] at h3
          rw [h3]
          exact congrArg some e
        have h2 : (R.map (·.1))[j]? = some x := by rw [List.getElem?_map, hRj]; show some q.1 = some x; rw [hqx]
        have := (List.getElem?_inj (by rw [List.length_map]; omega) HRN.out).1 (h1.trans h2.symm)
        omega
      have hxs : x.size ≤ 140737488355328 := by rw [← hqx]; exact (HF.out.2 q hqS).2.1
      have hks : S1.ks.length ≤ 1000000 := by rw [hlys.ks, List.length_map, List.length_take]; omega
      have hlc : LyC p q6 (.slice (some ⟨bv, 0, none⟩) nv cap) x t (.slice da dn dc) (.slice oa2 on oc2) w1.drew := ⟨hsm1.c1, p1 0, p1 1, p1 2, p1 3⟩
      have hcm : ∀ W, Below w1.drew.heap.size w1.drew W → Calls Tryz.prog 50 #[.agg #[.string t, .slice da dn dc, .slice oa2 on oc2]] W fun e w' => e = .returned (.int .i64 (mk : Nat)) ∧ Below W.heap.size W w' := fun W hW => by
        have hbW : Below w.heap.size w W := (hbwr.trans (hpd.mono hbwr.size)).trans (hW.mono (by have := hbwr.size; have := hpd.size; omega))
        have hpm := pmade_any q.2 (.slice da dn dc) (.slice oa2 on oc2) W (by rw [ht] at hprw; exact hprw.below hbW) (by have := HML.out q hqS; omega)
        rw [← ht] at hpm
        rw [hmk]
        exact hpm
      have hmkl : mk ≤ 1000000 := by rw [hmk]; exact Nat.le_trans (madeN_le _) (HML.out q hqS)
      have hR1 : idsR nil0 (R.take (j + 1)) = idsR nil0 (R.take j) ++ (List.range mk).map fun k => (x, k) := by
        rw [idsR_take hRj, madeX_gpt, ← hmk]
        show _ ++ (List.range mk).map (fun k => (q.1, k)) = _
        rw [hqx]
      have hnv9 : nv + mk ≤ 1000000 := by
        have h1 : (idsR nil0 (R.take (j + 1))).length ≤ (idsR nil0 R).length := by
          rw [idsR_len, idsR_len]
          have h2 := List.take_append_drop (j + 1) R
          have h3 : (R.map madeX).sum = ((R.take (j + 1)).map madeX).sum + ((R.drop (j + 1)).map madeX).sum := by rw [← List.sum_append, ← List.map_append, h2]
          omega
        rw [hR1, List.length_append, List.length_map, List.length_range, ← hnvl] at h1
        omega
      have HLS := Lib.hid hlys
      have HSM0 := Lib.hid hsm
      have HOFF0 := Lib.hid hoff
      have HZN := Lib.hid hzn
      have HLC := Lib.hid hlc
      have HCM := Lib.hid hcm
      have HFX := Lib.hid hfx
      have HMX := Lib.hid hmx
      have HNI := Lib.hid hnotin
      have HXS := Lib.hid hxs
      have HKS := Lib.hid hks
      have HR1 := Lib.hid hR1
      have HNV := Lib.hid hnv
      have HNVL := Lib.hid hnvl
      have HRJ := Lib.hid hRj
      have HQX := Lib.hid hqx
      have HQ6 := Lib.hid hq6
      have HW1 := Lib.hid hw1
      have HZ6 : Hid (¬ Z1 q6) := Lib.hid (fun hi => by have := hsm.zlt q6 hi; omega)
      have HPD := Lib.hid hpd
      have hq6l : q6 < w1.drew.heap.size := cell_lt hlc.2.1
      have HQ6L := Lib.hid hq6l
      clear hlys hsm1 hoff hzn hlc hcm hfx hmx hnotin hxs hks hR1 hnv hnvl hRj hqx hq6 hw1 hpd hsm hpfq hEx hprw hent hgz m0 m1 m2 m3 hdv hov2 cw hbwr ht p1 pb ps hRid htm hmk hx hqS hq6l
      go_wp2_with fail
      rw [← HQ6.out]
      rw [← HW1.out]
      refine wp_region_held_drew (S := (fun W => W.cell? ⟨p, 1, none⟩ = some (.slice (some ⟨bv, 0, none⟩) nv cap) ∧ W.cell? ⟨q6, 0, none⟩ = some (.string x) ∧ W.cell? ⟨q6, 1, none⟩ = some (.string t) ∧ W.cell? ⟨q6, 2, none⟩ = some (.slice da dn dc) ∧ W.cell? ⟨q6, 3, none⟩ = some (.slice oa2 on oc2))) (by kernel_rfl) ?_ (fun hHeld => ?_)
      · exact HLC.out
      refine tkH 0 ⟨some 26, .move (.tmp 3), 68, "sketch.go:33", #[], none⟩ ?_
      try simp only [Act.put, List.setIfInBounds_toArray, List.set_cons_zero, List.set_cons_succ]
      refine tkH 1 ⟨some 27, .nilCheck (.tmp 26), 0, "sketch.go:33", #[⟨0, .data⟩], none⟩ ?_
      try simp only [Act.put, List.setIfInBounds_toArray, List.set_cons_zero, List.set_cons_succ]
      refine tkH 2 ⟨some 28, .fieldAddr 74 (.tmp 27) 1, 0, "sketch.go:33", #[⟨1, .data⟩], none⟩ ?_
      try simp only [Act.put, List.setIfInBounds_toArray, List.set_cons_zero, List.set_cons_succ]
      refine tkH 3 ⟨some 29, .load 27 (.tmp 28), 27, "sketch.go:33", #[⟨2, .data⟩], none⟩ ?_
      try simp only [Act.put, List.setIfInBounds_toArray, List.set_cons_zero, List.set_cons_succ]
      refine tkH 4 ⟨some 30, .call { callee := Callee.builtin Builtin.len, args := #[.tmp 29], argTypes := #[27] }, 3, "sketch.go:33", #[⟨3, .data⟩], none⟩ ?_
      try simp only [Act.put, List.setIfInBounds_toArray, List.set_cons_zero, List.set_cons_succ]
      refine tkH 5 ⟨some 31, .fieldAddr 49 (.tmp 6) 1, 0, "sketch.go:33", #[], none⟩ ?_
      try simp only [Act.put, List.setIfInBounds_toArray, List.set_cons_zero, List.set_cons_succ]
      refine tkH 6 ⟨some 32, .load 47 (.tmp 31), 47, "sketch.go:33", #[⟨5, .data⟩], none⟩ ?_
      try simp only [Act.put, List.setIfInBounds_toArray, List.set_cons_zero, List.set_cons_succ]
      refine wpAnyH_ready (rs := [7, 9]) (by kernel_rfl) (by simp) ?_
      refine AllReadyH.cons (o := ⟨some 33, .call { callee := Callee.value (Operand.func 50), args := #[.tmp 32], argTypes := #[47] }, 3, "sketch.go:33", #[⟨6, .data⟩], none⟩) rfl (fun KK hK => ?_) (AllReadyH.cons (o := ⟨some 7, .alloc 104, 0, "sketch.go:33", #[], none⟩) rfl (fun KK hK => ?_) AllReadyH.nil)
      rotate_left
      · go_simp
        have HLB := Lib.hid (HLC.out.below (below_dd ((Below.refl _ w1).alloc (Nat.le_refl _) (.cells #[.int .i64 0, .int .i64 0] 104))))
        refine hK.out _ _ ?_ (fun hHeld => ?_)
        · exact HLB.out
        clear hK KK
        try simp only [Act.put, List.setIfInBounds_toArray, List.set_cons_zero, List.set_cons_succ]
        refine wpAnyH_ready (rs := [7]) (by kernel_rfl) (by simp) ?_
        refine AllReadyH.cons (o := ⟨some 33, .call { callee := Callee.value (Operand.func 50), args := #[.tmp 32], argTypes := #[47] }, 3, "sketch.go:33", #[⟨6, .data⟩], none⟩) rfl (fun KK hK => ?_) AllReadyH.nil
        go_simp
        (with_reducible refine (HCM.out _ (below_dd ((Below.refl _ w1).alloc (Nat.le_refl _) _))).mono ?_)
        rintro e w2 ⟨rfl, hb2⟩
        have HLC2 := Lib.hid (HLB.out.below hb2)
        have HB2 := Lib.hid hb2
        clear hb2
        refine hK.out _ _ ?_ (fun hHeld => ?_)
        · exact HLC2.out
        clear hK KK
        try simp only [Act.put, List.setIfInBounds_toArray, List.set_cons_zero, List.set_cons_succ]
        refine tkH 8 ⟨some 34, .build 104 #[(0, .tmp 30), (1, .tmp 33)], 104, "sketch.go:33", #[⟨4, .data⟩, ⟨7, .data⟩], none⟩ ?_
        try simp only [Act.put, List.setIfInBounds_toArray, List.set_cons_zero, List.set_cons_succ]
        have hlt7 : w1.heap.size < (w1.alloc (.cells #[.int .i64 0, .int .i64 0] 104)).drew.heap.size := by show _ < (w1.alloc _).heap.size; simp
        have hc0 : w2.cell? ⟨w1.heap.size, 0, none⟩ = some (.int .i64 0) := (HB2.out.cell (p := ⟨w1.heap.size, 0, none⟩) hlt7).trans (by show (w1.alloc _).cell? _ = _; rw [World.cell?_alloc_at _ _ _ _ rfl]; rfl)
        have hc1 : w2.cell? ⟨w1.heap.size, 1, none⟩ = some (.int .i64 0) := (HB2.out.cell (p := ⟨w1.heap.size, 1, none⟩) hlt7).trans (by show (w1.alloc _).cell? _ = _; rw [World.cell?_alloc_at _ _ _ _ rfl]; rfl)
        have hf0 : w2.frozen? ⟨w1.heap.size, 0, none⟩ = false := (HB2.out.frozen (p := ⟨w1.heap.size, 0, none⟩) hlt7).trans (World.frozen?_alloc_at _ _ _ _ rfl)
        have hf1 : w2.frozen? ⟨w1.heap.size, 1, none⟩ = false := (HB2.out.frozen (p := ⟨w1.heap.size, 1, none⟩) hlt7).trans (World.frozen?_alloc_at _ _ _ _ rfl)
        have hbA : Below wr.heap.size wr w2 := ((HPD.out.trans (below_dd ((Below.refl _ w1).alloc (Nat.le_refl _) (.cells #[.int .i64 0, .int .i64 0] 104)) |>.mono HPD.out.size))).trans (HB2.out.mono (Nat.le_trans HPD.out.size (Nat.le_of_lt hlt7)))
        have hB12 : Below w1.drew.heap.size w1.drew w2 := (below_dd ((Below.refl _ w1).alloc (Nat.le_refl _) (.cells #[.int .i64 0, .int .i64 0] 104))).trans (HB2.out.mono (Nat.le_of_lt hlt7))
        have HBX := Lib.hid (lot_set (q := w1.heap.size) (f := (nv : Int)) (m := (mk : Int)) hbA HPD.out.size hc0 hc1)
        have HLX : Hid (LyC p q6 (.slice (some ⟨bv, 0, none⟩) nv cap) x t (.slice da dn dc) (.slice oa2 on oc2) ((w2.setCell ⟨w1.heap.size, 0, none⟩ (.int .i64 (nv : Int))).setCell ⟨w1.heap.size, 1, none⟩ (.int .i64 (mk : Int)))) := Lib.hid (HLC.out.below ((hB12.setCell (p := ⟨w1.heap.size, 0, none⟩) (Nat.le_refl _) _).setCell (p := ⟨w1.heap.size, 1, none⟩) (Nat.le_refl _) _))
        clear hbA hB12 hlt7
        refine wpAnyH_ready (rs := [10]) (by kernel_rfl) (by simp) ?_
        refine AllReadyH.cons (o := ⟨none, .store 104 (.tmp 7) (.tmp 34), 0, "sketch.go:33", #[⟨9, .data⟩, ⟨8, .data⟩, ⟨7, .chain⟩, ⟨0, .phase⟩, ⟨1, .phase⟩, ⟨2, .phase⟩, ⟨3, .phase⟩, ⟨4, .phase⟩, ⟨5, .phase⟩, ⟨6, .phase⟩, ⟨7, .phase⟩, ⟨8, .phase⟩, ⟨9, .phase⟩], none⟩) rfl (fun KK hK => ?_) AllReadyH.nil
        go_simp
        refine hK.out _ _ ?_ (fun hHeld => ?_)
        · exact HLX.out
        clear hK KK
        try simp only [Act.put, List.setIfInBounds_toArray, List.set_cons_zero, List.set_cons_succ]
        clear hc0 hc1 hf0 hf1 hHeld
        refine wpAnyH_done (by kernel_rfl) ?_ _
        have hbx := HBX.out
        have hlx := HLX.out
        clear HBX HLX HLC2 HB2 HLB
        obtain ⟨q7, hq7⟩ : ∃ q7, q7 = w1.heap.size := ⟨_, rfl⟩
        rw [← hq7] at hbx hlx ⊢
        obtain ⟨w7, hw7⟩ : ∃ w7, w7 = (w2.setCell ⟨q7, 0, none⟩ (.int .i64 (nv : Int))).setCell ⟨q7, 1, none⟩ (.int .i64 (mk : Int)) := ⟨_, rfl⟩
        rw [← hw7] at hbx hlx ⊢
        clear hw7 hq7
        clear HLC HCM HPD
        obtain ⟨g0, g1⟩ := hbx.2.2
        have hsm7 := HSM0.out.below hbx.1.drew
        have hoff7 : Off Zb w6 w7.drew := HOFF0.out.trans (Off.of_below hbx.1.drew)
        obtain ⟨W8, hup, hml8, ho8⟩ := hsm7.lots.add HXS.out HNI.out HKS.out
        rw [HLS.out.f, HFX.out, HLS.out.m, HMX.out] at hup
        have hsm8 := hsm7.lot ho8 hml8
        have hz7 : ¬ Z1 q7 := fun hi => by have := HSM0.out.zlt q7 hi; have := hbx.2.1; omega
        have hb6 : ¬ q6 = bl := fun e => HZ6.out (e ▸ hsm7.zl)
        have hb7 : ¬ q7 = bl := fun e => hz7 (e ▸ hsm7.zl)
        have k6 : W8.cell? ⟨q6, 0, none⟩ = some (.string x) := (ho8.cell (p := ⟨q6, 0, none⟩) (cell_lt hlx.2.1) hb6).trans hlx.2.1
        have k7 : W8.cell? ⟨q7, 1, none⟩ = some (.int .i64 (mk : Int)) := (ho8.cell (p := ⟨q7, 1, none⟩) (cell_lt g1) hb7).trans g1
        have hly8 : LyI Z1 W8 p R (j + 1) (idsR nil0 (R.take j)) W8 := by
          refine ⟨_, ⟨Z1, ⟨_, _, _, _, hsm8⟩, Off.refl _ _, fun i hi => .inl hi⟩, ?_⟩
          obtain ⟨e1, e2, e3, e4, e5, e6, e7, e8⟩ := HLS.out
          refine ⟨?_, e2, e3, e4, e5, e6, e7, e8⟩
          show S1.ks ++ [x] = _
          rw [e1, List.take_add_one, HRJ.out]
          simp only [Option.toList_some, List.map_append, List.map_cons, List.map_nil]
          rw [show (gpt (q.1, q.2)).1 = q.1 from rfl, HQX.out]
        have HLY8 := Lib.hid hly8
        have HK6 := Lib.hid k6
        have HOFF8 : Hid (Off Zb w6 W8) := Lib.hid (hoff7.trans' ho8 (fun i hl hi => by
          subst hi
          exact (HZN.out _ hsm7.zl).resolve_right (fun h => by have := hoff7.size; omega)))
        have HZN8 : Hid (∀ i, Z1 i → Zb i ∨ w6.heap.size ≤ i) := Lib.hid HZN.out
        have HS7 := Lib.hid (show w7.drew.cell? ⟨p, 0, none⟩ = some (.map (some bl)) ∧ w7.drew.cell? ⟨q6, 0, none⟩ = some (.string x) ∧ w7.drew.cell? ⟨q7, 0, none⟩ = some (.int .i64 (nv : Int)) ∧ w7.drew.cell? ⟨q7, 1, none⟩ = some (.int .i64 (mk : Int)) from ⟨hsm7.c0, hlx.2.1, g0, g1⟩)
        clear hbx hlx hsm7 hoff7 hml8 ho8 hsm8 hz7 hb6 hb7 k6 hly8 HSM0 HOFF0 HLS HFX HMX HNI HXS HKS g0 g1
        go_wp2_with fail
        refine wp_region_til (S := (fun W => W.cell? ⟨p, 0, none⟩ = some (.map (some bl)) ∧ W.cell? ⟨q6, 0, none⟩ = some (.string x) ∧ W.cell? ⟨q7, 0, none⟩ = some (.int .i64 (nv : Int)) ∧ W.cell? ⟨q7, 1, none⟩ = some (.int .i64 (mk : Int)))) 7 (by kernel_rfl) ?_ (fun hHeld => ?_)
        · exact HS7.out
        refine tkT 0 ⟨some 35, .move (.tmp 3), 68, "sketch.go:34", #[], none⟩ ?_
        try simp only [Act.put, List.setIfInBounds_toArray, List.set_cons_zero, List.set_cons_succ]
        refine tkT 1 ⟨some 36, .nilCheck (.tmp 35), 0, "sketch.go:34", #[⟨0, .data⟩], none⟩ ?_
        try simp only [Act.put, List.setIfInBounds_toArray, List.set_cons_zero, List.set_cons_succ]
        refine tkT 2 ⟨some 37, .fieldAddr 74 (.tmp 36) 0, 0, "sketch.go:34", #[⟨1, .data⟩], none⟩ ?_
        try simp only [Act.put, List.setIfInBounds_toArray, List.set_cons_zero, List.set_cons_succ]
        refine tkT 3 ⟨some 38, .load 71 (.tmp 37), 71, "sketch.go:34", #[⟨2, .data⟩], none⟩ ?_
        try simp only [Act.put, List.setIfInBounds_toArray, List.set_cons_zero, List.set_cons_succ]
        refine tkT 4 ⟨some 39, .fieldAddr 49 (.tmp 6) 0, 0, "sketch.go:34", #[], none⟩ ?_
        try simp only [Act.put, List.setIfInBounds_toArray, List.set_cons_zero, List.set_cons_succ]
        refine tkT 5 ⟨some 40, .load 9 (.tmp 39), 9, "sketch.go:34", #[⟨4, .data⟩], none⟩ ?_
        try simp only [Act.put, List.setIfInBounds_toArray, List.set_cons_zero, List.set_cons_succ]
        refine tkT 6 ⟨some 41, .load 104 (.tmp 7), 104, "sketch.go:34", #[], none⟩ ?_
        try simp only [Act.put, List.setIfInBounds_toArray, List.set_cons_zero, List.set_cons_succ]
        refine til_last (o := ⟨none, .mapUpdate 71 (.tmp 38) (.tmp 40) (.tmp 41), 0, "sketch.go:34", #[⟨3, .data⟩, ⟨5, .data⟩, ⟨6, .data⟩, ⟨0, .phase⟩, ⟨1, .phase⟩, ⟨2, .phase⟩, ⟨3, .phase⟩, ⟨4, .phase⟩, ⟨5, .phase⟩, ⟨6, .phase⟩], none⟩) (by kernel_rfl) rfl (by kernel_rfl) (fun KK hK => ?_)
        go_simp
        refine hK.out _ _ ?_
        clear hK KK
        try simp only [Act.put, List.setIfInBounds_toArray, List.set_cons_zero, List.set_cons_succ]
        clear hup HS7
        go_wp2_with fail
        go_loopw [44, 8] (fun iv nvv wr => ∃ k : Nat, k ≤ mk ∧ iv = .int .i64 (k : Nat) ∧ Hid (LyI Z1 W8 p R (j + 1) (idsR nil0 (R.take j) ++ (List.range k).map fun k => (x, k)) wr)) (fun iv _ _ => mk - (intOf iv).toNat)
        case atStart => exact ⟨0, Nat.zero_le _, rfl, Lib.hid (by simpa using HLY8.out)⟩
        case round =>
          clear k7 HLY8
          obtain ⟨k, hk, rfl, HL2⟩ := hrel
          by_cases hkm : k < mk
          · obtain ⟨S2, ⟨Z2, ⟨bl2, bj2, yv, yu, hs2⟩, ho2, hz2⟩, hl2⟩ := HL2.out
            obtain ⟨ny, hny⟩ : ∃ ny, ny = S2.vs.length := ⟨_, rfl⟩
            have hny9 : ny + 1 ≤ 1000001 := by
              rw [hny, hl2.vs, vs0_len, List.length_append, List.length_map, List.length_range, ← HNVL.out]
              omega
            have hny2 : ny + 1 ≤ 1099511627776 := by omega
            have hru := hs2.rv
            rw [← hny] at hru
            obtain ⟨ya, yc, hyv⟩ := hru.form
            subst hyv
            have hq6W : q6 < W8.heap.size := cell_lt HK6.out
            have hz26 : ¬ Z2 q6 := fun hi => by
              rcases hz2 q6 hi with h | h
              · exact HZ6.out h
              · omega
            have hs6c : wr.cell? ⟨q6, 0, none⟩ = some (.string x) := (ho2.cell (p := ⟨q6, 0, none⟩) hq6W HZ6.out).trans HK6.out
            obtain ⟨wy, hwy⟩ : ∃ wy, wy = wr.drew.alloc (.cells (vxN x (k : Int)).toArray 42) := ⟨_, rfl⟩
            have hby : Below wr.heap.size wr wy := by rw [hwy]; exact ((Below.refl _ _).drew).alloc (Nat.le_refl _) _
            have hsy := hs2.below hby
            have hsrc : Src Tryz.prog 8 27 (.slice (some ⟨wr.drew.heap.size, 0, none⟩) 1 1) 1 (vxN x (k : Int)) wy := by rw [hwy]; exact src_vx _ _
            have hnp : ¬ (Value.slice ya ny yc).ownBlock = some p := fun e => (hsy.vw p e).1 rfl
            have hnq : ¬ (Value.slice ya ny yc).ownBlock = some q6 := fun e => hz26 (hs2.zv q6 e)
            have hS0 : ∀ W, Off (fun i => (Value.slice ya ny yc).ownBlock = some i) wr W → W.cell? ⟨p, 1, none⟩ = some (.slice ya ny yc) ∧ W.frozen? ⟨p, 1, none⟩ = false ∧ W.cell? ⟨q6, 0, none⟩ = some (.string x) := fun W ho =>
              ⟨(ho.cell (p := ⟨p, 1, none⟩) (hs2.zlt p hs2.zp) hnp).trans hs2.c1, (ho.frozen (p := ⟨p, 1, none⟩) (hs2.zlt p hs2.zp) hnp).trans (hs2.fz 1 (by omega)), (ho.cell (p := ⟨q6, 0, none⟩) (cell_lt hs6c) hnq).trans hs6c⟩
            have HS6 := Lib.hid (hS0 wr.drew ((Off.refl _ _).drew))
            have HS9 := Lib.hid (hS0 wy (Off.of_below hby))
            have HSO := Lib.hid (fun w8 (ho : Off (fun i => (Value.slice ya ny yc).ownBlock = some i) wy w8) => hS0 w8 ((Off.of_below hby).trans ho))
            have HRA7 := Lib.hid (hru.below hby)
            have HSRC7 := Lib.hid hsrc
            have HSY := Lib.hid hsy
            have HOY := Lib.hid (ho2.trans (Off.of_below hby))
            have HZ2 := Lib.hid hz2
            have HL3 := Lib.hid hl2
            have HNY := Lib.hid hny
            have HSZ7 : Hid (0 ≤ wy.heap.size) := Lib.hid (Nat.zero_le _)
            have HWY := Lib.hid hwy
            rw [hwy] at HS9 HSO HRA7 HSRC7 HSZ7
            clear hru hs2 ho2 hz2 hl2 hny hsrc hnp hnq hS0 hsy hby hwy hz26 hs6c hq6W
            go_wp2_with fail
            refine wp_region_til (S := (fun W => W.cell? ⟨p, 1, none⟩ = some (.slice ya ny yc) ∧ W.frozen? ⟨p, 1, none⟩ = false ∧ W.cell? ⟨q6, 0, none⟩ = some (.string x))) 14 (by kernel_rfl) ?_ (fun hHeld => ?_)
            · exact HS6.out
            refine tkT 0 ⟨some 47, .move (.tmp 3), 68, "sketch.go:36", #[], none⟩ ?_
            try simp only [Act.put, List.setIfInBounds_toArray, List.set_cons_zero, List.set_cons_succ]
            refine tkT 1 ⟨some 48, .move (.tmp 3), 68, "sketch.go:36", #[], none⟩ ?_
            try simp only [Act.put, List.setIfInBounds_toArray, List.set_cons_zero, List.set_cons_succ]
            refine tkT 2 ⟨some 49, .nilCheck (.tmp 48), 0, "sketch.go:36", #[⟨1, .data⟩], none⟩ ?_
            try simp only [Act.put, List.setIfInBounds_toArray, List.set_cons_zero, List.set_cons_succ]
            refine tkT 3 ⟨some 50, .fieldAddr 74 (.tmp 49) 1, 0, "sketch.go:36", #[⟨2, .data⟩], none⟩ ?_
            try simp only [Act.put, List.setIfInBounds_toArray, List.set_cons_zero, List.set_cons_succ]
            refine tkT 4 ⟨some 51, .load 27 (.tmp 50), 27, "sketch.go:36", #[⟨3, .data⟩], none⟩ ?_
            try simp only [Act.put, List.setIfInBounds_toArray, List.set_cons_zero, List.set_cons_succ]
            refine tkT 5 ⟨some 52, .fieldAddr 49 (.tmp 6) 0, 0, "sketch.go:36", #[], none⟩ ?_
            try simp only [Act.put, List.setIfInBounds_toArray, List.set_cons_zero, List.set_cons_succ]
            refine tkT 6 ⟨some 53, .load 9 (.tmp 52), 9, "sketch.go:36", #[⟨5, .data⟩], none⟩ ?_
            try simp only [Act.put, List.setIfInBounds_toArray, List.set_cons_zero, List.set_cons_succ]
            refine tkT 7 ⟨some 54, .move (.tmp 8), 3, "sketch.go:36", #[], none⟩ ?_
            try simp only [Act.put, List.setIfInBounds_toArray, List.set_cons_zero, List.set_cons_succ]
            refine tkT 8 ⟨some 55, .build 24 #[(0, .tmp 53), (1, .tmp 54)], 24, "sketch.go:36", #[⟨6, .data⟩, ⟨7, .data⟩], none⟩ ?_
            try simp only [Act.put, List.setIfInBounds_toArray, List.set_cons_zero, List.set_cons_succ]
            refine tkT 9 ⟨some 56, .build 42 #[(0, .tmp 55)], 42, "sketch.go:36", #[⟨8, .data⟩], none⟩ ?_
            try simp only [Act.put, List.setIfInBounds_toArray, List.set_cons_zero, List.set_cons_succ]
            refine til_one (i := 10) (o := ⟨some 57, .buildSlice 27 1 #[(0, .tmp 56)], 27, "sketch.go:36", #[⟨9, .data⟩], none⟩) (by kernel_rfl) rfl (fun KK hK => ?_)
            go_simp
            refine hK.out _ _ ?_ (fun hHeld => ?_)
            · exact HS9.out
            clear hK KK
            try simp only [Act.put, List.setIfInBounds_toArray, List.set_cons_zero, List.set_cons_succ]
            refine til_one (i := 11) (o := ⟨some 58, .call { callee := Callee.builtin Builtin.append, args := #[.tmp 51, .tmp 57], argTypes := #[27, 27] }, 27, "sketch.go:36", #[⟨4, .data⟩, ⟨10, .data⟩], none⟩) (by kernel_rfl) rfl (fun KK hK => ?_)
            refine step_append_rowW rfl (.tmp 51) (.tmp 57) 27 27 rfl 8 42 (.agg #[.string ByteArray.empty, .int .i64 0, .string ByteArray.empty, .int .i64 0, .string ByteArray.empty, .int .i64 0, .string ByteArray.empty, .int .i64 0]) 96 Tryz.underlying27 infoVx rfl 0 (.slice ya ny yc) ny (vxs S2.vs) (by simp [Act.eval]) HRA7.out (.slice (some ⟨wr.drew.heap.size, 0, none⟩) 1 1) (by simp [Act.eval]) 1 (vxN x (k : Int)) HSRC7.out HSZ7.out hny2 (by decide) ?_
            intro v8 w8 hr8 ho8 hw8
            obtain ⟨a8, c8, hv8⟩ := hr8.form
            subst hv8
            have HR8 := Lib.hid hr8
            have HO8 := Lib.hid ho8
            have HW8 := Lib.hid hw8
            have HS8 := Lib.hid (HSO.out w8 ho8)
            clear hr8 ho8 hw8
            refine hK.out _ _ ?_ (fun hHeld => ?_)
            · exact HS8.out
            clear hK KK
            try simp only [Act.put, List.setIfInBounds_toArray, List.set_cons_zero, List.set_cons_succ]
            refine til_one (i := 12) (o := ⟨some 59, .nilCheck (.tmp 47), 0, "sketch.go:36", #[⟨0, .data⟩, ⟨0, .phase⟩, ⟨1, .phase⟩, ⟨2, .phase⟩, ⟨3, .phase⟩, ⟨4, .phase⟩, ⟨5, .phase⟩, ⟨6, .phase⟩, ⟨7, .phase⟩, ⟨8, .phase⟩, ⟨9, .phase⟩, ⟨10, .phase⟩, ⟨11, .phase⟩], none⟩) (by kernel_rfl) rfl (fun KK hK => ?_)
            go_simp
            refine hK.out _ _ ?_ (fun hHeld => ?_)
            · exact HS8.out
            clear hK KK
            try simp only [Act.put, List.setIfInBounds_toArray, List.set_cons_zero, List.set_cons_succ]
            refine tkT 13 ⟨some 60, .fieldAddr 74 (.tmp 59) 1, 0, "sketch.go:36", #[⟨12, .data⟩, ⟨0, .phase⟩, ⟨1, .phase⟩, ⟨2, .phase⟩, ⟨3, .phase⟩, ⟨4, .phase⟩, ⟨5, .phase⟩, ⟨6, .phase⟩, ⟨7, .phase⟩, ⟨8, .phase⟩, ⟨9, .phase⟩, ⟨10, .phase⟩, ⟨11, .phase⟩], none⟩ ?_
            try simp only [Act.put, List.setIfInBounds_toArray, List.set_cons_zero, List.set_cons_succ]
            refine til_last (o := ⟨none, .store 27 (.tmp 60) (.tmp 58), 0, "sketch.go:36", #[⟨13, .data⟩, ⟨11, .data⟩, ⟨11, .chain⟩, ⟨0, .phase⟩, ⟨1, .phase⟩, ⟨2, .phase⟩, ⟨3, .phase⟩, ⟨4, .phase⟩, ⟨5, .phase⟩, ⟨6, .phase⟩, ⟨7, .phase⟩, ⟨8, .phase⟩, ⟨9, .phase⟩, ⟨10, .phase⟩, ⟨11, .phase⟩], none⟩) (by kernel_rfl) rfl (by kernel_rfl) (fun KK hK => ?_)
            go_simp
            obtain ⟨q1, qf, _⟩ := hHeld
            go_simp
            refine hK.out _ _ ?_
            clear hK KK
            try simp only [Act.put, List.setIfInBounds_toArray, List.set_cons_zero, List.set_cons_succ]
            have ho8 : Off (fun i => (Value.slice ya ny yc).ownBlock = some i) wy w8 := by rw [HWY.out]; exact HO8.out
            have hw8 : (Value.slice a8 (ny + 1) c8).ownBlock = (Value.slice ya ny yc).ownBlock ∨ (Value.slice a8 (ny + 1) c8).ownBlock = some wy.heap.size := by rw [HWY.out]; exact HW8.out
            have hr8b : Row 8 0 w8 (.slice a8 (ny + 1) c8) (S2.vs ++ [(⟨x, (k : Int), ⟨#[]⟩, 0, ⟨#[]⟩, 0, ⟨#[]⟩, 0⟩ : Vx)]).length (vxs (S2.vs ++ [(⟨x, (k : Int), ⟨#[]⟩, 0, ⟨#[]⟩, 0, ⟨#[]⟩, 0⟩ : Vx)])) := by
              rw [vxs_app, List.length_append, ← HNY.out]
              exact HR8.out
            obtain ⟨hs8, hof8⟩ := HSY.out.pushV ho8 hr8b (hw8.imp id fun h => ⟨_, h, Nat.le_refl _⟩)
            have HLF : Hid (LyI Z1 W8 p R (j + 1) (idsR nil0 (R.take j) ++ (List.range (k + 1)).map fun k => (x, k)) (w8.setCell ⟨p, 1, none⟩ (.slice a8 (ny + 1) c8))) := Lib.hid (by
              refine LyI.step (Z1 := Z2) HOY.out HZ2.out (show SX _ _ p _ from ⟨_, _, _, _, hs8⟩) hof8 (fun i hi => ?_) ?_
              · rcases hi with hi | hi
                · exact .inl hi
                · rcases hw8 with e | e
                  · exact .inl (HSY.out.zv i (e ▸ hi))
                  · rw [e] at hi
                    injection hi with hi
                    exact .inr (by omega)
              · obtain ⟨e1, e2, e3, e4, e5, e6, e7, e8⟩ := HL3.out
                refine ⟨e1, e2, e3, ?_, e5, e6, e7, e8⟩
                show S2.vs ++ _ = _
                rw [e4, List.range_succ, List.map_append, List.map_singleton, ← List.append_assoc, vs0_snoc])
            clear ho8 hw8 hr8b hs8 hof8
            go_wp2_with fail
            exact ⟨⟨k + 1, by omega, by go_num, HLF⟩, by simp [intOf]; omega⟩
          · have hkm2 : k = mk := by omega
            subst hkm2
            have HLF : Hid (LyI Zb w6 p R (j + 1) (idsR nil0 (R.take (j + 1))) wr) := Lib.hid (by
              obtain ⟨S2, ⟨Z2, hx2, ho2, hz2⟩, hl2⟩ := HL2.out
              rw [HR1.out]
              exact LyI.step HOFF8.out HZN8.out hx2 ho2 hz2 hl2)
            go_wp2_with fail
            exact ⟨⟨j + 1, by omega, by go_num, HLF⟩, by simp [intOf]; omega⟩
      · go_simp
        (with_reducible refine (HCM.out _ (Below.refl _ _)).mono ?_)
        rintro e w2 ⟨rfl, hb2⟩
        have HLC2 := Lib.hid (HLC.out.below hb2)
        have HB2 := Lib.hid hb2
        clear hb2
        refine hK.out _ _ ?_ (fun hHeld => ?_)
        · exact HLC2.out
        clear hK KK
        try simp only [Act.put, List.setIfInBounds_toArray, List.set_cons_zero, List.set_cons_succ]
        refine tkH 8 ⟨some 34, .build 104 #[(0, .tmp 30), (1, .tmp 33)], 104, "sketch.go:33", #[⟨4, .data⟩, ⟨7, .data⟩], none⟩ ?_
        try simp only [Act.put, List.setIfInBounds_toArray, List.set_cons_zero, List.set_cons_succ]
        refine wpAnyH_ready (rs := [9]) (by kernel_rfl) (by simp) ?_
        refine AllReadyH.cons (o := ⟨some 7, .alloc 104, 0, "sketch.go:33", #[], none⟩) rfl (fun KK hK => ?_) AllReadyH.nil
        go_simp
        refine hK.out _ _ ?_ (fun hHeld => ?_)
        · exact HLC2.out.below ((Below.refl _ _).alloc (Nat.le_refl _) _)
        clear hK KK
        try simp only [Act.put, List.setIfInBounds_toArray, List.set_cons_zero, List.set_cons_succ]
        have HBX := Lib.hid (lot_new (f := (nv : Int)) (m := (mk : Int)) (HPD.out.trans (HB2.out.mono HPD.out.size)) 104)
        have HLX : Hid (LyC p q6 (.slice (some ⟨bv, 0, none⟩) nv cap) x t (.slice da dn dc) (.slice oa2 on oc2) (w2.alloc (.cells #[.int .i64 (nv : Int), .int .i64 (mk : Int)] 104))) := Lib.hid (HLC2.out.below ((Below.refl _ _).alloc (Nat.le_refl _) _))
        refine wpAnyH_ready (rs := [10]) (by kernel_rfl) (by simp) ?_
        refine AllReadyH.cons (o := ⟨none, .store 104 (.tmp 7) (.tmp 34), 0, "sketch.go:33", #[⟨9, .data⟩, ⟨8, .data⟩, ⟨7, .chain⟩, ⟨0, .phase⟩, ⟨1, .phase⟩, ⟨2, .phase⟩, ⟨3, .phase⟩, ⟨4, .phase⟩, ⟨5, .phase⟩, ⟨6, .phase⟩, ⟨7, .phase⟩, ⟨8, .phase⟩, ⟨9, .phase⟩], none⟩) rfl (fun KK hK => ?_) AllReadyH.nil
        go_simp
        refine hK.out _ _ ?_ (fun hHeld => ?_)
        · exact HLX.out
        clear hK KK
        try simp only [Act.put, List.setIfInBounds_toArray, List.set_cons_zero, List.set_cons_succ]
        clear hHeld
        refine wpAnyH_done (by kernel_rfl) ?_ _
        have hbx := HBX.out
        have hlx := HLX.out
        clear HBX HLX HLC2 HB2
        obtain ⟨q7, hq7⟩ : ∃ q7, q7 = w2.heap.size := ⟨_, rfl⟩
        rw [← hq7] at hbx ⊢
        obtain ⟨w7, hw7⟩ : ∃ w7, w7 = (w2.alloc (.cells #[.int .i64 (nv : Int), .int .i64 (mk : Int)] 104)) := ⟨_, rfl⟩
        rw [← hw7] at hbx hlx ⊢
        clear hw7 hq7
        clear HLC HCM HPD
        obtain ⟨g0, g1⟩ := hbx.2.2
        have hsm7 := HSM0.out.below hbx.1.drew
        have hoff7 : Off Zb w6 w7.drew := HOFF0.out.trans (Off.of_below hbx.1.drew)
        obtain ⟨W8, hup, hml8, ho8⟩ := hsm7.lots.add HXS.out HNI.out HKS.out
        rw [HLS.out.f, HFX.out, HLS.out.m, HMX.out] at hup
        have hsm8 := hsm7.lot ho8 hml8
        have hz7 : ¬ Z1 q7 := fun hi => by have := HSM0.out.zlt q7 hi; have := hbx.2.1; omega
        have hb6 : ¬ q6 = bl := fun e => HZ6.out (e ▸ hsm7.zl)
        have hb7 : ¬ q7 = bl := fun e => hz7 (e ▸ hsm7.zl)
        have k6 : W8.cell? ⟨q6, 0, none⟩ = some (.string x) := (ho8.cell (p := ⟨q6, 0, none⟩) (cell_lt hlx.2.1) hb6).trans hlx.2.1
        have k7 : W8.cell? ⟨q7, 1, none⟩ = some (.int .i64 (mk : Int)) := (ho8.cell (p := ⟨q7, 1, none⟩) (cell_lt g1) hb7).trans g1
        have hly8 : LyI Z1 W8 p R (j + 1) (idsR nil0 (R.take j)) W8 := by
          refine ⟨_, ⟨Z1, ⟨_, _, _, _, hsm8⟩, Off.refl _ _, fun i hi => .inl hi⟩, ?_⟩
          obtain ⟨e1, e2, e3, e4, e5, e6, e7, e8⟩ := HLS.out
          refine ⟨?_, e2, e3, e4, e5, e6, e7, e8⟩
          show S1.ks ++ [x] = _
          rw [e1, List.take_add_one, HRJ.out]
          simp only [Option.toList_some, List.map_append, List.map_cons, List.map_nil]
          rw [show (gpt (q.1, q.2)).1 = q.1 from rfl, HQX.out]
        have HLY8 := Lib.hid hly8
        have HK6 := Lib.hid k6
        have HOFF8 : Hid (Off Zb w6 W8) := Lib.hid (hoff7.trans' ho8 (fun i hl hi => by
          subst hi
          exact (HZN.out _ hsm7.zl).resolve_right (fun h => by have := hoff7.size; omega)))
        have HZN8 : Hid (∀ i, Z1 i → Zb i ∨ w6.heap.size ≤ i) := Lib.hid HZN.out
        have HS7 := Lib.hid (show w7.drew.cell? ⟨p, 0, none⟩ = some (.map (some bl)) ∧ w7.drew.cell? ⟨q6, 0, none⟩ = some (.string x) ∧ w7.drew.cell? ⟨q7, 0, none⟩ = some (.int .i64 (nv : Int)) ∧ w7.drew.cell? ⟨q7, 1, none⟩ = some (.int .i64 (mk : Int)) from ⟨hsm7.c0, hlx.2.1, g0, g1⟩)
        clear hbx hlx hsm7 hoff7 hml8 ho8 hsm8 hz7 hb6 hb7 k6 hly8 HSM0 HOFF0 HLS HFX HMX HNI HXS HKS g0 g1
        go_wp2_with fail
        refine wp_region_til (S := (fun W => W.cell? ⟨p, 0, none⟩ = some (.map (some bl)) ∧ W.cell? ⟨q6, 0, none⟩ = some (.string x) ∧ W.cell? ⟨q7, 0, none⟩ = some (.int .i64 (nv : Int)) ∧ W.cell? ⟨q7, 1, none⟩ = some (.int .i64 (mk : Int)))) 7 (by kernel_rfl) ?_ (fun hHeld => ?_)
        · exact HS7.out
        refine tkT 0 ⟨some 35, .move (.tmp 3), 68, "sketch.go:34", #[], none⟩ ?_
        try simp only [Act.put, List.setIfInBounds_toArray, List.set_cons_zero, List.set_cons_succ]
        refine tkT 1 ⟨some 36, .nilCheck (.tmp 35), 0, "sketch.go:34", #[⟨0, .data⟩], none⟩ ?_
        try simp only [Act.put, List.setIfInBounds_toArray, List.set_cons_zero, List.set_cons_succ]
        refine tkT 2 ⟨some 37, .fieldAddr 74 (.tmp 36) 0, 0, "sketch.go:34", #[⟨1, .data⟩], none⟩ ?_
        try simp only [Act.put, List.setIfInBounds_toArray, List.set_cons_zero, List.set_cons_succ]
        refine tkT 3 ⟨some 38, .load 71 (.tmp 37), 71, "sketch.go:34", #[⟨2, .data⟩], none⟩ ?_
        try simp only [Act.put, List.setIfInBounds_toArray, List.set_cons_zero, List.set_cons_succ]
        refine tkT 4 ⟨some 39, .fieldAddr 49 (.tmp 6) 0, 0, "sketch.go:34", #[], none⟩ ?_
        try simp only [Act.put, List.setIfInBounds_toArray, List.set_cons_zero, List.set_cons_succ]
        refine tkT 5 ⟨some 40, .load 9 (.tmp 39), 9, "sketch.go:34", #[⟨4, .data⟩], none⟩ ?_
        try simp only [Act.put, List.setIfInBounds_toArray, List.set_cons_zero, List.set_cons_succ]
        refine tkT 6 ⟨some 41, .load 104 (.tmp 7), 104, "sketch.go:34", #[], none⟩ ?_
        try simp only [Act.put, List.setIfInBounds_toArray, List.set_cons_zero, List.set_cons_succ]
        refine til_last (o := ⟨none, .mapUpdate 71 (.tmp 38) (.tmp 40) (.tmp 41), 0, "sketch.go:34", #[⟨3, .data⟩, ⟨5, .data⟩, ⟨6, .data⟩, ⟨0, .phase⟩, ⟨1, .phase⟩, ⟨2, .phase⟩, ⟨3, .phase⟩, ⟨4, .phase⟩, ⟨5, .phase⟩, ⟨6, .phase⟩], none⟩) (by kernel_rfl) rfl (by kernel_rfl) (fun KK hK => ?_)
        go_simp
        refine hK.out _ _ ?_
        clear hK KK
        try simp only [Act.put, List.setIfInBounds_toArray, List.set_cons_zero, List.set_cons_succ]
        clear hup HS7
        go_wp2_with fail
        go_loopw [44, 8] (fun iv nvv wr => ∃ k : Nat, k ≤ mk ∧ iv = .int .i64 (k : Nat) ∧ Hid (LyI Z1 W8 p R (j + 1) (idsR nil0 (R.take j) ++ (List.range k).map fun k => (x, k)) wr)) (fun iv _ _ => mk - (intOf iv).toNat)
        case atStart => exact ⟨0, Nat.zero_le _, rfl, Lib.hid (by simpa using HLY8.out)⟩
        case round =>
          clear k7 HLY8
          obtain ⟨k, hk, rfl, HL2⟩ := hrel
          by_cases hkm : k < mk
          · obtain ⟨S2, ⟨Z2, ⟨bl2, bj2, yv, yu, hs2⟩, ho2, hz2⟩, hl2⟩ := HL2.out
            obtain ⟨ny, hny⟩ : ∃ ny, ny = S2.vs.length := ⟨_, rfl⟩
            have hny9 : ny + 1 ≤ 1000001 := by
              rw [hny, hl2.vs, vs0_len, List.length_append, List.length_map, List.length_range, ← HNVL.out]
              omega
            have hny2 : ny + 1 ≤ 1099511627776 := by omega
            have hru := hs2.rv
            rw [← hny] at hru
            obtain ⟨ya, yc, hyv⟩ := hru.form
            subst hyv
            have hq6W : q6 < W8.heap.size := cell_lt HK6.out
            have hz26 : ¬ Z2 q6 := fun hi => by
              rcases hz2 q6 hi with h | h
              · exact HZ6.out h
              · omega
            have hs6c : wr.cell? ⟨q6, 0, none⟩ = some (.string x) := (ho2.cell (p := ⟨q6, 0, none⟩) hq6W HZ6.out).trans HK6.out
            obtain ⟨wy, hwy⟩ : ∃ wy, wy = wr.drew.alloc (.cells (vxN x (k : Int)).toArray 42) := ⟨_, rfl⟩
            have hby : Below wr.heap.size wr wy := by rw [hwy]; exact ((Below.refl _ _).drew).alloc (Nat.le_refl _) _
            have hsy := hs2.below hby
            have hsrc : Src Tryz.prog 8 27 (.slice (some ⟨wr.drew.heap.size, 0, none⟩) 1 1) 1 (vxN x (k : Int)) wy := by rw [hwy]; exact src_vx _ _
            have hnp : ¬ (Value.slice ya ny yc).ownBlock = some p := fun e => (hsy.vw p e).1 rfl
            have hnq : ¬ (Value.slice ya ny yc).ownBlock = some q6 := fun e => hz26 (hs2.zv q6 e)
            have hS0 : ∀ W, Off (fun i => (Value.slice ya ny yc).ownBlock = some i) wr W → W.cell? ⟨p, 1, none⟩ = some (.slice ya ny yc) ∧ W.frozen? ⟨p, 1, none⟩ = false ∧ W.cell? ⟨q6, 0, none⟩ = some (.string x) := fun W ho =>
              ⟨(ho.cell (p := ⟨p, 1, none⟩) (hs2.zlt p hs2.zp) hnp).trans hs2.c1, (ho.frozen (p := ⟨p, 1, none⟩) (hs2.zlt p hs2.zp) hnp).trans (hs2.fz 1 (by omega)), (ho.cell (p := ⟨q6, 0, none⟩) (cell_lt hs6c) hnq).trans hs6c⟩
            have HS6 := Lib.hid (hS0 wr.drew ((Off.refl _ _).drew))
            have HS9 := Lib.hid (hS0 wy (Off.of_below hby))
            have HSO := Lib.hid (fun w8 (ho : Off (fun i => (Value.slice ya ny yc).ownBlock = some i) wy w8) => hS0 w8 ((Off.of_below hby).trans ho))
            have HRA7 := Lib.hid (hru.below hby)
            have HSRC7 := Lib.hid hsrc
            have HSY := Lib.hid hsy
            have HOY := Lib.hid (ho2.trans (Off.of_below hby))
            have HZ2 := Lib.hid hz2
            have HL3 := Lib.hid hl2
            have HNY := Lib.hid hny
            have HSZ7 : Hid (0 ≤ wy.heap.size) := Lib.hid (Nat.zero_le _)
            have HWY := Lib.hid hwy
            rw [hwy] at HS9 HSO HRA7 HSRC7 HSZ7
            clear hru hs2 ho2 hz2 hl2 hny hsrc hnp hnq hS0 hsy hby hwy hz26 hs6c hq6W
            go_wp2_with fail
            refine wp_region_til (S := (fun W => W.cell? ⟨p, 1, none⟩ = some (.slice ya ny yc) ∧ W.frozen? ⟨p, 1, none⟩ = false ∧ W.cell? ⟨q6, 0, none⟩ = some (.string x))) 14 (by kernel_rfl) ?_ (fun hHeld => ?_)
            · exact HS6.out
            refine tkT 0 ⟨some 47, .move (.tmp 3), 68, "sketch.go:36", #[], none⟩ ?_
            try simp only [Act.put, List.setIfInBounds_toArray, List.set_cons_zero, List.set_cons_succ]
            refine tkT 1 ⟨some 48, .move (.tmp 3), 68, "sketch.go:36", #[], none⟩ ?_
            try simp only [Act.put, List.setIfInBounds_toArray, List.set_cons_zero, List.set_cons_succ]
            refine tkT 2 ⟨some 49, .nilCheck (.tmp 48), 0, "sketch.go:36", #[⟨1, .data⟩], none⟩ ?_
            try simp only [Act.put, List.setIfInBounds_toArray, List.set_cons_zero, List.set_cons_succ]
            refine tkT 3 ⟨some 50, .fieldAddr 74 (.tmp 49) 1, 0, "sketch.go:36", #[⟨2, .data⟩], none⟩ ?_
            try simp only [Act.put, List.setIfInBounds_toArray, List.set_cons_zero, List.set_cons_succ]
            refine tkT 4 ⟨some 51, .load 27 (.tmp 50), 27, "sketch.go:36", #[⟨3, .data⟩], none⟩ ?_
            try simp only [Act.put, List.setIfInBounds_toArray, List.set_cons_zero, List.set_cons_succ]
            refine tkT 5 ⟨some 52, .fieldAddr 49 (.tmp 6) 0, 0, "sketch.go:36", #[], none⟩ ?_
            try simp only [Act.put, List.setIfInBounds_toArray, List.set_cons_zero, List.set_cons_succ]
            refine tkT 6 ⟨some 53, .load 9 (.tmp 52), 9, "sketch.go:36", #[⟨5, .data⟩], none⟩ ?_
            try simp only [Act.put, List.setIfInBounds_toArray, List.set_cons_zero, List.set_cons_succ]
            refine tkT 7 ⟨some 54, .move (.tmp 8), 3, "sketch.go:36", #[], none⟩ ?_
            try simp only [Act.put, List.setIfInBounds_toArray, List.set_cons_zero, List.set_cons_succ]
            refine tkT 8 ⟨some 55, .build 24 #[(0, .tmp 53), (1, .tmp 54)], 24, "sketch.go:36", #[⟨6, .data⟩, ⟨7, .data⟩], none⟩ ?_
            try simp only [Act.put, List.setIfInBounds_toArray, List.set_cons_zero, List.set_cons_succ]
            refine tkT 9 ⟨some 56, .build 42 #[(0, .tmp 55)], 42, "sketch.go:36", #[⟨8, .data⟩], none⟩ ?_
            try simp only [Act.put, List.setIfInBounds_toArray, List.set_cons_zero, List.set_cons_succ]
            refine til_one (i := 10) (o := ⟨some 57, .buildSlice 27 1 #[(0, .tmp 56)], 27, "sketch.go:36", #[⟨9, .data⟩], none⟩) (by kernel_rfl) rfl (fun KK hK => ?_)
            go_simp
            refine hK.out _ _ ?_ (fun hHeld => ?_)
            · exact HS9.out
            clear hK KK
            try simp only [Act.put, List.setIfInBounds_toArray, List.set_cons_zero, List.set_cons_succ]
            refine til_one (i := 11) (o := ⟨some 58, .call { callee := Callee.builtin Builtin.append, args := #[.tmp 51, .tmp 57], argTypes := #[27, 27] }, 27, "sketch.go:36", #[⟨4, .data⟩, ⟨10, .data⟩], none⟩) (by kernel_rfl) rfl (fun KK hK => ?_)
            refine step_append_rowW rfl (.tmp 51) (.tmp 57) 27 27 rfl 8 42 (.agg #[.string ByteArray.empty, .int .i64 0, .string ByteArray.empty, .int .i64 0, .string ByteArray.empty, .int .i64 0, .string ByteArray.empty, .int .i64 0]) 96 Tryz.underlying27 infoVx rfl 0 (.slice ya ny yc) ny (vxs S2.vs) (by simp [Act.eval]) HRA7.out (.slice (some ⟨wr.drew.heap.size, 0, none⟩) 1 1) (by simp [Act.eval]) 1 (vxN x (k : Int)) HSRC7.out HSZ7.out hny2 (by decide) ?_
            intro v8 w8 hr8 ho8 hw8
            obtain ⟨a8, c8, hv8⟩ := hr8.form
            subst hv8
            have HR8 := Lib.hid hr8
            have HO8 := Lib.hid ho8
            have HW8 := Lib.hid hw8
            have HS8 := Lib.hid (HSO.out w8 ho8)
            clear hr8 ho8 hw8
            refine hK.out _ _ ?_ (fun hHeld => ?_)
            · exact HS8.out
            clear hK KK
            try simp only [Act.put, List.setIfInBounds_toArray, List.set_cons_zero, List.set_cons_succ]
            refine til_one (i := 12) (o := ⟨some 59, .nilCheck (.tmp 47), 0, "sketch.go:36", #[⟨0, .data⟩, ⟨0, .phase⟩, ⟨1, .phase⟩, ⟨2, .phase⟩, ⟨3, .phase⟩, ⟨4, .phase⟩, ⟨5, .phase⟩, ⟨6, .phase⟩, ⟨7, .phase⟩, ⟨8, .phase⟩, ⟨9, .phase⟩, ⟨10, .phase⟩, ⟨11, .phase⟩], none⟩) (by kernel_rfl) rfl (fun KK hK => ?_)
            go_simp
            refine hK.out _ _ ?_ (fun hHeld => ?_)
            · exact HS8.out
            clear hK KK
            try simp only [Act.put, List.setIfInBounds_toArray, List.set_cons_zero, List.set_cons_succ]
            refine tkT 13 ⟨some 60, .fieldAddr 74 (.tmp 59) 1, 0, "sketch.go:36", #[⟨12, .data⟩, ⟨0, .phase⟩, ⟨1, .phase⟩, ⟨2, .phase⟩, ⟨3, .phase⟩, ⟨4, .phase⟩, ⟨5, .phase⟩, ⟨6, .phase⟩, ⟨7, .phase⟩, ⟨8, .phase⟩, ⟨9, .phase⟩, ⟨10, .phase⟩, ⟨11, .phase⟩], none⟩ ?_
            try simp only [Act.put, List.setIfInBounds_toArray, List.set_cons_zero, List.set_cons_succ]
            refine til_last (o := ⟨none, .store 27 (.tmp 60) (.tmp 58), 0, "sketch.go:36", #[⟨13, .data⟩, ⟨11, .data⟩, ⟨11, .chain⟩, ⟨0, .phase⟩, ⟨1, .phase⟩, ⟨2, .phase⟩, ⟨3, .phase⟩, ⟨4, .phase⟩, ⟨5, .phase⟩, ⟨6, .phase⟩, ⟨7, .phase⟩, ⟨8, .phase⟩, ⟨9, .phase⟩, ⟨10, .phase⟩, ⟨11, .phase⟩], none⟩) (by kernel_rfl) rfl (by kernel_rfl) (fun KK hK => ?_)
            go_simp
            obtain ⟨q1, qf, _⟩ := hHeld
            go_simp
            refine hK.out _ _ ?_
            clear hK KK
            try simp only [Act.put, List.setIfInBounds_toArray, List.set_cons_zero, List.set_cons_succ]
            have ho8 : Off (fun i => (Value.slice ya ny yc).ownBlock = some i) wy w8 := by rw [HWY.out]; exact HO8.out
            have hw8 : (Value.slice a8 (ny + 1) c8).ownBlock = (Value.slice ya ny yc).ownBlock ∨ (Value.slice a8 (ny + 1) c8).ownBlock = some wy.heap.size := by rw [HWY.out]; exact HW8.out
            have hr8b : Row 8 0 w8 (.slice a8 (ny + 1) c8) (S2.vs ++ [(⟨x, (k : Int), ⟨#[]⟩, 0, ⟨#[]⟩, 0, ⟨#[]⟩, 0⟩ : Vx)]).length (vxs (S2.vs ++ [(⟨x, (k : Int), ⟨#[]⟩, 0, ⟨#[]⟩, 0, ⟨#[]⟩, 0⟩ : Vx)])) := by
              rw [vxs_app, List.length_append, ← HNY.out]
              exact HR8.out
            obtain ⟨hs8, hof8⟩ := HSY.out.pushV ho8 hr8b (hw8.imp id fun h => ⟨_, h, Nat.le_refl _⟩)
            have HLF : Hid (LyI Z1 W8 p R (j + 1) (idsR nil0 (R.take j) ++ (List.range (k + 1)).map fun k => (x, k)) (w8.setCell ⟨p, 1, none⟩ (.slice a8 (ny + 1) c8))) := Lib.hid (by
              refine LyI.step (Z1 := Z2) HOY.out HZ2.out (show SX _ _ p _ from ⟨_, _, _, _, hs8⟩) hof8 (fun i hi => ?_) ?_
              · rcases hi with hi | hi
                · exact .inl hi
                · rcases hw8 with e | e
                  · exact .inl (HSY.out.zv i (e ▸ hi))
                  · rw [e] at hi
                    injection hi with hi
                    exact .inr (by omega)
              · obtain ⟨e1, e2, e3, e4, e5, e6, e7, e8⟩ := HL3.out
                refine ⟨e1, e2, e3, ?_, e5, e6, e7, e8⟩
                show S2.vs ++ _ = _
                rw [e4, List.range_succ, List.map_append, List.map_singleton, ← List.append_assoc, vs0_snoc])
            clear ho8 hw8 hr8b hs8 hof8
            go_wp2_with fail
            exact ⟨⟨k + 1, by omega, by go_num, HLF⟩, by simp [intOf]; omega⟩
          · have hkm2 : k = mk := by omega
            subst hkm2
            have HLF : Hid (LyI Zb w6 p R (j + 1) (idsR nil0 (R.take (j + 1))) wr) := Lib.hid (by
              obtain ⟨S2, ⟨Z2, hx2, ho2, hz2⟩, hl2⟩ := HL2.out
              rw [HR1.out]
              exact LyI.step HOFF8.out HZN8.out hx2 ho2 hz2 hl2)
            go_wp2_with fail
            exact ⟨⟨j + 1, by omega, by go_num, HLF⟩, by simp [intOf]; omega⟩
    · have hjn : n = j := by omega
      subst hjn
      obtain ⟨S1, ⟨Z1, hsx, hoff, hzn⟩, hlys⟩ := HLY.out
      rw [List.take_of_length_le (by rw [HRL.out]; exact Nat.le_refl _)] at hlys
      have HS := Lib.hid (hlys.skd (by rw [HRL.out]; exact Nat.le_refl _))
      have HX := Lib.hid hsx
      have HBW := Lib.hid (HBW6.out.trans (hoff.below HZB.out hb6s))
      have HZ9 : Hid (∀ i, Z1 i → w.heap.size ≤ i) := Lib.hid (fun i hi => by
        rcases hzn i hi with h | h
        · exact HZB.out i h
        · omega)
      clear hsx hoff hzn hlys HLY
      go_wp2_with fail
      go_ret
      exact ⟨p, R, Z1, S1, rfl, HRP.out, HRI.out, HX.out, HS.out.1, HS.out.2, HZ9.out, HBW.out⟩
end Go.Proofs.YtojnagonhihknaaGreatDoor
