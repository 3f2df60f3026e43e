/- append to slices of elements of up to 128 bytes. No function of the program is named here. slices.AppendSeq upon slices.Values over named patches. -/
import Derived.Test.YtojnagonhihknaaGreatDoorU29
import Derived.Test.YtojnagonhihknaaGreatDoorU3
set_option linter.unusedVariables false
namespace Go.Proofs.YtojnagonhihknaaGreatDoor
open Go.ChangeShapes Go.WideShapes Go.ChangeAt Go.RowKit
section
variable {P : Program}
theorem run_append_rowW {k B : Nat} {w : World} {v : Value} {n : Nat} {cs : List Value} (t tx ty e : TypeId) (z : Value) (bytes : Nat) (ht : P.underlying t = some (.slice e)) (hinfo : (P.info? e).map (fun i => (i.zero, i.size, i.bytes)) = some (some z, k, bytes)) (hzk : z.cells.size = k)
    (h : Row k B w v n cs) (x : Value) (m : Nat) (news : List Value) (hsrc : Src P k tx x m news w) (hB : B ≤ w.heap.size) (hl : n + m ≤ 1099511627776) (hb : bytes ≤ 128) :
    ∃ v' w', (Builtin.append_ #[t, tx] ty #[v, x]).run P w = .ok v' w' ∧ Row k B w' v' (n + m) (cs ++ news) ∧ Off (fun i => v.ownBlock = some i) w w' ∧ (v'.ownBlock = v.ownBlock ∨ v'.ownBlock = some w.heap.size) := by
  obtain ⟨i, hi, hzz⟩ := Option.map_eq_some_iff.1 hinfo
  simp only [Prod.mk.injEq] at hzz
  obtain ⟨hz, hsz, hby⟩ := hzz
  obtain ⟨hlen, h⟩ := h
  have hnl := hsrc.newsLen
  have htot : (cs ++ news).length = (n + m) * k := by rw [List.length_append, hlen, hnl, Nat.add_mul]
  rw [← hsz] at hsrc
  have grow : ∀ (base : Option Addr) (sCap : Nat), (Builtin.firstCells i.size n (.slice base n sCap)).run P w.drew = .ok cs.toArray w.drew → sCap < n + m →
      ∃ v' w', (Builtin.append_ #[t, tx] ty #[.slice base n sCap, x]).run P w = .ok v' w' ∧ Row k B w' v' (n + m) (cs ++ news) ∧ Off (fun i => (Value.slice base n sCap).ownBlock = some i) w w' ∧ (v'.ownBlock = (Value.slice base n sCap).ownBlock ∨ v'.ownBlock = some w.heap.size) := by
    intro base sCap hold hg
    have hfit : Builtin.nextslicecap (n + m) sCap * i.bytes ≤ 281474976710656 := growslice_fits hg (by
      rw [hby]
      have := Nat.mul_le_mul hl hb
      omega)
    have hr := run_append_grow_src (P := P) w t tx ty e i z ht hi hz base n sCap cs hold x m news hsrc hg (by omega) hfit
    have hge := grownCap_ge w (n + m) sCap e
    have hcm : grownCap w (n + m) sCap e ≤ maxLen := grownCap_le_maxLen w _ sCap e (by unfold maxLen; omega)
    refine ⟨_, _, hr, ?_, ?_, .inr rfl⟩
    · refine row_new (w := w.drew) (fr := (0, 0)) hB htot hge hcm ?_ (.inl rfl) (fun j u hu => ?_)
      · rw [Array.size_append, List.size_toArray, htot, size_zeroCells, hzk]
        have := Nat.add_mul (n + m) (grownCap w (n + m) sCap e - (n + m)) k
        rw [Nat.add_sub_cancel' hge] at this
        omega
      · rw [Array.getElem?_append, if_pos (by rw [List.size_toArray]; exact (List.getElem?_eq_some_iff.1 hu).1)]
        simpa using hu
    · exact ((Off.refl _ w).drew).alloc _
  rcases h with ⟨rfl, rfl⟩ | ⟨b, cap, rfl, h2, h3, h4, h5, h6, h7⟩
  · have hcs : cs = [] := List.length_eq_zero_iff.1 (by omega)
    subst hcs
    by_cases hm0 : m = 0
    · subst hm0
      have hnews : news = [] := List.length_eq_zero_iff.1 (by omega)
      subst hnews
      refine ⟨.slice none 0 0, w, ?_, ⟨by simp, .inl ⟨rfl, rfl⟩⟩, Off.refl _ _, .inl rfl⟩
      rcases hsrc.kind with ⟨e', hk⟩ | hk <;> simp [Builtin.append_, run_underlying ht, run_underlying hk, sizeOf, typeInfo, hi, hsrc.len, hsrc.cells]
    · exact grow none 0 (by simpa using run_firstCells_none w.drew i.size 0 0 0) (by omega)
  · by_cases hroom : n + m ≤ cap
    · have hfitk : (n + m) * k ≤ cap * k := Nat.mul_le_mul_right _ hroom
      have hr := run_append_room_src (P := P) w t tx ty e i ht hi b 0 n cap x m news hsrc hroom
        (fun j hj => by rw [hsz, Nat.zero_add]; exact (h6 _ (by rw [hnl] at hj; rw [Nat.add_mul] at hfitk; omega)).1) (fun j hj => by rw [hsz, Nat.zero_add]; exact (h6 _ (by rw [hnl] at hj; rw [Nat.add_mul] at hfitk; omega)).2)
      rw [hsz, Nat.zero_add] at hr
      obtain ⟨g1, g2, g3, g4, g5⟩ := heap_setCells news b (n * k) w
      refine ⟨_, _, hr, ⟨htot, .inr ⟨b, cap, rfl, h2, by rw [g1]; exact h3, hroom, h5, fun j hj => ?_, fun j u hu => ?_⟩⟩, ?_, .inl rfl⟩
      · exact ⟨World.isSome_setCells b news (n * k) w _ (h6 j hj).1, by rw [World.frozen?_setCells]; exact (h6 j hj).2⟩
      · have hjl : j < (cs ++ news).length := (List.getElem?_eq_some_iff.1 hu).1
        rw [htot] at hjl
        by_cases e1 : j < cs.length
        · rw [List.getElem?_append_left e1] at hu
          rw [World.cell?_setCells_out b news (n * k) w ⟨b, j, none⟩ (fun _ _ => .inl (by show j < n * k; omega))]
          exact h7 j u hu
        · rw [List.getElem?_append_right (by omega)] at hu
          have hj2 : j - cs.length < news.length := (List.getElem?_eq_some_iff.1 hu).1
          have hin := World.cell?_setCells_in b news (n * k) w (fun i hi => (h6 _ (by rw [hnl] at hi; rw [Nat.add_mul] at hfitk; omega)).1) (j - cs.length) hj2
          rw [show n * k + (j - cs.length) = j by omega] at hin
          rw [hin, ← hu, List.getElem?_eq_getElem hj2]
      · refine ⟨g3, g4, g5, by rw [g1]; exact Nat.le_refl _, fun i hi hn => g2 i (fun e => hn ?_)⟩
        subst e; rfl
    · refine grow (some ⟨b, 0, none⟩) cap (run_firstCells_some w.drew i.size n ⟨b, 0, none⟩ n cap cs (by rw [hsz]; exact hlen) (fun j u hu => ?_)) (by omega)
      have e2 : (⟨b, 0, none⟩ : Addr).add j = ⟨b, j, none⟩ := by unfold Addr.add; split <;> simp_all
      rw [e2]
      exact h7 j u hu

theorem wp_append_rowW {w : World} {o : Oper} {a : Act} {K : Act → World → Prop} {Q : Exit → Act → World → Prop} (s x : Operand) (t tx : TypeId)
    (ho : o.op = .call { callee := .builtin .append, args := #[s, x], argTypes := #[t, tx] }) (k : Nat) (e : TypeId) (z : Value) (bytes : Nat) (ht : P.underlying t = some (.slice e)) (hinfo : (P.info? e).map (fun i => (i.zero, i.size, i.bytes)) = some (some z, k, bytes)) (hzk : z.cells.size = k)
    (B : Nat) (v : Value) (n : Nat) (cs : List Value) (hs : a.eval s = v) (h : Row k B w v n cs) (xv : Value) (hx : a.eval x = xv) (m : Nat) (news : List Value) (hsrc : Src P k tx xv m news w)
    (hB : B ≤ w.heap.size) (hl : n + m ≤ 1099511627776) (hb : bytes ≤ 128)
    (hK : ∀ v' w', Row k B w' v' (n + m) (cs ++ news) → Off (fun i => v.ownBlock = some i) w w' → (v'.ownBlock = v.ownBlock ∨ v'.ownBlock = some w.heap.size) → K (a.put o.dst v') w') : o.wp P a w K Q := by
  obtain ⟨v', w', hr, h2, h3, h4⟩ := run_append_rowW (P := P) t tx o.type e z bytes ht hinfo hzk h xv m news hsrc hB hl hb
  unfold Oper.wp execOp
  simp only [ho, resolve, invoke, builtin, Sem.run_bind, Sem.run_pure, Result.andThen_ok, List.map_toArray, List.map_cons, List.map_nil, hs, hx, hr]
  exact hK v' w' h2 h3 h4

end
end Go.Proofs.YtojnagonhihknaaGreatDoor
set_option linter.unusedVariables false
namespace Go.Proofs.YtojnagonhihknaaGreatDoor
open Go.ChangeShapes Go.WideShapes Go.ChangeAt Go.RowKit Go.Shelf
attribute [local go_sem] Oper.semAt_some

theorem infoN7 : (Tryz.prog.info? 49).map (fun i => (i.zero, i.size, i.bytes)) = some (some (.agg #[.string ByteArray.empty, .string ByteArray.empty, .slice none 0 0, .slice none 0 0]), 4, 80) := by kernel_rfl
structure OutN (E : Bes) (B : Nat) (w : World) (v : Value) (zs : Lb) : Prop where
  row : Row 4 B w v zs.length (zs.flatMap (encN E))
  pos : ∀ b, v.ownBlock = some b → 0 < zs.length
theorem OutN.nil (E : Bes) (B : Nat) (w : World) : OutN E B w (.slice none 0 0) [] := ⟨Row.nil _ _ _, by intro b h; cases h⟩
theorem OutN.cells {E : Bes} {B : Nat} {w : World} {v : Value} {zs : Lb} (h : OutN E B w v zs) {b : Nat} (hb : v.ownBlock = some b) : ∃ u, w.cell? ⟨b, 0, none⟩ = some u := by
  obtain ⟨b', cap, hv, _, _, hc, _, hf, _⟩ := h.row.pos (h.pos b hb)
  rw [hv] at hb
  injection hb with hb
  subst hb
  exact Option.isSome_iff_exists.1 (hf 0 (by have := h.pos b' (by rw [hv]; rfl); omega)).1
theorem OutN.kept {E : Bes} {B : Nat} {w w' : World} {row : Option Nat} {v : Value} {zs : Lb} (h : OutN E B w v zs) (hg : w.grownBy w' row) (hr : ∀ r, row = some r → ∃ o : Obj, w.heap[r]? = some o ∧ o.isCells = false) : OutN E B w' v zs := by
  refine ⟨h.row.carry hg.size fun b hb => ?_, h.pos⟩
  obtain ⟨u, hu⟩ := h.cells hb
  obtain ⟨o, ho, hc⟩ := cells_of_cell hu
  exact grownBy_keeps_cells hg hr ho hc
theorem keepsN_off {w w' : World} {v : Value} (ho : Off (fun i => v.ownBlock = some i) w w') (hc : ∀ b, v.ownBlock = some b → ∃ u, w.cell? ⟨b, 0, none⟩ = some u) : KeepsOthers w w' :=
  ⟨ho.size, fun k o hk hn => by
    refine (ho.block k (Array.getElem?_eq_some_iff.1 hk).1 (fun e => ?_)).trans hk
    obtain ⟨u, hu⟩ := hc k e
    obtain ⟨o', ho', hc'⟩ := cells_of_cell hu
    have : o' = o := Option.some.inj (ho'.symm.trans hk)
    subst this
    rw [hn] at hc'; cases hc'⟩
theorem keepsN_below {w w' : World} (h : Below w.heap.size w w') : KeepsOthers w w' :=
  ⟨h.size, fun k o hk hn => (h.block k (Array.getElem?_eq_some_iff.1 hk).1).trans hk⟩
def AllN (E : Bes) (p : Nat) (zs : Lb) (W : World) : Prop := (∃ v, W.cell? ⟨p, 0, none⟩ = some v ∧ OutN E (p + 1) W v zs) ∧ W.frozen? ⟨p, 0, none⟩ = false ∧ p + 1 ≤ W.heap.size
theorem AllN.kept {E : Bes} {p : Nat} {zs : Lb} {W W' : World} {row : Option Nat} (hs : AllN E p zs W) (hg : W.grownBy W' row) (hr : ∀ r, row = some r → ∃ o : Obj, W.heap[r]? = some o ∧ o.isCells = false) : AllN E p zs W' := by
  obtain ⟨⟨v, hv, ho⟩, hf, hB⟩ := hs
  exact ⟨⟨v, cell_kept hv hg hr, ho.kept hg hr⟩, (frozen_kept hv hg hr).trans hf, Nat.le_trans hB hg.size⟩
theorem all_pushN {E : Bes} {t : ByteArray} {a1 a2 : Option Addr} {n1 c1 n2 c2 : Nat} {w W : World} {p Bs : Nat} {zs : Lb} {va : Option Addr} {ol vc : Nat} (x : ByteArray) (hex : encN E x = [.string x, .string t, .slice a1 n1 c1, .slice a2 n2 c2]) (hs : AllN E p zs W) (hv : W.cell? ⟨p, 0, none⟩ = some (.slice va ol vc)) (hol : ol = zs.length) (hlen : zs.length ≤ 1000000)
    (hp : p = w.heap.size) (hBs : Bs < w.heap.size) (hBW : Below w.heap.size w W) :
    (W.alloc (.cells #[.string x, .string t, .slice a1 n1 c1, .slice a2 n2 c2] 49)).cell? ⟨p, 0, none⟩ = some (.slice va ol vc) ∧
    ∃ a6 c6 w6, (Builtin.append_ #[22, 22] 22 #[.slice va ol vc, .slice (some ⟨W.heap.size, 0, none⟩) 1 1]).run Tryz.prog (W.alloc (.cells #[.string x, .string t, .slice a1 n1 c1, .slice a2 n2 c2] 49)) = .ok (.slice a6 (ol + 1) c6) w6 ∧
      w6.cell? ⟨p, 0, none⟩ = some (.slice va ol vc) ∧ w6.frozen? ⟨p, 0, none⟩ = false ∧
      AllN E p (zs ++ [x]) (w6.setCell ⟨p, 0, none⟩ (.slice a6 (ol + 1) c6)) ∧ Off (fun i => w.heap.size ≤ i ∧ i ≠ Bs) W (w6.setCell ⟨p, 0, none⟩ (.slice a6 (ol + 1) c6)) ∧
      KeepsOthers W (w6.setCell ⟨p, 0, none⟩ (.slice a6 (ol + 1) c6)) ∧ Below w.heap.size w (w6.setCell ⟨p, 0, none⟩ (.slice a6 (ol + 1) c6)) := by
  have hb : Below W.heap.size W (W.alloc (.cells #[.string x, .string t, .slice a1 n1 c1, .slice a2 n2 c2] 49)) := (Below.refl _ W).alloc (Nat.le_refl _) _
  obtain ⟨⟨v, hv1, ho⟩, hf, hBz⟩ := hs
  rw [hv] at hv1
  injection hv1 with hv1
  subst hv1
  have hv2 := (hb.cell (p := ⟨p, 0, none⟩) (cell_lt hv)).trans hv
  have hf2 := (hb.frozen (p := ⟨p, 0, none⟩) (cell_lt hv)).trans hf
  have ho2 : OutN E (p + 1) (W.alloc (.cells #[.string x, .string t, .slice a1 n1 c1, .slice a2 n2 c2] 49)) (.slice va ol vc) zs := ⟨ho.row.below hb, ho.pos⟩
  have hBz2 : p + 1 ≤ (W.alloc (.cells #[.string x, .string t, .slice a1 n1 c1, .slice a2 n2 c2] 49)).heap.size := Nat.le_trans hBz hb.size
  have hsrc : Src Tryz.prog 4 22 (.slice (some ⟨W.heap.size, 0, none⟩) 1 1) 1 [.string x, .string t, .slice a1 n1 c1, .slice a2 n2 c2] (W.alloc (.cells #[.string x, .string t, .slice a1 n1 c1, .slice a2 n2 c2] 49)) := src_new Tryz.underlying22 [.string x, .string t, .slice a1 n1 c1, .slice a2 n2 c2] 1 49 1 rfl (by intro u hu; simp only [List.mem_cons, List.not_mem_nil, or_false] at hu; rcases hu with rfl | rfl | rfl | rfl <;> rfl)
  obtain ⟨W2, hW2⟩ : ∃ W2, W2 = W.alloc (.cells #[.string x, .string t, .slice a1 n1 c1, .slice a2 n2 c2] 49) := ⟨_, rfl⟩
  rw [← hW2] at hb hv2 hf2 ho2 hBz2 hsrc ⊢
  clear hW2
  have hrow := ho2.row
  rw [← hol] at hrow
  obtain ⟨v', w6, hr6, hrow6, ho6, hw6⟩ := run_append_rowW (P := Tryz.prog) (w := W2) 22 22 22 49 (.agg #[.string ByteArray.empty, .string ByteArray.empty, .slice none 0 0, .slice none 0 0]) 80 Tryz.underlying22 infoN7 rfl hrow _ _ _ hsrc hBz2 (by omega) (by decide)
  obtain ⟨a6, c6, hv6⟩ := hrow6.form
  subst hv6
  have hown : ¬ (Value.slice va ol vc).ownBlock = some p := fun e => by have := (hrow.lt p e).1; omega
  have hc6 := (ho6.cell (p := ⟨p, 0, none⟩) (cell_lt hv2) hown).trans hv2
  have hf6 := (ho6.frozen (p := ⟨p, 0, none⟩) (cell_lt hv2) hown).trans hf2
  have ho7 : Off (fun i => (Value.slice va ol vc).ownBlock = some i) W w6 := (Off.of_below hb).trans ho6
  have hz : ∀ i, (Value.slice va ol vc).ownBlock = some i → w.heap.size ≤ i ∧ i ≠ Bs := fun i hi => by have := (hrow.lt i hi).1; omega
  have hoz : Off (fun i => w.heap.size ≤ i ∧ i ≠ Bs) W w6 := ho7.mono hz
  have hset : Off (fun i => w.heap.size ≤ i ∧ i ≠ Bs) W (w6.setCell ⟨p, 0, none⟩ (.slice a6 (ol + 1) c6)) := Off.setCell (Z := fun i => w.heap.size ≤ i ∧ i ≠ Bs) hoz (p := ⟨p, 0, none⟩) (.inr (by show w.heap.size ≤ p ∧ p ≠ Bs; omega)) _
  refine ⟨hv2, a6, c6, w6, hr6, hc6, hf6, ⟨⟨.slice a6 (ol + 1) c6, World.cell?_setCell_same _ _ _ hc6, ⟨?_, fun b _ => by simp⟩⟩, by rw [World.frozen?_setCell]; exact hf6, ?_⟩, hset, ?_, ?_⟩
  · rw [List.length_append, List.flatMap_append, List.length_singleton, ← hol, List.flatMap_cons, List.flatMap_nil, List.append_nil, hex]
    exact hrow6.setOther (p := ⟨p, 0, none⟩) (fun e => by have := (hrow6.lt _ e).1; simp only at this; omega) _
  · have := ho6.size; simp only [World.setCell, Array.size_modify]; omega
  · exact ((keepsN_below hb).trans (keepsN_off ho6 (fun b hb => ho2.cells hb))).trans (KeepsOthers.setCell _ _ _)
  · exact hBW.trans (hset.below (fun i hi => hi.1) hBW.size)

attribute [-go_sem] Builtin.append_
set_option maxHeartbeats 4000000 in
set_option maxRecDepth 100000 in
theorem nappendSeq_any (E : Bes) (hE : SlE E) (zs : Lb) (Bs : Nat) (a : Option Addr) (n c : Nat) (w : World) (hn : n = zs.length) (hnn : n ≤ 1000000) (hc : w.cell? ⟨Bs, 0, none⟩ = some (.slice a n c))
    (hI : ∀ j x, zs[j]? = some x → ∃ b o, a = some ⟨b, o, none⟩ ∧ b < w.heap.size ∧ EntAt w b (o + j * 4) E x) :
    Calls Tryz.prog 114 #[.slice none 0 0, .func (.func 84) #[] #[.pointer (some ⟨Bs, 0, none⟩)]] w fun e w' => ∃ ov, e = .returned ov ∧ OutN E (w.heap.size + 1) w' ov zs ∧ Below w.heap.size w w' := by
  have hBs : Bs < w.heap.size := cell_lt hc
  have hbx : Below w.heap.size w (w.alloc (.cells #[.slice none 0 0] 22)) := (Below.refl _ _).alloc (Nat.le_refl _) _
  have hp0 : (w.alloc (.cells #[.slice none 0 0] 22)).cell? ⟨w.heap.size, 0, none⟩ = some (.slice none 0 0) := World.cell?_alloc_at _ _ _ _ rfl
  have hpf : (w.alloc (.cells #[.slice none 0 0] 22)).frozen? ⟨w.heap.size, 0, none⟩ = false := World.frozen?_alloc_at _ _ _ _ rfl
  have hAll : AllN E w.heap.size [] (w.alloc (.cells #[.slice none 0 0] 22)) := ⟨⟨_, hp0, OutN.nil _ _ _⟩, hpf, by simp⟩
  have hc2 := (hbx.cell (p := ⟨Bs, 0, none⟩) hBs).trans hc
  have hI2 : ∀ j x, zs[j]? = some x → ∃ b o, a = some ⟨b, o, none⟩ ∧ b < w.heap.size ∧ EntAt (w.alloc (.cells #[.slice none 0 0] 22)) b (o + j * 4) E x := fun j x hx => by
    obtain ⟨b, o, e, hb, h⟩ := hI j x hx
    exact ⟨b, o, e, hb, fun i v hv => (hbx.cell (p := ⟨b, o + j * 4 + i, none⟩) hb).trans (h i v hv)⟩
  have HC2 := Lib.hid hc2
  have HI2 := Lib.hid hI2
  have HALL := Lib.hid hAll
  have HBX := Lib.hid hbx
  have HN := Lib.hid hn
  clear hc2 hI2 hAll hbx hp0 hpf hc hI
  refine (callsIn_wide (n := 6)).1 ?_
  refine callsIn_of_wp_marks Tryz.func114 rfl trivial ?_ rfl
  simp only [Tryz.ntmps114, List.size_toArray, List.length_cons, List.length_nil, Nat.reduceAdd, Nat.reduceSub, Array.replicate_succ, Array.replicate_zero, List.push_toArray, List.append_toArray, List.nil_append, List.cons_append]
  gi_wp2_with fail
  obtain ⟨W0, hW0⟩ : ∃ W0, w.alloc (.cells #[.slice none 0 0] 22) = W0 := ⟨_, rfl⟩
  rw [hW0] at HC2 HI2 HALL HBX ⊢
  have hsz : w.heap.size + 1 = W0.heap.size := by rw [← hW0]; simp
  clear hW0
  obtain ⟨tx0, htx⟩ : ∃ f : List (NX zs) → Lb, f = fun pre => pre.map fun x => zs[x.1]'x.2 := ⟨_, rfl⟩
  have ht0 : tx0 [] = [] := by rw [htx]; rfl
  have hts : ∀ pre x, tx0 (pre ++ [x]) = tx0 pre ++ [zs[x.1]'x.2] := fun pre x => by rw [htx]; simp
  have htl : ∀ pre, (tx0 pre).length = pre.length := fun pre => by rw [htx]; simp
  have htf : tx0 (nxs zs zs.length) = zs := by rw [htx]; exact nxs_map zs
  clear htx
  refine wpIn_rangeFunc_ownH rfl (by omega) (gf := 84) (lb := #[.pointer (some ⟨Bs, 0, none⟩)]) rfl trivial (enters_of Tryz.func84 (by kernel_rfl) rfl)
    (nvalues_stops Fence.wide _ trivial rfl (by omega) Bs w.heap.size a n c E hE zs hn (by omega) W0 HBX.out.size HC2.out HI2.out) (fun h k => Off.trans h k) (fun W l o o' hl ho _ _ => by
      have hg := grownBy_putObj' W l o'
      exact ⟨hg.os, hg.tape, hg.output, hg.size, fun i hi hz => hg.block i hi (fun e => hz (by injection e with e; omega))⟩) (Below.refl _ _) (fun _ => rfl)
    (fun pre W => AllN E w.heap.size (tx0 pre) W ∧ Below w.heap.size w W)
    (fun _ _ _ => False)
    (OwnFrom.and (Own.from (fun pre X Y row hs hg hr => hs.kept hg hr) _) (ownFrom_below (Nat.le_refl _) (by omega)))
    (fun _ _ _ _ _ hs _ _ => hs)
    (by rw [ht0]; exact ⟨HALL.out, HBX.out⟩)
    (fun x a' W => ∃ vb : Nat, (W.cell? ⟨vb, 0, none⟩ = some (.string (zs[x.1]'x.2)) ∧ W.cell? ⟨vb, 1, none⟩ = some (.string (E (zs[x.1]'x.2)).1) ∧ W.cell? ⟨vb, 2, none⟩ = some (E (zs[x.1]'x.2)).2.1 ∧ W.cell? ⟨vb, 3, none⟩ = some (E (zs[x.1]'x.2)).2.2) ∧ a' = { tmps := #[.slice none 0 0, .func (.func 84) #[] #[.pointer (some ⟨Bs, 0, none⟩)], .pointer (some ⟨w.heap.size, 0, none⟩), undef, .slice none 0 0, .pointer (some ⟨vb, 0, none⟩), .func (.func 84) #[] #[.pointer (some ⟨Bs, 0, none⟩)], npE E (zs[x.1]'x.2), undef, undef, undef, undef, undef], defers := [] })
    (fun x a' _ X Y row hs hg hr => by
      obtain ⟨vb, ⟨h0, h1, h2, h3⟩, he⟩ := hs
      have hr2 := fun r e => (hr r e).2
      exact ⟨vb, ⟨cell_kept h0 hg hr2, cell_kept h1 hg hr2, cell_kept h2 hg hr2, cell_kept h3 hg hr2⟩, he⟩)
    ?assign ?body ?done ?stop
  case assign =>
    rintro l pre x W K ⟨hA1, hB1⟩ hK
    have HK := Lib.hid hK
    have HA1 := Lib.hid hA1
    have HB1 := Lib.hid hB1
    clear hK hA1 hB1
    obtain ⟨z, hz⟩ : ∃ z, z = zs[x.1]'x.2 := ⟨_, rfl⟩
    obtain ⟨⟨a1, n1, c1, hdv⟩, a2, n2, c2, hov⟩ := hE z
    obtain ⟨t, ht⟩ : ∃ t, t = (E z).1 := ⟨_, rfl⟩
    have hnp : npE E z = npV z t (.slice a1 n1 c1) (.slice a2 n2 c2) := by unfold npE; rw [hdv, hov, ← ht]
    have hev : encVN E zs x = #[npV z t (.slice a1 n1 c1) (.slice a2 n2 c2)] := by
      rw [← hnp, hz]
    simp only [← hz] at HK
    rw [hnp, hdv, hov, ← ht] at HK
    rw [hev]
    have hb : Below W.heap.size W (W.alloc (.cells #[.string z, .string t, .slice a1 n1 c1, .slice a2 n2 c2] 49)) := (Below.refl _ _).alloc (Nat.le_refl _) _
    have hce : ∀ j, (W.alloc (.cells #[.string z, .string t, .slice a1 n1 c1, .slice a2 n2 c2] 49)).cell? ⟨W.heap.size, j, none⟩ = #[Value.string z, .string t, .slice a1 n1 c1, .slice a2 n2 c2][j]? := fun j => World.cell?_alloc_at _ _ _ _ rfl
    have HBB := Lib.hid hb
    have HCE := Lib.hid hce
    clear hb hce hnp hev hdv hov ht hz
    gi_wp2_with fail
    exact HK.out _ _ ((keepsN_below HBB.out).from _) (Off.of_below HBB.out) ⟨HA1.out.kept (World.grownBy_alloc W _ none) (fun r e => by cases e), HB1.out.trans (HBB.out.mono HB1.out.size)⟩ ⟨_, ⟨HCE.out 0, HCE.out 1, HCE.out 2, HCE.out 3⟩, rfl⟩
  case body =>
    rintro l pre x a' W hl ⟨r, hlr⟩ ⟨hA1, hB1⟩ ⟨vb, ⟨e0, e1, e2, e3⟩, rfl⟩ hplt
    obtain ⟨z, hz⟩ : ∃ z, z = zs[x.1]'x.2 := ⟨_, rfl⟩
    have hstx := hts pre x
    obtain ⟨⟨a1, n1, c1, hdv⟩, a2, n2, c2, hov⟩ := hE z
    obtain ⟨t, ht⟩ : ∃ t, t = (E z).1 := ⟨_, rfl⟩
    have hnp : npE E z = npV z t (.slice a1 n1 c1) (.slice a2 n2 c2) := by unfold npE; rw [hdv, hov, ← ht]
    have hex : encN E z = [.string z, .string t, .slice a1 n1 c1, .slice a2 n2 c2] := by unfold encN; rw [hdv, hov, ← ht]
    rw [← hz] at hstx e0 e1 e2 e3 ⊢
    rw [← ht] at e1
    rw [hdv] at e2
    rw [hov] at e3
    rw [hnp]
    clear hnp hdv hov ht
    have hmx : Tryz.prog.follows .mixedOrders = true := by kernel_rfl
    have hA := hA1
    obtain ⟨⟨v, hv, ho⟩, hf, hBz⟩ := hA1
    obtain ⟨va, vc, hvv⟩ := ho.row.form
    obtain ⟨ol, hol⟩ : ∃ ol, ol = (tx0 pre).length := ⟨_, rfl⟩
    rw [← hol] at hvv
    subst hvv
    obtain ⟨hv2a, a6, c6, w6, hr6, hc6, hf6, hq1, hq2, hq3, hq4⟩ := all_pushN (w := w) (Bs := Bs) z hex hA hv hol (by rw [htl]; omega) rfl hBs hB1
    have HR6 := Lib.hid hr6
    have HQ1 := Lib.hid hq1
    have HQ2 := Lib.hid hq2
    have HQ3 := Lib.hid hq3
    have HQ4 := Lib.hid hq4
    have HSX := Lib.hid hstx
    clear hr6 hq1 hq2 hq3 hq4 hex hA ho hB1 hstx hol hz
    gi_wp2_with (rw [HR6.out])
    exact ⟨HQ3.out.from _, HQ2.out, by simp only [HSX.out]; exact ⟨HQ1.out, HQ4.out⟩⟩
  case done =>
    rintro D ys W hD rfl ⟨⟨⟨v, hv, ho⟩, hf, hBz⟩, hB⟩ hK
    rw [htf] at ho
    have hg := grownBy_putObj' W D (.deferred none)
    have HRD := Lib.hid (ho.kept hg (fun r e => by injection e with e; subst e; exact ⟨_, hK, rfl⟩))
    have hOD : Off (fun i => i = D) W (W.putObj D (.deferred none)) := ⟨hg.os, hg.tape, hg.output, hg.size, fun i hi hz => hg.block i hi (fun e => hz (by injection e))⟩
    have HBD := Lib.hid (hB.trans (hOD.below (fun i hi => by omega) hB.size))
    obtain ⟨va, vc, hvv⟩ := ho.row.form
    subst hvv
    clear ho hB hf hg hOD
    gi_wp2_with fail
    refine ⟨by simp, .inl ⟨_, _, rfl, run_takeDeferred hK, ?_⟩⟩
    refine ⟨_, results_tmp rfl _ _ _, _, rfl, ?_, HBD.out⟩
    exact HRD.out
  case stop =>
    rintro D c pre W _ _ h _
    exact h.elim
end Go.Proofs.YtojnagonhihknaaGreatDoor
