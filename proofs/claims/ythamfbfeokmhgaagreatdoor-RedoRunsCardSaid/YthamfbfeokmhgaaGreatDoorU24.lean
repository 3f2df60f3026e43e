/- The contract of List: forms whose lists may have lists in them. -/
import Derived.Test.YthamfbfeokmhgaaGreatDoorU21
import Derived.Test.YthamfbfeokmhgaaGreatDoorU23
set_option linter.unusedVariables false
namespace Go.Proofs.YthamfbfeokmhgaaGreatDoor
open Go.ChangeShapes Go.WideShapes Go.ChangeAt Go.RowKit

structure MadeZ (Z : Nat → Prop) (w : World) (v : Value) (es : List FE) : Prop where
  row : Row 3 0 w v es.length (fcells es)
  own : ∀ g, v.ownBlock = some g → Z g
  sub : ∀ p ∈ es, p.2.1.size ≤ 140737488355328 ∧ SlU (fun i => Z i ∧ v.ownBlock ≠ some i) w p.2.2.2 p.2.2.1

theorem MadeZ.off {Z Y : Nat → Prop} {w w' : World} {v : Value} {es : List FE} (h : MadeZ Z w v es) (ho : Off Y w w') (hz : ∀ i, Z i → ¬ Y i) : MadeZ Z w' v es :=
  ⟨h.row.off ho fun b hb => hz b (h.own b hb), h.own, fun p hp => ⟨(h.sub p hp).1, (h.sub p hp).2.off ho fun i hi => hz i hi.1⟩⟩
theorem MadeZ.sl {Z : Nat → Prop} {w : World} {v : Value} {es : List FE} (h : MadeZ Z w v es) : SlU Z w v (es.map FE.tm) := by
  by_cases e : es = []
  · subst e
    obtain ⟨a, c, hv, h1, h2⟩ := h.row.form'
    rw [hv]
    exact .nil a c h2
  · obtain ⟨b, cap, hv, h1, h2, h3, h4, h5, h6⟩ := h.row.pos (List.length_pos_iff.2 e)
    have hzb := h.own b (by rw [hv]; rfl)
    rw [hv]
    have := SlU.of_row (Z := Z) (w := w) (b := b) (o := 0) (c := cap) (xs := es.map FE.tm) ⟨⟨hzb, (h5 0 (by have := List.length_pos_iff.2 e; omega)).2⟩, h2, fun j l t ys hj => by
      rw [List.getElem?_map] at hj
      obtain ⟨p, hp, hpe⟩ := Option.map_eq_some_iff.1 hj
      obtain ⟨l', t', ys', s'⟩ := p
      injection hpe with e1 e2 e3
      dsimp only at e1 e2 e3
      subst e1; subst e2; subst e3
      obtain ⟨c1, c2, c3⟩ := fcells_at hp
      obtain ⟨g1, g2⟩ := h.sub _ (List.mem_of_getElem? hp)
      have g3 : SlU Z w s' ys' := g2.mono fun i _ hi => hi.1
      obtain ⟨a', c', es', _, _⟩ := g3.form
      rw [Nat.zero_add]
      refine ⟨a', c', h6 _ _ c1, h6 _ _ c2, ?_, g1, ?_⟩
      · rw [← es']; exact h6 _ _ c3
      · rw [← es']; exact g3⟩ (by simpa using e) (by rw [List.length_map]; exact h3) h4
    rw [List.length_map] at this
    exact this

theorem MadeZ.setItems {Z : Nat → Prop} {w : World} {a : Option Addr} {n c : Nat} {es : List FE} {k : Nat} {l : Bool} {t : ByteArray} {ys : List Tm} {s s' : Value} (h : MadeZ Z w (.slice a n c) es) (hk : es[k]? = some (l, t, ys, s)) (hs : SlU (fun i => Z i ∧ (Value.slice a n c).ownBlock ≠ some i) w s' ys) :
    ∃ g, a = some ⟨g, 0, none⟩ ∧ Z g ∧ g < w.heap.size ∧ w.cell? ⟨g, k * 3, none⟩ = some (.bool l) ∧ w.cell? ⟨g, k * 3 + 1, none⟩ = some (.string t) ∧ w.cell? ⟨g, k * 3 + 2, none⟩ = some s ∧ w.frozen? ⟨g, k * 3 + 2, none⟩ = false ∧
      MadeZ Z (w.setCell ⟨g, k * 3 + 2, none⟩ s') (.slice a n c) (es.set k (l, t, ys, s')) := by
  have hkl := (List.getElem?_eq_some_iff.1 hk).1
  obtain ⟨h0, hr⟩ := h.row
  obtain ⟨b, cap, hv, h1, h2, h3, h4, h5, h6⟩ := h.row.pos (by omega)
  injection hv with e1 e2 e3
  subst e1
  subst e3
  have hzb : Z b := h.own b rfl
  obtain ⟨c1, c2, c3⟩ := fcells_at hk
  have hcap : k * 3 + 2 < c * 3 := by omega
  refine ⟨b, rfl, hzb, h2, h6 _ _ c1, h6 _ _ c2, h6 _ _ c3, (h5 _ hcap).2, ⟨⟨?_, .inr ⟨b, c, by rw [List.length_set]; exact congrArg (fun m => Value.slice (some ⟨b, 0, none⟩) m c) e2, h1, by simpa [World.setCell] using h2, by rw [List.length_set]; exact h3, h4, fun j hj => ⟨?_, ?_⟩, fun j u hu => ?_⟩⟩, fun g hg => ?_, fun p hp => ?_⟩⟩
  · rw [fcells_len, List.length_set]
  · by_cases e : k * 3 + 2 = j
    · subst e
      rw [World.cell?_setCell_same _ _ _ (h6 _ _ c3)]; rfl
    · rw [World.cell?_setCell_other _ _ _ _ (fun h => e (by injection h))]
      exact (h5 j hj).1
  · rw [World.frozen?_setCell]; exact (h5 j hj).2
  · have hset : fcells (es.set k (l, t, ys, s')) = (fcells es).set (k * 3 + 2) s' := by
      have e1 : es = es.take k ++ [(l, t, ys, s)] ++ es.drop (k + 1) := by
        obtain ⟨_, e⟩ := List.getElem?_eq_some_iff.1 hk
        rw [List.append_assoc, List.singleton_append, ← e, List.getElem_cons_drop, List.take_append_drop]
      have hl : (es.take k).length = k := by rw [List.length_take]; omega
      have hl3 : (fcells (es.take k)).length = k * 3 := by rw [fcells_len, hl]
      have e2 : es.set k (l, t, ys, s') = es.take k ++ [(l, t, ys, s')] ++ es.drop (k + 1) := by
        rw [List.set_eq_take_append_cons_drop, if_pos hkl]; simp
      rw [e2]
      conv => rhs; rw [e1]
      rw [fcells_app, fcells_app, fcells_app, fcells_app, fcells_one, fcells_one, List.append_assoc, List.append_assoc, List.set_append_right _ _ (by omega), hl3, show k * 3 + 2 - k * 3 = 2 by omega]
      rfl
    rw [hset] at hu
    by_cases e : k * 3 + 2 = j
    · subst e
      rw [List.getElem?_set_self (by rw [fcells_len]; omega)] at hu
      rw [World.cell?_setCell_same _ _ _ (h6 _ _ c3)]
      exact hu
    · rw [List.getElem?_set_ne e] at hu
      rw [World.cell?_setCell_other _ _ _ _ (fun h => e (by injection h))]
      exact h6 j u hu
  · injection hg with hg; subst hg; exact hzb
  · have hz : ∀ {x : Value} {zs : List Tm}, SlU (fun i => Z i ∧ (Value.slice (some ⟨b, 0, none⟩) n c).ownBlock ≠ some i) w x zs → SlU (fun i => Z i ∧ (Value.slice (some ⟨b, 0, none⟩) n c).ownBlock ≠ some i) (w.setCell ⟨b, k * 3 + 2, none⟩ s') x zs := fun hx => hx.carry fun i hi hh => ⟨Below.heap_setCell _ _ _ _ (fun e => hh.2 (by rw [e]; rfl)), hh⟩
    rcases List.mem_or_eq_of_mem_set hp with hp | hp
    · exact ⟨(h.sub p hp).1, hz (h.sub p hp).2⟩
    · subst hp
      exact ⟨(h.sub _ (List.mem_of_getElem? hk)).1, hz hs⟩

theorem SlU.src {Z : Nat → Prop} {w : World} {v : Value} {xs : List Tm} (h : SlU Z w v xs) :
    ∃ es : List FE, es.map FE.tm = xs ∧ es.length = xs.length ∧ Src Tryz.prog 3 96 v xs.length (fcells es) w ∧ ∀ p ∈ es, p.2.1.size ≤ 140737488355328 ∧ SlU Z w p.2.2.2 p.2.2.1 := by
  by_cases e : xs = []
  · subst e
    obtain ⟨a, c, rfl, h1, h2⟩ := h.form
    refine ⟨[], rfl, rfl, ?_, by simp⟩
    cases a with
    | none => exact Src.ofNil w Tryz.underlying96 c
    | some b => exact Src.ofSlice w Tryz.underlying96 b 0 c [] rfl (by simp) (by simp)
  · obtain ⟨b, o, c, rfl, h1, h2, h3, h4, h5⟩ := h.pos e
    obtain ⟨es, hl, hq⟩ := list_of (fun (i : Nat) (p : FE) => ∃ x, xs[i]? = some x ∧ p.tm = x ∧ w.cell? ⟨b, o + i * 3, none⟩ = some (.bool p.1) ∧ w.cell? ⟨b, o + i * 3 + 1, none⟩ = some (.string p.2.1) ∧ w.cell? ⟨b, o + i * 3 + 2, none⟩ = some p.2.2.2 ∧ p.2.1.size ≤ 140737488355328 ∧ SlU Z w p.2.2.2 p.2.2.1 ∧ ∃ a c, p.2.2.2 = .slice a p.2.2.1.length c) xs.length (fun i hi => by
      obtain ⟨x, hx⟩ : ∃ x, xs[i]? = some x := ⟨_, List.getElem?_eq_getElem hi⟩
      obtain ⟨l, t, ys⟩ := x
      obtain ⟨a', c', k1, k2, k3, k4, k5⟩ := h5 i l t ys hx
      exact ⟨(l, t, ys, .slice a' ys.length c'), _, hx, rfl, k1, k2, k3, k4, k5, a', c', rfl⟩)
    have hmap : es.map FE.tm = xs := by
      apply List.ext_getElem?
      intro i
      rw [List.getElem?_map]
      cases hp : es[i]? with
      | none =>
        have := List.getElem?_eq_none_iff.1 hp
        rw [List.getElem?_eq_none (by omega)]; rfl
      | some p =>
        obtain ⟨x, hx, hpx, _⟩ := hq i p hp
        rw [hx, ← hpx]; rfl
    refine ⟨es, hmap, hl, ?_, fun p hp => ?_⟩
    · refine Src.ofSlice w Tryz.underlying96 _ _ c (fcells es) (by rw [fcells_len, hl]) (fun j u hj => ?_) (fun u hu => ?_)
      · have e2 : (⟨b, o, none⟩ : Addr).add j = ⟨b, o + j, none⟩ := by unfold Addr.add; split <;> simp_all
        rw [e2]
        have hjl : j < es.length * 3 := by rw [← fcells_len]; exact (List.getElem?_eq_some_iff.1 hj).1
        obtain ⟨p, hp⟩ : ∃ p, es[j / 3]? = some p := ⟨es[j / 3]'(by omega), by simp⟩
        obtain ⟨x, _, _, k1, k2, k3, _⟩ := hq _ p hp
        obtain ⟨c1, c2, c3⟩ := fcells_at hp
        have h012 : j = j / 3 * 3 ∨ j = j / 3 * 3 + 1 ∨ j = j / 3 * 3 + 2 := by omega
        rcases h012 with e | e | e
        · rw [e] at hj ⊢
          rw [c1] at hj; rw [k1]; exact hj
        · rw [e] at hj ⊢
          rw [c2] at hj; rw [← Nat.add_assoc, k2]; exact hj
        · rw [e] at hj ⊢
          rw [c3] at hj; rw [← Nat.add_assoc, k3]; exact hj
      · obtain ⟨p, hp, hq2⟩ := List.mem_flatMap.1 hu
        obtain ⟨i, hi⟩ := List.mem_iff_getElem?.1 hp
        obtain ⟨x, _, _, _, _, _, _, _, a', c', e'⟩ := hq i p hi
        simp only [List.mem_cons, List.not_mem_nil, or_false] at hq2
        rcases hq2 with rfl | rfl | rfl
        · rfl
        · rfl
        · rw [e']; rfl
    · obtain ⟨i, hi⟩ := List.mem_iff_getElem?.1 hp
      obtain ⟨x, _, _, _, _, _, k6, k7, _⟩ := hq i p hi
      exact ⟨k6, k7⟩

def OwnZ (Z : Nat → Prop) (pl : Nat) (L : Nat) (xs : List Tm) (w : World) (e : Ending) (w' : World) : Prop :=
  ∃ v es, e = .returned v ∧ es.map FE.tm = xs ∧ MadeZ Z w' v es ∧ Off (· = pl) w w' ∧ (∃ L' : Nat, L' ≤ L ∧ w'.cell? ⟨pl, 0, none⟩ = some (.int .i64 L')) ∧ w'.frozen? ⟨pl, 0, none⟩ = false

def OwnC (d : Nat) : Prop := ∀ (Z : Nat → Prop) (pl : Nat) (w : World) (a0 : Option Addr) (c0 : Nat) (xs : List Tm) (L : Nat), SlU Z w (.slice a0 xs.length c0) xs → (∀ i, w.heap.size ≤ i → Z i) → ¬ Z pl →
    w.cell? ⟨pl, 0, none⟩ = some (.int .i64 (L : Nat)) → w.frozen? ⟨pl, 0, none⟩ = false → xs.length ≤ L → L ≤ 65536 →
    Calls Tryz.prog 70 #[.slice a0 xs.length c0, .int .i64 (d : Nat), .pointer (some ⟨pl, 0, none⟩)] w (OwnZ Z pl L xs w)

set_option maxHeartbeats 4000000 in
set_option maxRecDepth 100000 in
theorem own_step (d : Nat) (IH : d < 8 → OwnC (d + 1)) : OwnC d := by
  intro Z pl w a0 c0 xs L hsl hzn hzp hc hf hnl hL1
  have hlt := cell_lt hc
  obtain ⟨es, hmap, hlen, hsrc, hsub⟩ := hsl.src
  obtain ⟨n, hn⟩ : ∃ n, n = xs.length := ⟨_, rfl⟩
  rw [← hn] at hsrc hlen hnl ⊢
  have HIH := Lib.hid IH
  have HS := Lib.hid hsrc
  have HN := Lib.hid hn
  have HL := Lib.hid hlen
  have HMAP := Lib.hid hmap
  have HSUB := Lib.hid hsub
  have HZN := Lib.hid hzn
  have HZP := Lib.hid hzp
  obtain ⟨M, hM⟩ : ∃ M, M = L - n := ⟨_, rfl⟩
  have HM := Lib.hid hM
  clear IH hsrc hn hlen hmap hsub hzn hzp hM hsl
  go_enter Tryz.func70, Tryz.ntmps70
  go_wp2_with (at_builtin; refine wpList_append_row rfl (.const (.slice none 0 0)) (.tmp 10) 96 96 rfl 3 101 (.agg #[.bool false, .string ByteArray.empty, .slice none 0 0]) 48 Tryz.underlying96 Tryz.infoForm rfl w.heap.size (.slice none 0 0) 0 [] (by simp [Act.eval]) (Row.nil _ _ _) (.slice a0 n c0) (by simp [Act.eval]) n (fcells es) (by exact HS.out) (Nat.le_refl _) (by omega) (by decide) ?_; intro v6 w6 hr6 ho6 hw6; obtain ⟨a6, c6, hv6⟩ := hr6.form; simp only [Nat.zero_add] at hv6; subst hv6; have k1 := (ho6.cell (p := ⟨pl, 0, none⟩) hlt (by simp [Value.ownBlock])).trans hc; have k2 := (ho6.frozen (p := ⟨pl, 0, none⟩) hlt (by simp [Value.ownBlock])).trans hf; have HR6 := Lib.hid hr6; have HO6 := Lib.hid ho6; have HW6 := Lib.hid hw6; clear hr6 ho6 hw6)
  have ho0 : Off (fun i => i = pl) w (w6.setCell ⟨pl, 0, none⟩ (.int .i64 ((L : Int) - (n : Int)))) := by
    have : Off (fun i => i = pl) w w6 := HO6.out.mono fun i hi => by cases hi
    exact this.setCell (p := ⟨pl, 0, none⟩) (.inr rfl) _
  have hgw : ∀ g, (Value.slice a6 n c6).ownBlock = some g → w.heap.size ≤ g := fun g hg => by
    have hr := HR6.out
    simp only [Nat.zero_add, List.nil_append] at hr
    exact (hr.lt g hg).1
  have HGW := Lib.hid hgw
  clear hgw
  have hm0 : MadeZ Z (w6.setCell ⟨pl, 0, none⟩ (.int .i64 ((L : Int) - (n : Int)))) (.slice a6 n c6) es := by
    have hr := HR6.out
    simp only [Nat.zero_add, List.nil_append] at hr
    have hg : ∀ g, (Value.slice a6 n c6).ownBlock = some g → w.heap.size ≤ g := fun g hg => (hr.lt g hg).1
    refine ⟨?_, fun g h => HZN.out g (hg g h), fun p hp => ?_⟩
    · rw [HL.out]
      exact (hr.setOther (fun h => by have := hg pl h; omega) _).mono (Nat.zero_le _)
    · obtain ⟨h1, h2⟩ := HSUB.out p hp
      refine ⟨h1, h2.carry fun i hi hz => ⟨ho0.block i hi (fun e => HZP.out (e ▸ hz)), hz, fun e => by have := hg i e; omega⟩⟩
  have hc0 : (w6.setCell ⟨pl, 0, none⟩ (.int .i64 ((L : Int) - (n : Int)))).cell? ⟨pl, 0, none⟩ = some (.int .i64 (M : Nat)) := by
    rw [show ((M : Nat) : Int) = (L : Int) - (n : Int) by have := HM.out; omega]
    exact World.cell?_setCell_same _ _ _ k1
  have hf0 : (w6.setCell ⟨pl, 0, none⟩ (.int .i64 ((L : Int) - (n : Int)))).frozen? ⟨pl, 0, none⟩ = false := by rw [World.frozen?_setCell]; exact k2
  have HM0 := Lib.hid hm0
  have HO0 := Lib.hid ho0
  have HC0 := Lib.hid hc0
  have HF0 := Lib.hid hf0
  have hMl : M ≤ L := by have := HM.out; omega
  clear hm0 ho0 hc0 hf0 k1 k2 hc hf
  go_loopw [21] (fun i wr => ∃ (k N : Nat) (es' : List FE), k ≤ n ∧ i = .int .i64 (k : Nat) ∧ N ≤ L ∧ Hid (es'.map FE.tm = xs) ∧ Hid (MadeZ Z wr (.slice a6 n c6) es') ∧ Hid (Off (fun i => i = pl) w wr) ∧ wr.cell? ⟨pl, 0, none⟩ = some (.int .i64 (N : Nat)) ∧ wr.frozen? ⟨pl, 0, none⟩ = false) (fun i _ => n - (intOf i).toNat)
  case atStart => exact ⟨0, M, es, Nat.zero_le _, rfl, hMl, HMAP, HM0, HO0, HC0.out, HF0.out⟩
  case round =>
    obtain ⟨k, N, es', hk, rfl, hN, HMP, HMD, HOF, hcp, hfp⟩ := hrel
    have hlen : es'.length = n := by
      have := congrArg List.length HMP.out
      rw [List.length_map, ← HN.out] at this
      exact this
    have HLEN := Lib.hid hlen
    clear hlen
    by_cases hlk : k < n
    · obtain ⟨p, hp⟩ : ∃ p, es'[k]? = some p := ⟨es'[k]'(by rw [HLEN.out]; exact hlk), by simp⟩
      obtain ⟨l1, t1, ys1, s1⟩ := p
      obtain ⟨hq1, hq2⟩ := HMD.out.sub _ (List.mem_of_getElem? hp)
      dsimp only at hq1 hq2
      obtain ⟨a1, c1, h2, h3, h4⟩ := hq2.form
      subst h2
      obtain ⟨g, hg, hg1, hg2, d1, d2, d3, d4, -⟩ := HMD.out.setItems hp (s' := .slice a1 ys1.length c1) hq2
      subst hg
      obtain ⟨q, hqn⟩ : ∃ q, q = ys1.length := ⟨_, rfl⟩
      have hpg : ¬ g = pl := fun e => HZP.out (e ▸ hg1)
      have hlp := cell_lt hcp
      have HP := Lib.hid hp
      have HQ2 := Lib.hid hq2
      have HQN := Lib.hid hqn
      have HG1 := Lib.hid hg1
      rw [← hqn] at d3
      have i0 : (0 : Int) ≤ k := by omega
      have i1 : (k : Int) < n := by omega
      clear hp hq2 hqn hg1
      have hoff1 : ∀ (x : Obj) (nq : Nat), Off (fun _ => False) wr ((wr.alloc x).drewN nq) := fun x nq => ((Off.refl _ _).alloc _).drewN
      have HOFF1 := Lib.hid hoff1
      clear hoff1
      by_cases hqN : d < 8 ∧ q ≤ N
      · have hd8 : (d : Int) < 8 := by have := hqN.1; omega
        have e1 : (q : Int) ≤ N := by have := hqN.2; omega
        have hqN2 := hqN.2
        have hown : ∀ wz, Off (fun _ => False) wr wz → Calls Tryz.prog 70 #[.slice a1 q c1, .int .i64 (d + 1 : Nat), .pointer (some ⟨pl, 0, none⟩)] wz (OwnZ (fun i => Z i ∧ i ≠ g) pl N ys1 wz) := fun wz hz => by
          rw [HQN.out]
          exact HIH.out hqN.1 (fun i => Z i ∧ i ≠ g) pl wz a1 c1 ys1 N ((HQ2.out.off hz (fun i _ h => h)).mono (fun i _ hi => ⟨hi.1, fun e => hi.2 (by rw [e]; rfl)⟩)) (fun i hi => ⟨HZN.out i (by have := HOF.out.size; have := hz.size; omega), by have := hz.size; omega⟩) (fun h => HZP.out h.1) ((hz.cell (p := ⟨pl, 0, none⟩) hlp (fun h => h)).trans hcp) ((hz.frozen (p := ⟨pl, 0, none⟩) hlp (fun h => h)).trans hfp) (by rw [← HQN.out]; exact hqN2) (by omega)
        have HOWN := Lib.hid hown
        clear hown hqN
        go_wp2_with fail
        go_quiet (fail)
        go_wp2_with fail
        refine (HOWN.out _ (HOFF1.out _ _)).mono ?_
        rintro e w7 ⟨v7, es7, rfl, hm7, hz7, ho7, ⟨N', hN', hc7⟩, hf7⟩
        have hoz : Off (fun i => i = pl) wr w7 := ((HOFF1.out _ _).mono (fun i h => h.elim)).trans ho7
        have hm7d := HMD.out.off hoz (fun i hi e => HZP.out (e ▸ hi))
        have hs7 := hz7.sl
        rw [hm7] at hs7
        obtain ⟨a7, c7, hv7, -, -⟩ := hs7.form
        obtain ⟨q7, hq7⟩ : ∃ q7, q7 = ys1.length := ⟨_, rfl⟩
        rw [← hq7] at hv7
        subst hv7
        obtain ⟨g', hg', -, -, -, -, y3, y4, hmade⟩ := hm7d.setItems HP.out (s' := .slice a7 q7 c7) (hs7.mono fun i _ hi => ⟨hi.1, fun e => hi.2 (by injection e with e; exact e.symm)⟩)
        injection hg' with hg'
        injection hg' with hg'
        subst hg'
        have HO7 := Lib.hid (HOF.out.trans hoz)
        have HC7 := Lib.hid hc7
        have HF7 := Lib.hid hf7
        have HMADE := Lib.hid hmade
        clear hm7 hz7 ho7 hc7 hf7 hoz hm7d hs7 hmade d1 d2 d3 d4 hcp hfp hq7
        go_wp2_with fail
        refine ⟨⟨k + 1, N', _, hlk, by go_num, by omega, Lib.hid ?_, Lib.hid HMADE.out, Lib.hid ?_, ?_, ?_⟩, by simp [intOf]; omega⟩
        · rw [map_set_tm HP.out, HMP.out]
        · exact HO7.out.setCell (.inl (HGW.out g rfl)) _
        · exact (World.cell?_setCell_other _ _ _ _ (fun e => hpg (by injection e))).trans HC7.out
        · rw [World.frozen?_setCell]; exact HF7.out
      · have HQ := Lib.hid hqN
        by_cases hd8 : d < 8
        · have hd8' : (d : Int) < 8 := by omega
          have e1 : decide ((q : Int) ≤ N) = false := decide_eq_false (by have := HQ.out; omega)
          clear hqN
          go_wp2_with fail
          go_quiet (fail)
          go_wp2_with fail
          all_goals first | (exfalso; have := HQ.out; omega) | exact ⟨⟨k + 1, N, es', hlk, by go_num, hN, HMP, Lib.hid (HMD.out.off (HOFF1.out _ _) (fun i _ h => h)), Lib.hid (HOF.out.trans ((HOFF1.out _ _).mono fun i h => h.elim)), ((HOFF1.out _ _).cell (p := ⟨pl, 0, none⟩) hlp (fun h => h)).trans hcp, ((HOFF1.out _ _).frozen (p := ⟨pl, 0, none⟩) hlp (fun h => h)).trans hfp⟩, by simp [intOf]; omega⟩
        · have hd8' : decide ((d : Int) < 8) = false := decide_eq_false (by omega)
          have hd9 : ¬ ((d : Int) < 8) := by omega
          clear hqN
          go_wp2_with fail
          go_quiet (fail)
          go_wp2_with fail
          all_goals first | (exfalso; have := HQ.out; omega) | exact ⟨⟨k + 1, N, es', hlk, by go_num, hN, HMP, Lib.hid (HMD.out.off (HOFF1.out _ _) (fun i _ h => h)), Lib.hid (HOF.out.trans ((HOFF1.out _ _).mono fun i h => h.elim)), ((HOFF1.out _ _).cell (p := ⟨pl, 0, none⟩) hlp (fun h => h)).trans hcp, ((HOFF1.out _ _).frozen (p := ⟨pl, 0, none⟩) hlp (fun h => h)).trans hfp⟩, by simp [intOf]; omega⟩
    · have hge : ¬ (k : Int) < n := by omega
      go_wp2_with fail
      go_ret
      exact ⟨_, es', rfl, HMP.out, HMD.out, HOF.out, ⟨N, hN, hcp⟩, hfp⟩

theorem own_any : ∀ (K d : Nat), 8 - d ≤ K → OwnC d
  | 0, d, h => own_step d fun hd => by omega
  | K + 1, d, h => own_step d fun hd => own_any K (d + 1) (by omega)
end Go.Proofs.YthamfbfeokmhgaaGreatDoor
