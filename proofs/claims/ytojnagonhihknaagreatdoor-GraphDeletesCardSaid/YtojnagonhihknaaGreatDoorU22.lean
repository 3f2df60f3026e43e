/- The contract of List: forms whose lists may have lists in them. The contract of the program's Write. The contract of List; values that read as9 forms. -/
import Derived.Deep.RegionHeld3
import Derived.Deep.DrawnRows
import Derived.Lib.ItoaLen
import Derived.Test.YtojnagonhihknaaGreatDoorU11
import Derived.Test.YtojnagonhihknaaGreatDoorU5
import Derived.Test.YtojnagonhihknaaGreatDoorU7
import Derived.Test.YtojnagonhihknaaGreatDoorU9
set_option linter.unusedVariables false
namespace Go.Proofs.YtojnagonhihknaaGreatDoor
open Go.ChangeShapes Go.WideShapes Go.ChangeAt Go.RowKit

structure MadeZ (Z : Nat → Prop) (w : World) (v : Value) (es : List FE) : Prop where
  row : Row 3 0 w v es.length (fcells es)
  own : ∀ g, v.ownBlock = some g → Z g
  sub : ∀ p ∈ es, p.2.1.size ≤ 140737488355328 ∧ SlU (fun i => Z i ∧ v.ownBlock ≠ some i) w p.2.2.2 p.2.2.1

theorem MadeZ.off {Z Y : Nat → Prop} {w w' : World} {v : Value} {es : List FE} (h : MadeZ Z w v es) (ho : Off Y w w') (hz : ∀ i, Z i → ¬ Y i) : MadeZ Z w' v es :=
  ⟨h.row.off ho fun b hb => hz b (h.own b hb), h.own, fun p hp => ⟨(h.sub p hp).1, (h.sub p hp).2.off ho fun i hi => hz i hi.1⟩⟩
theorem MadeZ.sl {Z : Nat → Prop} {w : World} {v : Value} {es : List FE} (h : MadeZ Z w v es) : SlU Z w v (es.map FE.tm) := by
  by_cases e : es = []
  · subst e
    obtain ⟨a, c, hv, h1, h2⟩ := h.row.form'
    rw [hv]
    exact .nil a c h2
  · obtain ⟨b, cap, hv, h1, h2, h3, h4, h5, h6⟩ := h.row.pos (List.length_pos_iff.2 e)
    have hzb := h.own b (by rw [hv]; rfl)
    rw [hv]
    have := SlU.of_row (Z := Z) (w := w) (b := b) (o := 0) (c := cap) (xs := es.map FE.tm) ⟨⟨hzb, (h5 0 (by have := List.length_pos_iff.2 e; omega)).2⟩, h2, fun j l t ys hj => by
      rw [List.getElem?_map] at hj
      obtain ⟨p, hp, hpe⟩ := Option.map_eq_some_iff.1 hj
      obtain ⟨l', t', ys', s'⟩ := p
      injection hpe with e1 e2 e3
      dsimp only at e1 e2 e3
      subst e1; subst e2; subst e3
      obtain ⟨c1, c2, c3⟩ := fcells_at hp
      obtain ⟨g1, g2⟩ := h.sub _ (List.mem_of_getElem? hp)
      have g3 : SlU Z w s' ys' := g2.mono fun i _ hi => hi.1
      obtain ⟨a', c', es', _, _⟩ := g3.form
      rw [Nat.zero_add]
      refine ⟨a', c', h6 _ _ c1, h6 _ _ c2, ?_, g1, ?_⟩
      · rw [← es']; exact h6 _ _ c3
      · rw [← es']; exact g3⟩ (by simpa using e) (by rw [List.length_map]; exact h3) h4
    rw [List.length_map] at this
    exact this

theorem MadeZ.setItems {Z : Nat → Prop} {w : World} {a : Option Addr} {n c : Nat} {es : List FE} {k : Nat} {l : Bool} {t : ByteArray} {ys : List Tm} {s s' : Value} (h : MadeZ Z w (.slice a n c) es) (hk : es[k]? = some (l, t, ys, s)) (hs : SlU (fun i => Z i ∧ (Value.slice a n c).ownBlock ≠ some i) w s' ys) :
    ∃ g, a = some ⟨g, 0, none⟩ ∧ Z g ∧ g < w.heap.size ∧ w.cell? ⟨g, k * 3, none⟩ = some (.bool l) ∧ w.cell? ⟨g, k * 3 + 1, none⟩ = some (.string t) ∧ w.cell? ⟨g, k * 3 + 2, none⟩ = some s ∧ w.frozen? ⟨g, k * 3 + 2, none⟩ = false ∧
      MadeZ Z (w.setCell ⟨g, k * 3 + 2, none⟩ s') (.slice a n c) (es.set k (l, t, ys, s')) := by
  have hkl := (List.getElem?_eq_some_iff.1 hk).1
  obtain ⟨h0, hr⟩ := h.row
  obtain ⟨b, cap, hv, h1, h2, h3, h4, h5, h6⟩ := h.row.pos (by omega)
  injection hv with e1 e2 e3
  subst e1
  subst e3
  have hzb : Z b := h.own b rfl
  obtain ⟨c1, c2, c3⟩ := fcells_at hk
  have hcap : k * 3 + 2 < c * 3 := by omega
  refine ⟨b, rfl, hzb, h2, h6 _ _ c1, h6 _ _ c2, h6 _ _ c3, (h5 _ hcap).2, ⟨⟨?_, .inr ⟨b, c, by rw [List.length_set]; exact congrArg (fun m => Value.slice (some ⟨b, 0, none⟩) m c) e2, h1, by simpa [World.setCell] using h2, by rw [List.length_set]; exact h3, h4, fun j hj => ⟨?_, ?_⟩, fun j u hu => ?_⟩⟩, fun g hg => ?_, fun p hp => ?_⟩⟩
  · rw [fcells_len, List.length_set]
  · by_cases e : k * 3 + 2 = j
    · subst e
      rw [World.cell?_setCell_same _ _ _ (h6 _ _ c3)]; rfl
    · rw [World.cell?_setCell_other _ _ _ _ (fun h => e (by injection h))]
      exact (h5 j hj).1
  · rw [World.frozen?_setCell]; exact (h5 j hj).2
  · have hset : fcells (es.set k (l, t, ys, s')) = (fcells es).set (k * 3 + 2) s' := by
      have e1 : es = es.take k ++ [(l, t, ys, s)] ++ es.drop (k + 1) := by
        obtain ⟨_, e⟩ := List.getElem?_eq_some_iff.1 hk
        rw [List.append_assoc, List.singleton_append, ← e, List.getElem_cons_drop, List.take_append_drop]
      have hl : (es.take k).length = k := by rw [List.length_take]; omega
      have hl3 : (fcells (es.take k)).length = k * 3 := by rw [fcells_len, hl]
      have e2 : es.set k (l, t, ys, s') = es.take k ++ [(l, t, ys, s')] ++ es.drop (k + 1) := by
        rw [List.set_eq_take_append_cons_drop, if_pos hkl]; simp
      rw [e2]
      conv => rhs; rw [e1]
      rw [fcells_app, fcells_app, fcells_app, fcells_app, fcells_one, fcells_one, List.append_assoc, List.append_assoc, List.set_append_right _ _ (by omega), hl3, show k * 3 + 2 - k * 3 = 2 by omega]
      rfl
    rw [hset] at hu
    by_cases e : k * 3 + 2 = j
    · subst e
      rw [List.getElem?_set_self (by rw [fcells_len]; omega)] at hu
      rw [World.cell?_setCell_same _ _ _ (h6 _ _ c3)]
      exact hu
    · rw [List.getElem?_set_ne e] at hu
      rw [World.cell?_setCell_other _ _ _ _ (fun h => e (by injection h))]
      exact h6 j u hu
  · injection hg with hg; subst hg; exact hzb
  · have hz : ∀ {x : Value} {zs : List Tm}, SlU (fun i => Z i ∧ (Value.slice (some ⟨b, 0, none⟩) n c).ownBlock ≠ some i) w x zs → SlU (fun i => Z i ∧ (Value.slice (some ⟨b, 0, none⟩) n c).ownBlock ≠ some i) (w.setCell ⟨b, k * 3 + 2, none⟩ s') x zs := fun hx => hx.carry fun i hi hh => ⟨Below.heap_setCell _ _ _ _ (fun e => hh.2 (by rw [e]; rfl)), hh⟩
    rcases List.mem_or_eq_of_mem_set hp with hp | hp
    · exact ⟨(h.sub p hp).1, hz (h.sub p hp).2⟩
    · subst hp
      exact ⟨(h.sub _ (List.mem_of_getElem? hk)).1, hz hs⟩

theorem SlU.src {Z : Nat → Prop} {w : World} {v : Value} {xs : List Tm} (h : SlU Z w v xs) :
    ∃ es : List FE, es.map FE.tm = xs ∧ es.length = xs.length ∧ Src Tryz.prog 3 120 v xs.length (fcells es) w ∧ ∀ p ∈ es, p.2.1.size ≤ 140737488355328 ∧ SlU Z w p.2.2.2 p.2.2.1 := by
  by_cases e : xs = []
  · subst e
    obtain ⟨a, c, rfl, h1, h2⟩ := h.form
    refine ⟨[], rfl, rfl, ?_, by simp⟩
    cases a with
    | none => exact Src.ofNil w Tryz.underlying120 c
    | some b => exact Src.ofSlice w Tryz.underlying120 b 0 c [] rfl (by simp) (by simp)
  · obtain ⟨b, o, c, rfl, h1, h2, h3, h4, h5⟩ := h.pos e
    obtain ⟨es, hl, hq⟩ := list_of (fun (i : Nat) (p : FE) => ∃ x, xs[i]? = some x ∧ p.tm = x ∧ w.cell? ⟨b, o + i * 3, none⟩ = some (.bool p.1) ∧ w.cell? ⟨b, o + i * 3 + 1, none⟩ = some (.string p.2.1) ∧ w.cell? ⟨b, o + i * 3 + 2, none⟩ = some p.2.2.2 ∧ p.2.1.size ≤ 140737488355328 ∧ SlU Z w p.2.2.2 p.2.2.1 ∧ ∃ a c, p.2.2.2 = .slice a p.2.2.1.length c) xs.length (fun i hi => by
      obtain ⟨x, hx⟩ : ∃ x, xs[i]? = some x := ⟨_, List.getElem?_eq_getElem hi⟩
      obtain ⟨l, t, ys⟩ := x
      obtain ⟨a', c', k1, k2, k3, k4, k5⟩ := h5 i l t ys hx
      exact ⟨(l, t, ys, .slice a' ys.length c'), _, hx, rfl, k1, k2, k3, k4, k5, a', c', rfl⟩)
    have hmap : es.map FE.tm = xs := by
      apply List.ext_getElem?
      intro i
      rw [List.getElem?_map]
      cases hp : es[i]? with
      | none =>
        have := List.getElem?_eq_none_iff.1 hp
        rw [List.getElem?_eq_none (by omega)]; rfl
      | some p =>
        obtain ⟨x, hx, hpx, _⟩ := hq i p hp
        rw [hx, ← hpx]; rfl
    refine ⟨es, hmap, hl, ?_, fun p hp => ?_⟩
    · refine Src.ofSlice w Tryz.underlying120 _ _ c (fcells es) (by rw [fcells_len, hl]) (fun j u hj => ?_) (fun u hu => ?_)
      · have e2 : (⟨b, o, none⟩ : Addr).add j = ⟨b, o + j, none⟩ := by unfold Addr.add; split <;> simp_all
        rw [e2]
        have hjl : j < es.length * 3 := by rw [← fcells_len]; exact (List.getElem?_eq_some_iff.1 hj).1
        obtain ⟨p, hp⟩ : ∃ p, es[j / 3]? = some p := ⟨es[j / 3]'(by omega), by simp⟩
        obtain ⟨x, _, _, k1, k2, k3, _⟩ := hq _ p hp
        obtain ⟨c1, c2, c3⟩ := fcells_at hp
        have h012 : j = j / 3 * 3 ∨ j = j / 3 * 3 + 1 ∨ j = j / 3 * 3 + 2 := by omega
        rcases h012 with e | e | e
        · rw [e] at hj ⊢
          rw [c1] at hj; rw [k1]; exact hj
        · rw [e] at hj ⊢
          rw [c2] at hj; rw [← Nat.add_assoc, k2]; exact hj
        · rw [e] at hj ⊢
          rw [c3] at hj; rw [← Nat.add_assoc, k3]; exact hj
      · obtain ⟨p, hp, hq2⟩ := List.mem_flatMap.1 hu
        obtain ⟨i, hi⟩ := List.mem_iff_getElem?.1 hp
        obtain ⟨x, _, _, _, _, _, _, _, a', c', e'⟩ := hq i p hi
        simp only [List.mem_cons, List.not_mem_nil, or_false] at hq2
        rcases hq2 with rfl | rfl | rfl
        · rfl
        · rfl
        · rw [e']; rfl
    · obtain ⟨i, hi⟩ := List.mem_iff_getElem?.1 hp
      obtain ⟨x, _, _, _, _, _, k6, k7, _⟩ := hq i p hi
      exact ⟨k6, k7⟩

def OwnZ (Z : Nat → Prop) (pl : Nat) (L : Nat) (xs : List Tm) (w : World) (e : Ending) (w' : World) : Prop :=
  ∃ v es, e = .returned v ∧ es.map FE.tm = xs ∧ MadeZ Z w' v es ∧ Off (· = pl) w w' ∧ (∃ L' : Nat, L' ≤ L ∧ w'.cell? ⟨pl, 0, none⟩ = some (.int .i64 L')) ∧ w'.frozen? ⟨pl, 0, none⟩ = false

def OwnC (d : Nat) : Prop := ∀ (Z : Nat → Prop) (pl : Nat) (w : World) (a0 : Option Addr) (c0 : Nat) (xs : List Tm) (L : Nat), SlU Z w (.slice a0 xs.length c0) xs → (∀ i, w.heap.size ≤ i → Z i) → ¬ Z pl →
    w.cell? ⟨pl, 0, none⟩ = some (.int .i64 (L : Nat)) → w.frozen? ⟨pl, 0, none⟩ = false → xs.length ≤ L → L ≤ 65536 →
    Calls Tryz.prog 172 #[.slice a0 xs.length c0, .int .i64 (d : Nat), .pointer (some ⟨pl, 0, none⟩)] w (OwnZ Z pl L xs w)

set_option maxHeartbeats 4000000 in
set_option maxRecDepth 100000 in
theorem own_step (d : Nat) (IH : d < 8 → OwnC (d + 1)) : OwnC d := by
  intro Z pl w a0 c0 xs L hsl hzn hzp hc hf hnl hL1
  have hlt := cell_lt hc
  obtain ⟨es, hmap, hlen, hsrc, hsub⟩ := hsl.src
  obtain ⟨n, hn⟩ : ∃ n, n = xs.length := ⟨_, rfl⟩
  rw [← hn] at hsrc hlen hnl ⊢
  have HIH := Lib.hid IH
  have HS := Lib.hid hsrc
  have HN := Lib.hid hn
  have HL := Lib.hid hlen
  have HMAP := Lib.hid hmap
  have HSUB := Lib.hid hsub
  have HZN := Lib.hid hzn
  have HZP := Lib.hid hzp
  obtain ⟨M, hM⟩ : ∃ M, M = L - n := ⟨_, rfl⟩
  have HM := Lib.hid hM
  clear IH hsrc hn hlen hmap hsub hzn hzp hM hsl
  go_enter Tryz.func172, Tryz.ntmps172
  go_wp2_with (at_builtin; refine wpList_append_row rfl (.const (.slice none 0 0)) (.tmp 10) 120 120 rfl 3 122 (.agg #[.bool false, .string ByteArray.empty, .slice none 0 0]) 48 Tryz.underlying120 Tryz.infoForm rfl w.heap.size (.slice none 0 0) 0 [] (by simp [Act.eval]) (Row.nil _ _ _) (.slice a0 n c0) (by simp [Act.eval]) n (fcells es) (by exact HS.out) (Nat.le_refl _) (by omega) (by decide) ?_; intro v6 w6 hr6 ho6 hw6; obtain ⟨a6, c6, hv6⟩ := hr6.form; simp only [Nat.zero_add] at hv6; subst hv6; have k1 := (ho6.cell (p := ⟨pl, 0, none⟩) hlt (by simp [Value.ownBlock])).trans hc; have k2 := (ho6.frozen (p := ⟨pl, 0, none⟩) hlt (by simp [Value.ownBlock])).trans hf; have HR6 := Lib.hid hr6; have HO6 := Lib.hid ho6; have HW6 := Lib.hid hw6; clear hr6 ho6 hw6)
  have ho0 : Off (fun i => i = pl) w (w6.setCell ⟨pl, 0, none⟩ (.int .i64 ((L : Int) - (n : Int)))) := by
    have : Off (fun i => i = pl) w w6 := HO6.out.mono fun i hi => by cases hi
    exact this.setCell (p := ⟨pl, 0, none⟩) (.inr rfl) _
  have hgw : ∀ g, (Value.slice a6 n c6).ownBlock = some g → w.heap.size ≤ g := fun g hg => by
    have hr := HR6.out
    simp only [Nat.zero_add, List.nil_append] at hr
    exact (hr.lt g hg).1
  have HGW := Lib.hid hgw
  clear hgw
  have hm0 : MadeZ Z (w6.setCell ⟨pl, 0, none⟩ (.int .i64 ((L : Int) - (n : Int)))) (.slice a6 n c6) es := by
    have hr := HR6.out
    simp only [Nat.zero_add, List.nil_append] at hr
    have hg : ∀ g, (Value.slice a6 n c6).ownBlock = some g → w.heap.size ≤ g := fun g hg => (hr.lt g hg).1
    refine ⟨?_, fun g h => HZN.out g (hg g h), fun p hp => ?_⟩
    · rw [HL.out]
      exact (hr.setOther (fun h => by have := hg pl h; omega) _).mono (Nat.zero_le _)
    · obtain ⟨h1, h2⟩ := HSUB.out p hp
      refine ⟨h1, h2.carry fun i hi hz => ⟨ho0.block i hi (fun e => HZP.out (e ▸ hz)), hz, fun e => by have := hg i e; omega⟩⟩
  have hc0 : (w6.setCell ⟨pl, 0, none⟩ (.int .i64 ((L : Int) - (n : Int)))).cell? ⟨pl, 0, none⟩ = some (.int .i64 (M : Nat)) := by
    rw [show ((M : Nat) : Int) = (L : Int) - (n : Int) by have := HM.out; omega]
    exact World.cell?_setCell_same _ _ _ k1
  have hf0 : (w6.setCell ⟨pl, 0, none⟩ (.int .i64 ((L : Int) - (n : Int)))).frozen? ⟨pl, 0, none⟩ = false := by rw [World.frozen?_setCell]; exact k2
  have HM0 := Lib.hid hm0
  have HO0 := Lib.hid ho0
  have HC0 := Lib.hid hc0
  have HF0 := Lib.hid hf0
  have hMl : M ≤ L := by have := HM.out; omega
  clear hm0 ho0 hc0 hf0 k1 k2 hc hf
  go_loopw [21] (fun i wr => ∃ (k N : Nat) (es' : List FE), k ≤ n ∧ i = .int .i64 (k : Nat) ∧ N ≤ L ∧ Hid (es'.map FE.tm = xs) ∧ Hid (MadeZ Z wr (.slice a6 n c6) es') ∧ Hid (Off (fun i => i = pl) w wr) ∧ wr.cell? ⟨pl, 0, none⟩ = some (.int .i64 (N : Nat)) ∧ wr.frozen? ⟨pl, 0, none⟩ = false) (fun i _ => n - (intOf i).toNat)
  case atStart => exact ⟨0, M, es, Nat.zero_le _, rfl, hMl, HMAP, HM0, HO0, HC0.out, HF0.out⟩
  case round =>
    obtain ⟨k, N, es', hk, rfl, hN, HMP, HMD, HOF, hcp, hfp⟩ := hrel
    have hlen : es'.length = n := by
      have := congrArg List.length HMP.out
      rw [List.length_map, ← HN.out] at this
      exact this
    have HLEN := Lib.hid hlen
    clear hlen
    by_cases hlk : k < n
    · obtain ⟨p, hp⟩ : ∃ p, es'[k]? = some p := ⟨es'[k]'(by rw [HLEN.out]; exact hlk), by simp⟩
      obtain ⟨l1, t1, ys1, s1⟩ := p
      obtain ⟨hq1, hq2⟩ := HMD.out.sub _ (List.mem_of_getElem? hp)
      dsimp only at hq1 hq2
      obtain ⟨a1, c1, h2, h3, h4⟩ := hq2.form
      subst h2
      obtain ⟨g, hg, hg1, hg2, d1, d2, d3, d4, -⟩ := HMD.out.setItems hp (s' := .slice a1 ys1.length c1) hq2
      subst hg
      obtain ⟨q, hqn⟩ : ∃ q, q = ys1.length := ⟨_, rfl⟩
      have hpg : ¬ g = pl := fun e => HZP.out (e ▸ hg1)
      have hlp := cell_lt hcp
      have HP := Lib.hid hp
      have HQ2 := Lib.hid hq2
      have HQN := Lib.hid hqn
      have HG1 := Lib.hid hg1
      rw [← hqn] at d3
      have i0 : (0 : Int) ≤ k := by omega
      have i1 : (k : Int) < n := by omega
      clear hp hq2 hqn hg1
      have hoff1 : ∀ (x : Obj) (nq : Nat), Off (fun _ => False) wr ((wr.alloc x).drewN nq) := fun x nq => ((Off.refl _ _).alloc _).drewN
      have HOFF1 := Lib.hid hoff1
      clear hoff1
      by_cases hqN : d < 8 ∧ q ≤ N
      · have hd8 : (d : Int) < 8 := by have := hqN.1; omega
        have e1 : (q : Int) ≤ N := by have := hqN.2; omega
        have hqN2 := hqN.2
        have hown : ∀ wz, Off (fun _ => False) wr wz → Calls Tryz.prog 172 #[.slice a1 q c1, .int .i64 (d + 1 : Nat), .pointer (some ⟨pl, 0, none⟩)] wz (OwnZ (fun i => Z i ∧ i ≠ g) pl N ys1 wz) := fun wz hz => by
          rw [HQN.out]
          exact HIH.out hqN.1 (fun i => Z i ∧ i ≠ g) pl wz a1 c1 ys1 N ((HQ2.out.off hz (fun i _ h => h)).mono (fun i _ hi => ⟨hi.1, fun e => hi.2 (by rw [e]; rfl)⟩)) (fun i hi => ⟨HZN.out i (by have := HOF.out.size; have := hz.size; omega), by have := hz.size; omega⟩) (fun h => HZP.out h.1) ((hz.cell (p := ⟨pl, 0, none⟩) hlp (fun h => h)).trans hcp) ((hz.frozen (p := ⟨pl, 0, none⟩) hlp (fun h => h)).trans hfp) (by rw [← HQN.out]; exact hqN2) (by omega)
        have HOWN := Lib.hid hown
        clear hown hqN
        go_wp2_with fail
        go_quiet (fail)
        go_wp2_with fail
        refine (HOWN.out _ (HOFF1.out _ _)).mono ?_
        rintro e w7 ⟨v7, es7, rfl, hm7, hz7, ho7, ⟨N', hN', hc7⟩, hf7⟩
        have hoz : Off (fun i => i = pl) wr w7 := ((HOFF1.out _ _).mono (fun i h => h.elim)).trans ho7
        have hm7d := HMD.out.off hoz (fun i hi e => HZP.out (e ▸ hi))
        have hs7 := hz7.sl
        rw [hm7] at hs7
        obtain ⟨a7, c7, hv7, -, -⟩ := hs7.form
        obtain ⟨q7, hq7⟩ : ∃ q7, q7 = ys1.length := ⟨_, rfl⟩
        rw [← hq7] at hv7
        subst hv7
        obtain ⟨g', hg', -, -, -, -, y3, y4, hmade⟩ := hm7d.setItems HP.out (s' := .slice a7 q7 c7) (hs7.mono fun i _ hi => ⟨hi.1, fun e => hi.2 (by injection e with e; exact e.symm)⟩)
        injection hg' with hg'
        injection hg' with hg'
        subst hg'
        have HO7 := Lib.hid (HOF.out.trans hoz)
        have HC7 := Lib.hid hc7
        have HF7 := Lib.hid hf7
        have HMADE := Lib.hid hmade
        clear hm7 hz7 ho7 hc7 hf7 hoz hm7d hs7 hmade d1 d2 d3 d4 hcp hfp hq7
        go_wp2_with fail
        refine ⟨⟨k + 1, N', _, hlk, by go_num, by omega, Lib.hid ?_, Lib.hid HMADE.out, Lib.hid ?_, ?_, ?_⟩, by simp [intOf]; omega⟩
        · rw [map_set_tm HP.out, HMP.out]
        · exact HO7.out.setCell (.inl (HGW.out g rfl)) _
        · exact (World.cell?_setCell_other _ _ _ _ (fun e => hpg (by injection e))).trans HC7.out
        · rw [World.frozen?_setCell]; exact HF7.out
      · have HQ := Lib.hid hqN
        by_cases hd8 : d < 8
        · have hd8' : (d : Int) < 8 := by omega
          have e1 : decide ((q : Int) ≤ N) = false := decide_eq_false (by have := HQ.out; omega)
          clear hqN
          go_wp2_with fail
          go_quiet (fail)
          go_wp2_with fail
          all_goals first | (exfalso; have := HQ.out; omega) | exact ⟨⟨k + 1, N, es', hlk, by go_num, hN, HMP, Lib.hid (HMD.out.off (HOFF1.out _ _) (fun i _ h => h)), Lib.hid (HOF.out.trans ((HOFF1.out _ _).mono fun i h => h.elim)), ((HOFF1.out _ _).cell (p := ⟨pl, 0, none⟩) hlp (fun h => h)).trans hcp, ((HOFF1.out _ _).frozen (p := ⟨pl, 0, none⟩) hlp (fun h => h)).trans hfp⟩, by simp [intOf]; omega⟩
        · have hd8' : decide ((d : Int) < 8) = false := decide_eq_false (by omega)
          have hd9 : ¬ ((d : Int) < 8) := by omega
          clear hqN
          go_wp2_with fail
          go_quiet (fail)
          go_wp2_with fail
          all_goals first | (exfalso; have := HQ.out; omega) | exact ⟨⟨k + 1, N, es', hlk, by go_num, hN, HMP, Lib.hid (HMD.out.off (HOFF1.out _ _) (fun i _ h => h)), Lib.hid (HOF.out.trans ((HOFF1.out _ _).mono fun i h => h.elim)), ((HOFF1.out _ _).cell (p := ⟨pl, 0, none⟩) hlp (fun h => h)).trans hcp, ((HOFF1.out _ _).frozen (p := ⟨pl, 0, none⟩) hlp (fun h => h)).trans hfp⟩, by simp [intOf]; omega⟩
    · have hge : ¬ (k : Int) < n := by omega
      go_wp2_with fail
      go_ret
      exact ⟨_, es', rfl, HMP.out, HMD.out, HOF.out, ⟨N, hN, hcp⟩, hfp⟩

theorem own_any : ∀ (K d : Nat), 8 - d ≤ K → OwnC d
  | 0, d, h => own_step d fun hd => by omega
  | K + 1, d, h => own_step d fun hd => own_any K (d + 1) (by omega)
end Go.Proofs.YtojnagonhihknaaGreatDoor
set_option linter.unusedVariables false
namespace Go.Proofs.YtojnagonhihknaaGreatDoor
open Go.ChangeShapes Go.WideShapes Go.ChangeAt Go.RowKit

theorem row_string {B n : Nat} {P : Program} {w : World} {v : Value} {l : List UInt8} (h : Row 1 B w v n (bcs l)) (src dst e : TypeId) (hs : P.underlying src = some (.slice e)) (he : P.underlying e = some (.int .u8)) (hd : P.underlying dst = some .string) :
    (convert src dst v).run P w = .ok (.string (tx l)) w := by
  obtain ⟨h0, ⟨rfl, rfl⟩ | ⟨b, cap, rfl, h2, h3, h4, h5, h6, h7⟩⟩ := h
  · have : l = [] := by
      have := h0
      rw [bcs_len] at this
      exact List.length_eq_zero_iff.1 (by omega)
    subst this
    rw [run_convert_bytes_string w src dst e none 0 0 hs he hd]
    rfl
  · have hn : n = l.length := by rw [bcs_len] at h0; omega
    subst hn
    refine run_convert_bytes_back w src dst e ⟨b, 0, none⟩ cap l hs he hd (fun j hj => ?_)
    have e2 : (⟨b, 0, none⟩ : Addr).add j = ⟨b, j, none⟩ := by unfold Addr.add; split <;> simp_all
    rw [e2]
    refine h7 j _ ?_
    rw [bcs, List.getElem?_map, List.getElem?_eq_getElem hj]
    rfl

abbrev errW (k : Int) : Value := .iface 67 (.int .i64 k)

def SoundP (P : Bool → Prop) (w : World) (e : Ending) (w' : World) : Prop := ∃ r : Bool, e = .returned (.bool r) ∧ P r ∧ Below w.heap.size w w'

def WriteP (T : Tm) (P : Bool → Prop) (w : World) (e : Ending) (w' : World) : Prop :=
  Below w.heap.size w w' ∧ ((CanW 0 [] T ∧ e = .returned (.tuple #[.string (tx T.bytes), .nilIface])) ∨ (¬ CanW 0 [] T ∧ ∃ r : Bool, P r ∧ e = .returned (.tuple #[.string ⟨#[]⟩, errW (if r then 2 else 1)])))

set_option maxHeartbeats 2000000 in
set_option maxRecDepth 100000 in
theorem write_any (l : Bool) (t : ByteArray) (ys : List Tm) (Z : Nat → Prop) (P : Bool → Prop) (w : World) (a : Option Addr) (c : Nat) (hsl : SlL Z w (.slice a ys.length c) ys) (hts : t.size ≤ 140737488355328) (hz : ∀ i, Z i → i < w.heap.size) (htab : HasTab w)
    (hsound : ¬ CanW 0 [] (.mk l t ys) → ∀ wz, Below w.heap.size w wz → Calls Tryz.prog 136 #[fv l t (.slice a ys.length c)] wz (SoundP P wz)) :
    Calls Tryz.prog 112 #[fv l t (.slice a ys.length c)] w (WriteP (.mk l t ys) P w) := by
  obtain ⟨n, hn⟩ : ∃ n, n = ys.length := ⟨_, rfl⟩
  have hlt := htab.lt
  have hc : Calls Tryz.prog 135 #[.pointer (some ⟨w.heap.size + 1, 0, none⟩), fv l t (.slice a n c), .int .i64 0] ((w.alloc (.cells #[.bool l, .string t, .slice a n c] 122)).alloc (.cells #[.slice none 0 0] 224)) (FormP (.mk l t ys) (w.heap.size + 1) (.slice none 0 0) [] 0 ((w.alloc (.cells #[.bool l, .string t, .slice a n c] 122)).alloc (.cells #[.slice none 0 0] 224))) := by
    have hb : ∀ o1 o2, Below w.heap.size w ((w.alloc o1).alloc o2) := fun o1 o2 => ((Below.refl _ _).alloc (Nat.le_refl _) _).alloc (by simp) _
    rw [hn]
    refine wform_any _ l t ys rfl Z _ a c (w.heap.size + 1) (.slice none 0 0) [] 0 (hsl.keep (hb _ _)) hts (fun i hi => by have := hz i hi; omega) ⟨Row.nil _ _ _, ?_, ?_, by simp⟩ (htab.below (hb _ _)) (by omega) (by omega)
    · exact (World.cell?_alloc_at _ _ _ _ (by simp)).trans rfl
    · exact World.frozen?_alloc_at _ _ _ _ (by simp)
  rw [← hn] at hsound ⊢
  have HC := Lib.hid hc
  have HS := Lib.hid hsound
  clear hc hsound hsl htab hn hz
  go_enter Tryz.func112, Tryz.ntmps112
  go_wp2_with fail
  refine HC.out.mono ?_
  rintro e w1 ⟨r, v', out', rfl, hw, ho, hy, hn⟩
  have hoff : Off (· = w.heap.size + 1) ((w.alloc (.cells #[.bool l, .string t, .slice a n c] 122)).alloc (.cells #[.slice none 0 0] 224)) w1 := ho.off.mono fun i h => by
    rcases h with h | h
    · exact h
    · cases h
  have hlt2 : w.heap.size < ((w.alloc (.cells #[.bool l, .string t, .slice a n c] 122)).alloc (.cells #[.slice none 0 0] 224)).heap.size := by simp; omega
  have hbx : ((w.alloc (.cells #[.bool l, .string t, .slice a n c] 122)).alloc (.cells #[.slice none 0 0] 224)).heap[w.heap.size]? = (w.alloc (.cells #[.bool l, .string t, .slice a n c] 122)).heap[w.heap.size]? := Below.heap_alloc _ _ _ (by simp)
  have hcell : ∀ j, w1.cell? ⟨w.heap.size, j, none⟩ = #[.bool l, .string t, .slice a n c][j]? := fun j => (hoff.cell (p := ⟨w.heap.size, j, none⟩) hlt2 (by show ¬ w.heap.size = _; omega)).trans ((World.cell?_of_block (a := ⟨w.heap.size, j, none⟩) hbx).trans (World.cell?_alloc_at _ _ _ _ rfl))
  have k1 : w1.cell? ⟨w.heap.size, 0, none⟩ = some (.bool l) := hcell 0
  have k2 : w1.cell? ⟨w.heap.size, 1, none⟩ = some (.string t) := hcell 1
  have k3 : w1.cell? ⟨w.heap.size, 2, none⟩ = some (.slice a n c) := hcell 2
  have hb : Below w.heap.size w w1 := (((Below.refl _ _).alloc (Nat.le_refl _) _).alloc (by simp) _).trans (hoff.below (fun i hi => by omega) (by simp; omega))
  have hst := row_string hw.row 144 9 5 Tryz.underlying144 Tryz.underlying5 Tryz.underlying9
  have k4 := hw.cell
  have HB := Lib.hid hb
  have HY := Lib.hid hy
  have HN := Lib.hid hn
  clear hw ho hoff hlt2 hbx hcell hb hy hn
  cases r with
  | true =>
    obtain ⟨h1, h2⟩ := HY.out rfl
    have hw2 : out' = (Tm.mk l t ys).bytes := by rw [h2]; rfl
    rw [hw2] at hst
    obtain ⟨X, hX⟩ : ∃ X, X = (Tm.mk l t ys).bytes := ⟨_, rfl⟩
    rw [← hX] at hst
    have HX := Lib.hid hX
    have H1 := Lib.hid h1
    clear h1 h2 hw2 hX HY HN
    go_wp2_with fail
    go_ret2
    exact ⟨HB.out, .inl ⟨H1.out, by rw [← HX.out]; rfl⟩⟩
  | false =>
    have hno := HN.out rfl
    have HNO := Lib.hid hno
    clear hno HY HN hst k4
    go_wp2_with fail
    refine (HS.out HNO.out _ HB.out).mono ?_
    rintro e w2 ⟨q, rfl, hq, hb2⟩
    have HQ := Lib.hid hq
    have HB2 := Lib.hid (HB.out.trans (hb2.mono HB.out.size))
    clear hq hb2
    cases q with
    | true =>
      go_wp2_with fail
      go_ret2
      exact ⟨HB2.out, .inr ⟨HNO.out, true, HQ.out, rfl⟩⟩
    | false =>
      go_wp2_with fail
      go_ret2
      exact ⟨HB2.out, .inr ⟨HNO.out, false, HQ.out, rfl⟩⟩
end Go.Proofs.YtojnagonhihknaaGreatDoor
set_option linter.unusedVariables false
namespace Go.Proofs.YtojnagonhihknaaGreatDoor
open Go.ChangeShapes Go.WideShapes Go.ChangeAt Go.RowKit
open Go.Lib (itoa)

attribute [local go_sem ↓] Go.wp_at_zero Go.wp_at_succ

def ListZ (Z : Nat → Prop) (xs : List Tm) (w : World) (e : Ending) (w' : World) : Prop :=
  ∃ a n c, e = .returned (fv true noText (.slice a n c)) ∧ n = xs.length ∧ Below w.heap.size w w' ∧ SlU Z w' (.slice a n c) xs

set_option maxHeartbeats 1000000 in
set_option maxRecDepth 100000 in
theorem list_any (Z : Nat → Prop) (lv : Value) (xs : List Tm) (w : World) (hsl : SlU Z w lv xs) (hzn : ∀ i, w.heap.size ≤ i → Z i) (hn : xs.length ≤ 65536) :
    Calls Tryz.prog 137 #[lv] w (ListZ Z xs w) := by
  obtain ⟨a0, c0, rfl, _, _⟩ := hsl.form
  obtain ⟨n, hnn⟩ : ∃ n, n = xs.length := ⟨_, rfl⟩
  obtain ⟨W, hW⟩ : ∃ W, W = (w.alloc (.cells #[.bool false, .string ⟨#[]⟩, .slice none 0 0] 122)).alloc (.cells #[.int .i64 65536] 3) := ⟨_, rfl⟩
  have eW : W.heap.size = w.heap.size + 2 := by rw [hW]; simp
  have hc1 : W.cell? ⟨w.heap.size + 1, 0, none⟩ = some (.int .i64 ((65536 : Nat) : Int)) := by rw [hW]; exact (World.cell?_alloc_at _ _ _ _ (by simp)).trans rfl
  have hf1 : W.frozen? ⟨w.heap.size + 1, 0, none⟩ = false := by rw [hW]; exact World.frozen?_alloc_at _ _ _ _ (by simp)
  have hs1 : SlU (fun i => Z i ∧ i ≠ w.heap.size ∧ i ≠ w.heap.size + 1) W (.slice a0 xs.length c0) xs := by
    rw [hW]
    exact ((hsl.mono (Z' := fun i => Z i ∧ i ≠ w.heap.size ∧ i ≠ w.heap.size + 1) (fun i hi hz => ⟨hz, by omega, by omega⟩)).alloc _).alloc _
  have hown := own_any 7 1 (by omega)
  unfold OwnC at hown
  have hc := hown (fun i => Z i ∧ i ≠ w.heap.size ∧ i ≠ w.heap.size + 1) (w.heap.size + 1) W a0 c0 xs 65536 hs1 (fun i hi => by
    rw [eW] at hi
    exact ⟨hzn i (by omega), by omega, by omega⟩) (fun h => h.2.2 rfl) hc1 hf1 hn (Nat.le_refl _)
  clear hown hc1 hf1 hs1 eW
  rw [hW, ← hnn] at hc
  clear hW
  rw [← hnn] at hsl hn ⊢
  have HC := Lib.hid hc
  have HN := Lib.hid hnn
  clear hc hsl hnn
  go_enter Tryz.func137, Tryz.ntmps137
  go_wp2_with fail
  refine HC.out.mono ?_
  rintro e w3 h3
  unfold OwnZ at h3
  obtain ⟨v, es', rfl, hmap, hmd, hoff, hlx, hfx⟩ := h3
  clear hlx hfx
  obtain ⟨⟨z1, z2, z3⟩, zf, zl, zb⟩ := two_off hoff
  have zf0 := zf 0
  have zf1 := zf 1
  have zf2 := zf 2
  have zl2 : w.heap.size < w3.heap.size := by omega
  have hsl := hmd.sl
  rw [hmap] at hsl
  obtain ⟨a, c, hv, hle, hcm⟩ := hsl.form
  rw [← HN.out] at hv
  subst hv
  have HZB := Lib.hid zb
  have HSL := Lib.hid hsl
  clear hmap hmd hoff zf zb hsl hle hcm
  go_wp2_with fail
  refine bodyPost_ret (v := fv true noText (.slice a n c)) (by simp [results, Tryz.results137, go_sem, z1, z2, z3]) rfl ⟨a, n, c, rfl, HN.out, set3_below HZB.out _ _ _, ?_⟩
  have hfo : Off (fun i => i = w.heap.size) w3 (((w3.setCell ⟨w.heap.size, 0, none⟩ (.bool true)).setCell ⟨w.heap.size, 1, none⟩ (.string ⟨#[]⟩)).setCell ⟨w.heap.size, 2, none⟩ (.slice a n c)) :=
    (((Off.refl (fun i => i = w.heap.size) w3).setCell (p := ⟨w.heap.size, 0, none⟩) (.inr rfl) _).setCell (p := ⟨w.heap.size, 1, none⟩) (.inr rfl) _).setCell (p := ⟨w.heap.size, 2, none⟩) (.inr rfl) _
  exact (HSL.out.off hfo fun i hi e => hi.2.1 e).mono fun i _ hi => hi.1

def IsV (Z : Nat → Prop) (w : World) (v : Value) (T : Tm) : Prop := ∃ l t ys a n c, v = fv l t (.slice a n c) ∧ n = ys.length ∧ T = .mk l t ys ∧ t.size ≤ 140737488355328 ∧ SlU Z w (.slice a n c) ys
theorem IsV.keep {Z : Nat → Prop} {w w' : World} {v : Value} {T : Tm} (h : IsV Z w v T) (hb : Below w.heap.size w w') : IsV Z w' v T := by
  obtain ⟨l, t, ys, a, n, c, h1, h2, h3, h4, h5⟩ := h
  exact ⟨l, t, ys, a, n, c, h1, h2, h3, h4, h5.keep hb⟩
theorem lit_sl {es : List FE} (Z : Nat → Prop) (w : World) (c : Nat) (hz : Z w.heap.size) (hc : c = es.length) (hm : es.length ≤ 1000) (hs : ∀ p ∈ es, p.2.1.size ≤ 140737488355328 ∧ SlU Z w p.2.2.2 p.2.2.1) (t : TypeId) :
    SlU Z (w.alloc (.cells (fcells es).toArray t)) (.slice (some ⟨w.heap.size, 0, none⟩) c c) (es.map FE.tm) := by
  subst hc
  by_cases e : es = []
  · subst e; exact .nil _ _ (Nat.zero_le _)
  · have hcell : ∀ j, (w.alloc (.cells (fcells es).toArray t)).cell? ⟨w.heap.size, j, none⟩ = (fcells es)[j]? := fun j => by
      rw [World.cell?_alloc_at _ _ _ _ rfl]; simp
    have := SlU.of_row (Z := Z) (w := w.alloc (.cells (fcells es).toArray t)) (b := w.heap.size) (o := 0) (c := es.length) (xs := es.map FE.tm) ⟨⟨hz, World.frozen?_alloc_at _ _ _ _ rfl⟩, by simp, fun j l t' ys hj => by
      rw [List.getElem?_map] at hj
      obtain ⟨p, hp, hpe⟩ := Option.map_eq_some_iff.1 hj
      obtain ⟨l', t'', ys', s'⟩ := p
      injection hpe with e1 e2 e3
      dsimp only at e1 e2 e3
      subst e1; subst e2; subst e3
      obtain ⟨c1, c2, c3⟩ := fcells_at hp
      obtain ⟨g1, g2⟩ := hs _ (List.mem_of_getElem? hp)
      have g3 := g2.alloc (.cells (fcells es).toArray t)
      obtain ⟨a', c', es', _, _⟩ := g3.form
      dsimp only at es'
      rw [Nat.zero_add, hcell, hcell, hcell]
      refine ⟨a', c', c1, c2, ?_, g1, ?_⟩
      · rw [← es']; exact c3
      · rw [← es']; exact g3⟩ (by simpa using e) (by rw [List.length_map]; exact Nat.le_refl _) (by unfold maxLen; omega)
    rw [List.length_map] at this
    exact this
end Go.Proofs.YtojnagonhihknaaGreatDoor
