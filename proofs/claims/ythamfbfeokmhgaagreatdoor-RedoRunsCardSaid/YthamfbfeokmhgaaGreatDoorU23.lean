/- The contracts of List (of forms without items) and of Num. -/
import Derived.Test.YthamfbfeokmhgaaGreatDoorU20
import Derived.Test.YthamfbfeokmhgaaGreatDoorU8
set_option linter.unusedVariables false
namespace Go.Proofs.YthamfbfeokmhgaaGreatDoor
open Go.ChangeShapes Go.WideShapes Go.ChangeAt Go.RowKit
open Go.Lib (itoa)

theorem num_any (n : Int) (w : World) (h0 : -9223372036854775808 ≤ n) (h1 : n ≤ 9223372036854775807) (ht : HasTab w) :
    Calls Tryz.prog 47 #[.int .i64 n] w fun e w' => e = .returned (fv false (tx (itoa n)) (.slice none 0 0)) ∧ Below w.heap.size w w' := by
  have hc := itoa_any n h0 h1 (w.alloc (.cells #[.bool false, .string ⟨#[]⟩, .slice none 0 0] 101)) (ht.below ((Below.refl _ _).alloc (Nat.le_refl _) _))
  have HC := Lib.hid hc
  clear hc
  go_enter Tryz.func47, Tryz.ntmps47
  go_wp2_with fail
  refine HC.out.mono ?_
  rintro e w1 ⟨rfl, hb1⟩
  go_wp2_with fail
  refine (text_any _ _).mono ?_
  rintro e w2 ⟨rfl, hb2⟩
  have ho : Off (fun _ => False) (w.alloc (.cells #[.bool false, .string ⟨#[]⟩, .slice none 0 0] 101)) w2 := (Off.of_below hb1).trans (Off.of_below hb2)
  obtain ⟨⟨z1, z2, z3⟩, zf, zl⟩ := cells3_off ho (fun h => h)
  have zf0 := zf 0
  have zf1 := zf 1
  have zf2 := zf 2
  have hb : Below w.heap.size w w2 := ((Below.refl _ _).alloc (Nat.le_refl _) _).trans (ho.below (fun i hi => hi.elim) (by simp))
  have HB := Lib.hid hb
  clear hb1 hb2 ho zf hb
  go_wp2_with fail
  refine bodyPost_ret (v := fv false (tx (itoa n)) (.slice none 0 0)) (by simp [results, Tryz.results47, go_sem, z1, z2, z3]) rfl ⟨rfl, ?_⟩
  exact ((HB.out.setCell (p := ⟨w.heap.size, 0, none⟩) (Nat.le_refl _) _).setCell (p := ⟨w.heap.size, 1, none⟩) (Nat.le_refl _) _).setCell (p := ⟨w.heap.size, 2, none⟩) (Nat.le_refl _) _

def OwnNil (B pl : Nat) (L : Int) (w : World) (e : Ending) (w' : World) : Prop :=
  ∃ v, e = .returned v ∧ Row 3 B w' v 0 [] ∧ Off (· = pl) w w' ∧ w'.cell? ⟨pl, 0, none⟩ = some (.int .i64 L) ∧ w'.frozen? ⟨pl, 0, none⟩ = false

set_option maxHeartbeats 1000000 in
theorem own_nil (a : Option Addr) (c d pl B : Nat) (L : Int) (w : World) (hc : w.cell? ⟨pl, 0, none⟩ = some (.int .i64 L)) (hf : w.frozen? ⟨pl, 0, none⟩ = false) (hB : B ≤ w.heap.size) (hL0 : 0 ≤ L) (hL1 : L ≤ 65536)
    : Calls Tryz.prog 70 #[.slice a 0 c, .int .i64 (d : Nat), .pointer (some ⟨pl, 0, none⟩)] w (OwnNil B pl L w) := by
  have hlt := cell_lt hc
  have hsrc : Src Tryz.prog 3 96 (.slice a 0 c) 0 [] w := by
    cases a with
    | none => exact Src.ofNil w Tryz.underlying96 c
    | some b => exact Src.ofSlice w Tryz.underlying96 b 0 c [] rfl (by simp) (by simp)
  have HS := Lib.hid hsrc
  clear hsrc
  go_enter Tryz.func70, Tryz.ntmps70
  go_wp2_with (at_builtin; refine wpList_append_row rfl (.const (.slice none 0 0)) (.tmp 10) 96 96 rfl 3 101 (.agg #[.bool false, .string ByteArray.empty, .slice none 0 0]) 48 Tryz.underlying96 Tryz.infoForm rfl B (.slice none 0 0) 0 [] (by simp [Act.eval]) (Row.nil _ _ _) (.slice a 0 c) (by simp [Act.eval]) 0 [] (by exact HS.out) hB (by decide) (by decide) ?_; intro v6 w6 hr6 ho6 hw6; obtain ⟨a6, c6, hv6⟩ := hr6.form; simp only [Nat.add_zero] at hv6; subst hv6; have k1 := (ho6.cell (p := ⟨pl, 0, none⟩) hlt (by simp [Value.ownBlock])).trans hc; have k2 := (ho6.frozen (p := ⟨pl, 0, none⟩) hlt (by simp [Value.ownBlock])).trans hf; have HR6 := Lib.hid hr6; have HO6 := Lib.hid ho6; have HW6 := Lib.hid hw6; clear hr6 ho6 hw6)
  refine wp_loop_rounds 1 ?_
  rw [rounds_succ]
  go_wp2_with fail
  go_ret
  have hne : (Value.slice a6 0 c6).ownBlock ≠ some pl := fun e => by
    rcases HW6.out with h | h
    · rw [h] at e; cases e
    · rw [h] at e; injection e with e; omega
  refine ⟨.slice a6 0 c6, rfl, ?_, ?_, World.cell?_setCell_same _ _ _ k1, by rw [World.frozen?_setCell]; exact k2⟩
  · exact HR6.out.setOther (p := ⟨pl, 0, none⟩) hne _
  · have ho : Off (fun i => i = pl) w w6 := HO6.out.mono fun i hi => by cases hi
    exact ho.setCell (p := ⟨pl, 0, none⟩) (.inr rfl) _

def OwnFlat (B pl : Nat) (ts : List Tm) (w : World) (e : Ending) (w' : World) : Prop :=
  ∃ v es, e = .returned v ∧ es.map FE.tm = ts ∧ Made B w' v es ∧ Off (· = pl) w w'

theorem Made.setItems {B : Nat} {w : World} {a : Option Addr} {n c : Nat} {es : List FE} {k : Nat} {l : Bool} {t : ByteArray} {ys : List Tm} {s s' : Value} (h : Made B w (.slice a n c) es) (hk : es[k]? = some (l, t, ys, s)) (hs : SlL (fun i => B ≤ i ∧ (Value.slice a n c).ownBlock ≠ some i) w s' ys) :
    ∃ g, a = some ⟨g, 0, none⟩ ∧ B ≤ g ∧ g < w.heap.size ∧ w.cell? ⟨g, k * 3, none⟩ = some (.bool l) ∧ w.cell? ⟨g, k * 3 + 1, none⟩ = some (.string t) ∧ w.cell? ⟨g, k * 3 + 2, none⟩ = some s ∧ w.frozen? ⟨g, k * 3 + 2, none⟩ = false ∧
      Made B (w.setCell ⟨g, k * 3 + 2, none⟩ s') (.slice a n c) (es.set k (l, t, ys, s')) := by
  have hkl := (List.getElem?_eq_some_iff.1 hk).1
  obtain ⟨h0, hr⟩ := h.row
  obtain ⟨b, cap, hv, h1, h2, h3, h4, h5, h6⟩ := h.row.pos (by omega)
  injection hv with e1 e2 e3
  subst e1
  subst e3
  obtain ⟨c1, c2, c3⟩ := fcells_at hk
  have hcap : k * 3 + 2 < c * 3 := by omega
  refine ⟨b, rfl, h1, h2, h6 _ _ c1, h6 _ _ c2, h6 _ _ c3, (h5 _ hcap).2, ⟨⟨?_, .inr ⟨b, c, by rw [List.length_set]; exact congrArg (fun m => Value.slice (some ⟨b, 0, none⟩) m c) e2, h1, by simpa [World.setCell] using h2, by rw [List.length_set]; exact h3, h4, fun j hj => ⟨?_, ?_⟩, fun j u hu => ?_⟩⟩, fun p hp => ?_⟩⟩
  · rw [fcells_len, List.length_set]
  · by_cases e : k * 3 + 2 = j
    · subst e
      rw [World.cell?_setCell_same _ _ _ (h6 _ _ c3)]; rfl
    · rw [World.cell?_setCell_other _ _ _ _ (fun h => e (by injection h))]
      exact (h5 j hj).1
  · rw [World.frozen?_setCell]; exact (h5 j hj).2
  · have hset : fcells (es.set k (l, t, ys, s')) = (fcells es).set (k * 3 + 2) s' := by
      have e1 : es = es.take k ++ [(l, t, ys, s)] ++ es.drop (k + 1) := by
        obtain ⟨_, e⟩ := List.getElem?_eq_some_iff.1 hk
        rw [List.append_assoc, List.singleton_append, ← e, List.getElem_cons_drop, List.take_append_drop]
      have hl : (es.take k).length = k := by rw [List.length_take]; omega
      have hl3 : (fcells (es.take k)).length = k * 3 := by rw [fcells_len, hl]
      have e2 : es.set k (l, t, ys, s') = es.take k ++ [(l, t, ys, s')] ++ es.drop (k + 1) := by
        rw [List.set_eq_take_append_cons_drop, if_pos hkl]; simp
      rw [e2]
      conv => rhs; rw [e1]
      rw [fcells_app, fcells_app, fcells_app, fcells_app, fcells_one, fcells_one, List.append_assoc, List.append_assoc, List.set_append_right _ _ (by omega), hl3, show k * 3 + 2 - k * 3 = 2 by omega]
      rfl
    rw [hset] at hu
    by_cases e : k * 3 + 2 = j
    · subst e
      rw [List.getElem?_set_self (by rw [fcells_len]; omega)] at hu
      rw [World.cell?_setCell_same _ _ _ (h6 _ _ c3)]
      exact hu
    · rw [List.getElem?_set_ne e] at hu
      rw [World.cell?_setCell_other _ _ _ _ (fun h => e (by injection h))]
      exact h6 j u hu
  · have hz : ∀ {x : Value} {zs : List Tm}, SlL (fun i => B ≤ i ∧ (Value.slice (some ⟨b, 0, none⟩) n c).ownBlock ≠ some i) w x zs → SlL (fun i => B ≤ i ∧ (Value.slice (some ⟨b, 0, none⟩) n c).ownBlock ≠ some i) (w.setCell ⟨b, k * 3 + 2, none⟩ s') x zs := fun hx => hx.carry fun i hi hh => ⟨Below.heap_setCell _ _ _ _ (fun e => hh.2 (by rw [e]; rfl)), hh⟩
    rcases List.mem_or_eq_of_mem_set hp with hp | hp
    · exact ⟨(h.sub p hp).1, hz (h.sub p hp).2⟩
    · subst hp
      exact ⟨(h.sub _ (List.mem_of_getElem? hk)).1, hz hs⟩

theorem map_set_tm {es : List FE} {k : Nat} {l : Bool} {t : ByteArray} {ys : List Tm} {s s' : Value} (hk : es[k]? = some (l, t, ys, s)) : (es.set k (l, t, ys, s')).map FE.tm = es.map FE.tm := by
  rw [List.map_set]
  have : (es.map FE.tm)[k]? = some (.mk l t ys) := by rw [List.getElem?_map, hk]; rfl
  obtain ⟨h, e⟩ := List.getElem?_eq_some_iff.1 this
  rw [show FE.tm (l, t, ys, s') = (es.map FE.tm)[k] from e.symm, List.set_getElem_self]

set_option maxHeartbeats 4000000 in
set_option maxRecDepth 100000 in
theorem own_flat (lv : Value) (n d pl Bl : Nat) (L : Nat) (es : List FE) (w : World) (hrow : Row 3 Bl w lv n (fcells es)) (hn : n = es.length) (hflat : ∀ p ∈ es, p.2.2.1 = [] ∧ ∃ a c, p.2.2.2 = .slice a 0 c ∧ c ≤ maxLen)
    (hts : ∀ p ∈ es, p.2.1.size ≤ 140737488355328) (hc : w.cell? ⟨pl, 0, none⟩ = some (.int .i64 (L : Nat))) (hf : w.frozen? ⟨pl, 0, none⟩ = false) (hnl : n ≤ L) (hL1 : L ≤ 65536) (hd : d < 8) :
    Calls Tryz.prog 70 #[lv, .int .i64 (d : Nat), .pointer (some ⟨pl, 0, none⟩)] w (OwnFlat w.heap.size pl (es.map FE.tm) w) := by
  have hlt := cell_lt hc
  obtain ⟨a0, c0, hv, hnc, hcm⟩ := hrow.form'
  subst hv
  have hsrc : Src Tryz.prog 3 96 (.slice a0 n c0) n (fcells es) w := by
    obtain ⟨h0, ⟨h1, h2⟩ | ⟨b, cap, h1, h2, h3, h4, h5, h6, h7⟩⟩ := hrow
    · injection h1 with e1 e2 e3
      subst e1
      subst h2
      have : es = [] := List.length_eq_zero_iff.1 hn.symm
      subst this
      exact Src.ofNil w Tryz.underlying96 c0
    · injection h1 with e1 e2 e3
      subst e1
      refine Src.ofSlice w Tryz.underlying96 _ n c0 (fcells es) h0 (fun j u hj => ?_) (fun u hu => ?_)
      · have e2 : (⟨b, 0, none⟩ : Addr).add j = ⟨b, j, none⟩ := by unfold Addr.add; split <;> simp_all
        rw [e2]; exact h7 j u hj
      · obtain ⟨p, hp, hq⟩ := List.mem_flatMap.1 hu
        obtain ⟨_, a, c, e, _⟩ := hflat p hp
        simp only [List.mem_cons, List.not_mem_nil, or_false] at hq
        rcases hq with rfl | rfl | rfl
        · rfl
        · rfl
        · rw [e]; rfl
  have HS := Lib.hid hsrc
  have HN := Lib.hid hn
  have HF := Lib.hid hflat
  have HT := Lib.hid hts
  have hkk : ((L : Int) - (n : Int)) = ((L - n : Nat) : Int) := by omega
  have hd8 : (d : Int) < 8 := by omega
  have hsub : RowKit.wrap64 ((L : Int) - (n : Int)) = ((L - n : Nat) : Int) := by unfold RowKit.wrap64; omega
  obtain ⟨M, hM⟩ : ∃ M, M = L - n := ⟨_, rfl⟩
  have HM := Lib.hid hM
  clear hsrc hn hflat hts hrow hkk hsub hM
  go_enter Tryz.func70, Tryz.ntmps70
  go_wp2_with (at_builtin; refine wpList_append_row rfl (.const (.slice none 0 0)) (.tmp 10) 96 96 rfl 3 101 (.agg #[.bool false, .string ByteArray.empty, .slice none 0 0]) 48 Tryz.underlying96 Tryz.infoForm rfl w.heap.size (.slice none 0 0) 0 [] (by simp [Act.eval]) (Row.nil _ _ _) (.slice a0 n c0) (by simp [Act.eval]) n (fcells es) (by exact HS.out) (Nat.le_refl _) (by omega) (by decide) ?_; intro v6 w6 hr6 ho6 hw6; obtain ⟨a6, c6, hv6⟩ := hr6.form; simp only [Nat.zero_add] at hv6; subst hv6; have k1 := (ho6.cell (p := ⟨pl, 0, none⟩) hlt (by simp [Value.ownBlock])).trans hc; have k2 := (ho6.frozen (p := ⟨pl, 0, none⟩) hlt (by simp [Value.ownBlock])).trans hf; have HR6 := Lib.hid hr6; have HO6 := Lib.hid ho6; have HW6 := Lib.hid hw6; clear hr6 ho6 hw6)
  have hm0 : Made w.heap.size (w6.setCell ⟨pl, 0, none⟩ (.int .i64 ((L : Int) - (n : Int)))) (.slice a6 n c6) es := by
    have hr := HR6.out
    simp only [Nat.zero_add, List.nil_append] at hr
    have hm : Made w.heap.size w6 (.slice a6 n c6) es := by
      refine ⟨by rw [← HN.out]; exact hr, fun p hp => ⟨HT.out p hp, ?_⟩⟩
      obtain ⟨h1, a, c, h2, h3⟩ := HF.out p hp
      rw [h1, h2]
      exact .nil a c h3
    exact hm.off ((Off.refl (fun i => i = pl) w6).setCell (p := ⟨pl, 0, none⟩) (.inr rfl) _) (fun i hi => by omega)
  have ho0 : Off (fun i => i = pl) w (w6.setCell ⟨pl, 0, none⟩ (.int .i64 ((L : Int) - (n : Int)))) := by
    have : Off (fun i => i = pl) w w6 := HO6.out.mono fun i hi => by cases hi
    exact this.setCell (p := ⟨pl, 0, none⟩) (.inr rfl) _
  have hc0 : (w6.setCell ⟨pl, 0, none⟩ (.int .i64 ((L : Int) - (n : Int)))).cell? ⟨pl, 0, none⟩ = some (.int .i64 (M : Nat)) := by
    rw [show ((M : Nat) : Int) = (L : Int) - (n : Int) by have := HM.out; omega]
    exact World.cell?_setCell_same _ _ _ k1
  have hf0 : (w6.setCell ⟨pl, 0, none⟩ (.int .i64 ((L : Int) - (n : Int)))).frozen? ⟨pl, 0, none⟩ = false := by rw [World.frozen?_setCell]; exact k2
  have HM0 := Lib.hid hm0
  have HO0 := Lib.hid ho0
  have HC0 := Lib.hid hc0
  have HF0 := Lib.hid hf0
  have hMl : M ≤ 65536 := by have := HM.out; omega
  clear hm0 ho0 hc0 hf0 k1 k2 hc hf
  go_loopw [21] (fun i wr => ∃ (k : Nat) (es' : List FE), k ≤ n ∧ i = .int .i64 (k : Nat) ∧ es'.map FE.tm = es.map FE.tm ∧ (∀ p ∈ es', p.2.2.1 = [] ∧ ∃ a c, p.2.2.2 = .slice a 0 c ∧ c ≤ maxLen) ∧ Made w.heap.size wr (.slice a6 n c6) es' ∧ Off (fun i => i = pl) w wr ∧ wr.cell? ⟨pl, 0, none⟩ = some (.int .i64 (M : Nat)) ∧ wr.frozen? ⟨pl, 0, none⟩ = false) (fun i _ => n - (intOf i).toNat)
  case atStart => exact ⟨0, es, Nat.zero_le _, rfl, rfl, HF.out, HM0.out, HO0.out, HC0.out, HF0.out⟩
  case round =>
    obtain ⟨k, es', hk, rfl, hmap, hfl, hmd, hoff, hcp, hfp⟩ := hrel
    have hlen : es'.length = n := by
      have := congrArg List.length hmap
      rw [List.length_map, List.length_map, ← HN.out] at this
      exact this
    have HMAP := Lib.hid hmap
    have HFL := Lib.hid hfl
    have HMD := Lib.hid hmd
    have HOF := Lib.hid hoff
    have HLEN := Lib.hid hlen
    clear hmap hfl hmd hoff hlen
    by_cases hlk : k < n
    · obtain ⟨p, hp⟩ : ∃ p, es'[k]? = some p := ⟨es'[k]'(by rw [HLEN.out]; exact hlk), by simp⟩
      obtain ⟨l1, t1, ys1, s1⟩ := p
      obtain ⟨h1, a1, c1, h2, h3⟩ := HFL.out _ (List.mem_of_getElem? hp)
      dsimp only at h1 h2
      subst h1
      subst h2
      obtain ⟨g, hg, hg1, hg2, d1, d2, d3, d4, -⟩ := HMD.out.setItems hp (s' := .slice a1 0 c1) (.nil a1 c1 h3)
      subst hg
      have hpg : ¬ g = pl := by omega
      have hlp := cell_lt hcp
      have hown : ∀ wz, Off (fun i => False) wr wz → Calls Tryz.prog 70 #[.slice a1 0 c1, .int .i64 (d + 1 : Nat), .pointer (some ⟨pl, 0, none⟩)] wz (OwnNil wz.heap.size pl (M : Nat) wz) := fun wz hz =>
        own_nil a1 c1 (d + 1) pl wz.heap.size (M : Nat) wz ((hz.cell (p := ⟨pl, 0, none⟩) hlp (fun h => h)).trans hcp) ((hz.frozen (p := ⟨pl, 0, none⟩) hlp (fun h => h)).trans hfp) (Nat.le_refl _) (by omega) (by omega)
      have HOWN := Lib.hid hown
      have HP := Lib.hid hp
      have H3 := Lib.hid h3
      have i0 : (0 : Int) ≤ k := by omega
      have i1 : (k : Int) < n := by omega
      have i2 : (0 : Int) ≤ M := by omega
      clear hown hp h3
      go_wp2_with fail
      go_quiet (fail)
      go_wp2_with fail
      refine (HOWN.out _ (((Off.refl _ _).alloc _).drewN)).mono ?_
      rintro e w7 ⟨v7, rfl, hr7, ho7, hc7, hf7⟩
      obtain ⟨a7, c7, hv7, hz7, hm7'⟩ := hr7.form'
      subst hv7
      have hoz : Off (fun i => i = pl) wr w7 := ((((Off.refl (fun i => i = pl) wr).alloc _).drewN).trans ho7)
      have hm7 := HMD.out.off hoz (fun i hi => by omega)
      obtain ⟨g', hg', -, -, -, -, y3, y4, hmade⟩ := hm7.setItems HP.out (s' := .slice a7 0 c7) (.nil a7 c7 hm7')
      injection hg' with hg'
      injection hg' with hg'
      subst hg'
      have HO7 := Lib.hid (HOF.out.trans hoz)
      have HC7 := Lib.hid hc7
      have HF7 := Lib.hid hf7
      have HMADE := Lib.hid hmade
      clear hr7 ho7 hc7 hf7 hoz hm7 hmade d1 d2 d3 d4 hcp hfp
      go_wp2_with fail
      refine ⟨⟨k + 1, _, hlk, by go_num, ?_, ?_, HMADE.out, HO7.out.setCell (.inl hg1) _, ?_, ?_⟩, by simp [intOf]; omega⟩
      · rw [map_set_tm HP.out, HMAP.out]
      · intro p hp
        rcases List.mem_or_eq_of_mem_set hp with hp | hp
        · exact HFL.out p hp
        · subst hp
          exact ⟨rfl, a7, c7, rfl, hm7'⟩
      · exact (World.cell?_setCell_other _ _ _ _ (fun e => hpg (by injection e))).trans HC7.out
      · rw [World.frozen?_setCell]; exact HF7.out
    · have hge : ¬ (k : Int) < n := by omega
      go_wp2_with fail
      go_ret
      exact ⟨_, es', rfl, HMAP.out, HMD.out, HOF.out⟩

def ListP (ts : List Tm) (w : World) (e : Ending) (w' : World) : Prop :=
  ∃ a n c, e = .returned (fv true noText (.slice a n c)) ∧ n = ts.length ∧ Below w.heap.size w w' ∧ SlL (fun i => w.heap.size ≤ i) w' (.slice a n c) ts

set_option maxHeartbeats 1000000 in
theorem list_flat (lv : Value) (n Bl : Nat) (es : List FE) (w : World) (hrow : Row 3 Bl w lv n (fcells es)) (hn : n = es.length) (hflat : ∀ p ∈ es, p.2.2.1 = [] ∧ ∃ a c, p.2.2.2 = .slice a 0 c ∧ c ≤ maxLen)
    (hts : ∀ p ∈ es, p.2.1.size ≤ 140737488355328) (hnl : n ≤ 65536) :
    Calls Tryz.prog 49 #[lv] w (ListP (es.map FE.tm) w) := by
  have hb2 : ∀ o1 o2, Below w.heap.size w ((w.alloc o1).alloc o2) := fun o1 o2 => ((Below.refl _ _).alloc (Nat.le_refl _) _).alloc (by simp) _
  have hc : Calls Tryz.prog 70 #[lv, .int .i64 1, .pointer (some ⟨w.heap.size + 1, 0, none⟩)] ((w.alloc (.cells #[.bool false, .string ⟨#[]⟩, .slice none 0 0] 101)).alloc (.cells #[.int .i64 65536] 3)) (OwnFlat (w.heap.size + 2) (w.heap.size + 1) (es.map FE.tm) ((w.alloc (.cells #[.bool false, .string ⟨#[]⟩, .slice none 0 0] 101)).alloc (.cells #[.int .i64 65536] 3))) := by
    have := own_flat lv n 1 (w.heap.size + 1) Bl 65536 es ((w.alloc (.cells #[.bool false, .string ⟨#[]⟩, .slice none 0 0] 101)).alloc (.cells #[.int .i64 65536] 3)) ((hrow.alloc _).alloc _) hn hflat hts ((World.cell?_alloc_at _ _ _ _ (by simp)).trans rfl) (World.frozen?_alloc_at _ _ _ _ (by simp)) hnl (by omega) (by omega)
    have e : ((w.alloc (.cells #[.bool false, .string ⟨#[]⟩, .slice none 0 0] 101)).alloc (.cells #[.int .i64 65536] 3)).heap.size = w.heap.size + 2 := by simp
    rw [e] at this
    exact this
  have HC := Lib.hid hc
  obtain ⟨a0, c0, hv, _⟩ := hrow.form'
  subst hv
  clear hc hrow hn hflat hts hb2
  go_enter Tryz.func49, Tryz.ntmps49
  go_wp2_with fail
  refine HC.out.mono ?_
  rintro e w3 ⟨v, es', rfl, hmap, hmd, hoff⟩
  obtain ⟨⟨z1, z2, z3⟩, zf, zl, zb⟩ := two_off hoff
  have zf0 := zf 0
  have zf1 := zf 1
  have zf2 := zf 2
  have zl2 : w.heap.size < w3.heap.size := by omega
  obtain ⟨a, c, hv, hle, hcm⟩ := hmd.row.form'
  obtain ⟨m, hm⟩ : ∃ m, m = es'.length := ⟨_, rfl⟩
  rw [← hm] at hv
  subst hv
  have HZB := Lib.hid zb
  have hsl : SlL (fun i => w.heap.size + 2 ≤ i) w3 (.slice a m c) (es.map FE.tm) := by rw [← hmap]; exact hmd.sl fun i h => h
  have HSL := Lib.hid hsl
  have HM := Lib.hid hm
  have HMAP := Lib.hid hmap
  clear hmap hmd hoff zf zb hsl hm hle hcm
  go_wp2_with fail
  refine bodyPost_ret (v := fv true noText (.slice a m c)) (by simp [results, Tryz.results49, go_sem, z1, z2, z3]) rfl ⟨a, m, c, rfl, ?_, set3_below HZB.out _ _ _, ?_⟩
  · rw [← HMAP.out, List.length_map]; exact HM.out
  · have hfo : Off (fun i => i = w.heap.size) w3 (((w3.setCell ⟨w.heap.size, 0, none⟩ (.bool true)).setCell ⟨w.heap.size, 1, none⟩ (.string ⟨#[]⟩)).setCell ⟨w.heap.size, 2, none⟩ (.slice a m c)) :=
      (((Off.refl (fun i => i = w.heap.size) w3).setCell (p := ⟨w.heap.size, 0, none⟩) (.inr rfl) _).setCell (p := ⟨w.heap.size, 1, none⟩) (.inr rfl) _).setCell (p := ⟨w.heap.size, 2, none⟩) (.inr rfl) _
    exact (HSL.out.off hfo fun i hi e => by omega).mono fun i _ hi => by omega
end Go.Proofs.YthamfbfeokmhgaaGreatDoor
