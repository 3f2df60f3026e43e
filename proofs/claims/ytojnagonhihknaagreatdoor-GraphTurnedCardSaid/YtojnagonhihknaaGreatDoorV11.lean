/- The contracts of List (of forms without items) and of Num. The contract of List: forms whose lists may have lists in them. -/
import Derived.Test.YtojnagonhihknaaGreatDoorV10
import Derived.Test.YtojnagonhihknaaGreatDoorV5
import Derived.Test.YtojnagonhihknaaGreatDoorV7
set_option linter.unusedVariables false
namespace Go.Proofs.YtojnagonhihknaaGreatDoor
open Go.ChangeShapes Go.WideShapes Go.ChangeAt Go.RowKit
open Go.Lib (itoa)

theorem num_any (n : Int) (w : World) (h0 : -9223372036854775808 ≤ n) (h1 : n ≤ 9223372036854775807) (ht : HasTab w) :
    Calls Tryz.prog 138 #[.int .i64 n] w fun e w' => e = .returned (fv false (tx (itoa n)) (.slice none 0 0)) ∧ Below w.heap.size w w' := by
  have hc := itoa_any n h0 h1 (w.alloc (.cells #[.bool false, .string ⟨#[]⟩, .slice none 0 0] 122)) (ht.below ((Below.refl _ _).alloc (Nat.le_refl _) _))
  have HC := Lib.hid hc
  clear hc
  go_enter Tryz.func138, Tryz.ntmps138
  go_wp2_with fail
  refine HC.out.mono ?_
  rintro e w1 ⟨rfl, hb1⟩
  go_wp2_with fail
  refine (text_any _ _).mono ?_
  rintro e w2 ⟨rfl, hb2⟩
  have ho : Off (fun _ => False) (w.alloc (.cells #[.bool false, .string ⟨#[]⟩, .slice none 0 0] 122)) w2 := (Off.of_below hb1).trans (Off.of_below hb2)
  obtain ⟨⟨z1, z2, z3⟩, zf, zl⟩ := cells3_off ho (fun h => h)
  have zf0 := zf 0
  have zf1 := zf 1
  have zf2 := zf 2
  have hb : Below w.heap.size w w2 := ((Below.refl _ _).alloc (Nat.le_refl _) _).trans (ho.below (fun i hi => hi.elim) (by simp))
  have HB := Lib.hid hb
  clear hb1 hb2 ho zf hb
  go_wp2_with fail
  refine bodyPost_ret (v := fv false (tx (itoa n)) (.slice none 0 0)) (by simp [results, Tryz.results138, go_sem, z1, z2, z3]) rfl ⟨rfl, ?_⟩
  exact ((HB.out.setCell (p := ⟨w.heap.size, 0, none⟩) (Nat.le_refl _) _).setCell (p := ⟨w.heap.size, 1, none⟩) (Nat.le_refl _) _).setCell (p := ⟨w.heap.size, 2, none⟩) (Nat.le_refl _) _

def OwnNil (B pl : Nat) (L : Int) (w : World) (e : Ending) (w' : World) : Prop :=
  ∃ v, e = .returned v ∧ Row 3 B w' v 0 [] ∧ Off (· = pl) w w' ∧ w'.cell? ⟨pl, 0, none⟩ = some (.int .i64 L) ∧ w'.frozen? ⟨pl, 0, none⟩ = false

set_option maxHeartbeats 1000000 in
theorem own_nil (a : Option Addr) (c d pl B : Nat) (L : Int) (w : World) (hc : w.cell? ⟨pl, 0, none⟩ = some (.int .i64 L)) (hf : w.frozen? ⟨pl, 0, none⟩ = false) (hB : B ≤ w.heap.size) (hL0 : 0 ≤ L) (hL1 : L ≤ 65536)
    : Calls Tryz.prog 172 #[.slice a 0 c, .int .i64 (d : Nat), .pointer (some ⟨pl, 0, none⟩)] w (OwnNil B pl L w) := by
  have hlt := cell_lt hc
  have hsrc : Src Tryz.prog 3 120 (.slice a 0 c) 0 [] w := by
    cases a with
    | none => exact Src.ofNil w Tryz.underlying120 c
    | some b => exact Src.ofSlice w Tryz.underlying120 b 0 c [] rfl (by simp) (by simp)
  have HS := Lib.hid hsrc
  clear hsrc
  go_enter Tryz.func172, Tryz.ntmps172
  go_wp2_with (at_builtin; refine wpList_append_row rfl (.const (.slice none 0 0)) (.tmp 10) 120 120 rfl 3 122 (.agg #[.bool false, .string ByteArray.empty, .slice none 0 0]) 48 Tryz.underlying120 Tryz.infoForm rfl B (.slice none 0 0) 0 [] (by simp [Act.eval]) (Row.nil _ _ _) (.slice a 0 c) (by simp [Act.eval]) 0 [] (by exact HS.out) hB (by decide) (by decide) ?_; intro v6 w6 hr6 ho6 hw6; obtain ⟨a6, c6, hv6⟩ := hr6.form; simp only [Nat.add_zero] at hv6; subst hv6; have k1 := (ho6.cell (p := ⟨pl, 0, none⟩) hlt (by simp [Value.ownBlock])).trans hc; have k2 := (ho6.frozen (p := ⟨pl, 0, none⟩) hlt (by simp [Value.ownBlock])).trans hf; have HR6 := Lib.hid hr6; have HO6 := Lib.hid ho6; have HW6 := Lib.hid hw6; clear hr6 ho6 hw6)
  refine wp_loop_rounds 1 ?_
  rw [rounds_succ]
  go_wp2_with fail
  go_ret
  have hne : (Value.slice a6 0 c6).ownBlock ≠ some pl := fun e => by
    rcases HW6.out with h | h
    · rw [h] at e; cases e
    · rw [h] at e; injection e with e; omega
  refine ⟨.slice a6 0 c6, rfl, ?_, ?_, World.cell?_setCell_same _ _ _ k1, by rw [World.frozen?_setCell]; exact k2⟩
  · exact HR6.out.setOther (p := ⟨pl, 0, none⟩) hne _
  · have ho : Off (fun i => i = pl) w w6 := HO6.out.mono fun i hi => by cases hi
    exact ho.setCell (p := ⟨pl, 0, none⟩) (.inr rfl) _

def OwnFlat (B pl : Nat) (ts : List Tm) (w : World) (e : Ending) (w' : World) : Prop :=
  ∃ v es, e = .returned v ∧ es.map FE.tm = ts ∧ Made B w' v es ∧ Off (· = pl) w w'

theorem Made.setItems {B : Nat} {w : World} {a : Option Addr} {n c : Nat} {es : List FE} {k : Nat} {l : Bool} {t : ByteArray} {ys : List Tm} {s s' : Value} (h : Made B w (.slice a n c) es) (hk : es[k]? = some (l, t, ys, s)) (hs : SlL (fun i => B ≤ i ∧ (Value.slice a n c).ownBlock ≠ some i) w s' ys) :
    ∃ g, a = some ⟨g, 0, none⟩ ∧ B ≤ g ∧ g < w.heap.size ∧ w.cell? ⟨g, k * 3, none⟩ = some (.bool l) ∧ w.cell? ⟨g, k * 3 + 1, none⟩ = some (.string t) ∧ w.cell? ⟨g, k * 3 + 2, none⟩ = some s ∧ w.frozen? ⟨g, k * 3 + 2, none⟩ = false ∧
      Made B (w.setCell ⟨g, k * 3 + 2, none⟩ s') (.slice a n c) (es.set k (l, t, ys, s')) := by
  have hkl := (List.getElem?_eq_some_iff.1 hk).1
  obtain ⟨h0, hr⟩ := h.row
  obtain ⟨b, cap, hv, h1, h2, h3, h4, h5, h6⟩ := h.row.pos (by omega)
  injection hv with e1 e2 e3
  subst e1
  subst e3
  obtain ⟨c1, c2, c3⟩ := fcells_at hk
  have hcap : k * 3 + 2 < c * 3 := by omega
  refine ⟨b, rfl, h1, h2, h6 _ _ c1, h6 _ _ c2, h6 _ _ c3, (h5 _ hcap).2, ⟨⟨?_, .inr ⟨b, c, by rw [List.length_set]; exact congrArg (fun m => Value.slice (some ⟨b, 0, none⟩) m c) e2, h1, by simpa [World.setCell] using h2, by rw [List.length_set]; exact h3, h4, fun j hj => ⟨?_, ?_⟩, fun j u hu => ?_⟩⟩, fun p hp => ?_⟩⟩
  · rw [fcells_len, List.length_set]
  · by_cases e : k * 3 + 2 = j
    · subst e
      rw [World.cell?_setCell_same _ _ _ (h6 _ _ c3)]; rfl
    · rw [World.cell?_setCell_other _ _ _ _ (fun h => e (by injection h))]
      exact (h5 j hj).1
  · rw [World.frozen?_setCell]; exact (h5 j hj).2
  · have hset : fcells (es.set k (l, t, ys, s')) = (fcells es).set (k * 3 + 2) s' := by
      have e1 : es = es.take k ++ [(l, t, ys, s)] ++ es.drop (k + 1) := by
        obtain ⟨_, e⟩ := List.getElem?_eq_some_iff.1 hk
        rw [List.append_assoc, List.singleton_append, ← e, List.getElem_cons_drop, List.take_append_drop]
      have hl : (es.take k).length = k := by rw [List.length_take]; omega
      have hl3 : (fcells (es.take k)).length = k * 3 := by rw [fcells_len, hl]
      have e2 : es.set k (l, t, ys, s') = es.take k ++ [(l, t, ys, s')] ++ es.drop (k + 1) := by
        rw [List.set_eq_take_append_cons_drop, if_pos hkl]; simp
      rw [e2]
      conv => rhs; rw [e1]
      rw [fcells_app, fcells_app, fcells_app, fcells_app, fcells_one, fcells_one, List.append_assoc, List.append_assoc, List.set_append_right _ _ (by omega), hl3, show k * 3 + 2 - k * 3 = 2 by omega]
      rfl
    rw [hset] at hu
    by_cases e : k * 3 + 2 = j
    · subst e
      rw [List.getElem?_set_self (by rw [fcells_len]; omega)] at hu
      rw [World.cell?_setCell_same _ _ _ (h6 _ _ c3)]
      exact hu
    · rw [List.getElem?_set_ne e] at hu
      rw [World.cell?_setCell_other _ _ _ _ (fun h => e (by injection h))]
      exact h6 j u hu
  · have hz : ∀ {x : Value} {zs : List Tm}, SlL (fun i => B ≤ i ∧ (Value.slice (some ⟨b, 0, none⟩) n c).ownBlock ≠ some i) w x zs → SlL (fun i => B ≤ i ∧ (Value.slice (some ⟨b, 0, none⟩) n c).ownBlock ≠ some i) (w.setCell ⟨b, k * 3 + 2, none⟩ s') x zs := fun hx => hx.carry fun i hi hh => ⟨Below.heap_setCell _ _ _ _ (fun e => hh.2 (by rw [e]; rfl)), hh⟩
    rcases List.mem_or_eq_of_mem_set hp with hp | hp
    · exact ⟨(h.sub p hp).1, hz (h.sub p hp).2⟩
    · subst hp
      exact ⟨(h.sub _ (List.mem_of_getElem? hk)).1, hz hs⟩

theorem map_set_tm {es : List FE} {k : Nat} {l : Bool} {t : ByteArray} {ys : List Tm} {s s' : Value} (hk : es[k]? = some (l, t, ys, s)) : (es.set k (l, t, ys, s')).map FE.tm = es.map FE.tm := by
  rw [List.map_set]
  have : (es.map FE.tm)[k]? = some (.mk l t ys) := by rw [List.getElem?_map, hk]; rfl
  obtain ⟨h, e⟩ := List.getElem?_eq_some_iff.1 this
  rw [show FE.tm (l, t, ys, s') = (es.map FE.tm)[k] from e.symm, List.set_getElem_self]

set_option maxHeartbeats 4000000 in
set_option maxRecDepth 100000 in
theorem own_flat (lv : Value) (n d pl Bl : Nat) (L : Nat) (es : List FE) (w : World) (hrow : Row 3 Bl w lv n (fcells es)) (hn : n = es.length) (hflat : ∀ p ∈ es, p.2.2.1 = [] ∧ ∃ a c, p.2.2.2 = .slice a 0 c ∧ c ≤ maxLen)
    (hts : ∀ p ∈ es, p.2.1.size ≤ 140737488355328) (hc : w.cell? ⟨pl, 0, none⟩ = some (.int .i64 (L : Nat))) (hf : w.frozen? ⟨pl, 0, none⟩ = false) (hnl : n ≤ L) (hL1 : L ≤ 65536) (hd : d < 8) :
    Calls Tryz.prog 172 #[lv, .int .i64 (d : Nat), .pointer (some ⟨pl, 0, none⟩)] w (OwnFlat w.heap.size pl (es.map FE.tm) w) := by
  have hlt := cell_lt hc
  obtain ⟨a0, c0, hv, hnc, hcm⟩ := hrow.form'
  subst hv
  have hsrc : Src Tryz.prog 3 120 (.slice a0 n c0) n (fcells es) w := by
    obtain ⟨h0, ⟨h1, h2⟩ | ⟨b, cap, h1, h2, h3, h4, h5, h6, h7⟩⟩ := hrow
    · injection h1 with e1 e2 e3
      subst e1
      subst h2
      have : es = [] := List.length_eq_zero_iff.1 hn.symm
      subst this
      exact Src.ofNil w Tryz.underlying120 c0
    · injection h1 with e1 e2 e3
      subst e1
      refine Src.ofSlice w Tryz.underlying120 _ n c0 (fcells es) h0 (fun j u hj => ?_) (fun u hu => ?_)
      · have e2 : (⟨b, 0, none⟩ : Addr).add j = ⟨b, j, none⟩ := by unfold Addr.add; split <;> simp_all
        rw [e2]; exact h7 j u hj
      · obtain ⟨p, hp, hq⟩ := List.mem_flatMap.1 hu
        obtain ⟨_, a, c, e, _⟩ := hflat p hp
        simp only [List.mem_cons, List.not_mem_nil, or_false] at hq
        rcases hq with rfl | rfl | rfl
        · rfl
        · rfl
        · rw [e]; rfl
  have HS := Lib.hid hsrc
  have HN := Lib.hid hn
  have HF := Lib.hid hflat
  have HT := Lib.hid hts
  have hkk : ((L : Int) - (n : Int)) = ((L - n : Nat) : Int) := by omega
  have hd8 : (d : Int) < 8 := by omega
  have hsub : RowKit.wrap64 ((L : Int) - (n : Int)) = ((L - n : Nat) : Int) := by unfold RowKit.wrap64; omega
  obtain ⟨M, hM⟩ : ∃ M, M = L - n := ⟨_, rfl⟩
  have HM := Lib.hid hM
  clear hsrc hn hflat hts hrow hkk hsub hM
  go_enter Tryz.func172, Tryz.ntmps172
  go_wp2_with (at_builtin; refine wpList_append_row rfl (.const (.slice none 0 0)) (.tmp 10) 120 120 rfl 3 122 (.agg #[.bool false, .string ByteArray.empty, .slice none 0 0]) 48 Tryz.underlying120 Tryz.infoForm rfl w.heap.size (.slice none 0 0) 0 [] (by simp [Act.eval]) (Row.nil _ _ _) (.slice a0 n c0) (by simp [Act.eval]) n (fcells es) (by exact HS.out) (Nat.le_refl _) (by omega) (by decide) ?_; intro v6 w6 hr6 ho6 hw6; obtain ⟨a6, c6, hv6⟩ := hr6.form; simp only [Nat.zero_add] at hv6; subst hv6; have k1 := (ho6.cell (p := ⟨pl, 0, none⟩) hlt (by simp [Value.ownBlock])).trans hc; have k2 := (ho6.frozen (p := ⟨pl, 0, none⟩) hlt (by simp [Value.ownBlock])).trans hf; have HR6 := Lib.hid hr6; have HO6 := Lib.hid ho6; have HW6 := Lib.hid hw6; clear hr6 ho6 hw6)
  have hm0 : Made w.heap.size (w6.setCell ⟨pl, 0, none⟩ (.int .i64 ((L : Int) - (n : Int)))) (.slice a6 n c6) es := by
    have hr := HR6.out
    simp only [Nat.zero_add, List.nil_append] at hr
    have hm : Made w.heap.size w6 (.slice a6 n c6) es := by
      refine ⟨by rw [← HN.out]; exact hr, fun p hp => ⟨HT.out p hp, ?_⟩⟩
      obtain ⟨h1, a, c, h2, h3⟩ := HF.out p hp
      rw [h1, h2]
      exact .nil a c h3
    exact hm.off ((Off.refl (fun i => i = pl) w6).setCell (p := ⟨pl, 0, none⟩) (.inr rfl) _) (fun i hi => by omega)
  have ho0 : Off (fun i => i = pl) w (w6.setCell ⟨pl, 0, none⟩ (.int .i64 ((L : Int) - (n : Int)))) := by
    have : Off (fun i => i = pl) w w6 := HO6.out.mono fun i hi => by cases hi
    exact this.setCell (p := ⟨pl, 0, none⟩) (.inr rfl) _
  have hc0 : (w6.setCell ⟨pl, 0, none⟩ (.int .i64 ((L : Int) - (n : Int)))).cell? ⟨pl, 0, none⟩ = some (.int .i64 (M : Nat)) := by
    rw [show ((M : Nat) : Int) = (L : Int) - (n : Int) by have := HM.out; omega]
    exact World.cell?_setCell_same _ _ _ k1
  have hf0 : (w6.setCell ⟨pl, 0, none⟩ (.int .i64 ((L : Int) - (n : Int)))).frozen? ⟨pl, 0, none⟩ = false := by rw [World.frozen?_setCell]; exact k2
  have HM0 := Lib.hid hm0
  have HO0 := Lib.hid ho0
  have HC0 := Lib.hid hc0
  have HF0 := Lib.hid hf0
  have hMl : M ≤ 65536 := by have := HM.out; omega
  clear hm0 ho0 hc0 hf0 k1 k2 hc hf
  go_loopw [21] (fun i wr => ∃ (k : Nat) (es' : List FE), k ≤ n ∧ i = .int .i64 (k : Nat) ∧ es'.map FE.tm = es.map FE.tm ∧ (∀ p ∈ es', p.2.2.1 = [] ∧ ∃ a c, p.2.2.2 = .slice a 0 c ∧ c ≤ maxLen) ∧ Made w.heap.size wr (.slice a6 n c6) es' ∧ Off (fun i => i = pl) w wr ∧ wr.cell? ⟨pl, 0, none⟩ = some (.int .i64 (M : Nat)) ∧ wr.frozen? ⟨pl, 0, none⟩ = false) (fun i _ => n - (intOf i).toNat)
  case atStart => exact ⟨0, es, Nat.zero_le _, rfl, rfl, HF.out, HM0.out, HO0.out, HC0.out, HF0.out⟩
  case round =>
    obtain ⟨k, es', hk, rfl, hmap, hfl, hmd, hoff, hcp, hfp⟩ := hrel
    have hlen : es'.length = n := by
      have := congrArg List.length hmap
      rw [List.length_map, List.length_map, ← HN.out] at this
      exact this
    have HMAP := Lib.hid hmap
    have HFL := Lib.hid hfl
    have HMD := Lib.hid hmd
    have HOF := Lib.hid hoff
    have HLEN := Lib.hid hlen
    clear hmap hfl hmd hoff hlen
    by_cases hlk : k < n
    · obtain ⟨p, hp⟩ : ∃ p, es'[k]? = some p := ⟨es'[k]'(by rw [HLEN.out]; exact hlk), by simp⟩
      obtain ⟨l1, t1, ys1, s1⟩ := p
      obtain ⟨h1, a1, c1, h2, h3⟩ := HFL.out _ (List.mem_of_getElem? hp)
      dsimp only at h1 h2
      subst h1
      subst h2
      obtain ⟨g, hg, hg1, hg2, d1, d2, d3, d4, -⟩ := HMD.out.setItems hp (s' := .slice a1 0 c1) (.nil a1 c1 h3)
      subst hg
      have hpg : ¬ g = pl := by omega
      have hlp := cell_lt hcp
      have hown : ∀ wz, Off (fun i => False) wr wz → Calls Tryz.prog 172 #[.slice a1 0 c1, .int .i64 (d + 1 : Nat), .pointer (some ⟨pl, 0, none⟩)] wz (OwnNil wz.heap.size pl (M : Nat) wz) := fun wz hz =>
        own_nil a1 c1 (d + 1) pl wz.heap.size (M : Nat) wz ((hz.cell (p := ⟨pl, 0, none⟩) hlp (fun h => h)).trans hcp) ((hz.frozen (p := ⟨pl, 0, none⟩) hlp (fun h => h)).trans hfp) (Nat.le_refl _) (by omega) (by omega)
      have HOWN := Lib.hid hown
      have HP := Lib.hid hp
      have H3 := Lib.hid h3
      have i0 : (0 : Int) ≤ k := by omega
      have i1 : (k : Int) < n := by omega
      have i2 : (0 : Int) ≤ M := by omega
      clear hown hp h3
      go_wp2_with fail
      go_quiet (fail)
      go_wp2_with fail
      refine (HOWN.out _ (((Off.refl _ _).alloc _).drewN)).mono ?_
      rintro e w7 ⟨v7, rfl, hr7, ho7, hc7, hf7⟩
      obtain ⟨a7, c7, hv7, hz7, hm7'⟩ := hr7.form'
      subst hv7
      have hoz : Off (fun i => i = pl) wr w7 := ((((Off.refl (fun i => i = pl) wr).alloc _).drewN).trans ho7)
      have hm7 := HMD.out.off hoz (fun i hi => by omega)
      obtain ⟨g', hg', -, -, -, -, y3, y4, hmade⟩ := hm7.setItems HP.out (s' := .slice a7 0 c7) (.nil a7 c7 hm7')
      injection hg' with hg'
      injection hg' with hg'
      subst hg'
      have HO7 := Lib.hid (HOF.out.trans hoz)
      have HC7 := Lib.hid hc7
      have HF7 := Lib.hid hf7
      have HMADE := Lib.hid hmade
      clear hr7 ho7 hc7 hf7 hoz hm7 hmade d1 d2 d3 d4 hcp hfp
      go_wp2_with fail
      refine ⟨⟨k + 1, _, hlk, by go_num, ?_, ?_, HMADE.out, HO7.out.setCell (.inl hg1) _, ?_, ?_⟩, by simp [intOf]; omega⟩
      · rw [map_set_tm HP.out, HMAP.out]
      · intro p hp
        rcases List.mem_or_eq_of_mem_set hp with hp | hp
        · exact HFL.out p hp
        · subst hp
          exact ⟨rfl, a7, c7, rfl, hm7'⟩
      · exact (World.cell?_setCell_other _ _ _ _ (fun e => hpg (by injection e))).trans HC7.out
      · rw [World.frozen?_setCell]; exact HF7.out
    · have hge : ¬ (k : Int) < n := by omega
      go_wp2_with fail
      go_ret
      exact ⟨_, es', rfl, HMAP.out, HMD.out, HOF.out⟩

def ListP (ts : List Tm) (w : World) (e : Ending) (w' : World) : Prop :=
  ∃ a n c, e = .returned (fv true noText (.slice a n c)) ∧ n = ts.length ∧ Below w.heap.size w w' ∧ SlL (fun i => w.heap.size ≤ i) w' (.slice a n c) ts

set_option maxHeartbeats 1000000 in
theorem list_flat (lv : Value) (n Bl : Nat) (es : List FE) (w : World) (hrow : Row 3 Bl w lv n (fcells es)) (hn : n = es.length) (hflat : ∀ p ∈ es, p.2.2.1 = [] ∧ ∃ a c, p.2.2.2 = .slice a 0 c ∧ c ≤ maxLen)
    (hts : ∀ p ∈ es, p.2.1.size ≤ 140737488355328) (hnl : n ≤ 65536) :
    Calls Tryz.prog 137 #[lv] w (ListP (es.map FE.tm) w) := by
  have hb2 : ∀ o1 o2, Below w.heap.size w ((w.alloc o1).alloc o2) := fun o1 o2 => ((Below.refl _ _).alloc (Nat.le_refl _) _).alloc (by simp) _
  have hc : Calls Tryz.prog 172 #[lv, .int .i64 1, .pointer (some ⟨w.heap.size + 1, 0, none⟩)] ((w.alloc (.cells #[.bool false, .string ⟨#[]⟩, .slice none 0 0] 122)).alloc (.cells #[.int .i64 65536] 3)) (OwnFlat (w.heap.size + 2) (w.heap.size + 1) (es.map FE.tm) ((w.alloc (.cells #[.bool false, .string ⟨#[]⟩, .slice none 0 0] 122)).alloc (.cells #[.int .i64 65536] 3))) := by
    have := own_flat lv n 1 (w.heap.size + 1) Bl 65536 es ((w.alloc (.cells #[.bool false, .string ⟨#[]⟩, .slice none 0 0] 122)).alloc (.cells #[.int .i64 65536] 3)) ((hrow.alloc _).alloc _) hn hflat hts ((World.cell?_alloc_at _ _ _ _ (by simp)).trans rfl) (World.frozen?_alloc_at _ _ _ _ (by simp)) hnl (by omega) (by omega)
    have e : ((w.alloc (.cells #[.bool false, .string ⟨#[]⟩, .slice none 0 0] 122)).alloc (.cells #[.int .i64 65536] 3)).heap.size = w.heap.size + 2 := by simp
    rw [e] at this
    exact this
  have HC := Lib.hid hc
  obtain ⟨a0, c0, hv, _⟩ := hrow.form'
  subst hv
  clear hc hrow hn hflat hts hb2
  go_enter Tryz.func137, Tryz.ntmps137
  go_wp2_with fail
  refine HC.out.mono ?_
  rintro e w3 ⟨v, es', rfl, hmap, hmd, hoff⟩
  obtain ⟨⟨z1, z2, z3⟩, zf, zl, zb⟩ := two_off hoff
  have zf0 := zf 0
  have zf1 := zf 1
  have zf2 := zf 2
  have zl2 : w.heap.size < w3.heap.size := by omega
  obtain ⟨a, c, hv, hle, hcm⟩ := hmd.row.form'
  obtain ⟨m, hm⟩ : ∃ m, m = es'.length := ⟨_, rfl⟩
  rw [← hm] at hv
  subst hv
  have HZB := Lib.hid zb
  have hsl : SlL (fun i => w.heap.size + 2 ≤ i) w3 (.slice a m c) (es.map FE.tm) := by rw [← hmap]; exact hmd.sl fun i h => h
  have HSL := Lib.hid hsl
  have HM := Lib.hid hm
  have HMAP := Lib.hid hmap
  clear hmap hmd hoff zf zb hsl hm hle hcm
  go_wp2_with fail
  refine bodyPost_ret (v := fv true noText (.slice a m c)) (by simp [results, Tryz.results137, go_sem, z1, z2, z3]) rfl ⟨a, m, c, rfl, ?_, set3_below HZB.out _ _ _, ?_⟩
  · rw [← HMAP.out, List.length_map]; exact HM.out
  · have hfo : Off (fun i => i = w.heap.size) w3 (((w3.setCell ⟨w.heap.size, 0, none⟩ (.bool true)).setCell ⟨w.heap.size, 1, none⟩ (.string ⟨#[]⟩)).setCell ⟨w.heap.size, 2, none⟩ (.slice a m c)) :=
      (((Off.refl (fun i => i = w.heap.size) w3).setCell (p := ⟨w.heap.size, 0, none⟩) (.inr rfl) _).setCell (p := ⟨w.heap.size, 1, none⟩) (.inr rfl) _).setCell (p := ⟨w.heap.size, 2, none⟩) (.inr rfl) _
    exact (HSL.out.off hfo fun i hi e => by omega).mono fun i _ hi => by omega
end Go.Proofs.YtojnagonhihknaaGreatDoor
set_option linter.unusedVariables false
namespace Go.Proofs.YtojnagonhihknaaGreatDoor
open Go.ChangeShapes Go.WideShapes Go.ChangeAt Go.RowKit

structure MadeZ (Z : Nat → Prop) (w : World) (v : Value) (es : List FE) : Prop where
  row : Row 3 0 w v es.length (fcells es)
  own : ∀ g, v.ownBlock = some g → Z g
  sub : ∀ p ∈ es, p.2.1.size ≤ 140737488355328 ∧ SlU (fun i => Z i ∧ v.ownBlock ≠ some i) w p.2.2.2 p.2.2.1

theorem MadeZ.off {Z Y : Nat → Prop} {w w' : World} {v : Value} {es : List FE} (h : MadeZ Z w v es) (ho : Off Y w w') (hz : ∀ i, Z i → ¬ Y i) : MadeZ Z w' v es :=
  ⟨h.row.off ho fun b hb => hz b (h.own b hb), h.own, fun p hp => ⟨(h.sub p hp).1, (h.sub p hp).2.off ho fun i hi => hz i hi.1⟩⟩
theorem MadeZ.sl {Z : Nat → Prop} {w : World} {v : Value} {es : List FE} (h : MadeZ Z w v es) : SlU Z w v (es.map FE.tm) := by
  by_cases e : es = []
  · subst e
    obtain ⟨a, c, hv, h1, h2⟩ := h.row.form'
    rw [hv]
    exact .nil a c h2
  · obtain ⟨b, cap, hv, h1, h2, h3, h4, h5, h6⟩ := h.row.pos (List.length_pos_iff.2 e)
    have hzb := h.own b (by rw [hv]; rfl)
    rw [hv]
    have := SlU.of_row (Z := Z) (w := w) (b := b) (o := 0) (c := cap) (xs := es.map FE.tm) ⟨⟨hzb, (h5 0 (by have := List.length_pos_iff.2 e; omega)).2⟩, h2, fun j l t ys hj => by
      rw [List.getElem?_map] at hj
      obtain ⟨p, hp, hpe⟩ := Option.map_eq_some_iff.1 hj
      obtain ⟨l', t', ys', s'⟩ := p
      injection hpe with e1 e2 e3
      dsimp only at e1 e2 e3
      subst e1; subst e2; subst e3
      obtain ⟨c1, c2, c3⟩ := fcells_at hp
      obtain ⟨g1, g2⟩ := h.sub _ (List.mem_of_getElem? hp)
      have g3 : SlU Z w s' ys' := g2.mono fun i _ hi => hi.1
      obtain ⟨a', c', es', _, _⟩ := g3.form
      rw [Nat.zero_add]
      refine ⟨a', c', h6 _ _ c1, h6 _ _ c2, ?_, g1, ?_⟩
      · rw [← es']; exact h6 _ _ c3
      · rw [← es']; exact g3⟩ (by simpa using e) (by rw [List.length_map]; exact h3) h4
    rw [List.length_map] at this
    exact this

theorem MadeZ.setItems {Z : Nat → Prop} {w : World} {a : Option Addr} {n c : Nat} {es : List FE} {k : Nat} {l : Bool} {t : ByteArray} {ys : List Tm} {s s' : Value} (h : MadeZ Z w (.slice a n c) es) (hk : es[k]? = some (l, t, ys, s)) (hs : SlU (fun i => Z i ∧ (Value.slice a n c).ownBlock ≠ some i) w s' ys) :
    ∃ g, a = some ⟨g, 0, none⟩ ∧ Z g ∧ g < w.heap.size ∧ w.cell? ⟨g, k * 3, none⟩ = some (.bool l) ∧ w.cell? ⟨g, k * 3 + 1, none⟩ = some (.string t) ∧ w.cell? ⟨g, k * 3 + 2, none⟩ = some s ∧ w.frozen? ⟨g, k * 3 + 2, none⟩ = false ∧
      MadeZ Z (w.setCell ⟨g, k * 3 + 2, none⟩ s') (.slice a n c) (es.set k (l, t, ys, s')) := by
  have hkl := (List.getElem?_eq_some_iff.1 hk).1
  obtain ⟨h0, hr⟩ := h.row
  obtain ⟨b, cap, hv, h1, h2, h3, h4, h5, h6⟩ := h.row.pos (by omega)
  injection hv with e1 e2 e3
  subst e1
  subst e3
  have hzb : Z b := h.own b rfl
  obtain ⟨c1, c2, c3⟩ := fcells_at hk
  have hcap : k * 3 + 2 < c * 3 := by omega
  refine ⟨b, rfl, hzb, h2, h6 _ _ c1, h6 _ _ c2, h6 _ _ c3, (h5 _ hcap).2, ⟨⟨?_, .inr ⟨b, c, by rw [List.length_set]; exact congrArg (fun m => Value.slice (some ⟨b, 0, none⟩) m c) e2, h1, by simpa [World.setCell] using h2, by rw [List.length_set]; exact h3, h4, fun j hj => ⟨?_, ?_⟩, fun j u hu => ?_⟩⟩, fun g hg => ?_, fun p hp => ?_⟩⟩
  · rw [fcells_len, List.length_set]
  · by_cases e : k * 3 + 2 = j
    · subst e
      rw [World.cell?_setCell_same _ _ _ (h6 _ _ c3)]; rfl
    · rw [World.cell?_setCell_other _ _ _ _ (fun h => e (by injection h))]
      exact (h5 j hj).1
  · rw [World.frozen?_setCell]; exact (h5 j hj).2
  · have hset : fcells (es.set k (l, t, ys, s')) = (fcells es).set (k * 3 + 2) s' := by
      have e1 : es = es.take k ++ [(l, t, ys, s)] ++ es.drop (k + 1) := by
        obtain ⟨_, e⟩ := List.getElem?_eq_some_iff.1 hk
        rw [List.append_assoc, List.singleton_append, ← e, List.getElem_cons_drop, List.take_append_drop]
      have hl : (es.take k).length = k := by rw [List.length_take]; omega
      have hl3 : (fcells (es.take k)).length = k * 3 := by rw [fcells_len, hl]
      have e2 : es.set k (l, t, ys, s') = es.take k ++ [(l, t, ys, s')] ++ es.drop (k + 1) := by
        rw [List.set_eq_take_append_cons_drop, if_pos hkl]; simp
      rw [e2]
      conv => rhs; rw [e1]
      rw [fcells_app, fcells_app, fcells_app, fcells_app, fcells_one, fcells_one, List.append_assoc, List.append_assoc, List.set_append_right _ _ (by omega), hl3, show k * 3 + 2 - k * 3 = 2 by omega]
      rfl
    rw [hset] at hu
    by_cases e : k * 3 + 2 = j
    · subst e
      rw [List.getElem?_set_self (by rw [fcells_len]; omega)] at hu
      rw [World.cell?_setCell_same _ _ _ (h6 _ _ c3)]
      exact hu
    · rw [List.getElem?_set_ne e] at hu
      rw [World.cell?_setCell_other _ _ _ _ (fun h => e (by injection h))]
      exact h6 j u hu
  · injection hg with hg; subst hg; exact hzb
  · have hz : ∀ {x : Value} {zs : List Tm}, SlU (fun i => Z i ∧ (Value.slice (some ⟨b, 0, none⟩) n c).ownBlock ≠ some i) w x zs → SlU (fun i => Z i ∧ (Value.slice (some ⟨b, 0, none⟩) n c).ownBlock ≠ some i) (w.setCell ⟨b, k * 3 + 2, none⟩ s') x zs := fun hx => hx.carry fun i hi hh => ⟨Below.heap_setCell _ _ _ _ (fun e => hh.2 (by rw [e]; rfl)), hh⟩
    rcases List.mem_or_eq_of_mem_set hp with hp | hp
    · exact ⟨(h.sub p hp).1, hz (h.sub p hp).2⟩
    · subst hp
      exact ⟨(h.sub _ (List.mem_of_getElem? hk)).1, hz hs⟩

theorem SlU.src {Z : Nat → Prop} {w : World} {v : Value} {xs : List Tm} (h : SlU Z w v xs) :
    ∃ es : List FE, es.map FE.tm = xs ∧ es.length = xs.length ∧ Src Tryz.prog 3 120 v xs.length (fcells es) w ∧ ∀ p ∈ es, p.2.1.size ≤ 140737488355328 ∧ SlU Z w p.2.2.2 p.2.2.1 := by
  by_cases e : xs = []
  · subst e
    obtain ⟨a, c, rfl, h1, h2⟩ := h.form
    refine ⟨[], rfl, rfl, ?_, by simp⟩
    cases a with
    | none => exact Src.ofNil w Tryz.underlying120 c
    | some b => exact Src.ofSlice w Tryz.underlying120 b 0 c [] rfl (by simp) (by simp)
  · obtain ⟨b, o, c, rfl, h1, h2, h3, h4, h5⟩ := h.pos e
    obtain ⟨es, hl, hq⟩ := list_of (fun (i : Nat) (p : FE) => ∃ x, xs[i]? = some x ∧ p.tm = x ∧ w.cell? ⟨b, o + i * 3, none⟩ = some (.bool p.1) ∧ w.cell? ⟨b, o + i * 3 + 1, none⟩ = some (.string p.2.1) ∧ w.cell? ⟨b, o + i * 3 + 2, none⟩ = some p.2.2.2 ∧ p.2.1.size ≤ 140737488355328 ∧ SlU Z w p.2.2.2 p.2.2.1 ∧ ∃ a c, p.2.2.2 = .slice a p.2.2.1.length c) xs.length (fun i hi => by
      obtain ⟨x, hx⟩ : ∃ x, xs[i]? = some x := ⟨_, List.getElem?_eq_getElem hi⟩
      obtain ⟨l, t, ys⟩ := x
      obtain ⟨a', c', k1, k2, k3, k4, k5⟩ := h5 i l t ys hx
      exact ⟨(l, t, ys, .slice a' ys.length c'), _, hx, rfl, k1, k2, k3, k4, k5, a', c', rfl⟩)
    have hmap : es.map FE.tm = xs := by
      apply List.ext_getElem?
      intro i
      rw [List.getElem?_map]
      cases hp : es[i]? with
      | none =>
        have := List.getElem?_eq_none_iff.1 hp
        rw [List.getElem?_eq_none (by omega)]; rfl
      | some p =>
        obtain ⟨x, hx, hpx, _⟩ := hq i p hp
        rw [hx, ← hpx]; rfl
    refine ⟨es, hmap, hl, ?_, fun p hp => ?_⟩
    · refine Src.ofSlice w Tryz.underlying120 _ _ c (fcells es) (by rw [fcells_len, hl]) (fun j u hj => ?_) (fun u hu => ?_)
      · have e2 : (⟨b, o, none⟩ : Addr).add j = ⟨b, o + j, none⟩ := by unfold Addr.add; split <;> simp_all
        rw [e2]
        have hjl : j < es.length * 3 := by rw [← fcells_len]; exact (List.getElem?_eq_some_iff.1 hj).1
        obtain ⟨p, hp⟩ : ∃ p, es[j / 3]? = some p := ⟨es[j / 3]'(by omega), by simp⟩
        obtain ⟨x, _, _, k1, k2, k3, _⟩ := hq _ p hp
        obtain ⟨c1, c2, c3⟩ := fcells_at hp
        have h012 : j = j / 3 * 3 ∨ j = j / 3 * 3 + 1 ∨ j = j / 3 * 3 + 2 := by omega
        rcases h012 with e | e | e
        · rw [e] at hj ⊢
          rw [c1] at hj; rw [k1]; exact hj
        · rw [e] at hj ⊢
          rw [c2] at hj; rw [← Nat.add_assoc, k2]; exact hj
        · rw [e] at hj ⊢
          rw [c3] at hj; rw [← Nat.add_assoc, k3]; exact hj
      · obtain ⟨p, hp, hq2⟩ := List.mem_flatMap.1 hu
        obtain ⟨i, hi⟩ := List.mem_iff_getElem?.1 hp
        obtain ⟨x, _, _, _, _, _, _, _, a', c', e'⟩ := hq i p hi
        simp only [List.mem_cons, List.not_mem_nil, or_false] at hq2
        rcases hq2 with rfl | rfl | rfl
        · rfl
        · rfl
        · rw [e']; rfl
    · obtain ⟨i, hi⟩ := List.mem_iff_getElem?.1 hp
      obtain ⟨x, _, _, _, _, _, k6, k7, _⟩ := hq i p hi
      exact ⟨k6, k7⟩

def OwnZ (Z : Nat → Prop) (pl : Nat) (L : Nat) (xs : List Tm) (w : World) (e : Ending) (w' : World) : Prop :=
  ∃ v es, e = .returned v ∧ es.map FE.tm = xs ∧ MadeZ Z w' v es ∧ Off (· = pl) w w' ∧ (∃ L' : Nat, L' ≤ L ∧ w'.cell? ⟨pl, 0, none⟩ = some (.int .i64 L')) ∧ w'.frozen? ⟨pl, 0, none⟩ = false

def OwnC (d : Nat) : Prop := ∀ (Z : Nat → Prop) (pl : Nat) (w : World) (a0 : Option Addr) (c0 : Nat) (xs : List Tm) (L : Nat), SlU Z w (.slice a0 xs.length c0) xs → (∀ i, w.heap.size ≤ i → Z i) → ¬ Z pl →
    w.cell? ⟨pl, 0, none⟩ = some (.int .i64 (L : Nat)) → w.frozen? ⟨pl, 0, none⟩ = false → xs.length ≤ L → L ≤ 65536 →
    Calls Tryz.prog 172 #[.slice a0 xs.length c0, .int .i64 (d : Nat), .pointer (some ⟨pl, 0, none⟩)] w (OwnZ Z pl L xs w)

set_option maxHeartbeats 4000000 in
set_option maxRecDepth 100000 in
theorem own_step (d : Nat) (IH : d < 8 → OwnC (d + 1)) : OwnC d := by
  intro Z pl w a0 c0 xs L hsl hzn hzp hc hf hnl hL1
  have hlt := cell_lt hc
  obtain ⟨es, hmap, hlen, hsrc, hsub⟩ := hsl.src
  obtain ⟨n, hn⟩ : ∃ n, n = xs.length := ⟨_, rfl⟩
  rw [← hn] at hsrc hlen hnl ⊢
  have HIH := Lib.hid IH
  have HS := Lib.hid hsrc
  have HN := Lib.hid hn
  have HL := Lib.hid hlen
  have HMAP := Lib.hid hmap
  have HSUB := Lib.hid hsub
  have HZN := Lib.hid hzn
  have HZP := Lib.hid hzp
  obtain ⟨M, hM⟩ : ∃ M, M = L - n := ⟨_, rfl⟩
  have HM := Lib.hid hM
  clear IH hsrc hn hlen hmap hsub hzn hzp hM hsl
  go_enter Tryz.func172, Tryz.ntmps172
  go_wp2_with (at_builtin; refine wpList_append_row rfl (.const (.slice none 0 0)) (.tmp 10) 120 120 rfl 3 122 (.agg #[.bool false, .string ByteArray.empty, .slice none 0 0]) 48 Tryz.underlying120 Tryz.infoForm rfl w.heap.size (.slice none 0 0) 0 [] (by simp [Act.eval]) (Row.nil _ _ _) (.slice a0 n c0) (by simp [Act.eval]) n (fcells es) (by exact HS.out) (Nat.le_refl _) (by omega) (by decide) ?_; intro v6 w6 hr6 ho6 hw6; obtain ⟨a6, c6, hv6⟩ := hr6.form; simp only [Nat.zero_add] at hv6; subst hv6; have k1 := (ho6.cell (p := ⟨pl, 0, none⟩) hlt (by simp [Value.ownBlock])).trans hc; have k2 := (ho6.frozen (p := ⟨pl, 0, none⟩) hlt (by simp [Value.ownBlock])).trans hf; have HR6 := Lib.hid hr6; have HO6 := Lib.hid ho6; have HW6 := Lib.hid hw6; clear hr6 ho6 hw6)
  have ho0 : Off (fun i => i = pl) w (w6.setCell ⟨pl, 0, none⟩ (.int .i64 ((L : Int) - (n : Int)))) := by
    have : Off (fun i => i = pl) w w6 := HO6.out.mono fun i hi => by cases hi
    exact this.setCell (p := ⟨pl, 0, none⟩) (.inr rfl) _
  have hgw : ∀ g, (Value.slice a6 n c6).ownBlock = some g → w.heap.size ≤ g := fun g hg => by
    have hr := HR6.out
    simp only [Nat.zero_add, List.nil_append] at hr
    exact (hr.lt g hg).1
  have HGW := Lib.hid hgw
  clear hgw
  have hm0 : MadeZ Z (w6.setCell ⟨pl, 0, none⟩ (.int .i64 ((L : Int) - (n : Int)))) (.slice a6 n c6) es := by
    have hr := HR6.out
    simp only [Nat.zero_add, List.nil_append] at hr
    have hg : ∀ g, (Value.slice a6 n c6).ownBlock = some g → w.heap.size ≤ g := fun g hg => (hr.lt g hg).1
    refine ⟨?_, fun g h => HZN.out g (hg g h), fun p hp => ?_⟩
    · rw [HL.out]
      exact (hr.setOther (fun h => by have := hg pl h; omega) _).mono (Nat.zero_le _)
    · obtain ⟨h1, h2⟩ := HSUB.out p hp
      refine ⟨h1, h2.carry fun i hi hz => ⟨ho0.block i hi (fun e => HZP.out (e ▸ hz)), hz, fun e => by have := hg i e; omega⟩⟩
  have hc0 : (w6.setCell ⟨pl, 0, none⟩ (.int .i64 ((L : Int) - (n : Int)))).cell? ⟨pl, 0, none⟩ = some (.int .i64 (M : Nat)) := by
    rw [show ((M : Nat) : Int) = (L : Int) - (n : Int) by have := HM.out; omega]
    exact World.cell?_setCell_same _ _ _ k1
  have hf0 : (w6.setCell ⟨pl, 0, none⟩ (.int .i64 ((L : Int) - (n : Int)))).frozen? ⟨pl, 0, none⟩ = false := by rw [World.frozen?_setCell]; exact k2
  have HM0 := Lib.hid hm0
  have HO0 := Lib.hid ho0
  have HC0 := Lib.hid hc0
  have HF0 := Lib.hid hf0
  have hMl : M ≤ L := by have := HM.out; omega
  clear hm0 ho0 hc0 hf0 k1 k2 hc hf
  go_loopw [21] (fun i wr => ∃ (k N : Nat) (es' : List FE), k ≤ n ∧ i = .int .i64 (k : Nat) ∧ N ≤ L ∧ Hid (es'.map FE.tm = xs) ∧ Hid (MadeZ Z wr (.slice a6 n c6) es') ∧ Hid (Off (fun i => i = pl) w wr) ∧ wr.cell? ⟨pl, 0, none⟩ = some (.int .i64 (N : Nat)) ∧ wr.frozen? ⟨pl, 0, none⟩ = false) (fun i _ => n - (intOf i).toNat)
  case atStart => exact ⟨0, M, es, Nat.zero_le _, rfl, hMl, HMAP, HM0, HO0, HC0.out, HF0.out⟩
  case round =>
    obtain ⟨k, N, es', hk, rfl, hN, HMP, HMD, HOF, hcp, hfp⟩ := hrel
    have hlen : es'.length = n := by
      have := congrArg List.length HMP.out
      rw [List.length_map, ← HN.out] at this
      exact this
    have HLEN := Lib.hid hlen
    clear hlen
    by_cases hlk : k < n
    · obtain ⟨p, hp⟩ : ∃ p, es'[k]? = some p := ⟨es'[k]'(by rw [HLEN.out]; exact hlk), by simp⟩
      obtain ⟨l1, t1, ys1, s1⟩ := p
      obtain ⟨hq1, hq2⟩ := HMD.out.sub _ (List.mem_of_getElem? hp)
      dsimp only at hq1 hq2
      obtain ⟨a1, c1, h2, h3, h4⟩ := hq2.form
      subst h2
      obtain ⟨g, hg, hg1, hg2, d1, d2, d3, d4, -⟩ := HMD.out.setItems hp (s' := .slice a1 ys1.length c1) hq2
      subst hg
      obtain ⟨q, hqn⟩ : ∃ q, q = ys1.length := ⟨_, rfl⟩
      have hpg : ¬ g = pl := fun e => HZP.out (e ▸ hg1)
      have hlp := cell_lt hcp
      have HP := Lib.hid hp
      have HQ2 := Lib.hid hq2
      have HQN := Lib.hid hqn
      have HG1 := Lib.hid hg1
      rw [← hqn] at d3
      have i0 : (0 : Int) ≤ k := by omega
      have i1 : (k : Int) < n := by omega
      clear hp hq2 hqn hg1
      have hoff1 : ∀ (x : Obj) (nq : Nat), Off (fun _ => False) wr ((wr.alloc x).drewN nq) := fun x nq => ((Off.refl _ _).alloc _).drewN
      have HOFF1 := Lib.hid hoff1
      clear hoff1
      by_cases hqN : d < 8 ∧ q ≤ N
      · have hd8 : (d : Int) < 8 := by have := hqN.1; omega
        have e1 : (q : Int) ≤ N := by have := hqN.2; omega
        have hqN2 := hqN.2
        have hown : ∀ wz, Off (fun _ => False) wr wz → Calls Tryz.prog 172 #[.slice a1 q c1, .int .i64 (d + 1 : Nat), .pointer (some ⟨pl, 0, none⟩)] wz (OwnZ (fun i => Z i ∧ i ≠ g) pl N ys1 wz) := fun wz hz => by
          rw [HQN.out]
          exact HIH.out hqN.1 (fun i => Z i ∧ i ≠ g) pl wz a1 c1 ys1 N ((HQ2.out.off hz (fun i _ h => h)).mono (fun i _ hi => ⟨hi.1, fun e => hi.2 (by rw [e]; rfl)⟩)) (fun i hi => ⟨HZN.out i (by have := HOF.out.size; have := hz.size; omega), by have := hz.size; omega⟩) (fun h => HZP.out h.1) ((hz.cell (p := ⟨pl, 0, none⟩) hlp (fun h => h)).trans hcp) ((hz.frozen (p := ⟨pl, 0, none⟩) hlp (fun h => h)).trans hfp) (by rw [← HQN.out]; exact hqN2) (by omega)
        have HOWN := Lib.hid hown
        clear hown hqN
        go_wp2_with fail
        go_quiet (fail)
        go_wp2_with fail
        refine (HOWN.out _ (HOFF1.out _ _)).mono ?_
        rintro e w7 ⟨v7, es7, rfl, hm7, hz7, ho7, ⟨N', hN', hc7⟩, hf7⟩
        have hoz : Off (fun i => i = pl) wr w7 := ((HOFF1.out _ _).mono (fun i h => h.elim)).trans ho7
        have hm7d := HMD.out.off hoz (fun i hi e => HZP.out (e ▸ hi))
        have hs7 := hz7.sl
        rw [hm7] at hs7
        obtain ⟨a7, c7, hv7, -, -⟩ := hs7.form
        obtain ⟨q7, hq7⟩ : ∃ q7, q7 = ys1.length := ⟨_, rfl⟩
        rw [← hq7] at hv7
        subst hv7
        obtain ⟨g', hg', -, -, -, -, y3, y4, hmade⟩ := hm7d.setItems HP.out (s' := .slice a7 q7 c7) (hs7.mono fun i _ hi => ⟨hi.1, fun e => hi.2 (by injection e with e; exact e.symm)⟩)
        injection hg' with hg'
        injection hg' with hg'
        subst hg'
        have HO7 := Lib.hid (HOF.out.trans hoz)
        have HC7 := Lib.hid hc7
        have HF7 := Lib.hid hf7
        have HMADE := Lib.hid hmade
        clear hm7 hz7 ho7 hc7 hf7 hoz hm7d hs7 hmade d1 d2 d3 d4 hcp hfp hq7
        go_wp2_with fail
        refine ⟨⟨k + 1, N', _, hlk, by go_num, by omega, Lib.hid ?_, Lib.hid HMADE.out, Lib.hid ?_, ?_, ?_⟩, by simp [intOf]; omega⟩
        · rw [map_set_tm HP.out, HMP.out]
        · exact HO7.out.setCell (.inl (HGW.out g rfl)) _
        · exact (World.cell?_setCell_other _ _ _ _ (fun e => hpg (by injection e))).trans HC7.out
        · rw [World.frozen?_setCell]; exact HF7.out
      · have HQ := Lib.hid hqN
        by_cases hd8 : d < 8
        · have hd8' : (d : Int) < 8 := by omega
          have e1 : decide ((q : Int) ≤ N) = false := decide_eq_false (by have := HQ.out; omega)
          clear hqN
          go_wp2_with fail
          go_quiet (fail)
          go_wp2_with fail
          all_goals first | (exfalso; have := HQ.out; omega) | exact ⟨⟨k + 1, N, es', hlk, by go_num, hN, HMP, Lib.hid (HMD.out.off (HOFF1.out _ _) (fun i _ h => h)), Lib.hid (HOF.out.trans ((HOFF1.out _ _).mono fun i h => h.elim)), ((HOFF1.out _ _).cell (p := ⟨pl, 0, none⟩) hlp (fun h => h)).trans hcp, ((HOFF1.out _ _).frozen (p := ⟨pl, 0, none⟩) hlp (fun h => h)).trans hfp⟩, by simp [intOf]; omega⟩
        · have hd8' : decide ((d : Int) < 8) = false := decide_eq_false (by omega)
          have hd9 : ¬ ((d : Int) < 8) := by omega
          clear hqN
          go_wp2_with fail
          go_quiet (fail)
          go_wp2_with fail
          all_goals first | (exfalso; have := HQ.out; omega) | exact ⟨⟨k + 1, N, es', hlk, by go_num, hN, HMP, Lib.hid (HMD.out.off (HOFF1.out _ _) (fun i _ h => h)), Lib.hid (HOF.out.trans ((HOFF1.out _ _).mono fun i h => h.elim)), ((HOFF1.out _ _).cell (p := ⟨pl, 0, none⟩) hlp (fun h => h)).trans hcp, ((HOFF1.out _ _).frozen (p := ⟨pl, 0, none⟩) hlp (fun h => h)).trans hfp⟩, by simp [intOf]; omega⟩
    · have hge : ¬ (k : Int) < n := by omega
      go_wp2_with fail
      go_ret
      exact ⟨_, es', rfl, HMP.out, HMD.out, HOF.out, ⟨N, hN, hcp⟩, hfp⟩

theorem own_any : ∀ (K d : Nat), 8 - d ≤ K → OwnC d
  | 0, d, h => own_step d fun hd => by omega
  | K + 1, d, h => own_step d fun hd => own_any K (d + 1) (by omega)
end Go.Proofs.YtojnagonhihknaaGreatDoor
