/- headOf: the head that tells a commit. -/
import Derived.Test.YthamfbfeokmhgaaGreatDoorU26
import Derived.Test.YthamfbfeokmhgaaGreatDoorU36
import Derived.Test.YthamfbfeokmhgaaGreatDoorU42
import Derived.Test.YthamfbfeokmhgaaGreatDoorU9
set_option linter.unusedVariables false
set_option linter.unusedSimpArgs false
namespace Go.Proofs.YthamfbfeokmhgaaGreatDoor
open Go.ChangeShapes Go.WideShapes Go.ChangeAt Go.RowKit
open Go.Lib (decDigits itoa)

def numE (l : Pgs) : List FE := l.map fun p => (false, tx (itoa p.1), [], .slice none 0 0)
theorem numE_tm (l : Pgs) : (numE l).map FE.tm = numL l := by simp [numE, numL, List.map_map, Function.comp_def, rnT, FE.tm]
theorem numE_snoc (l : Pgs) (p : Nat × ByteArray) : numE (l ++ [p]) = numE l ++ [(false, tx (itoa p.1), [], .slice none 0 0)] := by simp [numE]
theorem numE_len (l : Pgs) : (numE l).length = l.length := by simp [numE]
theorem dataL_snoc (l : Pgs) (p : Nat × ByteArray) : dataL (l ++ [p]) = dataL l ++ (fullB p.2).data.toList := by simp [dataL]
theorem itoa_tx_size {n : Nat} (h : n < 10000) : (tx (itoa (n : Int))).size ≤ 140737488355328 := by
  rw [tx_lenR]; have := dig_len h; omega
theorem canW_nums {l : Pgs} (h : ∀ p ∈ l, p.1 < 10000) (hl : l.length ≤ 63) : CanW 0 [] (numsT l) := by
  have h1 := nums_len h
  refine ⟨numsT_ok l, by rw [numsT_depth]; omega, ?_⟩
  rw [numsT_bytes]
  simp only [List.length_nil, List.length_cons, List.length_append]
  omega
theorem canW_head {l : Pgs} (h : ∀ p ∈ l, p.1 < 10000) (hl : l.length ≤ 63) : CanW 0 [] (headT l) := by
  have h1 := headT_len h hl
  refine ⟨headT_ok l, by rw [headT_depth]; omega, ?_⟩
  simp only [List.length_nil]
  omega
theorem nums_depth0 : True := trivial
abbrev HoS (w : World) (b z : Nat) (G : Nat → Prop) (l : List UInt8) (xs : List Tm) (lv : Value) (W : World) : Prop :=
  (W.cell? ⟨z, 0, none⟩ = some (.bool true) ∧ W.cell? ⟨z, 1, none⟩ = some (.string noText) ∧ W.cell? ⟨z, 2, none⟩ = some lv) ∧ Below w.heap.size w W ∧ SlU (fun i => ¬ G i) W lv xs ∧ (¬ G z ∧ z < W.heap.size ∧ ¬ G b ∧ ∀ i, G i → w.heap.size ≤ i ∧ i < W.heap.size) ∧ IsB w.heap.size b l W ∧ BldL b G W
theorem hos_off {w W W' : World} {b z : Nat} {G : Nat → Prop} {l : List UInt8} {xs : List Tm} {lv : Value} {Y : Nat → Prop} (h : HoS w b z G l xs lv W) (ho : Off Y W W') (hy : ∀ i, Y i → G i) (hi : IsB w.heap.size b l W') (hb : BldL b G W') : HoS w b z G l xs lv W' := by
  obtain ⟨⟨h0, h1, h2⟩, h3, h4, ⟨h5, h6, h7, h8⟩, h9, h10⟩ := h
  have c : ∀ j, W'.cell? ⟨z, j, none⟩ = W.cell? ⟨z, j, none⟩ := fun j => ho.cell (p := ⟨z, j, none⟩) h6 (fun e => h5 (hy z e))
  exact ⟨⟨(c 0).trans h0, (c 1).trans h1, (c 2).trans h2⟩, h3.trans (ho.below (fun i hi => (h8 i (hy i hi)).1) h3.size), h4.off ho (fun i hi e => hi (hy i e)), ⟨h5, Nat.lt_of_lt_of_le h6 ho.size, h7, fun i hi => ⟨(h8 i hi).1, Nat.lt_of_lt_of_le (h8 i hi).2 ho.size⟩⟩, hi, hb⟩
theorem hos_below {w W W' : World} {b z : Nat} {G : Nat → Prop} {l : List UInt8} {xs : List Tm} {lv : Value} (h : HoS w b z G l xs lv W) (hb : Below W.heap.size W W') : HoS w b z G l xs lv W' := by
  have h9 := h.2.2.2.2.1
  exact hos_off (Y := fun _ => False) h (Off.of_below hb) (fun i h => h.elim) (bld_below h9 hb) (h.2.2.2.2.2.off (Z := fun _ => False) (Off.of_below hb) (bld_lt h9).2 (fun h => h))
theorem hos_drew {w W : World} {b z : Nat} {G : Nat → Prop} {l : List UInt8} {xs : List Tm} {lv : Value} (h : HoS w b z G l xs lv W) : HoS w b z G l xs lv W.drew := hos_below h (Below.refl _ _).drew
theorem hos_alloc {w W : World} {b z : Nat} {G : Nat → Prop} {l : List UInt8} {xs : List Tm} {lv : Value} (o : Obj) (h : HoS w b z G l xs lv W) : HoS w b z G l xs lv (W.alloc o) := hos_below h ((Below.refl _ _).alloc (Nat.le_refl _) _)
theorem head_list {G : Nat → Prop} {W : World} {lv : Value} {xs : List Tm} (t d : ByteArray) (ht : t.size ≤ 140737488355328) (hd : d.size ≤ 140737488355328) (h : SlU (fun i => ¬ G i) W lv xs) (hG : ∀ i, G i → i < W.heap.size) :
    Calls Tryz.prog 49 #[.slice (some ⟨W.heap.size, 0, none⟩) 3 3] (W.alloc (.cells #[.bool false, .string t, .slice none 0 0, .bool true, .string noText, lv, .bool false, .string d, .slice none 0 0] 101))
      (ListZ (fun i => ¬ G i) [.mk false t [], .mk true noText xs, .mk false d []] (W.alloc (.cells #[.bool false, .string t, .slice none 0 0, .bool true, .string noText, lv, .bool false, .string d, .slice none 0 0] 101))) := by
  have h2 := lit_sl (es := [(false, t, [], .slice none 0 0), (true, noText, xs, lv), (false, d, [], .slice none 0 0)]) (fun i => ¬ G i) W 3 (fun e => Nat.lt_irrefl _ (hG _ e)) rfl (by simp) (by
    intro p hp
    simp only [List.mem_cons, List.not_mem_nil, or_false] at hp
    rcases hp with rfl | rfl | rfl
    · exact ⟨ht, .nil none 0 (Nat.zero_le _)⟩
    · exact ⟨by show noText.size ≤ _; decide, h⟩
    · exact ⟨hd, .nil none 0 (Nat.zero_le _)⟩) 101
  exact list_any _ _ [.mk false t [], .mk true noText xs, .mk false d []] _ h2 (fun i hi e => by have := hG i e; simp at hi; omega) (by simp)
theorem made_num {B : Nat} {w w' : World} {v : Value} {l : Pgs} (h : MadeU B w v (numE l)) (hs : w.heap.size ≤ w'.heap.size) (hb : ∀ i, v.ownBlock = some i → w'.heap[i]? = w.heap[i]?) : MadeU B w' v (numE l) :=
  ⟨h.row.carry hs hb, fun p hp => by
    refine ⟨(h.sub p hp).1, ?_⟩
    obtain ⟨x, _, rfl⟩ := List.mem_map.1 hp
    exact .nil none 0 (Nat.zero_le _)⟩

theorem numE_sl {B : Nat} {w : World} {v : Value} {l : Pgs} {Z : Nat → Prop} (h : MadeU B w v (numE l)) (hz : ∀ i, v.ownBlock = some i → Z i) : SlU Z w v (numL l) := by
  by_cases e : l = []
  · subst e
    obtain ⟨a, c, hv, h1, h2⟩ := h.row.form'
    rw [hv]
    exact .nil a c h2
  · have hp : 0 < (numE l).length := by rw [numE_len]; exact List.length_pos_iff.2 e
    obtain ⟨b, cap, hv, h1, h2, h3, h4, h5, h6⟩ := h.row.pos hp
    rw [hv]
    have := SlU.of_row (Z := Z) (w := w) (b := b) (o := 0) (c := cap) (xs := (numE l).map FE.tm) ⟨⟨hz b (by rw [hv]; rfl), (h5 0 (by omega)).2⟩, h2, fun j l' t ys hj => by
      rw [List.getElem?_map] at hj
      obtain ⟨p, hp, hpe⟩ := Option.map_eq_some_iff.1 hj
      obtain ⟨l'', t', ys', s'⟩ := p
      injection hpe with e1 e2 e3
      dsimp only at e1 e2 e3
      subst e1; subst e2; subst e3
      obtain ⟨c1, c2, c3⟩ := fcells_at hp
      obtain ⟨x, _, hxe⟩ := List.mem_map.1 (List.mem_of_getElem? hp)
      have g1 := (h.sub _ (List.mem_of_getElem? hp)).1
      simp only [Prod.mk.injEq] at hxe
      obtain ⟨_, _, rfl, rfl⟩ := hxe
      rw [Nat.zero_add]
      exact ⟨none, 0, h6 _ _ c1, h6 _ _ c2, h6 _ _ c3, g1, .nil none 0 (Nat.zero_le _)⟩⟩ (by simpa [numE] using e) (by rw [List.length_map]; exact h3) h4
    rw [List.length_map] at this
    rw [numE_tm] at this
    exact this

set_option maxHeartbeats 4000000 in
set_option maxRecDepth 100000 in
theorem headOf_any (l : Pgs) (v : Value) (w : World) (hl : PgR w v (ofP l)) (hg : ∀ p ∈ l, p.1 < 5000 ∧ p.2.size ≤ 512) (hn1 : 1 ≤ l.length) (hn : l.length ≤ 63) (ht : HasTab w) (hk : HasK w) :
    Calls Tryz.prog 28 #[v] w fun e w' => e = .returned (.tuple #[.string (headB l), .nilIface]) ∧ Below w.heap.size w w' := by
  obtain ⟨a, c, rfl⟩ := hl.form
  rw [ofP_len] at hl ⊢
  obtain ⟨m, hm⟩ : ∃ m, m = l.length := ⟨_, rfl⟩
  rw [← hm] at hl hn hn1 ⊢
  have HM := Lib.hid hm
  have HL := Lib.hid hl
  have HG := Lib.hid hg
  have HTB := Lib.hid ht
  have HKK := Lib.hid hk
  obtain ⟨b, hb⟩ : ∃ b, b = w.heap.size := ⟨_, rfl⟩
  obtain ⟨W1, hW1⟩ : ∃ W1, W1 = w.alloc (.cells #[.pointer none, .slice none 0 0] 99) := ⟨_, rfl⟩
  have hb1 : Below w.heap.size w W1 := by rw [hW1]; exact (Below.refl _ _).alloc (Nat.le_refl _) _
  have hbld : IsB w.heap.size b [] W1 := by rw [hW1, hb]; exact bld_new w (Nat.le_refl _)
  have HW1 := Lib.hid hW1
  have HBE := Lib.hid hb
  have HB1 := Lib.hid hb1
  have HBL1 := Lib.hid hbld
  clear hl hm hg ht hk hb hW1 hb1 hbld
  go_enter Tryz.func28, Tryz.ntmps28
  go_wp2_with fail
  rw [← HBE.out, ← HW1.out]
  go_loopw [4, 13] (fun v jv wr => ∃ j : Nat, jv = .int .i64 (j : Nat) ∧ j ≤ m ∧ Hid (MadeU (w.heap.size + 1) wr v (numE (l.take j))) ∧ Hid (OwnT 101 v wr) ∧ Hid (IsB w.heap.size b (dataL (l.take j)) wr) ∧ Hid (Below w.heap.size w wr)) (fun _ jv _ => m - (intOf jv).toNat)
  case atStart => exact ⟨0, rfl, Nat.zero_le _, Lib.hid (MadeU.nil _ _), Lib.hid (OwnT.nil _ _), HBL1, HB1⟩
  case round =>
    obtain ⟨j, rfl, hjm, HMD, HOW, HIB, HBW⟩ := hrel
    obtain ⟨va, vc, hv, _, _⟩ := HMD.out.row.form'
    rw [numE_len, List.length_take, ← HM.out, Nat.min_eq_left hjm] at hv
    subst hv
    have hbs := bld_lt HIB.out
    by_cases hlt : j < m
    · obtain ⟨x, hx⟩ : ∃ x, l[j]? = some x := ⟨l[j]'(by rw [← HM.out]; exact hlt), by simp⟩
      obtain ⟨bb, o, rfl, hbl, hmc, hcm, d0, d1⟩ := (HL.out.below HBW.out).at (ofP_at hx)
      unfold maxLen at hcm
      have hxg := HG.out x (List.mem_of_getElem? hx)
      have htk : l.take (j + 1) = l.take j ++ [x] := by rw [List.take_add_one, hx]; rfl
      obtain ⟨i, s⟩ := x
      simp only at d0 d1 hxg
      obtain ⟨hi5, hs5⟩ := hxg
      have hjI : (j : Int) < (m : Int) := by omega
      obtain ⟨z, hz⟩ : ∃ z, z = wr.heap.size := ⟨_, rfl⟩
      obtain ⟨wz, hwz⟩ : ∃ wz, wz = wr.alloc (.cells #[.int .i64 (i : Int), .string s] 49) := ⟨_, rfl⟩
      have hbz : Below wr.heap.size wr wz := by rw [hwz]; exact (Below.refl _ _).alloc (Nat.le_refl _) _
      have z0 : wz.cell? ⟨z, 0, none⟩ = some (.int .i64 (i : Int)) := by rw [hwz, hz, World.cell?_alloc_at _ _ _ _ rfl]; rfl
      have z1 : wz.cell? ⟨z, 1, none⟩ = some (.string s) := by rw [hwz, hz, World.cell?_alloc_at _ _ _ _ rfl]; rfl
      have hzl : z < wz.heap.size := by rw [hwz, hz]; simp
      have hzty : ∃ cc fz, wz.heap[z]? = some (.cells cc 49 fz) := ⟨#[.int .i64 (i : Int), .string s], (0, 0), by rw [hwz, hz]; show (wr.heap.push _)[wr.heap.size]? = _; simp⟩
      have hbwz := HBW.out.trans (hbz.mono HBW.out.size)
      have HNU := Lib.hid (num_any (i : Int) wz (by omega) (by omega) (HTB.out.below hbwz))
      have HX := Lib.hid hx
      have HWZ := Lib.hid hwz
      have HZ := Lib.hid hz
      have HZL := Lib.hid hzl
      have HZT := Lib.hid hzty
      have HTK := Lib.hid htk
      have HBZ := Lib.hid hbwz
      have HMZ := Lib.hid (HMD.out.below hbz)
      have HOZ := Lib.hid (HOW.out.below hbz)
      have HIZ := Lib.hid (bld_below HIB.out hbz)
      have hEL : (numE (l.take j)).length = j := by rw [numE_len, List.length_take, ← HM.out, Nat.min_eq_left hjm]
      have HEL := Lib.hid hEL
      have hbzs := hbz.size
      clear hx hbz hwz hbl hz htk hzl hzty hbwz hEL
      go_wp2_with fail
      rw [← HZ.out, ← HWZ.out]
      refine HNU.out.mono ?_
      rintro e w2 ⟨rfl, hb2⟩
      have HB2 := Lib.hid hb2
      have hsz2 : w.heap.size + 1 ≤ w2.heap.size := by have := hb2.size; omega
      have HZ2 := Lib.hid ((hb2.cell (p := ⟨z, 1, none⟩) HZL.out).trans z1)
      clear hb2 z0 z1
      obtain ⟨X, hX⟩ : ∃ X, X = tx (itoa (i : Int)) := ⟨_, rfl⟩
      have HXE := Lib.hid hX
      rw [← hX]
      clear hX
      go_wp2_with (at_builtin; refine wpList_append_rowT rfl (.tmp 17) (.tmp 21) 96 96 rfl 3 101 (.agg #[.bool false, .string ByteArray.empty, .slice none 0 0]) 48 Tryz.underlying96 Tryz.infoForm rfl (w.heap.size + 1) (.slice va j vc) j (fcells (numE (l.take j))) (by simp [Act.eval]) (by have := ((HMZ.out.row.below HB2.out).alloc (.cells #[.bool false, .string X, .slice none 0 0] 101)); rw [HEL.out] at this; exact this) (.slice (some ⟨w2.heap.size, 0, none⟩) 1 1) (by simp [Act.eval]) 1 [.bool false, .string X, .slice none 0 0] (by exact src_new Tryz.underlying96 _ _ _ _ rfl (by intro u hu; simp only [List.mem_cons, List.not_mem_nil, or_false] at hu; rcases hu with rfl | rfl | rfl <;> rfl)) (by simp; omega) (by omega) (by decide) ?_; intro v6 w6 hr6 ho6 hw6 ht6; obtain ⟨a6, c6, hv6⟩ := hr6.form; subst hv6)
      have hownb : ∀ i, (Value.slice va j vc).ownBlock = some i → i ≠ z ∧ i ≠ b ∧ w.heap.size + 1 ≤ i := fun i hi => by
        have h1 := (HMZ.out.row.lt i hi).1
        refine ⟨fun e => ?_, by have := HBE.out; omega, h1⟩
        subst e
        obtain ⟨c1, f1, e1⟩ := HOZ.out i hi
        obtain ⟨c2, f2, e2⟩ := HZT.out
        rw [e1] at e2
        injection e2 with e2
        injection e2 with _ e2 _
        exact absurd e2 (by decide)
      have hba : Below w2.heap.size w2 (w2.alloc (.cells #[.bool false, .string X, .slice none 0 0] 101)) := (Below.refl _ _).alloc (Nat.le_refl _) _
      have hb2a := HB2.out.trans (hba.mono HB2.out.size)
      have ho26 := ho6
      have hb6 : Below w.heap.size w w6 := (HBZ.out.trans (hb2a.mono HBZ.out.size)).trans (ho6.below (fun i hi => by have := (hownb i hi).2.2; omega) (by have := hba.size; omega))
      have hzl2 : z < w2.heap.size := Nat.lt_of_lt_of_le HZL.out HB2.out.size
      have z6 : w6.cell? ⟨z, 1, none⟩ = some (.string s) := (ho6.cell (p := ⟨z, 1, none⟩) (Nat.lt_of_lt_of_le hzl2 hba.size) (fun e => (hownb z e).1 rfl)).trans ((hba.cell (p := ⟨z, 1, none⟩) hzl2).trans HZ2.out)
      have hoa := HOZ.out.below hb2a
      have hia := bld_below HIZ.out hb2a
      have hi6 : IsB w.heap.size b (dataL (l.take j)) w6 := bld_off hia ho6 (fun e => (hownb b e).2.1 rfl) (fun i cc fz hi e => by
        obtain ⟨c1, f1, e1⟩ := hoa i e
        rw [e1] at hi
        injection hi with hi
        injection hi with _ hi _
        exact absurd hi (by decide))
      have hpush := ((HMZ.out.below hb2a)).push (l := false) (t := X) (ys := []) (s := .slice none 0 0) (.nil none 0 (Nat.zero_le _)) (by rw [HXE.out]; exact itoa_tx_size (by omega)) (by rw [HEL.out]; exact hr6) ho6 hw6
      rw [HXE.out, ← numE_snoc (l.take j) (i, s), ← HTK.out] at hpush
      have ht6' := ht6 hoa
      have HM6 := Lib.hid hpush
      have HT6 := Lib.hid ht6'
      have HI6 := Lib.hid hi6
      have HB6 := Lib.hid hb6
      clear ho26 hoa hia hi6 hb6 hpush ht6' ht6 hr6 ho6 hw6 hb2a hba hownb
      have HRP := Lib.hid (fun W => srep_any (512 - s.size) W (by omega))
      have hcI : ((512 - s.size : Nat) : Int) = IntKind.i64.wrap (512 - (s.size : Int)) := by rw [IntKind.wrap_i64]; omega
      rw [hcI] at HRP
      have hap := app_full s
      obtain ⟨zb, hzb⟩ : ∃ zb : ByteArray, zb = ⟨(List.replicate (512 - s.size) (0 : UInt8)).toArray⟩ := ⟨_, rfl⟩
      have hzs : zb.size ≤ 512 := by
        rw [hzb]
        show (List.replicate (512 - s.size) (0 : UInt8)).toArray.size ≤ 512
        simp
      rw [← hzb] at HRP hap
      have hcat : ¬ 9223372036854775807 < s.size + zb.size := by omega
      have hzl6 : z < w6.heap.size := cell_lt z6
      have HZ6 := Lib.hid hzl6
      have hdl : (dataL (l.take j)).length ≤ 512 * 63 := by
        rw [dataL_len (fun p hp => (HG.out p (List.mem_of_mem_take hp)).2), List.length_take]
        omega
      have hfs : (s ++ zb).size ≤ 512 := by rw [hap]; exact Nat.le_of_eq (fullB_size hs5)
      have HWS : Hid (∀ W : World, Below w6.heap.size w6 W → Calls Tryz.prog 48 #[.pointer (some ⟨b, 0, none⟩), .string (s ++ zb)] W fun e w' => e = .returned (.tuple #[.int .i64 (s ++ zb).size, .nilIface]) ∧ MadeU (w.heap.size + 1) w' (.slice a6 (j + 1) c6) (numE (l.take (j + 1))) ∧ OwnT 101 (.slice a6 (j + 1) c6) w' ∧ IsB w.heap.size b (dataL (l.take (j + 1))) w' ∧ Below w.heap.size w w') := Lib.hid (fun (W : World) (hW : Below w6.heap.size w6 W) => (bwrite_any w.heap.size b (dataL (l.take j)) (s ++ zb) W (bld_below HI6.out hW) (by omega) (by have := HB6.out.size; have := hW.size; omega)).mono fun e w' ⟨h1, h2, h3⟩ => by
        have hbo : ∀ i, (Value.slice a6 (j + 1) c6).ownBlock = some i → some i ≠ some b := fun i hi e => by
          have h5 := (HM6.out.row.lt i hi).1
          have h6 := HBE.out
          injection e with e
          omega
        have ho := others_own (HT6.out.below hW) (by decide) h3.2 hbo
        refine ⟨h1, made_num (HM6.out.below hW) h3.1.size ho, fun i hi => ?_, ?_, HB6.out.trans ((hW.mono HB6.out.size).trans h3.1)⟩
        · rw [ho i hi]; exact (HT6.out.below hW) i hi
        · rw [HTK.out, dataL_snoc, ← hap]; exact h2)
      clear hcI hap hzb hdl hfs hzl6
      go_region_law (first
        | (go_simp; refine (HRP.out _).mono ?_; rintro e w7 ⟨rfl, hb7⟩; have HB7 : Hid (Below w6.heap.size w6 w7) := Lib.hid (by refine Below.trans (b := _) ?_ hb7; (repeat refine Below.drew ?_); exact Below.refl _ _); have q7 := (HB7.out.cell (p := ⟨z, 1, none⟩) HZ6.out).trans z6; clear hb7)
        | (go_simp; refine (HWS.out _ (by (repeat refine Below.drew ?_); exact HB7.out)).mono ?_; rintro e w8 ⟨rfl, hm8, ht8, hi8, hb8⟩; have HM8 := Lib.hid hm8; have HT8 := Lib.hid ht8; have HI8 := Lib.hid hi8; have HB8 := Lib.hid hb8; clear hm8 ht8 hi8 hb8))
      all_goals
        go_wp2_with fail
        exact ⟨⟨j + 1, by go_num, by omega, HM8, HT8, HI8, HB8⟩, by simp [intOf]; omega⟩
    · have hjj : m = j := by omega
      subst hjj
      have hlm : l.take m = l := List.take_of_length_le (by rw [← HM.out]; exact Nat.le_refl _)
      have hmd := HMD.out
      have hib := HIB.out
      rw [hlm] at hmd hib
      obtain ⟨G, hG⟩ : ∃ G, G = ByB w.heap.size wr := ⟨_, rfl⟩
      have hgl : ∀ i, G i → w.heap.size ≤ i ∧ i < wr.heap.size := fun i hi => by
        rw [hG] at hi
        obtain ⟨h1, c, fz, h2⟩ := hi
        exact ⟨h1, (Array.getElem?_eq_some_iff.1 h2).1⟩
      have hgt : ∀ i c e fz, wr.heap[i]? = some (.cells c e fz) → e ≠ 5 → ¬ G i := fun i c e fz h1 h2 h3 => by
        rw [hG] at h3
        obtain ⟨_, c', fz', h4⟩ := h3
        rw [h1] at h4
        injection h4 with h4
        injection h4 with _ h4 _
        exact h2 h4
      have hbl : BldL b G wr := by rw [hG]; exact BldL.of hib
      have hgb : ¬ G b := by
        have key : ∀ {p : Value}, Lib.BuilderAtF 99 5 w.heap.size b p (Lib.byteCells (dataL l)) wr → ¬ G b := fun h => by
          obtain ⟨_, v', hb', _⟩ := h
          exact hgt b _ _ _ hb' (by decide)
        exact hib.elim key key
      have hsl : SlU (fun i => ¬ G i) wr (.slice va m vc) (numL l) := numE_sl hmd (fun i hi => by
        obtain ⟨c, fz, h1⟩ := HOW.out i hi
        exact hgt i _ _ _ h1 (by decide))
      have hnl : (numL l).length = m := by rw [HM.out]; simp [numL]
      have hli := list_any (fun i => ¬ G i) _ (numL l) wr hsl (fun i hi e => by have := (hgl i e).2; omega) (by rw [hnl]; omega)
      have HLI := Lib.hid hli
      have HNL := Lib.hid hnl
      have HGL := Lib.hid hgl
      have HGB := Lib.hid hgb
      have HBL := Lib.hid hbl
      have HIBL := Lib.hid hib
      obtain ⟨dl, hdl⟩ : ∃ dl, dl = dataL l := ⟨_, rfl⟩
      obtain ⟨xs, hxs⟩ : ∃ xs, xs = numL l := ⟨_, rfl⟩
      have hdn : dl ≠ [] := fun e => by
        have h1 := dataL_len (l := l) (fun p hp => (HG.out p hp).2)
        rw [← hdl, e, ← HM.out] at h1
        simp at h1; omega
      have hdlen : dl.length ≤ 512 * 63 := by
        rw [hdl, dataL_len (fun p hp => (HG.out p hp).2), ← HM.out]; omega
      have h10 : ∀ p ∈ l, p.1 < 10000 := fun p hp => by have := (HG.out p hp).1; omega
      have hcw1 := canW_nums h10 (by rw [← HM.out]; exact hn)
      have hcw2 := canW_head h10 (by rw [← HM.out]; exact hn)
      have hn512 : (numsT l).bytes.length ≤ 512 := by
        have := headT_len h10 (by rw [← HM.out]; exact hn)
        rw [headT_bytes] at this
        simp only [List.length_append] at this
        omega
      obtain ⟨T1, hT1⟩ : ∃ T1 : ByteArray, T1 = tx (numsT l).bytes := ⟨_, rfl⟩
      obtain ⟨dlB, hdlB⟩ : ∃ dlB : ByteArray, dlB = ⟨dl.toArray⟩ := ⟨_, rfl⟩
      obtain ⟨dg, hdg⟩ : ∃ dg : ByteArray, dg = tx (digL3 l) := ⟨_, rfl⟩
      have s1 : T1.size ≤ 512 := by rw [hT1, tx_lenR]; exact hn512
      have s2 : dlB.size ≤ 512 * 63 := by rw [hdlB]; show dl.toArray.size ≤ _; simpa using hdlen
      have s3 : dg.size ≤ 140737488355328 := by rw [hdg, tx_lenR, digL3_len]; decide
      have hcat : ¬ 9223372036854775807 < T1.size + dlB.size := by omega
      have HSU : Hid (∀ W, HasK W → Calls Tryz.prog 52 #[.string (T1 ++ dlB)] W fun e w' => e = .returned (.string dg) ∧ Below W.heap.size W w') := Lib.hid (fun W hW => by
        have hcs : (T1 ++ dlB).size = T1.size + dlB.size := by simp
        have := sum_any (T1 ++ dlB) W hW (by omega)
        have e : (T1 ++ dlB).data.toList = (numsT l).bytes ++ dataL l := by rw [hT1, hdlB, hdl]; simp [ByteArray.data_append]
        rw [e] at this
        rw [hdg]
        exact this)
      have HST : Hid (∀ W, IsB w.heap.size b dl W → BldL b G W → Calls Tryz.prog 53 #[.pointer (some ⟨b, 0, none⟩)] W fun e w' => e = .returned (.string dlB) ∧ IsB w.heap.size b dl w' ∧ BldL b G w' ∧ Off G W w') := Lib.hid (fun W h1 h2 => by
        rw [hdlB]; exact bstring_any w.heap.size b G dl W h1 h2 hdn)
      have HCN := Lib.hid (fun W => text_any dg W)
      have HCH := Lib.hid (fun W => text_any ⟨#[114, 101, 100, 111]⟩ W)
      rw [← hxs] at HLI HNL
      rw [← hdl] at HIBL
      have HD3 := Lib.hid s3
      have HHT : Hid (Tm.mk true noText [.mk false ⟨#[114, 101, 100, 111]⟩ [], .mk true noText xs, .mk false dg []] = headT l) := Lib.hid (by rw [hxs, hdg]; rfl)
      have HNT : Hid (Tm.mk true noText xs = numsT l) := Lib.hid (by rw [hxs]; rfl)
      have HCW1 := Lib.hid hcw1
      have HCW2 := Lib.hid hcw2
      have HT1 := Lib.hid hT1
      clear hmd hib hG hgl hgt hbl hgb hsl hnl hli hdl hxs hdn hdlen h10 hcw1 hcw2 hn512 hT1 hdlB hdg s2 s3 hlm
      go_wp2_with fail
      refine HLI.out.mono ?_
      rintro e w10 ⟨la, n10, lc, rfl, hn10, hb10, hsl10⟩
      have hn10 : n10 = m := by rw [hn10, HNL.out]
      subst hn10
      obtain ⟨z, hz⟩ : ∃ z, z = w10.heap.size := ⟨_, rfl⟩
      obtain ⟨w11, hw11⟩ : ∃ w11, w11 = w10.alloc (.cells #[.bool true, .string noText, .slice la n10 lc] 101) := ⟨_, rfl⟩
      have hb11 : Below w10.heap.size w10 w11 := by rw [hw11]; exact (Below.refl _ _).alloc (Nat.le_refl _) _
      have z0 : w11.cell? ⟨z, 0, none⟩ = some (.bool true) := by rw [hw11, hz, World.cell?_alloc_at _ _ _ _ rfl]; rfl
      have z1 : w11.cell? ⟨z, 1, none⟩ = some (.string noText) := by rw [hw11, hz, World.cell?_alloc_at _ _ _ _ rfl]; rfl
      have z2 : w11.cell? ⟨z, 2, none⟩ = some (.slice la n10 lc) := by rw [hw11, hz, World.cell?_alloc_at _ _ _ _ rfl]; rfl
      have hzl : z < w11.heap.size := by rw [hw11, hz]; simp
      have hb9 := hb10.trans (hb11.mono hb10.size)
      have hs0 : HoS w b z G dl xs (.slice la n10 lc) w11 := ⟨⟨z0, z1, z2⟩, HBW.out.trans (hb9.mono HBW.out.size), hsl10.keep hb11, ⟨fun e => by have := (HGL.out z e).2; have := hb10.size; omega, hzl, HGB.out, fun i hi => ⟨(HGL.out i hi).1, Nat.lt_of_lt_of_le (HGL.out i hi).2 hb9.size⟩⟩, bld_below HIBL.out hb9, HBL.out.off (Z := fun _ => False) (Off.of_below hb9) hbs.2 (fun h => h)⟩
      have hwr := write_any true noText xs (· < w11.heap.size) (fun _ => True) w11 la lc (by rw [HNL.out]; exact HNL.out ▸ hs0.2.2.1.g.sl) (by decide) (fun i h => h) (HTB.out.below hs0.2.1) (fun hno => absurd (by rw [HNT.out]; exact HCW1.out) hno)
      rw [HNL.out, HNT.out] at hwr
      have HWR := Lib.hid hwr
      have HS11 := Lib.hid hs0
      have HW11 := Lib.hid hw11
      have HZ := Lib.hid hz
      clear hwr hs0 hw11 hz hb10 hb11 hb9 hsl10 hzl hn10
      go_wp2_with fail
      rw [← HW11.out]
      refine HWR.out.mono ?_
      rintro e w12 ⟨hb12, hc12⟩
      obtain ⟨hcan, rfl⟩ | ⟨hcan, _⟩ := hc12
      · have HS12 := Lib.hid (hos_below HS11.out hb12)
        clear hcan hb12 z0 z1 z2
        rw [← HT1.out]
        go_wp2_with fail
        rw [← HZ.out]
        have HS0 := Lib.hid (hos_drew HS12.out)
        go_region_held3 (fun W => (W.cell? ⟨z, 0, none⟩ = some (.bool true) ∧ W.cell? ⟨z, 1, none⟩ = some (.string noText) ∧ W.cell? ⟨z, 2, none⟩ = some (.slice la n10 lc)) ∧ Below w.heap.size w W ∧ SlU (fun i => ¬ G i) W (.slice la n10 lc) xs ∧ (¬ G z ∧ z < W.heap.size ∧ ¬ G b ∧ ∀ i, G i → w.heap.size ≤ i ∧ i < W.heap.size) ∧ IsB w.heap.size b dl W ∧ BldL b G W)
          (first | with_reducible exact HS18.out | with_reducible exact HS17.out | with_reducible exact HS16.out | with_reducible exact HS15.out | with_reducible exact HS14.out | with_reducible exact HS13.out | with_reducible exact HS12.out | with_reducible exact HS0.out | with_reducible exact hos_alloc _ (by assumption))
          (first
            | (go_at_call 51; have hq : HoS w b z G dl xs (.slice la n10 lc) _ := (by assumption); (with_reducible refine (HCH.out _).mono ?_); rintro e w13 ⟨rfl, hb13⟩; have HS13 := Lib.hid (hos_below hq hb13); clear hq hb13)
            | (go_at_call 53; have hq : HoS w b z G dl xs (.slice la n10 lc) _ := (by assumption); (with_reducible refine (HST.out _ hq.2.2.2.2.1 hq.2.2.2.2.2).mono ?_); rintro e w14 ⟨rfl, hi14, hl14, ho14⟩; have HS14 := Lib.hid (hos_off hq ho14 (fun i h => h) hi14 hl14); clear hq hi14 hl14 ho14)
            | (go_at_call 52; have hq : HoS w b z G dl xs (.slice la n10 lc) _ := (by assumption); (with_reducible refine (HSU.out _ (HKK.out.below hq.2.1)).mono ?_); rintro e w15 ⟨rfl, hb15⟩; have HS15 := Lib.hid (hos_below hq hb15); clear hq hb15)
            | (go_at_call 51; have hq : HoS w b z G dl xs (.slice la n10 lc) _ := (by assumption); (with_reducible refine (HCN.out _).mono ?_); rintro e w16 ⟨rfl, hb16⟩; have HS16 := Lib.hid (hos_below hq hb16); clear hq hb16)
            | (go_at_call 49; have hq : HoS w b z G dl xs (.slice la n10 lc) _ := (by assumption); (with_reducible refine (head_list ⟨#[114, 101, 100, 111]⟩ dg (by decide) HD3.out HS16.out.2.2.1 (fun i hi => (HS16.out.2.2.2.1.2.2.2 i hi).2)).mono ?_); rintro e w17 ⟨l17, n17, c17, rfl, hn17, hb17, hsl17⟩; obtain rfl : n17 = 3 := hn17; have HS17 := Lib.hid (hos_below hq hb17); have HSL := Lib.hid hsl17; clear hq hb17 hsl17)
            | (go_at_call 50; have hq : HoS w b z G dl xs (.slice la n10 lc) _ := (by assumption); (refine (write_any true noText [.mk false ⟨#[114, 101, 100, 111]⟩ [], .mk true noText xs, .mk false dg []] _ (fun _ => True) _ l17 c17 HSL.out.g.sl (by decide) (fun i h => h) (HTB.out.below hq.2.1) (fun hno => absurd (by rw [HHT.out]; exact HCW2.out) hno)).mono ?_); rintro e w18 ⟨hb18, hc18⟩; rw [HHT.out] at hc18; obtain ⟨_, rfl⟩ := hc18.resolve_right (fun h => h.1 HCW2.out); have HS18 := Lib.hid (hos_below hq hb18); clear hq hb18))
        rename_i hHeld
        clear hHeld
        go_wp2_with fail
        go_ret2
        exact ⟨rfl, HS18.out.2.1⟩
      · exact absurd HCW1.out hcan
end Go.Proofs.YthamfbfeokmhgaaGreatDoor
