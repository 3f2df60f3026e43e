/- The contract of the program's Read. numbered: the pages whose numbers a head tells. -/
import Derived.Test.YthamfbfeokmhgaaGreatDoorU12
import Derived.Test.YthamfbfeokmhgaaGreatDoorU20
import Derived.Test.YthamfbfeokmhgaaGreatDoorU36
import Derived.Test.YthamfbfeokmhgaaGreatDoorU41
set_option linter.unusedVariables false
namespace Go.Proofs.YthamfbfeokmhgaaGreatDoor
open Go.ChangeShapes Go.WideShapes Go.ChangeAt Go.RowKit

def ReadT (s : ByteArray) (w : World) (e : Ending) (w' : World) : Prop :=
  Below w.heap.size w w' ∧
    ((65536 < s.size ∧ e = .returned (.tuple #[fz, errV 2])) ∨
     (s.size ≤ 65536 ∧ (∀ T, ¬ IsF 0 s.data.toList T []) ∧ e = .returned (.tuple #[fz, errV 5])) ∨
     (s.size ≤ 65536 ∧ ∃ l t xs a c, e = .returned (.tuple #[fv l t (.slice a xs.length c), .nilIface]) ∧ IsF 0 s.data.toList (.mk l t xs) [] ∧ t.size ≤ 140737488355328 ∧ SlL (fun i => w.heap.size ≤ i) w' (.slice a xs.length c) xs))
theorem set3_below_al {w w3 : World} (h : Below w.heap.size w w3) (u0 u1 u2 : Value) (o : Obj) : Below w.heap.size w ((((w3.setCell ⟨w.heap.size, 0, none⟩ u0).setCell ⟨w.heap.size, 1, none⟩ u1).setCell ⟨w.heap.size, 2, none⟩ u2).alloc o) :=
  (set3_below h u0 u1 u2).alloc (set3_below h u0 u1 u2).size o
theorem set3_sl {Z : Nat → Prop} {w w3 : World} {v : Value} {xs : List Tm} (h : SlL Z w3 v xs) (hz : ∀ i, Z i → w.heap.size < i) (u0 u1 u2 : Value) (o : Obj) : SlL (fun i => w.heap.size ≤ i) ((((w3.setCell ⟨w.heap.size, 0, none⟩ u0).setCell ⟨w.heap.size, 1, none⟩ u1).setCell ⟨w.heap.size, 2, none⟩ u2).alloc o) v xs := by
  have hfo : Off (fun i => i = w.heap.size) w3 (((w3.setCell ⟨w.heap.size, 0, none⟩ u0).setCell ⟨w.heap.size, 1, none⟩ u1).setCell ⟨w.heap.size, 2, none⟩ u2) :=
    (((Off.refl (fun i => i = w.heap.size) w3).setCell (p := ⟨w.heap.size, 0, none⟩) (.inr rfl) _).setCell (p := ⟨w.heap.size, 1, none⟩) (.inr rfl) _).setCell (p := ⟨w.heap.size, 2, none⟩) (.inr rfl) _
  exact ((h.off hfo fun i hi e => by have := hz i hi; omega).alloc o).mono fun i _ hi => by have := hz i hi; omega
set_option maxHeartbeats 4000000 in
set_option maxRecDepth 100000 in
theorem read_any (s : ByteArray) (w : World) (hs : s.size ≤ 140737488355328) :
    Calls Tryz.prog 64 #[.string s] w (ReadT s w) := by
  by_cases hbig : 65536 < s.size
  · have hb : (65536 : Int) < s.size := by omega
    go_enter Tryz.func64, Tryz.ntmps64
    go_wp2_with fail
    exact bodyPost_ret (v := .tuple #[fz, errV 2]) (by simp [results, Tryz.results64, go_sem]) rfl ⟨(Below.refl _ _).alloc (Nat.le_refl _) _, .inl ⟨hbig, rfl⟩⟩
  · have hb : ¬ (65536 : Int) < s.size := by omega
    have hform := rdform_any s (by omega) 8 0 (by omega)
    have HF := Lib.hid hform
    have HBIG := Lib.hid hbig
    clear hform hbig
    go_enter Tryz.func64, Tryz.ntmps64
    go_wp2_with fail
    have hrd : Rd (w.heap.size + 1) ((w.alloc (.cells #[.bool false, .string ⟨#[]⟩, .slice none 0 0] 101)).alloc (.cells #[.string s, .int .i64 0] 164)) s 0 :=
      ⟨(World.cell?_alloc_at _ _ _ _ (by simp)).trans rfl, (World.cell?_alloc_at _ _ _ _ (by simp)).trans rfl, World.frozen?_alloc_at _ _ _ _ (by simp)⟩
    refine (HF.out (w.heap.size + 1) 0 _ hrd (Nat.zero_le _)).mono ?_
    rintro e w3 ⟨hoff, hcase⟩
    obtain ⟨⟨z1, z2, z3⟩, zf, zl, zb⟩ := two_off hoff
    have zf0 := zf 0
    have zf1 := zf 1
    have zf2 := zf 2
    have zl2 : w.heap.size < w3.heap.size := by omega
    have HZB := Lib.hid zb
    rw [List.drop_zero] at hcase
    clear hrd hoff zf zb
    rcases hcase with ⟨l1, t1, xs1, a1, c1, q3, R3, rfl, hF3, hq3, hR3, hrd3, hts3, hsl3⟩ | ⟨rfl, hno⟩
    · obtain ⟨y1, y2, y3⟩ := hrd3
      have HF3 := Lib.hid hF3
      have HR3 := Lib.hid hR3
      have HSL3 := Lib.hid hsl3
      obtain ⟨m1, hm1⟩ : ∃ m, m = xs1.length := ⟨_, rfl⟩
      have HM1 := Lib.hid hm1
      rw [← hm1]
      clear hF3 hR3 hsl3 hm1 y1 y3
      by_cases hend : q3 < s.size
      · have hno : ∀ T, ¬ IsF 0 s.data.toList T [] := fun T hT => by
          have := (HF3.out.det hT).2
          have e := congrArg List.length HR3.out
          rw [this, List.length_drop, ba_len, List.length_nil] at e
          omega
        have HNO := Lib.hid hno
        have hbb : (q3 : Int) < s.size := by omega
        clear hno
        go_wp2_with fail
        refine bodyPost_ret (v := .tuple #[fz, errV 5]) (by simp [results, Tryz.results64, go_sem, z1, z2, z3, zl2]) rfl ⟨?_, .inr (.inl ⟨by have := HBIG.out; omega, HNO.out, rfl⟩)⟩
        exact set3_below_al HZB.out _ _ _ _
      · have hbb : ¬ (q3 : Int) < s.size := by omega
        have hfin : IsF 0 s.data.toList (.mk l1 t1 xs1) [] := by
          have h := HF3.out
          have e : R3 = [] := by rw [← HR3.out]; exact List.drop_eq_nil_of_le (by rw [ba_len]; omega)
          rw [e] at h
          exact h
        have HFIN := Lib.hid hfin
        clear hfin
        go_wp2_with fail
        refine bodyPost_ret (v := .tuple #[fv l1 t1 (.slice a1 m1 c1), .nilIface]) (by simp [results, Tryz.results64, go_sem, z1, z2, z3, zl2]) rfl ⟨?_, .inr (.inr ⟨by have := HBIG.out; omega, l1, t1, xs1, a1, c1, by rw [← HM1.out], HFIN.out, hts3, ?_⟩)⟩
        · exact set3_below_al HZB.out _ _ _ _
        · have := HSL3.out
          rw [← HM1.out]
          rw [← HM1.out] at this
          exact set3_sl this (fun i hi => by have h : ((w.alloc (.cells #[.bool false, .string ⟨#[]⟩, .slice none 0 0] 101)).alloc (.cells #[.string s, .int .i64 0] 164)).heap.size ≤ i := hi; simp at h; omega) _ _ _ _
    · have HNO := Lib.hid hno
      clear hno
      go_wp2_with fail
      refine bodyPost_ret (v := .tuple #[fz, errV 5]) (by simp [results, Tryz.results64, go_sem, z1, z2, z3, zl2]) rfl ⟨?_, .inr (.inl ⟨by have := HBIG.out; omega, fun T => HNO.out T [], rfl⟩)⟩
      first | exact set3_below_al HZB.out _ _ _ _ | exact set3_below HZB.out _ _ _
end Go.Proofs.YthamfbfeokmhgaaGreatDoor
set_option linter.unusedVariables false
set_option linter.unusedSimpArgs false
namespace Go.Proofs.YthamfbfeokmhgaaGreatDoor
open Go.ChangeShapes Go.WideShapes Go.ChangeAt Go.RowKit
open Go.Lib (decDigits itoa)

theorem infoPg : (Tryz.prog.info? 49).map (fun i => (i.zero, i.size, i.bytes)) = some (some (.agg #[.int .i64 0, .string ByteArray.empty]), 2, 24) := by kernel_rfl
def zeroP (l : Pgs) : Pgs := l.map fun p => (p.1, ByteArray.empty)
theorem zeroP_len (l : Pgs) : (zeroP l).length = l.length := by simp [zeroP]
theorem zeroP_snoc (l : Pgs) (p : Nat × ByteArray) : zeroP (l ++ [p]) = zeroP l ++ [(p.1, ByteArray.empty)] := by simp [zeroP]
theorem zeroP_good {N : Nat} {l : Pgs} (h : goodP N l) : goodP N (zeroP l) := by
  refine ⟨fun p hp => ?_, ?_⟩
  · obtain ⟨x, hx, rfl⟩ := List.mem_map.1 hp
    exact ⟨(h.1 x hx).1, Nat.zero_le _⟩
  · have : (zeroP l).map Prod.fst = l.map Prod.fst := by simp [zeroP, List.map_map, Function.comp_def]
    rw [this]; exact h.2
theorem pg_reads {B : Nat} {w : World} {v : Value} {l : Pgs} (h : Row 2 B w v l.length (pv l)) : PgR w v (ofP l) := by
  by_cases e : l = []
  · subst e
    obtain ⟨a, c, hv⟩ := h.form
    exact .inl ⟨rfl, a, c, hv⟩
  · obtain ⟨b, cap, hv, h1, h2, h3, h4, h5, h6⟩ := h.pos (List.length_pos_iff.2 e)
    refine .inr ⟨by simpa [ofP] using e, b, 0, cap, by rw [hv, ofP_len], by rw [ofP_len]; exact h3, h4, h2, fun j x hx => ?_⟩
    obtain ⟨y, hy, rfl⟩ := ofP_inv hx
    obtain ⟨c0, c1⟩ := pv_at hy
    rw [Nat.zero_add]
    exact ⟨h6 _ _ c0, h6 _ _ c1⟩
theorem head_isF (l : Pgs) : IsF 0 (headB l).data.toList (headT l) [] := by
  refine ⟨headT_ok l, by rw [headT_depth]; omega, ?_⟩
  rw [headB, tx_toList, List.append_nil]
set_option maxHeartbeats 4000000 in
set_option maxRecDepth 100000 in
theorem numbered_any {Z : Nat → Prop} {q p : Nat} {D : Dk} (l : Pgs) (w : World) (hq : RQ w q p) (h : DX Z w p D) (hg : goodP (D.sure.length - 64) l) (hn1 : 1 ≤ l.length) (hn : l.length ≤ 63) (hv : HasSents w) (ht : HasTab w) :
    Calls Tryz.prog 39 #[.pointer (some ⟨q, 0, none⟩), .string (headB l)] w fun e w' => ∃ v, e = .returned (.tuple #[v, .nilIface]) ∧ Row 2 w.heap.size w' v l.length (pv (zeroP l)) ∧ Below w.heap.size w w' := by
  have n2 := h.ok.n2
  have h10 : ∀ p ∈ l, p.1 < 10000 := fun p hp => by have := (hg.1 p hp).1; omega
  have hhs : (headB l).size ≤ 512 := headB_size h10 hn
  have HRD : Hid (Calls Tryz.prog 64 #[.string (headB l)] w fun e w' => ∃ a c, e = .returned (.tuple #[fv true noText (.slice a 3 c), .nilIface]) ∧ Below w.heap.size w w' ∧ SlL (fun i => w.heap.size ≤ i) w' (.slice a 3 c) [.mk false redoB [], numsT l, .mk false (tx (digL3 l)) []]) := Lib.hid ((read_any (headB l) w (by omega)).mono fun e w' ⟨hb, hc⟩ => by
    rcases hc with ⟨h1, _⟩ | ⟨_, h1, _⟩ | ⟨_, l', t, xs, a, c, he, hi, _, hs⟩
    · omega
    · exact absurd (head_isF l) (h1 _)
    · have hT := (hi.det (head_isF l)).1
      rw [headT] at hT
      injection hT with e1 e2 e3
      subst e1; subst e2; subst e3
      exact ⟨a, c, he, hb, hs⟩)
  have HPG : Hid (∀ W, Below w.heap.size w W → Calls Tryz.prog 20 #[.pointer (some ⟨q, 0, none⟩)] W fun e w' => e = .returned (.int .i64 ((D.sure.length - 64 : Nat) : Int)) ∧ w' = W) := Lib.hid (fun W hW => rpages_any W (hq.below hW) (h.below hW))
  have HRT : Hid (∀ W v, Below w.heap.size w W → PgR W v (ofP (zeroP l)) → Calls Tryz.prog 27 #[.pointer (some ⟨q, 0, none⟩), v] W fun e w' => e = .returned (.bool true) ∧ Below W.heap.size W w') := Lib.hid (fun W v hW hr => by
    have := rright_any v (ofP (zeroP l)) W (hq.below hW) (h.below hW) hr (by rw [ofP_len, zeroP_len]; omega)
    rw [decide_eq_true (okR_good.2 (zeroP_good hg))] at this
    exact this)
  obtain ⟨N, hN⟩ : ∃ N, N = D.sure.length - 64 := ⟨_, rfl⟩
  rw [← hN] at HPG
  have hgN : ∀ p ∈ l, p.1 < N := fun p hp => by rw [hN]; exact (hg.1 p hp).1
  have hN5 : N ≤ 5000 := by omega
  have HGN := Lib.hid hgN
  have HNM : Hid (∀ (W : World) (a0 : Option Addr) (c0 i : Nat), Below w.heap.size w W → i < N → Calls Tryz.prog 65 #[fv false (tx (itoa (i : Int))) (.slice a0 0 c0), .int .i64 0, .int .i64 ((N : Int) - 1)] W fun e w' => e = .returned (.tuple #[.int .i64 (i : Int), .nilIface]) ∧ Below W.heap.size W w') := Lib.hid (fun W a0 c0 i hW hi => by
    have his : isNum (tx (itoa (i : Int))) 0 ((N : Int) - 1) i := ⟨by omega, by omega, rfl, by omega, by omega⟩
    refine (number_gen a0 c0 (tx (itoa (i : Int))) 0 ((N : Int) - 1) W (by rw [tx_lenR]; have := dig_len (n := i) (by omega); omega) (hv.below hW) (ht.below hW) (by omega) (by omega) (by omega) (by omega)).mono fun e w' ⟨n, x, he, hb, hc⟩ => ?_
    rcases hc with ⟨h1, rfl⟩ | ⟨_, _, h1⟩
    · have := h1.one his
      subst this
      exact ⟨he, hb⟩
    · exact absurd his (h1 _))
  obtain ⟨s, hs⟩ : ∃ s, s = headB l := ⟨_, rfl⟩
  rw [← hs] at HRD ⊢
  obtain ⟨m, hm⟩ : ∃ m, m = l.length := ⟨_, rfl⟩
  rw [← hm] at hn hn1 ⊢
  have HM := Lib.hid hm
  clear hq h hg hv ht h10 hhs hN hgN hs hm n2
  go_enter Tryz.func39, Tryz.ntmps39
  go_wp2_with fail
  refine HRD.out.mono ?_
  rintro e w1 ⟨a, c, rfl, hb1, hsl⟩
  obtain ⟨b, o, c', hav, hc1, hc2, hrow⟩ := hsl.pos (by simp)
  injection hav with e1 _ e3
  subst e1; subst e3
  obtain ⟨hzb, hbl, hat⟩ := hrow
  obtain ⟨a1, c1, i0, i1, i2, i3, hsl1⟩ := hat 1 true noText (numL l) rfl
  have hnl : (numL l).length = m := by rw [HM.out]; simp [numL]
  have hne : numL l ≠ [] := fun e => by rw [e] at hnl; simp at hnl; omega
  obtain ⟨b2, o2, c2, hav2, hd1, hd2, hrow2⟩ := hsl1.pos hne
  injection hav2 with e1 _ e3
  subst e1; subst e3
  rw [hnl] at i2 hd1
  obtain ⟨hzb2, hbl2, hat2⟩ := hrow2
  unfold maxLen at hc2 hd2
  obtain ⟨z, hz⟩ : ∃ z, z = w1.heap.size := ⟨_, rfl⟩
  obtain ⟨w2, hw2⟩ : ∃ w2, w2 = w1.alloc (.cells #[.bool true, .string noText, .slice (some ⟨b, o, none⟩) 3 c] 101) := ⟨_, rfl⟩
  have hb2 : Below w1.heap.size w1 w2 := by rw [hw2]; exact (Below.refl _ _).alloc (Nat.le_refl _) _
  have z2 : w2.cell? ⟨z, 2, none⟩ = some (.slice (some ⟨b, o, none⟩) 3 c) := by rw [hw2, hz, World.cell?_alloc_at _ _ _ _ rfl]; rfl
  have j2 : w2.cell? ⟨b, o + 3 + 2, none⟩ = some (.slice (some ⟨b2, o2, none⟩) m c1) := (hb2.cell (p := ⟨b, o + 1 * 3 + 2, none⟩) hbl).trans i2
  have HAT : Hid (∀ j (x : Nat × ByteArray), l[j]? = some x → ∃ a c, w2.cell? ⟨b2, o2 + j * 3, none⟩ = some (.bool false) ∧ w2.cell? ⟨b2, o2 + j * 3 + 1, none⟩ = some (.string (tx (itoa (x.1 : Int)))) ∧ w2.cell? ⟨b2, o2 + j * 3 + 2, none⟩ = some (.slice a 0 c)) := Lib.hid (fun j x hx => by
    obtain ⟨a, c, k0, k1, k2, _⟩ := hat2 j false (tx (itoa (x.1 : Int))) [] (by rw [numL, List.getElem?_map, hx]; rfl)
    exact ⟨a, c, (hb2.cell (p := ⟨b2, o2 + j * 3, none⟩) hbl2).trans k0, (hb2.cell (p := ⟨b2, o2 + j * 3 + 1, none⟩) hbl2).trans k1, (hb2.cell (p := ⟨b2, o2 + j * 3 + 2, none⟩) hbl2).trans k2⟩)
  have hbl3 : b2 < w2.heap.size := Nat.lt_of_lt_of_le hbl2 hb2.size
  have HB2 := Lib.hid (hb1.trans (hb2.mono hb1.size))
  have HW2 := Lib.hid hw2
  have HZ := Lib.hid hz
  have hm63 : ¬ (63 : Int) < (m : Int) := by omega
  have j3 := j2
  have z3 := z2
  rw [HW2.out] at j3 z3
  rw [HZ.out] at z3
  clear hb1 hsl hat hat2 hsl1 hb2 hw2 hz hzb hzb2 i0 i1 i2 i3 hnl hne HRD
  go_wp2_with fail
  rw [← HZ.out, ← HW2.out]
  clear j3 z3
  go_loopw [8, 42] (fun v jv wr => ∃ j : Nat, jv = .int .i64 (j : Nat) ∧ j ≤ m ∧ Hid (Row 2 w2.heap.size wr v j (pv (zeroP (l.take j)))) ∧ Hid (Below w2.heap.size w2 wr)) (fun _ jv _ => m - (intOf jv).toNat)
  case atStart => exact ⟨0, rfl, Nat.zero_le _, Lib.hid (Row.nil _ _ _), Lib.hid (Below.refl _ _)⟩
  case round =>
    obtain ⟨j, rfl, hjm, HR, HB⟩ := hrel
    obtain ⟨va, vc, rfl⟩ := HR.out.form
    by_cases hlt : j < m
    · obtain ⟨x, hx⟩ : ∃ x, l[j]? = some x := ⟨l[j]'(by rw [← HM.out]; exact hlt), by simp⟩
      obtain ⟨a0, c0, k0, k1, k2⟩ := HAT.out j x hx
      have hxN := HGN.out x (List.mem_of_getElem? hx)
      have HTK : Hid (l.take (j + 1) = l.take j ++ [x]) := Lib.hid (by rw [List.take_add_one, hx]; rfl)
      obtain ⟨i, d⟩ := x
      simp only at k1 hxN
      have k0 := (HB.out.cell (p := ⟨b2, o2 + j * 3, none⟩) hbl3).trans k0
      have k1 := (HB.out.cell (p := ⟨b2, o2 + j * 3 + 1, none⟩) hbl3).trans k1
      have k2 := (HB.out.cell (p := ⟨b2, o2 + j * 3 + 2, none⟩) hbl3).trans k2
      obtain ⟨X, hX⟩ : ∃ X, X = tx (itoa (i : Int)) := ⟨_, rfl⟩
      rw [← hX] at k1
      have hjI : (j : Int) < (m : Int) := by omega
      obtain ⟨y, hy⟩ : ∃ y, y = wr.heap.size := ⟨_, rfl⟩
      obtain ⟨wz, hwz⟩ : ∃ wz, wz = wr.alloc (.cells #[.bool false, .string X, .slice a0 0 c0] 101) := ⟨_, rfl⟩
      have hbz : Below wr.heap.size wr wz := by rw [hwz]; exact (Below.refl _ _).alloc (Nat.le_refl _) _
      have y0 : wz.cell? ⟨y, 0, none⟩ = some (.bool false) := by rw [hwz, hy, World.cell?_alloc_at _ _ _ _ rfl]; rfl
      have y1 : wz.cell? ⟨y, 1, none⟩ = some (.string X) := by rw [hwz, hy, World.cell?_alloc_at _ _ _ _ rfl]; rfl
      have y2 : wz.cell? ⟨y, 2, none⟩ = some (.slice a0 0 c0) := by rw [hwz, hy, World.cell?_alloc_at _ _ _ _ rfl]; rfl
      have HWZ := Lib.hid hwz
      have HY := Lib.hid hy
      have HBZ := Lib.hid (HB.out.trans (hbz.mono HB.out.size))
      have HRZ := Lib.hid (HR.out.below hbz)
      have HPZ := Lib.hid (fun (W : World) (hW : Below wz.heap.size wz W) => HPG.out W ((HB2.out.trans (HBZ.out.mono HB2.out.size)).trans (hW.mono (by have := HB2.out.size; have := HBZ.out.size; omega))))
      have HNZ : Hid (∀ W : World, Below wz.heap.size wz W → Calls Tryz.prog 65 #[fv false X (.slice a0 0 c0), .int .i64 0, .int .i64 ((N : Int) - 1)] W fun e w' => e = .returned (.tuple #[.int .i64 (i : Int), .nilIface]) ∧ Below W.heap.size W w') := Lib.hid (fun (W : World) (hW : Below wz.heap.size wz W) => by
        rw [hX]
        exact HNM.out W a0 c0 i ((HB2.out.trans (HBZ.out.mono HB2.out.size)).trans (hW.mono (by have := HB2.out.size; have := HBZ.out.size; omega))) hxN)
      have hw1 : IntKind.i64.wrap ((N : Int) - 1) = (N : Int) - 1 := by rw [IntKind.wrap_i64]; omega
      rw [← hw1] at HNZ
      clear hx hX hbz hwz hy hw1
      go_wp2_with fail
      rw [← HY.out, ← HWZ.out]
      clear k0 k1 k2
      go_region_law (first
        | (go_simp; refine (HPZ.out _ (by (repeat refine Below.drew ?_); exact Below.refl _ _)).mono ?_; rintro e w5 ⟨rfl, rfl⟩)
        | (go_simp; refine (HNZ.out _ (by (repeat refine Below.drew ?_); exact Below.refl _ _)).mono ?_; rintro e w6 ⟨rfl, hb6⟩; have HB6 : Hid (Below wz.heap.size wz w6) := Lib.hid (by refine Below.trans (b := _) ?_ hb6; (repeat refine Below.drew ?_); exact Below.refl _ _); clear hb6))
      all_goals
        clear y0 y1 y2
        go_wp2_with (at_builtin; refine wpList_append_row rfl (.tmp 57) (.tmp 60) 37 37 rfl 2 49 (.agg #[.int .i64 0, .string ByteArray.empty]) 24 Tryz.underlying37 infoPg rfl w2.heap.size (.slice va j vc) j (pv (zeroP (l.take j))) (by simp [Act.eval]) (by exact (HRZ.out.below HB6.out).alloc _) (.slice (some ⟨w6.heap.size, 0, none⟩) 1 1) (by simp [Act.eval]) 1 [.int .i64 (i : Int), .string ByteArray.empty] (by exact src_new Tryz.underlying37 _ _ _ _ rfl (by intro u hu; simp only [List.mem_cons, List.not_mem_nil, or_false] at hu; rcases hu with rfl | rfl <;> rfl)) (by have := HBZ.out.size; have := HB6.out.size; simp; omega) (by omega) (by decide) ?_; intro v7 w7 hr7 ho7 hw7; obtain ⟨a7, c7, hv7⟩ := hr7.form; subst hv7)
        have hb67 : Below w2.heap.size w2 w7 := by
          have h1 := HBZ.out.trans (HB6.out.mono HBZ.out.size)
          have h2 := h1.alloc (o := .cells #[.int .i64 (i : Int), .string ByteArray.empty] 49) h1.size
          exact h2.trans (ho7.below (fun i hi => (HRZ.out.lt i hi).1) h2.size)
        have hrow : pv (zeroP (l.take (j + 1))) = pv (zeroP (l.take j)) ++ [.int .i64 (i : Int), .string ByteArray.empty] := by
          rw [HTK.out, zeroP_snoc, pv_app]; rfl
        rw [← hrow] at hr7
        exact ⟨⟨j + 1, by go_num, by omega, Lib.hid hr7, Lib.hid hb67⟩, by simp [intOf]; omega⟩
    · have hjj : m = j := by omega
      have hr := HR.out
      rw [List.take_of_length_le (by rw [← HM.out]; omega)] at hr
      have hr2 := hr
      rw [← hjj, HM.out, ← zeroP_len] at hr2
      have hbb := HB2.out.trans (HB.out.mono HB2.out.size)
      have HRR := Lib.hid (HRT.out wr _ hbb (pg_reads hr2))
      rw [zeroP_len, ← HM.out, hjj] at HRR
      have HR2 := Lib.hid hr
      have HBB := Lib.hid hbb
      have hltI : ¬ (j : Int) < (m : Int) := by omega
      clear hr hr2 hbb
      go_wp2_with fail
      refine HRR.out.mono ?_
      rintro e w8 ⟨rfl, hb8⟩
      have HB8 := Lib.hid hb8
      clear hb8
      go_wp2_with fail
      go_ret2
      refine ⟨_, rfl, ?_, HBB.out.trans (HB8.out.mono HBB.out.size)⟩
      rw [hjj]
      exact (HR2.out.below HB8.out).mono HB2.out.size
end Go.Proofs.YthamfbfeokmhgaaGreatDoor
