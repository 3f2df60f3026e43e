/- The contract of the document's Read. -/
import Derived.Test.YtgjcblginkdinaaGreatDoorZ20
import Derived.Test.YtgjcblginkdinaaGreatDoorZ38
import Derived.Test.YtgjcblginkdinaaGreatDoorZ48
set_option linter.unusedVariables false
namespace Go.Proofs.YtgjcblginkdinaaGreatDoor
open Go.ChangeShapes Go.WideShapes Go.ChangeAt Go.RowKit
attribute [-go_sem] Builtin.append_

def RReadP (s : ByteArray) (w : World) (e : Ending) (w' : World) : Prop :=
  Below w.heap.size w w' ∧ ((∃ p dv ov, p.wf ∧ p.fine ∧ rightP p = true ∧ s.data.toList = (ptT p).bytes ∧ e = .returned (.tuple #[ptV p.note dv ov, .int .i64 0]) ∧ PReads w' p.note dv ov p) ∨
    ((∀ p : Pt, p.wf → rightP p = true → s.data.toList ≠ (ptT p).bytes) ∧ e = .returned (.tuple #[noPt, .int .i64 10])))

theorem no_of {s : ByteArray} {T : Tm} (hF : IsF 0 s.data.toList T []) (h : ∀ p : Pt, p.wf → rightP p = true → T ≠ ptT p) : ∀ p : Pt, p.wf → rightP p = true → s.data.toList ≠ (ptT p).bytes := by
  intro p hw hr e
  have h2 := hF.2.2
  rw [List.append_nil] at h2
  exact h p hw hr (Tm.unique _ _ [] [] hF.1 (ptT_ok p) (by rw [List.append_nil, List.append_nil, ← h2, e])).1

theorem hd_list : headB.toList = [116, 97, 109, 98, 111, 117, 114] := by rw [ByteArray.toList_eq]; rfl
theorem xs_four {l : Bool} {t : ByteArray} {xs : List Tm} {p : Pt} (e : Tm.mk l t xs = ptT p) : xs.length = 4 := by
  have e2 : xs = (ptT p).xs := by rw [← e]; rfl
  rw [e2]; rfl

set_option maxHeartbeats 8000000 in
set_option maxRecDepth 100000 in
theorem rread5 (s : ByteArray) (w : World) (hs : s.size ≤ 65536) :
    Calls Tryz.prog 20 #[.string s] w (RReadP s w) := by
  have hc : ∀ wz, Calls Tryz.prog 42 #[.string s] wz (ReadR s wz) := fun wz => rread_any s wz hs
  have hno : (∀ p : Pt, p.wf → rightP p = true → s.data.toList ≠ (ptT p).bytes) → ∀ w', Below w.heap.size w w' → RReadP s w (.returned (.tuple #[noPt, .int .i64 10])) w' := fun h w' hb => ⟨hb, .inr ⟨h, rfl⟩⟩
  have hyes : ∀ (p : Pt) dv ov w', p.wf → rightP p = true → s.data.toList = (ptT p).bytes → PReads w' p.note dv ov p → Below w.heap.size w w' → RReadP s w (.returned (.tuple #[ptV p.note dv ov, .int .i64 0])) w' := fun p dv ov w' h1 h2 h3 h4 hb => ⟨hb, .inl ⟨p, dv, ov, h1, pt_fine hs h3 h1, h2, h3, rfl, h4⟩⟩
  obtain ⟨Q, hQ⟩ : ∃ Q, Q = RReadP s w := ⟨_, rfl⟩
  rw [← hQ] at hno hyes ⊢
  have hR0 := resW_new w (.string ⟨#[]⟩) (.slice none 0 0) (.slice none 0 0) 25
  have HC := Lib.hid hc
  have HNO := Lib.hid hno
  have HYES := Lib.hid hyes
  have HR0 := Lib.hid hR0
  have HSZ := Lib.hid hs
  clear hc hno hyes hQ hR0 hs
  go_enter Tryz.func20, Tryz.ntmps20
  go_wp2_with fail
  refine (HC.out _).mono ?_
  rintro e w1 ⟨hb, hcase⟩
  have HR1 := Lib.hid (HR0.out.next hb)
  clear hb
  rcases hcase with ⟨hnf, rfl⟩ | ⟨l, t, xs, a1, c1, rfl, hF, hts, hsl⟩
  · have hR2 := HR1.out.next ((Below.refl _ w1).alloc (Nat.le_refl _) (.cells #[.bool false, .string ⟨#[]⟩, .slice none 0 0] 61))
    have y0 := cellAt_of hR2.r0
    have y1 := cellAt_of hR2.r1
    have y2 := cellAt_of hR2.r2
    have z0 := hR2.z 0
    have z1 := hR2.z 1
    have z2 := hR2.z 2
    obtain ⟨x0, x1, x2⟩ := end3 hR2.r0 hR2.r1 hR2.r2 (.string ⟨#[]⟩) (.slice none 0 0) (.slice none 0 0)
    have HQ := Lib.hid (HNO.out (no_form hnf) _ (hR2.set (.string ⟨#[]⟩) (.slice none 0 0) (.slice none 0 0)))
    clear hR2 hnf
    go_wp2_with fail
    exact bodyPost_ret (v := .tuple #[noPt, .int .i64 10]) (by simp [results, Tryz.results20, go_sem, x0, x1, x2]; rfl) rfl HQ.out
  · obtain ⟨n, hn⟩ : ∃ n, n = xs.length := ⟨_, rfl⟩
    rw [← hn] at hsl ⊢
    have hal : Below w1.heap.size w1 (w1.alloc (.cells #[.bool l, .string t, .slice a1 n c1] 61)) := (Below.refl _ w1).alloc (Nat.le_refl _) _
    have hR2 := HR1.out.next hal
    have f0 : (w1.alloc (.cells #[.bool l, .string t, .slice a1 n c1] 61)).cell? ⟨w1.heap.size, 0, none⟩ = some (.bool l) := World.cell?_alloc_at _ _ _ _ rfl
    have f1 : (w1.alloc (.cells #[.bool l, .string t, .slice a1 n c1] 61)).cell? ⟨w1.heap.size, 1, none⟩ = some (.string t) := World.cell?_alloc_at _ _ _ _ rfl
    have f2 : (w1.alloc (.cells #[.bool l, .string t, .slice a1 n c1] 61)).cell? ⟨w1.heap.size, 2, none⟩ = some (.slice a1 n c1) := World.cell?_alloc_at _ _ _ _ rfl
    have hsl2 := hsl.keep hal
    have HF := Lib.hid hF
    have HSL := Lib.hid hsl2
    have HR2 := Lib.hid hR2
    have HN := Lib.hid hn
    clear hF hsl hsl2 hal hts hn hR2
    obtain ⟨w2, hw2⟩ : ∃ z, z = w1.alloc (.cells #[.bool l, .string t, .slice a1 n c1] 61) := ⟨_, rfl⟩
    have hlt2 : w1.heap.size < w2.heap.size := by rw [hw2]; simp
    have y0 := cellAt_of HR2.out.r0
    have y1 := cellAt_of HR2.out.r1
    have y2 := cellAt_of HR2.out.r2
    have z0 := HR2.out.z 0
    have z1 := HR2.out.z 1
    have z2 := HR2.out.z 2
    have xx := Lib.hid (end3 HR2.out.r0 HR2.out.r1 HR2.out.r2 (.string ⟨#[]⟩) (.slice none 0 0) (.slice none 0 0))
    have HB2 := Lib.hid (HR2.out.set (.string ⟨#[]⟩) (.slice none 0 0) (.slice none 0 0))
    by_cases h4 : n = 4
    case neg =>
      have n2 : ((n : Int) == 4) = false := by simp; omega
      have n3 : ((n : Int) != 4) = true := by simp; omega
      have HQ := Lib.hid (HNO.out (no_of HF.out (fun p _ _ e => h4 (HN.out.trans (xs_four e)))) _ HB2.out)
      clear h4 hw2 hlt2
      go_wp2_with fail
      obtain ⟨x0, x1, x2⟩ := xx.out
      exact bodyPost_ret (v := .tuple #[noPt, .int .i64 10]) (by simp [results, Tryz.results20, go_sem, x0, x1, x2]; rfl) rfl HQ.out
    case pos =>
      subst h4
      have hs4 : SlL (fun i => (w.alloc (.cells #[.string ⟨#[]⟩, .slice none 0 0, .slice none 0 0] 25)).heap.size ≤ i) (w1.alloc (.cells #[.bool l, .string t, .slice a1 4 c1] 61)) (.slice a1 xs.length c1) xs := by rw [← HN.out]; exact HSL.out
      obtain ⟨b, o, c', ha, _, _, hrow⟩ := hs4.pos (by intro h; have := HN.out; rw [h] at this; cases this)
      injection ha with ha _ hcc
      subst ha
      subst hcc
      have hlen := HN.out
      obtain ⟨a0, c0, d00, d01, d02, _, _⟩ := hrow.one (j := 0) (by omega)
      obtain ⟨aa, ca, d10, d11, d12, _, _⟩ := hrow.one (j := 1) (by omega)
      obtain ⟨a2, c2, d20, d21, d22, _, s2⟩ := hrow.one (j := 2) (by omega)
      obtain ⟨a3, c3, d30, d31, d32, _, s3⟩ := hrow.one (j := 3) (by omega)
      rw [Nat.zero_mul, Nat.add_zero] at d00 d01 d02
      rw [Nat.one_mul] at d10 d11 d12
      rw [Nat.add_assoc] at d11 d12 d21 d22 d31 d32
      simp only [Nat.reduceMul, Nat.reduceAdd] at d11 d12 d20 d21 d22 d30 d31 d32
      obtain ⟨l0, hl0⟩ : ∃ x, x = (nth xs 0).l := ⟨_, rfl⟩
      obtain ⟨t0, ht0⟩ : ∃ x, x = (nth xs 0).t := ⟨_, rfl⟩
      obtain ⟨l1, hl1⟩ : ∃ x, x = (nth xs 1).l := ⟨_, rfl⟩
      obtain ⟨t1, ht1⟩ : ∃ x, x = (nth xs 1).t := ⟨_, rfl⟩
      obtain ⟨l2, hl2⟩ : ∃ x, x = (nth xs 2).l := ⟨_, rfl⟩
      obtain ⟨t2, ht2⟩ : ∃ x, x = (nth xs 2).t := ⟨_, rfl⟩
      obtain ⟨n2, hn2⟩ : ∃ x, x = (nth xs 2).xs.length := ⟨_, rfl⟩
      obtain ⟨l3, hl3⟩ : ∃ x, x = (nth xs 3).l := ⟨_, rfl⟩
      obtain ⟨t3, ht3⟩ : ∃ x, x = (nth xs 3).t := ⟨_, rfl⟩
      obtain ⟨n3, hn3⟩ : ∃ x, x = (nth xs 3).xs.length := ⟨_, rfl⟩
      have hptf : l0 = false → t0 = headB → l1 = false → l3 = true → PtF (.mk l t xs) := fun g0 g1 g2 g3 => ⟨hlen.symm, by rw [← g0, hl0]; rfl, by rw [← g1, ht0]; rfl, by rw [← g2, hl1]; rfl, by rw [← g3, hl3]; rfl⟩
      have hnf : ∀ (g : ¬ (l0 = false ∧ t0 = headB ∧ l1 = false ∧ l3 = true)) (p : Pt), p.wf → rightP p = true → (Tm.mk l t xs) ≠ ptT p := fun g p _ _ e => g (by
        have e2 : xs = (ptT p).xs := by rw [← e]; rfl
        rw [hl0, ht0, hl1, hl3, e2]
        exact ⟨rfl, rfl, rfl, rfl⟩)
      rw [← hl0] at d00
      rw [← ht0] at d01
      rw [← hl1] at d10
      rw [← ht1] at d11
      rw [← hl2] at d20
      rw [← ht2] at d21
      rw [← hn2] at d22
      rw [← hl3] at d30
      rw [← ht3] at d31
      rw [← hn3] at d32
      have HNF := Lib.hid hnf
      have HPF := Lib.hid hptf
      have HROW := Lib.hid hrow
      have HL := Lib.hid (And.intro (And.intro hl2 (And.intro ht2 hn2)) (And.intro hl3 (And.intro ht3 hn3)))
      have HT1 := Lib.hid ht1
      have S2 := Lib.hid s2
      have S3 := Lib.hid s3
      clear hnf hptf hrow s2 s3 hl0 ht0 hl1 ht1 hl2 ht2 hn2 hl3 ht3 hn3 hlen HSL hs4
      by_cases hg : l0 = false ∧ t0 = headB ∧ l1 = false ∧ l3 = true
      case neg =>
        have HQ := Lib.hid (HNO.out (no_of HF.out (HNF.out hg)) _ HB2.out)
        have HG := Lib.hid hg
        clear hg hw2 hlt2 S2 S3 HROW HL HT1 HPF HNF
        cases l0 with
        | true =>
          go_wp2_with fail
          obtain ⟨x0, x1, x2⟩ := xx.out
          exact bodyPost_ret (v := .tuple #[noPt, .int .i64 10]) (by simp [results, Tryz.results20, go_sem, x0, x1, x2]; rfl) rfl HQ.out
        | false =>
          by_cases ht : t0 = headB
          · subst ht
            have kh : (headB.toList == [116, 97, 109, 98, 111, 117, 114]) = true := by rw [hd_list]; rfl
            cases l1 with
            | true =>
              go_wp2_with fail
              obtain ⟨x0, x1, x2⟩ := xx.out
              exact bodyPost_ret (v := .tuple #[noPt, .int .i64 10]) (by simp [results, Tryz.results20, go_sem, x0, x1, x2]; rfl) rfl HQ.out
            | false =>
              cases l3 with
              | false =>
                go_wp2_with fail
                obtain ⟨x0, x1, x2⟩ := xx.out
                exact bodyPost_ret (v := .tuple #[noPt, .int .i64 10]) (by simp [results, Tryz.results20, go_sem, x0, x1, x2]; rfl) rfl HQ.out
              | true => exact absurd ⟨rfl, rfl, rfl, rfl⟩ HG.out
          · have hne : (t0.toList == headB.toList) = false := by
              rw [beq_eq_false_iff_ne]
              intro e
              rw [ByteArray.toList_eq, ByteArray.toList_eq] at e
              exact ht (ba_ext e)
            rw [hd_list] at hne
            clear ht
            go_wp2_with fail
            obtain ⟨x0, x1, x2⟩ := xx.out
            exact bodyPost_ret (v := .tuple #[noPt, .int .i64 10]) (by simp [results, Tryz.results20, go_sem, x0, x1, x2]; rfl) rfl HQ.out
      case pos =>
        obtain ⟨rfl, ht0, rfl, rfl⟩ := hg
        subst ht0
        have kh : (headB.toList == [116, 97, 109, 98, 111, 117, 114]) = true := by rw [hd_list]; rfl
        have hpt := HPF.out rfl rfl rfl rfl
        obtain ⟨⟨hl2, ht2, hn2⟩, hl3, ht3, hn3⟩ := HL.out
        have hx := ok_xs HF.out.1
        have hm : ∀ j, j < 4 → nth xs j ∈ xs := fun j hj => nth_mem (by rw [← HN.out]; exact hj)
        have hpar : (Tm.mk l t xs).parts ≤ 65536 := by
          have h1 := bytes_bound _ HF.out.1
          have h2 := HF.out.2.2
          rw [List.append_nil] at h2
          rw [← h2, ba_len] at h1
          have := HSZ.out
          omega
        have hpx : ∀ x ∈ xs, x.parts ≤ 1000000 := fun x hx => by have h1 := Tm.parts_mem hx; have h2 := xs_parts (Tm.mk l t xs); have h3 : Tm.partss (Tm.mk l t xs).xs = Tm.partss xs := rfl; omega
        have k2 : ∀ wz, Below (w1.alloc (.cells #[.bool l, .string t, .slice (some ⟨b, o, none⟩) 4 c1] 61)).heap.size (w1.alloc (.cells #[.bool l, .string t, .slice (some ⟨b, o, none⟩) 4 c1] 61)) wz → Calls Tryz.prog 43 #[fv l2 t2 (.slice a2 n2 c2)] wz (TextsTP (nth xs 2) wz) := fun wz hz => by
          rw [hl2, ht2, hn2]
          exact rtextsD _ (nth xs 2) (hx _ (hm 2 (by omega))) (Nat.le_trans (xs_len _) (hpx _ (hm 2 (by omega)))) a2 c2 wz (S2.out.keep hz)
        have h3ok : ∀ x ∈ (nth xs 3).xs, x.ok = true ∧ x.parts ≤ 1000000 := fun x hx3 => ⟨ok_xs (hx _ (hm 3 (by omega))) x hx3, by have h1 := Tm.parts_mem hx3; have h2 := xs_parts (nth xs 3); have h3 := hpx _ (hm 3 (by omega)); omega⟩
        have hn39 : n3 ≤ 1000000 := by rw [hn3]; exact Nat.le_trans (xs_len _) (hpx _ (hm 3 (by omega)))
        have hcz : ∀ W, Below (w1.alloc (.cells #[.bool l, .string t, .slice (some ⟨b, o, none⟩) 4 c1] 61)).heap.size (w1.alloc (.cells #[.bool l, .string t, .slice (some ⟨b, o, none⟩) 4 c1] 61)) W → W.cell? ⟨w1.heap.size, 2, none⟩ = some (.slice (some ⟨b, o, none⟩) 4 c1) ∧ W.cell? ⟨b, o + 4, none⟩ = some (.string t1) ∧ W.cell? ⟨b, o + 11, none⟩ = some (.slice a3 n3 c3) := fun W hW => by
          have kk : ∀ q i u, (w1.alloc (.cells #[.bool l, .string t, .slice (some ⟨b, o, none⟩) 4 c1] 61)).cell? ⟨q, i, none⟩ = some u → W.cell? ⟨q, i, none⟩ = some u := fun q i u hu => (hW.cell (p := ⟨q, i, none⟩) (cell_lt hu)).trans hu
          exact ⟨kk _ _ _ f2, kk _ _ _ d11, kk _ _ _ d32⟩
        have hr5 : ∀ W, Below (w1.alloc (.cells #[.bool l, .string t, .slice (some ⟨b, o, none⟩) 4 c1] 61)).heap.size (w1.alloc (.cells #[.bool l, .string t, .slice (some ⟨b, o, none⟩) 4 c1] 61)) W → ResW w W := fun W hW => HR2.out.next hW
        have K2 := Lib.hid k2
        have H3K := Lib.hid h3ok
        have HCZ := Lib.hid hcz
        have HR5 := Lib.hid hr5
        have HPT := Lib.hid hpt
        have HN3 := Lib.hid hn3
        clear k2 h3ok hcz hr5 hpt hl2 ht2 hn2 hl3 ht3 hn3 hx hm hpar hpx HNF HPF HL HN S2 HB2 xx
        go_wp2_with fail
        refine (K2.out _ (Below.refl _ _)).mono ?_
        rintro e w3 ⟨dv, ls, b0, rfl, htx, hts2, hrz, hb⟩
        obtain ⟨da, dc, hdv⟩ := hrz.form
        obtain ⟨dl, hdl⟩ : ∃ m, m = ls.length := ⟨_, rfl⟩
        rw [← hdl] at hdv
        subst hdv
        rw [← hw2] at hb hrz HCZ HR5 S3
        have hal3 : Below w3.heap.size w3 (w3.alloc (.cells #[.string t1, .slice da dl dc, .slice none 0 0] 25)) := (Below.refl _ _).alloc (Nat.le_refl _) _
        have hRL : RL w2 w3.heap.size t1 (.slice da dl dc) ls (.slice none 0 0) [] (w3.alloc (.cells #[.string t1, .slice da dl dc, .slice none 0 0] 25)) :=
          ⟨hb.trans (hal3.mono hb.size), World.cell?_alloc_at _ _ _ _ rfl, World.cell?_alloc_at _ _ _ _ rfl, World.cell?_alloc_at _ _ _ _ rfl, fun j => World.frozen?_alloc_at _ _ _ _ rfl,
           hrz.off (Off.of_below (Z := fun i => w3.heap.size ≤ i) hal3) (fun i hi hz => ⟨by omega, hz, hi⟩), MadeO.nil _ _, hb.size⟩
        have HRL0 := Lib.hid hRL
        have HTX := Lib.hid htx
        obtain ⟨e2, e11, e32⟩ := HCZ.out _ hb
        clear hb hrz hal3 hRL htx hts2 hdl hw2 hlt2 d00 d01 d02 d10 d11 d12 d20 d21 d22 d30 d31 d32 f0 f1 f2 y0 y1 y2 z0 z1 z2 HROW K2 HR2
        go_wp2_with fail
        clear e2 e11 e32
        obtain ⟨Bp, hBp⟩ : ∃ z, z = w3.heap.size := ⟨_, rfl⟩
        rw [← hBp] at HRL0 ⊢
        obtain ⟨W0, hW0⟩ : ∃ W, w3.alloc (.cells #[.string t1, .slice da dl dc, .slice none 0 0] 25) = W := ⟨_, rfl⟩
        rw [hW0] at HRL0 ⊢
        clear hW0 hBp
        go_loopw [7, 9] (fun okv i W => ∃ (k : Nat) (es : List OE) (bb : Bool) (va : Option Addr) (vc : Nat), k ≤ n3 ∧ i = .int .i64 (k : Nat) ∧ okv = .bool bb ∧ Hid (k = es.length) ∧ Hid (∃ b1, bb = (b0 && b1) ∧ Took ((nth xs 3).xs.take k) (es.map (·.1)) b1) ∧ Hid (RL w2 Bp t1 (.slice da dl dc) ls (.slice va k vc) es W)) (fun _ i _ => n3 - (intOf i).toNat)
        case atStart => exact ⟨0, [], b0, none, 0, Nat.zero_le _, rfl, rfl, Lib.hid rfl, Lib.hid ⟨true, by simp, by simpa using took_nil⟩, HRL0⟩
        case round =>
          obtain ⟨k, es, bb, va, vc, hk, rfl, rfl, HEL, HTK, HRL⟩ := hrel
          obtain ⟨g2, g11, g32⟩ := HCZ.out wr HRL.out.b
          by_cases hlt : k < n3
          · obtain ⟨x, hx⟩ : ∃ x, (nth xs 3).xs[k]? = some x := ⟨(nth xs 3).xs[k]'(by rw [← HN3.out]; exact hlt), by simp⟩
            have hxm := List.mem_of_getElem? hx
            obtain ⟨b3, o3, c3', ha3, _, _, hrow3⟩ := (S3.out.keep HRL.out.b).pos (by intro h; rw [h] at hx; cases hx)
            injection ha3 with ha3 _ hc3
            subst ha3
            subst hc3
            rw [Tm.eta x] at hx
            obtain ⟨ax, cx, d0, d1, d2, _, d4⟩ := hrow3.2.2 k _ _ _ hx
            rw [← Tm.eta x] at hx
            have hop := ropOf _ x (H3K.out x hxm).1 (H3K.out x hxm).2 ax cx wr d4
            obtain ⟨lx, hlx⟩ : ∃ v, v = x.l := ⟨_, rfl⟩
            obtain ⟨tx', htx⟩ : ∃ v, v = x.t := ⟨_, rfl⟩
            obtain ⟨nx, hnx⟩ : ∃ v, v = x.xs.length := ⟨_, rfl⟩
            rw [← hlx, ← htx, ← hnx] at hop
            rw [← hlx] at d0
            rw [← htx] at d1
            rw [← hnx] at d2
            have HX := Lib.hid hx
            have HOP := Lib.hid hop
            have hlo := HRL.out.lo
            have hltB := HRL.out.lt
            clear hx hop hrow3 d4 hlx htx hnx hxm
            go_wp2_with fail
            refine (HOP.out).mono ?_
            rintro e w5 ⟨⟨K, ⟨x1, y1⟩, ⟨x2, y2⟩, ls1⟩, lv, b1, rfl, hopt, hsz1, hrz1, hb5⟩
            obtain ⟨la, lc, hlv⟩ := hrz1.form
            obtain ⟨ll, hll⟩ : ∃ m, m = ls1.length := ⟨_, rfl⟩
            simp only at hlv
            rw [← hll] at hlv
            subst hlv
            have hal5 : Below w5.heap.size w5 (w5.alloc (.cells #[.int .i64 K, .int .i64 x1, .int .i64 y1, .int .i64 x2, .int .i64 y2, .slice la ll lc] 56)) := (Below.refl _ _).alloc (Nat.le_refl _) _
            have hR6 := (HRL.out.next hb5).next hal5
            have hown : ∀ g, (Value.slice va k vc).ownBlock = some g → g < wr.heap.size := fun g hg => (HRL.out.m.row.lt g hg).2
            have hk9 : k ≤ 1000000 := by omega
            have hb5s := hb5.size
            obtain ⟨a7, c7, w7, hr7, hc7, hf7, hRL7, hs7⟩ := rl_push ⟨K, ⟨x1, y1⟩, ⟨x2, y2⟩, ls1⟩ (.slice la ll lc) hR6 HEL.out hk9 (hrz1.off (Off.of_below (Z := fun i => w5.heap.size ≤ i) hal5) (fun i hi hz => ⟨by omega, by omega, fun e => by have := hown i e; omega⟩)) rfl
            dsimp only at hr7
            rw [show (w5.alloc (.cells #[.int .i64 K, .int .i64 x1, .int .i64 y1, .int .i64 x2, .int .i64 y2, .slice la ll lc] 56)).heap.size = w5.heap.size + 1 by simp] at hr7
            have p2 := hR6.p2
            have q0 : (w5.alloc (.cells #[.int .i64 K, .int .i64 x1, .int .i64 y1, .int .i64 x2, .int .i64 y2, .slice la ll lc] 56)).cell? ⟨w5.heap.size, 0, none⟩ = some (.int .i64 K) := World.cell?_alloc_at _ _ _ _ rfl
            have q1 : (w5.alloc (.cells #[.int .i64 K, .int .i64 x1, .int .i64 y1, .int .i64 x2, .int .i64 y2, .slice la ll lc] 56)).cell? ⟨w5.heap.size, 1, none⟩ = some (.int .i64 x1) := World.cell?_alloc_at _ _ _ _ rfl
            have q2 : (w5.alloc (.cells #[.int .i64 K, .int .i64 x1, .int .i64 y1, .int .i64 x2, .int .i64 y2, .slice la ll lc] 56)).cell? ⟨w5.heap.size, 2, none⟩ = some (.int .i64 y1) := World.cell?_alloc_at _ _ _ _ rfl
            have q3 : (w5.alloc (.cells #[.int .i64 K, .int .i64 x1, .int .i64 y1, .int .i64 x2, .int .i64 y2, .slice la ll lc] 56)).cell? ⟨w5.heap.size, 3, none⟩ = some (.int .i64 x2) := World.cell?_alloc_at _ _ _ _ rfl
            have q4 : (w5.alloc (.cells #[.int .i64 K, .int .i64 x1, .int .i64 y1, .int .i64 x2, .int .i64 y2, .slice la ll lc] 56)).cell? ⟨w5.heap.size, 4, none⟩ = some (.int .i64 y2) := World.cell?_alloc_at _ _ _ _ rfl
            have q5 : (w5.alloc (.cells #[.int .i64 K, .int .i64 x1, .int .i64 y1, .int .i64 x2, .int .i64 y2, .slice la ll lc] 56)).cell? ⟨w5.heap.size, 5, none⟩ = some (.slice la ll lc) := World.cell?_alloc_at _ _ _ _ rfl
            have HRL7 := Lib.hid hRL7
            have HTN : Hid (∃ b2, (bb && b1) = (b0 && b2) ∧ Took ((nth xs 3).xs.take (k + 1)) ((es ++ [((⟨K, ⟨x1, y1⟩, ⟨x2, y2⟩, ls1⟩ : Opp), Value.slice la ll lc)]).map (·.1)) b2) := by
              obtain ⟨b2, hb2, hT⟩ := HTK.out
              refine Lib.hid ⟨b2 && b1, by rw [hb2, Bool.and_assoc], ?_⟩
              rw [take_snoc HX.out, List.map_append]
              exact took_snoc hT hopt
            have HELn : Hid (k + 1 = (es ++ [((⟨K, ⟨x1, y1⟩, ⟨x2, y2⟩, ls1⟩ : Opp), Value.slice la ll lc)]).length) := Lib.hid (by rw [List.length_append, ← HEL.out]; rfl)
            clear hopt hsz1 hrz1 hb5 hal5 hR6 hown hRL7 hs7 hll hb5s HEL HTK HRL d0 d1 d2 g2 g11 g32
            cases bb with
            | false =>
              go_wp2_with fail
              exact ⟨⟨k + 1, _, _, a7, c7, by omega, by go_num, rfl, HELn, HTN, HRL7⟩, by simp [intOf]; omega⟩
            | true =>
              go_wp2_with fail
              exact ⟨⟨k + 1, _, _, a7, c7, by omega, by go_num, rfl, HELn, HTN, HRL7⟩, by simp [intOf]; omega⟩
          · obtain rfl : n3 = k := by omega
            have htk : (nth xs 3).xs.take n3 = (nth xs 3).xs := List.take_of_length_le (by rw [← HN3.out]; exact Nat.le_refl _)
            have hT := HTK.out
            rw [htk] at hT
            obtain ⟨b1, hbb, hT⟩ := hT
            have hR := HR5.out wr HRL.out.b
            have y0 := cellAt_of hR.r0
            have y1 := cellAt_of hR.r1
            have y2 := cellAt_of hR.r2
            have z0 := hR.z 0
            have z1 := hR.z 1
            have z2 := hR.z 2
            have HT := Lib.hid hT
            cases bb with
            | false =>
              have HQ := Lib.hid (HNO.out (no_of HF.out (fun p hw hr => took_no (T := Tm.mk l t xs) hbb.symm HTX.out HT.out hw hr)) _ (hR.set (.string ⟨#[]⟩) (.slice none 0 0) (.slice none 0 0)))
              have xx := Lib.hid (end3 hR.r0 hR.r1 hR.r2 (.string ⟨#[]⟩) (.slice none 0 0) (.slice none 0 0))
              clear hR htk hT hbb HTK HT
              go_wp2_with fail
              obtain ⟨x0, x1, x2⟩ := xx.out
              exact bodyPost_ret (v := .tuple #[noPt, .int .i64 10]) (by simp [results, Tryz.results20, go_sem, x0, x1, x2]; rfl) rfl HQ.out
            | true =>
              have hb01 : b0 = true ∧ b1 = true := by have h := hbb.symm; simp only [Bool.and_eq_true] at h; exact h
              obtain ⟨hb0, hb1⟩ := hb01
              have htxt := HTX.out
              rw [hb0] at htxt
              rw [hb1] at hT
              obtain ⟨hTe, hwf⟩ := took_yes HF.out.1 HPT.out htxt hT
              have hnt : (nth xs 1).t = t1 := HT1.out.symm
              have hTe2 : Tm.mk l t xs = ptT ⟨t1, ls, es.map (·.1)⟩ := by rw [← hnt]; exact hTe
              have hwf2 : (⟨t1, ls, es.map (·.1)⟩ : Pt).wf := hwf
              have hbytes : s.data.toList = (ptT ⟨t1, ls, es.map (·.1)⟩).bytes := by
                have h2 := HF.out.2.2
                rw [List.append_nil, hTe2] at h2
                exact h2
              have hpr : PReads wr t1 (.slice da dl dc) (.slice va n3 vc) ⟨t1, ls, es.map (·.1)⟩ := ⟨rfl, HRL.out.d.reads, HRL.out.m.reads⟩
              have hcr : Calls Tryz.prog 32 #[ptV t1 (.slice da dl dc) (.slice va n3 vc)] wr fun e w' => e = .returned (.bool (rightP ⟨t1, ls, es.map (·.1)⟩)) ∧ Below wr.heap.size wr w' := rright_any5 ⟨t1, ls, es.map (·.1)⟩ _ _ wr hpr (pt_fine HSZ.out hbytes hwf2) (by have := (pt_small HSZ.out hbytes).2.2; omega)
              have hnr : rightP ⟨t1, ls, es.map (·.1)⟩ = false → ∀ p : Pt, p.wf → rightP p = true → s.data.toList ≠ (ptT p).bytes := fun h => no_of HF.out (fun p hw hr e => by
                have := ptT_inj hwf2 hw (hTe2.symm.trans e)
                rw [this, hr] at h
                cases h)
              have hyy : rightP ⟨t1, ls, es.map (·.1)⟩ = true → ∀ w', PReads w' t1 (.slice da dl dc) (.slice va n3 vc) ⟨t1, ls, es.map (·.1)⟩ → Below w.heap.size w w' → Q (.returned (.tuple #[ptV t1 (.slice da dl dc) (.slice va n3 vc), .int .i64 0])) w' := fun h w' hp hb => HYES.out ⟨t1, ls, es.map (·.1)⟩ _ _ w' hwf2 h hbytes hp hb
              obtain ⟨R, hRR⟩ : ∃ R, R = rightP ⟨t1, ls, es.map (·.1)⟩ := ⟨_, rfl⟩
              rw [← hRR] at hcr hnr hyy
              have HCR := Lib.hid hcr
              have HNR := Lib.hid hnr
              have HYY := Lib.hid hyy
              have HRS := Lib.hid hR
              have p0 := HRL.out.p0
              have p1 := HRL.out.p1
              have p2 := HRL.out.p2
              clear hcr hnr hyy hR hRR hpr hbytes hwf2 hTe2 hnt hTe hwf htxt hT hbb hb0 hb1 htk HTK HT y0 y1 y2 z0 z1 z2
              go_wp2_with fail
              refine HCR.out.mono ?_
              rintro e w8 ⟨rfl, hb⟩
              have hR8 := HRS.out.next hb
              have hL8 := HRL.out.next hb
              have y0 := cellAt_of hR8.r0
              have y1 := cellAt_of hR8.r1
              have y2 := cellAt_of hR8.r2
              have z0 := hR8.z 0
              have z1 := hR8.z 1
              have z2 := hR8.z 2
              clear p0 p1 p2 g2 g11 g32
              cases R with
              | false =>
                have HQ := Lib.hid (HNO.out (HNR.out rfl) _ (hR8.set (.string ⟨#[]⟩) (.slice none 0 0) (.slice none 0 0)))
                have xx := Lib.hid (end3 hR8.r0 hR8.r1 hR8.r2 (.string ⟨#[]⟩) (.slice none 0 0) (.slice none 0 0))
                clear hR8 hL8 hb
                go_wp2_with fail
                obtain ⟨x0, x1, x2⟩ := xx.out
                exact bodyPost_ret (v := .tuple #[noPt, .int .i64 10]) (by simp [results, Tryz.results20, go_sem, x0, x1, x2]; rfl) rfl HQ.out
              | true =>
                have p0 := hL8.p0
                have p1 := hL8.p1
                have p2 := hL8.p2
                have hoff : Off (fun i => i = w.heap.size) w8 (((w8.setCell ⟨w.heap.size, 0, none⟩ (.string t1)).setCell ⟨w.heap.size, 1, none⟩ (.slice da dl dc)).setCell ⟨w.heap.size, 2, none⟩ (.slice va n3 vc)) := Off.set3 _ _ _ _ _
                have hwl : w.heap.size < Bp := by have := (HR5.out w2 (Below.refl _ _)).lt; have := hL8.lo; omega
                have hw2l := (HR5.out w2 (Below.refl _ _)).lt
                have HQ := Lib.hid (HYY.out rfl _ (⟨rfl, (hL8.d.off hoff (Z' := fun _ => True) (fun i _ hz => ⟨fun e => by have := hz.1; omega, trivial⟩)).reads, (hL8.m.off (Y := fun i => i = w.heap.size) hoff (fun i hi => by omega)).reads⟩) (hR8.set (.string t1) (.slice da dl dc) (.slice va n3 vc)))
                have xx := Lib.hid (end3 hR8.r0 hR8.r1 hR8.r2 (.string t1) (.slice da dl dc) (.slice va n3 vc))
                clear hR8 hL8 hb hoff hwl hw2l
                go_wp2_with fail
                obtain ⟨x0, x1, x2⟩ := xx.out
                exact bodyPost_ret (v := .tuple #[ptV t1 (.slice da dl dc) (.slice va n3 vc), .int .i64 0]) (by simp [results, Tryz.results20, go_sem, x0, x1, x2]) rfl HQ.out
end Go.Proofs.YtgjcblginkdinaaGreatDoor
