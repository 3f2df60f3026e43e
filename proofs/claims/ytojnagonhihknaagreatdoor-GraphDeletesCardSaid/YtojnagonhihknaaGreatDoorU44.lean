/- A sketch's edges. Build: a set's graph. -/
import Derived.Test.YtojnagonhihknaaGreatDoorU18
import Derived.Test.YtojnagonhihknaaGreatDoorU20
import Derived.Test.YtojnagonhihknaaGreatDoorU28
import Derived.Test.YtojnagonhihknaaGreatDoorU39
import Derived.Test.YtojnagonhihknaaGreatDoorU40
import Derived.Test.YtojnagonhihknaaGreatDoorU41
import Derived.Test.YtojnagonhihknaaGreatDoorU42
import Derived.Test.YtojnagonhihknaaGreatDoorU43
set_option linter.unusedVariables false
set_option linter.unusedSimpArgs false
namespace Go.Proofs.YtojnagonhihknaaGreatDoor
open Go.ChangeShapes Go.WideShapes Go.ChangeAt Go.RowKit Go.WideMaps Go.Maps

theorem nodup_lenP {l m : List (Int × Int)} (h : l.Nodup) (hs : ∀ x ∈ l, x ∈ m) : l.length ≤ m.length := by
  induction l generalizing m with
  | nil => exact Nat.zero_le _
  | cons x l ih =>
    rw [List.nodup_cons] at h
    have hx := hs x List.mem_cons_self
    have h2 := ih h.2 (m := m.erase x) (fun y hy => (List.mem_erase_of_ne (fun e : y = x => h.1 (by rw [← e]; exact hy))).2 (hs y (List.mem_cons_of_mem _ hy)))
    rw [List.length_erase_of_mem hx] at h2
    have : 0 < m.length := List.length_pos_of_mem hx
    rw [List.length_cons]
    omega
theorem mj_pos {W : World} {b c : Nat} {ks : List (Int × Int)} {wt : Int × Int → Int} (h : MJ W b c ks wt) {p : Int × Int} (hp : okP p) (h0 : 0 < wt p) : p ∈ ks := by
  obtain ⟨D, _, h2, h3⟩ := h
  refine (h2 p hp).1 ?_
  cases e : has D (kP p) with
  | true => rfl
  | false =>
    have h4 := h3 p hp
    rw [atKey_of_not_has e] at h4
    have := lit_i h4
    omega
theorem edges_math {R : GSet ByteArray} {L : List (GEv ByteArray)} {S : Sk} {F : Ed} (hS : SkD R L S) (hlt : F.Pairwise ltP) (hF : ∀ q, q ∈ F ↔ q ∈ S.put ∨ (q ∈ S.js ∧ 0 < S.wt q)) (hpos : ∀ a b : Nat, 0 < S.wt ((a : Int), (b : Int)) → ((a : Int), (b : Int)) ∈ S.js) :
    ∃ E : List (Nat × Nat), F = prI E ∧ E.Pairwise lexN ∧ ∀ p, p ∈ E ↔ p ∈ putE (plR nil0 R) L ∨ 0 < wtE (plR nil0 R) L p := by
  obtain ⟨V, P, wt, hD, _, hp, hw, hj, _⟩ := hS.ex
  have hnat : ∀ q ∈ F, ∃ a b : Nat, q = ((a : Int), (b : Int)) := fun q hq => by
    rcases (hF q).1 hq with h | ⟨h, _⟩
    · rw [hp] at h
      obtain ⟨r, _, rfl⟩ := List.mem_map.1 h
      exact ⟨r.1, r.2, rfl⟩
    · obtain ⟨a, b, e, _⟩ := hj q h
      exact ⟨a, b, e⟩
  have e1 : prI (F.map fun q => (q.1.toNat, q.2.toNat)) = F := by
    unfold prI
    rw [List.map_map]
    refine (List.map_congr_left fun q hq => ?_).trans (List.map_id _)
    obtain ⟨a, b, rfl⟩ := hnat q hq
    rfl
  have hmem : ∀ p : Nat × Nat, p ∈ F.map (fun q => (q.1.toNat, q.2.toNat)) ↔ ((p.1 : Int), (p.2 : Int)) ∈ F := fun p => by
    constructor
    · intro h
      obtain ⟨q, hq, rfl⟩ := List.mem_map.1 h
      obtain ⟨a, b, rfl⟩ := hnat q hq
      exact hq
    · intro h
      exact List.mem_map.2 ⟨_, h, rfl⟩
  refine ⟨_, e1.symm, ?_, fun p => ?_⟩
  · rw [List.pairwise_map]
    refine hlt.imp_of_mem fun {x y} hx hy h => ?_
    obtain ⟨a, b, rfl⟩ := hnat x hx
    obtain ⟨c, d, rfl⟩ := hnat y hy
    unfold ltP at h
    unfold lexN
    simp only [Int.toNat_natCast] at h ⊢
    omega
  · rw [hmem, hF, hp]
    have e2 : ((p.1 : Int), (p.2 : Int)) ∈ prI P ↔ p ∈ P := by
      unfold prI
      rw [List.mem_map]
      constructor
      · rintro ⟨r, hr, e⟩
        injection e with h1 h2
        have : r = p := Prod.ext (by omega) (by omega)
        rw [← this]; exact hr
      · exact fun h => ⟨p, h, rfl⟩
    rw [e2, hD.put]
    have e3 : S.wt ((p.1 : Int), (p.2 : Int)) = wtE (plR nil0 R) L p := by rw [hw, hD.wt]
    constructor
    · rintro (h | ⟨_, h⟩)
      · exact .inl h
      · rw [e3] at h; exact .inr h
    · rintro (h | h)
      · exact .inl h
      · rw [← e3] at h
        exact .inr ⟨hpos _ _ h, h⟩
theorem rangesP_off {W W' : World} {Z : Nat → Prop} {R : Value → Option (DU × List MemPlace)} {b r n : Nat} {D : DU} {left : Lit → Bool} {cnt : Nat} (h : W.ranges Tryz.prog 54 R b r n D left cnt) (ho : Off Z W W') (hb : ¬ Z b) (hr : ¬ Z r) : W'.ranges Tryz.prog 54 R b r n D left cnt := by
  have h1 := h.owns.lt
  have h2 := h.lt
  obtain ⟨es, clock, since, seen, c0, e1, F, hs, hD, e2, hrest⟩ := h
  exact ⟨es, clock, since, seen, c0, (ho.block b h1 hb).trans e1, F, hs, hD, (ho.block r h2 hr).trans e2, hrest⟩
theorem sameKey_kP {p q : Int × Int} (hp : okP p) (hq : okP q) (h : p ≠ q) : (kP p).sameKey (kP q) = false := sameKey_ne (kP_ne hp hq h)
theorem sameKey_self (l : List UInt8) : (Lit.string l).sameKey (.string l) = true := by simp [Lit.sameKey]
set_option maxHeartbeats 8000000 in
set_option maxRecDepth 100000 in
theorem gedges_any {Z : Nat → Prop} {p : Nat} {R : GSet ByteArray} {L : List (GEv ByteArray)} {S : Sk} (w : World) (h : SX Z w p S) (hS : SkD R L S) (hcost : costE L ≤ 400000) (hids : (idsR nil0 R).length ≤ 1000000) (hLp : ∀ v ∈ L, v.o.kind = 2 → plR nil0 R v.o.a < (idsR nil0 R).length ∧ plR nil0 R v.o.b < (idsR nil0 R).length) :
    Calls Tryz.prog 28 #[.pointer (some ⟨p, 0, none⟩)] w fun e w' => ∃ v, e = .returned v ∧ (∃ E, RE w' v (prI E) ∧ E.Pairwise lexN ∧ ∀ q, q ∈ E ↔ q ∈ putE (plR nil0 R) L ∨ 0 < wtE (plR nil0 R) L q) ∧ (∀ g, v.ownBlock = some g → w.heap.size ≤ g) ∧ Below w.heap.size w w' := by
  obtain ⟨bl, bj, vv, uv, h⟩ := h
  obtain ⟨_, _, _, _, _, _, _, hj9, _, hpl, hjl⟩ := hS.ex
  have hput := hS.plen
  have hre : RE w uv S.put := RE.ofRow (B := 0) h.ru
  have CL := gclone_any S.put uv w hre (by omega)
  have hok : ∀ q ∈ S.js, okP q := fun q hq => by
    obtain ⟨a, b, rfl, h1, h2⟩ := hj9 q hq
    exact okP_nat (by omega) (by omega)
  have hpos : ∀ a b : Nat, 0 < S.wt ((a : Int), (b : Int)) → ((a : Int), (b : Int)) ∈ S.js := by
    obtain ⟨V, P, wt, hD, _, _, hw, _⟩ := hS.ex
    intro a b h0
    refine mj_pos h.joins ?_ h0
    rw [hw, hD.wt] at h0
    obtain ⟨v, hv, h5⟩ := sum_pos h0
    unfold wtO at h5
    by_cases hk : v.o.kind = 2 ∧ (plR nil0 R v.o.a, plR nil0 R v.o.b) = (a, b)
    · obtain ⟨h6, h7⟩ := hLp v hv hk.1
      obtain ⟨_, e⟩ := hk
      injection e with e1 e2
      exact okP_nat (by omega) (by omega)
    · rw [if_neg hk] at h5
      split at h5 <;> omega
  have HMATH := Lib.hid (fun F (h1 : F.Pairwise ltP) h2 => edges_math (F := F) hS h1 h2 hpos)
  have c2 := h.c2
  obtain ⟨ua0, uc0, huv⟩ := h.ru.form
  obtain ⟨pn, hpn⟩ : ∃ pn, pn = S.put.length := ⟨_, rfl⟩
  rw [← hpn] at huv
  subst huv
  have hpl0 := h.zlt p h.zp
  have HJ := Lib.hid h.joins
  have HC3 := Lib.hid h.c3
  have HPL0 := Lib.hid hpl0
  have hbjl := h.zlt bj h.zj
  have HBJ := Lib.hid hbjl
  have HOK := Lib.hid hok
  have HJL := Lib.hid hjl
  have HPN := Lib.hid hpn
  have HPUT := Lib.hid hput
  have HCL := Lib.hid CL
  have HCOST := Lib.hid hcost
  clear h hS hcost hids hLp hj9 hpl hre CL hok hpos hpl0 hjl hpn hput hbjl
  go_enter Tryz.func28, Tryz.ntmps28
  go_wp2_with fail
  refine HCL.out.mono ?_
  rintro e w2 ⟨v3, rfl, hrow, hb2⟩
  rw [← HPN.out] at hrow
  obtain ⟨ua, uc, hv3⟩ := hrow.form
  subst hv3
  have c3 := (hb2.cell (p := ⟨p, 3, none⟩) HPL0.out).trans HC3.out
  have c2' := (hb2.cell (p := ⟨p, 2, none⟩) HPL0.out).trans c2
  have hj2 := HJ.out.off (Z := fun i => w.heap.size ≤ i) ⟨hb2.os, hb2.tape, hb2.output, hb2.size, fun i hi _ => hb2.block i hi⟩ (by have := HBJ.out; omega)
  obtain ⟨D, hown, hhas, hat⟩ := hj2
  obtain ⟨r, hr⟩ : ∃ r, r = w2.heap.size := ⟨_, rfl⟩
  have HOWN := Lib.hid hown
  have HHAS := Lib.hid hhas
  have HAT := Lib.hid hat
  have HB2 := Lib.hid hb2
  have HROW := Lib.hid hrow
  have HR := Lib.hid hr
  clear hb2 hown hhas hat hrow c2 hr HCL HJ HC3
  go_wp2_with (at_range; refine wpList_range_own _ rfl _ 72 rfl 54 3 pairKeyed Tryz.underlying72 _ bj S.c D rfl HOWN.out ?_; intro w0 hrg0 hg0 hs0)
  rw [← HR.out] at hrg0 ⊢
  have HRG0 := Lib.hid hrg0
  have HOF0 : Hid (Off (fun _ => False) w2 w0) := Lib.hid ⟨hg0.os, hg0.tape, hg0.output, hg0.size, fun j hj hne => hg0.block j hj (by simp)⟩
  clear hrg0 hg0 hs0 c3 c2'
  go_frame
  go_loopw [3, 4, 5] (fun av _ _ W => ∃ (left : Lit → Bool) (cnt nn : Nat) (K : Ed), Hid (nn = (S.put ++ K).length) ∧ Hid (W.ranges Tryz.prog 54 (plainElem (H := Unit) Tryz.prog 3) bj r S.c D left cnt) ∧ Hid (Row 2 w.heap.size W av nn (evs (S.put ++ K))) ∧ Hid (∀ b, av.ownBlock = some b → b ≠ r) ∧ Hid (∀ q ∈ K, q ∈ S.js ∧ 0 < S.wt q ∧ left (kP q) = false) ∧ Hid K.Nodup ∧ Hid (∀ q ∈ S.js, 0 < S.wt q → q ∈ K ∨ left (kP q) = true) ∧ Hid (Below w.heap.size w W)) (fun _ _ _ W => W.rangeLeft bj r)
  case atStart =>
    refine ⟨_, _, pn, [], Lib.hid (by rw [List.append_nil]; exact HPN.out), HRG0, Lib.hid (by rw [List.append_nil]; exact HROW.out.off HOF0.out (fun _ _ h => h)), Lib.hid (fun b hb => by have := (HROW.out.lt b hb).2; rw [HR.out]; omega), Lib.hid (fun q hq => (by cases hq)), Lib.hid List.nodup_nil, Lib.hid (fun q hq _ => .inr ((HHAS.out q (HOK.out q hq)).2 hq)), Lib.hid (HB2.out.trans ((HOF0.out.below (B := w2.heap.size) (fun _ h => h.elim) (Nat.le_refl _)).mono HB2.out.size))⟩
  case round =>
    clear HRG0 HOF0 HROW
    obtain ⟨left, cnt, nn, K, HNN, HRG, HRW, HNR, HK, HND, HCOV, HB⟩ := hrel
    obtain ⟨va, vc, rfl⟩ := HRW.out.form
    have HRL : Hid (w.heap.size ≤ r) := Lib.hid (by rw [HR.out]; exact HB2.out.size)
    have hnn9 : nn + 1 ≤ 1000001 := by
      have h1 := nodup_lenP HND.out (fun x hx => (HK.out x hx).1)
      have h2 := HPUT.out
      have h3 := HJL.out
      have h4 := HCOST.out
      rw [HNN.out, List.length_append]
      omega
    go_wp2_with (at_next; refine wpList_next_ranges _ rfl _ rfl 54 pairKeyed (plainElem (H := Unit) Tryz.prog 3) prV (Value.int .i64) (fun key kl h => by obtain ⟨x, hx, _⟩ := kP_inv h; exact ⟨x, hx⟩) (fun v y h => by obtain ⟨c, hc, _⟩ := plainElem_int_inv Tryz.underlying3 h; exact ⟨c, hc⟩) bj r _ _ _ _ rfl HRG.out ?_ ?_)
    · intro hc0 hl0
      have HALL : Hid (∀ q, q ∈ S.put ++ K ↔ q ∈ S.put ∨ (q ∈ S.js ∧ 0 < S.wt q)) := Lib.hid (fun q => by
        rw [List.mem_append]
        constructor
        · rintro (h | h)
          · exact .inl h
          · exact .inr ⟨(HK.out q h).1, (HK.out q h).2.1⟩
        · rintro (h | ⟨h1, h2⟩)
          · exact .inl h
          · rcases HCOV.out q h1 h2 with h3 | h3
            · exact .inr h3
            · rw [hl0] at h3; cases h3)
      clear hl0 hc0 HNR HK HND HCOV HRG
      by_cases h0 : nn = 0
      · subst h0
        have hnil : S.put ++ K = [] := List.length_eq_zero_iff.1 HNN.out.symm
        have HM := Lib.hid (HMATH.out [] List.Pairwise.nil (fun q => by rw [← HALL.out, hnil]))
        have HSN := Lib.hid (gsortP_none va vc wr)
        have HCN := Lib.hid (gcompact_none va vc wr)
        have HOWN9 := Lib.hid (fun g hg => (HRW.out.lt g hg).1)
        clear hnil
        go_wp2_with fail
        refine HSN.out.mono ?_
        rintro e w3 ⟨rfl, rfl⟩
        go_wp2_with fail
        refine HCN.out.mono ?_
        rintro e w4 ⟨rfl, rfl⟩
        go_wp2_with fail
        go_ret
        obtain ⟨E, e1, e2, e3⟩ := HM.out
        exact ⟨_, rfl, ⟨E, .inl ⟨e1.symm, _, _, rfl⟩, e2, e3⟩, HOWN9.out, HB.out⟩
      · obtain ⟨b, cap, e1, hb1, hb2, hcap, hmx, _, _⟩ := HRW.out.pos (by omega)
        simp only [Value.slice.injEq] at e1
        obtain ⟨rfl, _, rfl⟩ := e1
        have hsort := gsortP_any (S.put ++ K) wr HRW.out HNN.out.symm (by omega)
        have HSO := Lib.hid hsort
        have HB1 := Lib.hid hb1
        have HB3 := Lib.hid hb2
        have HCP := Lib.hid hcap
        have HMX := Lib.hid hmx
        unfold maxLen at hmx
        clear hsort hb1 hb2
        go_wp2_with fail
        refine HSO.out.mono ?_
        rintro e w3 ⟨rfl, M, hperm, hpw, hPA, ho3⟩
        have hml : M.length = nn := by rw [hperm.length_eq]; exact HNN.out.symm
        have hco := compactP_any (cap := vc) M w3 hPA hml (Nat.lt_of_lt_of_le HB3.out ho3.size) HCP.out HMX.out (by omega)
        have HCO := Lib.hid hco
        have HO3 := Lib.hid ho3
        have HSAY := Lib.hid (cpT_says hpw nn (by rw [hml]; exact Nat.le_refl _))
        have HPM := Lib.hid hperm
        have HMLL := Lib.hid hml
        clear hperm hpw hPA ho3 hml hco
        go_wp2_with fail
        refine HCO.out.mono ?_
        rintro e w4 ⟨q, rfl, hre4, ho4⟩
        have HRE4 := Lib.hid hre4
        have HB4 : Hid (Below w.heap.size w w4) := Lib.hid (HB.out.trans (((HO3.out.trans ho4).below (B := w.heap.size) (fun i hi => by subst hi; exact HB1.out) HB.out.size)))
        have HM := Lib.hid (HMATH.out (cpT M nn) HSAY.out.1 (fun q => by rw [HSAY.out.2.1, List.take_of_length_le (by rw [HMLL.out]; exact Nat.le_refl _), HPM.out.mem_iff]; exact HALL.out q))
        clear hre4 ho4
        go_wp2_with fail
        go_ret
        obtain ⟨E, e1, e2, e3⟩ := HM.out
        exact ⟨_, rfl, ⟨E, by rw [← e1]; exact HRE4.out, e2, e3⟩, fun g hg => by
          have hbg : b = g := by simpa [Value.ownBlock] using hg
          have := HB1.out
          omega, HB4.out⟩
    · intro x1 x2 c kx y1 y2 w1 cnt1 hkey hlk hRv hat hrg1 hlt hg1 hs1 hen
      obtain ⟨p9, ep, hkx, hokp⟩ := kP_inv hkey
      obtain rfl : p9 = (x1, x2) := by
        injection ep with ep
        have h3 := congrArg Array.toList ep
        simp only [List.cons.injEq, Value.int.injEq, true_and, and_true] at h3
        exact (Prod.ext h3.1 h3.2).symm
      subst hkx
      obtain ⟨c2, hc2, hy2, _⟩ := plainElem_int_inv Tryz.underlying3 hRv
      injection hc2 with _ hcc
      injection hy2 with hy1 _
      have hat0 := hat (.lit (.int .i64 0))
      rw [hy1, ← hcc, HAT.out _ hokp] at hat0
      have hwc : S.wt (x1, x2) = c := lit_i hat0
      have hin : has D (kP (x1, x2)) = true := has_true_of_atKey hat
      have hjs : (x1, x2) ∈ S.js := (HHAS.out _ hokp).1 hin
      have hof1 : Off (fun i => i = r) wr w1 := ⟨hg1.os, hg1.tape, hg1.output, hg1.size, fun j hj hne => hg1.block j hj (fun e => hne (by simp at e; omega))⟩
      have hrow1 := HRW.out.off hof1 (fun b hb e => HNR.out b hb e)
      have hbb1 : Below w.heap.size w w1 := HB.out.trans (hof1.below (B := w.heap.size) (fun i hi => by subst hi; exact HRL.out) HB.out.size)
      have HRG1 := Lib.hid hrg1
      have HROW1 := Lib.hid hrow1
      have HBB1 := Lib.hid hbb1
      have HLT : Hid (∀ W : World, W.ranges Tryz.prog 54 (plainElem (H := Unit) Tryz.prog 3) bj r S.c D (fun z => left z && !z.sameKey (kP (x1, x2))) cnt1 → W.rangeLeft bj r < wr.rangeLeft bj r) := Lib.hid (fun W h => by rw [h.left_eq, HRG.out.left_eq]; exact hlt)
      have HNEW : Hid ((x1, x2) ∉ K) := Lib.hid (fun hm => by have := (HK.out _ hm).2.2; rw [hlk] at this; cases this)
      have HK1 : Hid (∀ q ∈ K, q ∈ S.js ∧ 0 < S.wt q ∧ (left (kP q) && !(kP q).sameKey (kP (x1, x2))) = false) := Lib.hid (fun q hq => ⟨(HK.out q hq).1, (HK.out q hq).2.1, by rw [(HK.out q hq).2.2]; rfl⟩)
      have HCOV1 : Hid (∀ q ∈ S.js, 0 < S.wt q → q ≠ (x1, x2) → q ∈ K ∨ (left (kP q) && !(kP q).sameKey (kP (x1, x2))) = true) := Lib.hid (fun q hq h0 hne => by
        rcases HCOV.out q hq h0 with h | h
        · exact .inl h
        · refine .inr ?_
          rw [h, sameKey_kP (HOK.out q hq) hokp hne]
          rfl)
      have HJS := Lib.hid hjs
      have HWC := Lib.hid hwc
      have hrbj : r ≠ bj := HRG.out.ne
      have HRBJ := Lib.hid hrbj
      have hrlt : r < wr.heap.size := HRG.out.lt
      have hrl1 : r < w1.heap.size := Nat.lt_of_lt_of_le hrlt hof1.size
      have HRL1 := Lib.hid hrl1
      clear hat hRv hlk hg1 hs1 hlt hrg1 hkey hat0 hy1 hcc hin hjs hof1 hrow1 hbb1 hwc ep hokp hrbj hrlt hrl1 HRG HRW HB HK HCOV
      by_cases hc0 : 0 < c
      · have hsrc : Src Tryz.prog 2 28 (.slice (some ⟨(w1.alloc (.cells #[.int .i64 x1, .int .i64 x2] 54)).heap.size, 0, none⟩) 1 1) 1 [.int .i64 x1, .int .i64 x2] ((w1.alloc (.cells #[.int .i64 x1, .int .i64 x2] 54)).alloc (.cells #[.int .i64 x1, .int .i64 x2] 54)) := src_pair x1 x2
        have HSRC := Lib.hid hsrc
        obtain ⟨wy, hwy⟩ : ∃ wy, wy = (w1.alloc (.cells #[.int .i64 x1, .int .i64 x2] 54)).alloc (.cells #[.int .i64 x1, .int .i64 x2] 54) := ⟨_, rfl⟩
        have hby : Below w1.heap.size w1 wy := by rw [hwy]; exact ((Below.refl _ _).alloc (Nat.le_refl _) _).alloc (by simp) _
        have HRA := Lib.hid (HROW1.out.below hby)
        have HSZ : Hid (w.heap.size ≤ wy.heap.size) := Lib.hid (Nat.le_trans HBB1.out.size hby.size)
        have HBY := Lib.hid hby
        have HWY := Lib.hid hwy
        have hsz1 : (w1.alloc (.cells #[.int .i64 x1, .int .i64 x2] 54)).heap.size = w1.heap.size + 1 := by simp
        rw [hwy] at HRA HSZ
        rw [hsz1] at HSRC
        clear hsrc hby hwy hsz1
        go_wp2_with (at_builtin; refine wpList_append_row rfl (.tmp 23) (.tmp 25) 28 28 rfl 2 54 (.agg #[.int .i64 0, .int .i64 0]) 16 Tryz.underlying28 infoP2 rfl w.heap.size (.slice va nn vc) nn (evs (S.put ++ K)) (by simp [Act.eval]) HRA.out (.slice (some ⟨w1.heap.size + 1, 0, none⟩) 1 1) (by simp [Act.eval]) 1 [.int .i64 x1, .int .i64 x2] HSRC.out HSZ.out (by omega) (by decide) ?_; intro v6 w6 hr6 ho6 hw6; obtain ⟨a6, c6, hv6⟩ := hr6.form; subst hv6; have HR6 := Lib.hid hr6; have HO6 := Lib.hid ho6; have HW6 := Lib.hid hw6; clear hr6 ho6 hw6)
        have ho6 : Off (fun i => (Value.slice va nn vc).ownBlock = some i) wy w6 := by rw [HWY.out]; exact HO6.out
        have hnb : ¬ (Value.slice va nn vc).ownBlock = some bj := fun e => by have := (HROW1.out.lt bj e).1; have := HBJ.out; omega
        have hnr : ¬ (Value.slice va nn vc).ownBlock = some r := fun e => HNR.out r e rfl
        have hw6 : (Value.slice a6 (nn + 1) c6).ownBlock = (Value.slice va nn vc).ownBlock ∨ (Value.slice a6 (nn + 1) c6).ownBlock = some wy.heap.size := by rw [HWY.out]; exact HW6.out
        have HRG6 := Lib.hid (rangesP_off (rangesP_below HRG1.out HBY.out) ho6 hnb hnr)
        have HB6 : Hid (Below w.heap.size w w6) := Lib.hid (HBB1.out.trans (((Off.of_below (Z := fun i => (Value.slice va nn vc).ownBlock = some i) HBY.out).trans ho6).below (B := w.heap.size) (fun i hi => (HROW1.out.lt i hi).1) HBB1.out.size))
        have HNR6 : Hid (∀ b, (Value.slice a6 (nn + 1) c6).ownBlock = some b → b ≠ r) := Lib.hid (fun b hb => by
          rcases hw6 with e | e
          · exact HNR.out b (e ▸ hb)
          · rw [e] at hb
            injection hb with hb
            have := HRL1.out
            have := HBY.out.size
            omega)
        have HRW6 : Hid (Row 2 w.heap.size w6 (.slice a6 (nn + 1) c6) (nn + 1) (evs (S.put ++ (K ++ [(x1, x2)])))) := Lib.hid (by rw [← List.append_assoc, evs_snoc]; exact HR6.out)
        have HK6 : Hid (∀ q ∈ K ++ [(x1, x2)], q ∈ S.js ∧ 0 < S.wt q ∧ (left (kP q) && !(kP q).sameKey (kP (x1, x2))) = false) := Lib.hid (fun q hq => by
          rcases List.mem_append.1 hq with hq | hq
          · exact HK1.out q hq
          · rw [List.mem_singleton.1 hq]
            exact ⟨HJS.out, by rw [HWC.out]; exact hc0, by rw [sameKey_self]; simp⟩)
        have HND6 : Hid ((K ++ [(x1, x2)]).Nodup) := Lib.hid (List.nodup_append.2 ⟨HND.out, by simp, fun a ha b hb e => by rw [List.mem_singleton.1 hb] at e; exact HNEW.out (e ▸ ha)⟩)
        have HCOV6 : Hid (∀ q ∈ S.js, 0 < S.wt q → q ∈ K ++ [(x1, x2)] ∨ (left (kP q) && !(kP q).sameKey (kP (x1, x2))) = true) := Lib.hid (fun q hq h0 => by
          by_cases e : q = (x1, x2)
          · exact .inl (List.mem_append.2 (.inr (by rw [e]; simp)))
          · exact (HCOV1.out q hq h0 e).imp (fun h => List.mem_append.2 (.inl h)) id)
        clear ho6 hnb hnr hw6
        exact ⟨⟨_, _, nn + 1, K ++ [(x1, x2)], Lib.hid (by rw [← List.append_assoc, List.length_append, ← HNN.out]; rfl), HRG6, HRW6, HNR6, HK6, HND6, HCOV6, HB6⟩, HLT.out _ HRG6.out⟩
      · have hby : Below w1.heap.size w1 (w1.alloc (.cells #[.int .i64 x1, .int .i64 x2] 54)) := (Below.refl _ _).alloc (Nat.le_refl _) _
        have HRG6 := Lib.hid (rangesP_below HRG1.out hby)
        have HB6 := Lib.hid (HBB1.out.trans (hby.mono HBB1.out.size))
        have HRW6 := Lib.hid (HROW1.out.below hby)
        have HCOV6 : Hid (∀ q ∈ S.js, 0 < S.wt q → q ∈ K ∨ (left (kP q) && !(kP q).sameKey (kP (x1, x2))) = true) := Lib.hid (fun q hq h0 => HCOV1.out q hq h0 (fun e => by rw [e, HWC.out] at h0; exact hc0 h0))
        clear hby
        go_wp2_with fail
        exact ⟨⟨_, _, nn, K, HNN, HRG6, HRW6, HNR, HK1, HND, HCOV6, HB6⟩, HLT.out _ HRG6.out⟩
end Go.Proofs.YtojnagonhihknaaGreatDoor
set_option linter.unusedVariables false
set_option linter.unusedSimpArgs false
namespace Go.Proofs.YtojnagonhihknaaGreatDoor
open Go.ChangeShapes Go.WideShapes Go.ChangeAt Go.RowKit Go.WideMaps Go.Maps

structure SmallG (S : SetP) : Prop where
  small : SmallW (sdeps S)
  sum : (S.map fun p => linesN p.2.ops + p.2.ops.length).sum ≤ 400000
theorem sum_mem {α : Type} {f : α → Nat} : ∀ {l : List α} {x : α}, x ∈ l → f x ≤ (l.map f).sum
  | y :: l, x, h => by
    rw [List.map_cons, List.sum_cons]
    rcases List.mem_cons.1 h with e | h
    · rw [e]; omega
    · have := sum_mem (f := f) h; omega
theorem SmallG.one {S : SetP} (h : SmallG S) {p : ByteArray × Pt} (hp : p ∈ S) : linesN p.2.ops + p.2.ops.length ≤ 400000 := Nat.le_trans (sum_mem (f := fun p : ByteArray × Pt => linesN p.2.ops + p.2.ops.length) hp) h.sum
theorem SmallG.len {S : SetP} (h : SmallG S) : S.length ≤ 61 := by have := h.small.1; unfold sdeps at this; rwa [List.length_map] at this
theorem costE_gset : ∀ (S : SetP), costE (evL (gsetS S)) = (S.map fun p => linesN p.2.ops + p.2.ops.length).sum
  | [] => rfl
  | p :: S => by
    have ih := costE_gset S
    have e : evL (gsetS (p :: S)) = evP p.1 0 (p.2.ops.map (gop p.1 p.2.deps)) ++ evL (gsetS S) := rfl
    rw [e, costE_app, costE_evP, ih, List.map_cons, List.sum_cons]
theorem evL_take {S : SetP} {k : Nat} {p : ByteArray × Pt} (h : S[k]? = some p) : evL (gsetS (S.take (k + 1))) = evL (gsetS (S.take k)) ++ evP p.1 0 (p.2.ops.map (gop p.1 p.2.deps)) := by
  rw [List.take_add_one, h]
  unfold gsetS evL
  rw [List.map_append, List.flatMap_append]
  congr 1
  simp [gpt]
theorem SmallG.take {S : SetP} (h : SmallG S) {k : Nat} {p : ByteArray × Pt} (hp : S[k]? = some p) : costE (evL (gsetS (S.take k))) + linesN p.2.ops + p.2.ops.length ≤ 400000 := by
  have h1 := h.sum
  rw [← costE_gset] at h1
  have e : S = S.take (k + 1) ++ S.drop (k + 1) := (List.take_append_drop _ _).symm
  have h2 : costE (evL (gsetS S)) = costE (evL (gsetS (S.take (k + 1)))) + costE (evL (gsetS (S.drop (k + 1)))) := by
    rw [← costE_app]
    congr 1
    have : gsetS S = gsetS (S.take (k + 1)) ++ gsetS (S.drop (k + 1)) := by unfold gsetS; rw [← List.map_append, ← e]
    rw [this]
    unfold evL
    rw [List.flatMap_append]
  rw [evL_take hp, costE_app, costE_evP] at h2
  omega
theorem ids_small {S : SetP} (h : SmallG S) {R : GSet ByteArray} (hR : R.Perm (gsetS S)) : (idsR nil0 R).length ≤ 1000000 := by
  rw [idsR_len, (hR.map madeX).sum_nat]
  have : ∀ T : SetP, ((gsetS T).map madeX).sum ≤ (T.map fun p => linesN p.2.ops + p.2.ops.length).sum := by
    intro T
    induction T with
    | nil => exact Nat.le_refl _
    | cons p T ih =>
      have e : gsetS (p :: T) = gpt p :: gsetS T := rfl
      rw [e, List.map_cons, List.sum_cons, List.map_cons, List.sum_cons, madeX_gpt]
      have := madeN_le p.2.ops
      omega
  have h1 := this S
  have h2 := h.sum
  omega
theorem graph_done {S : SetP} (hG : GoodS S) (hf : S.fine) (hl : NoLack S) {R : GSet ByteArray} (hR : R.Perm (gsetS S)) (hrise : (R.map (·.1)).Pairwise ltB) {S1 : Sk} (hS : SkD R (evL (gsetS S)) S1) {E : List (Nat × Nat)} (hlex : E.Pairwise lexN) (hE : ∀ p, p ∈ E ↔ p ∈ putE (plR nil0 R) (evL (gsetS S)) ∨ 0 < wtE (plR nil0 R) (evL (gsetS S)) p) :
    ∃ V, S1.vs = V.map vxG ∧ GraphS ltB nil0 (gsetS S) V E := by
  obtain ⟨V, P, wt, hD, hv, _⟩ := hS.ex
  have htR : Tame nil0 R := tame_perm hR hG.tame
  refine ⟨V, hv, graph_made ltB_asymm hG.tame (hG.allRefs hf hl) (ids := idsR nil0 R) (pl := plR nil0 R) (idsR_rise (fun x hx => ltB_nil (htR.some x hx)) hrise) (fun i => idsR_mem.trans (isId_perm hR i)) (fun i hi => idsR_at htR ((isId_perm hR i).2 hi)) (fun x hx n => plR_step htR (hR.mem_iff.2 hx) n) hD.id hD.att hD.del hlex hE⟩
theorem graph_refs {S : SetP} (hG : GoodS S) (hf : S.fine) (hl : NoLack S) {R : GSet ByteArray} (hR : R.Perm (gsetS S)) : ∀ v ∈ evL (gsetS S), v.o.kind = 2 → plR nil0 R v.o.a < (idsR nil0 R).length ∧ plR nil0 R v.o.b < (idsR nil0 R).length := fun v hv hk => by
  have htR : Tame nil0 R := tame_perm hR hG.tame
  have ho : v.o ∈ opsL (gsetS S) := by rw [← evL_o]; exact List.mem_map.2 ⟨v, hv, rfl⟩
  obtain ⟨x, hx, h⟩ := List.mem_flatMap.1 ho
  obtain ⟨_, _, h1, h2⟩ := hG.allRefs hf hl x hx v.o h
  exact ⟨(List.getElem?_eq_some_iff.1 (idsR_at htR ((isId_perm hR _).2 h1))).1, (List.getElem?_eq_some_iff.1 (idsR_at htR ((isId_perm hR _).2 (h2 (by omega))))).1⟩
abbrev BuC (p q2 : Nat) (vv : Value) (W : World) : Prop := W.cell? ⟨p, 1, none⟩ = some vv ∧ W.cell? ⟨q2, 0, none⟩ = some (anyCell W ⟨q2, 0, none⟩) ∧ W.cell? ⟨q2, 1, none⟩ = some (anyCell W ⟨q2, 1, none⟩) ∧ W.frozen? ⟨q2, 0, none⟩ = false ∧ W.frozen? ⟨q2, 1, none⟩ = false
theorem BuC.below {p q2 : Nat} {vv : Value} {W W' : World} (h : BuC p q2 vv W) (hb : Below W.heap.size W W') : BuC p q2 vv W' := by
  obtain ⟨a0, a1, a2, f1, f2⟩ := h
  exact ⟨(hb.cell (p := ⟨p, 1, none⟩) (cell_lt a0)).trans a0, anyCell_of (by rw [hb.cell (p := ⟨q2, 0, none⟩) (cell_lt a1), a1]; rfl), anyCell_of (by rw [hb.cell (p := ⟨q2, 1, none⟩) (cell_lt a2), a2]; rfl), (hb.frozen (p := ⟨q2, 0, none⟩) (cell_lt a1)).trans f1, (hb.frozen (p := ⟨q2, 1, none⟩) (cell_lt a2)).trans f2⟩
theorem BuC.set {p q2 : Nat} {vv : Value} {W : World} (h : BuC p q2 vv W) (hne : p ≠ q2) (u0 u1 : Value) : BuC p q2 vv ((W.setCell ⟨q2, 0, none⟩ u0).setCell ⟨q2, 1, none⟩ u1) := by
  obtain ⟨a0, a1, a2, f1, f2⟩ := h
  have hn : ∀ (W : World) i u, (W.setCell ⟨q2, i, none⟩ u).cell? ⟨p, 1, none⟩ = W.cell? ⟨p, 1, none⟩ := fun W i u => World.cell?_setCell_other _ _ _ _ (fun e => hne (by injection e with e; exact e.symm))
  exact ⟨(hn _ _ _).trans ((hn _ _ _).trans a0), anyCell_set (anyCell_set a1), anyCell_set (anyCell_set a2), by rw [World.frozen?_setCell, World.frozen?_setCell]; exact f1, by rw [World.frozen?_setCell, World.frozen?_setCell]; exact f2⟩
theorem set_ends {W : World} {q : Nat} (h0 : W.cell? ⟨q, 0, none⟩ = some (anyCell W ⟨q, 0, none⟩)) (h1 : W.cell? ⟨q, 1, none⟩ = some (anyCell W ⟨q, 1, none⟩)) (u0 u1 : Value) : ((W.setCell ⟨q, 0, none⟩ u0).setCell ⟨q, 1, none⟩ u1).cell? ⟨q, 0, none⟩ = some u0 ∧ ((W.setCell ⟨q, 0, none⟩ u0).setCell ⟨q, 1, none⟩ u1).cell? ⟨q, 1, none⟩ = some u1 := by
  refine ⟨?_, ?_⟩
  · rw [World.cell?_setCell_other _ _ _ _ (by simp)]
    exact World.cell?_setCell_same _ _ _ h0
  · exact World.cell?_setCell_same _ _ _ ((World.cell?_setCell_other _ _ _ _ (by simp)).trans h1)
theorem RE.off {w w' : World} {Z : Nat → Prop} {v : Value} {es : Ed} (h : RE w v es) (ho : Off Z w w') (hz : ∀ b, v.ownBlock = some b → ¬ Z b) : RE w' v es := by
  rcases h with h | ⟨hn, b, o, c, h1, h2, h3, h4, h5⟩
  · exact .inl h
  · have hb : ¬ Z b := hz b (by rw [h1]; rfl)
    exact .inr ⟨hn, b, o, c, h1, h2, h3, Nat.lt_of_lt_of_le h4 ho.size, fun j e he => ⟨(ho.cell (p := ⟨b, o + j * 2, none⟩) h4 hb).trans (h5 j e he).1, (ho.cell (p := ⟨b, o + j * 2 + 1, none⟩) h4 hb).trans (h5 j e he).2⟩⟩
def BuPost (S : SetP) (w : World) (e : Ending) (w' : World) : Prop := ∃ vv ev k, e = .returned (.tuple #[.agg #[vv, ev], errO k]) ∧ BuildR S k ∧ Below w.heap.size w w' ∧
  (k = 0 → (∃ V E, Row 8 0 w' vv V.length (vxs (V.map vxG)) ∧ RE w' ev (prI E) ∧ GraphS ltB nil0 (gsetS S) V E) ∧ (∀ g, vv.ownBlock = some g → w.heap.size ≤ g ∧ ev.ownBlock ≠ some g) ∧ ∀ g, ev.ownBlock = some g → w.heap.size ≤ g) ∧ (k ≠ 0 → vv = .slice none 0 0 ∧ ev = .slice none 0 0)
set_option maxHeartbeats 8000000 in
set_option maxRecDepth 100000 in
theorem gbuild_any (S : SetP) (hf : S.fine) (hsm : SmallG S) (v : Value) (w : World) (hr : GReads w v S) (ht : HasTab w) :
    Calls Tryz.prog 9 #[v] w (BuPost S w) := by
  obtain ⟨a, c, rfl, hlen⟩ := hr.form
  obtain ⟨n, hnn⟩ : ∃ n, n = S.length := ⟨_, rfl⟩
  have hn60 := hsm.len
  have hw1 : Below w.heap.size w (w.alloc (.cells #[.slice none 0 0, .slice none 0 0] 30)) := (Below.refl _ _).alloc (Nat.le_refl _) _
  have hCH : ∀ wz, Below w.heap.size w wz → Calls Tryz.prog 22 #[.slice a S.length c] wz fun e w' => ∃ out k, e = .returned (errO k) ∧ LinR (sdeps S) out k ∧ Below wz.heap.size wz w' := fun wz hz => check_any (sdeps S) _ wz (hr.below hz).sreads hsm.small
  have hWR : ∀ wz, Below w.heap.size w wz → Calls Tryz.prog 23 #[.slice a S.length c, .func (.func 24) #[] #[]] wz fun e w' => e = .returned (.bool (S.any wrongG)) ∧ Below wz.heap.size wz w' := fun wz hz =>
    containsWrong_any S wrongG _ wz (hr.below hz) (by omega) fun p hp dv ov wy hy hpr => gwrong_any p.1 p.2 dv ov wy hpr (hf.2 p hp).1 ((ht.below hz).below hy)
  rw [← hnn] at hCH hWR hr hlen ⊢
  have HR := Lib.hid hr
  have HF := Lib.hid hf
  have HSM := Lib.hid hsm
  have HNN := Lib.hid hnn
  have HW1 := Lib.hid hw1
  have HCH := Lib.hid hCH
  have HWR := Lib.hid hWR
  rw [← hnn] at hn60
  obtain ⟨q2, hq2⟩ : ∃ q2, q2 = w.heap.size := ⟨_, rfl⟩
  obtain ⟨wA, hwA⟩ : ∃ wA, wA = w.alloc (.cells #[.slice none 0 0, .slice none 0 0] 30) := ⟨_, rfl⟩
  have HWA := Lib.hid hwA
  have hbA : Below w.heap.size w wA := by rw [hwA]; exact hw1
  have hsA : wA.heap.size = w.heap.size + 1 := by rw [hwA]; simp
  have ca : ∀ i, i < 2 → wA.cell? ⟨q2, i, none⟩ = some (.slice none 0 0) ∧ wA.frozen? ⟨q2, i, none⟩ = false := fun i hi => by
    rw [hwA]
    refine ⟨?_, World.frozen?_alloc_at _ _ _ _ hq2⟩
    rw [World.cell?_alloc_at _ _ _ _ hq2]
    match i, hi with
    | 0, _ => rfl
    | 1, _ => rfl
  have HBA := Lib.hid hbA
  have HSA := Lib.hid hsA
  have HQ2 := Lib.hid hq2
  have HCA := Lib.hid ca
  clear hr hf hsm hnn hw1 hCH hWR ht hwA hbA hsA ca hq2 HW1
  go_enter Tryz.func9, Tryz.ntmps9
  go_wp2_with fail
  rw [← HQ2.out]
  rw [← HWA.out]
  refine (HCH.out wA HBA.out).mono ?_
  rintro e w2 ⟨out, k1, rfl, hlin, hb2⟩
  have HLIN := Lib.hid hlin
  have HB2 := Lib.hid (HBA.out.trans (hb2.mono HBA.out.size))
  have hs2 : w.heap.size + 1 ≤ w2.heap.size := by have := hb2.size; have := HSA.out; omega
  have cA2 : ∀ i, i < 2 → w2.cell? ⟨q2, i, none⟩ = some (.slice none 0 0) ∧ w2.frozen? ⟨q2, i, none⟩ = false := fun i hi => by
    have hq : q2 < wA.heap.size := cell_lt (HCA.out i hi).1
    exact ⟨(hb2.cell (p := ⟨q2, i, none⟩) hq).trans (HCA.out i hi).1, (hb2.frozen (p := ⟨q2, i, none⟩) hq).trans (HCA.out i hi).2⟩
  have HC2 := Lib.hid cA2
  have HS2 := Lib.hid hs2
  clear hlin hb2 HCH cA2 hs2
  by_cases hk1 : k1 = 0
  · subst hk1
    have e0 : errO 0 = .nilIface := by unfold errO; rw [if_pos rfl]
    rw [e0]
    obtain ⟨wg, hwg⟩ : ∃ wg, wg = S.any wrongG := ⟨_, rfl⟩
    have HWG := Lib.hid hwg
    have hwr := HWR.out w2 HB2.out
    rw [← hwg] at hwr
    have HWR2 := Lib.hid hwr
    clear hwg hwr HWR e0
    go_wp2_with fail
    refine HWR2.out.mono ?_
    rintro e w3 ⟨rfl, hb3⟩
    have HB3 := Lib.hid (HB2.out.trans (hb3.mono HB2.out.size))
    have cA3 : ∀ i, i < 2 → w3.cell? ⟨q2, i, none⟩ = some (.slice none 0 0) ∧ w3.frozen? ⟨q2, i, none⟩ = false := fun i hi => by
      have hq : q2 < w2.heap.size := cell_lt (HC2.out i hi).1
      exact ⟨(hb3.cell (p := ⟨q2, i, none⟩) hq).trans (HC2.out i hi).1, (hb3.frozen (p := ⟨q2, i, none⟩) hq).trans (HC2.out i hi).2⟩
    have HC3 := Lib.hid cA3
    have HS3 : Hid (w.heap.size + 1 ≤ w3.heap.size) := Lib.hid (Nat.le_trans HS2.out hb3.size)
    clear hb3 cA3 HWR2
    cases wg with
    | true =>
      obtain ⟨g0, f0⟩ := HC3.out 0 (by omega)
      obtain ⟨g1, f1⟩ := HC3.out 1 (by omega)
      have HBR : Hid (BuildR S 10) := Lib.hid ⟨out, 0, HLIN.out, .inr (.inl ⟨rfl, HWG.out.symm, rfl⟩)⟩
      have y0 : (w3.setCell ⟨q2, 0, none⟩ (.slice none 0 0)).cell? ⟨q2, 0, none⟩ = some (.slice none 0 0) := World.cell?_setCell_same _ _ _ g0
      have y1 : ((w3.setCell ⟨q2, 0, none⟩ (.slice none 0 0)).setCell ⟨q2, 1, none⟩ (.slice none 0 0)).cell? ⟨q2, 1, none⟩ = some (.slice none 0 0) := World.cell?_setCell_same _ _ _ ((World.cell?_setCell_other _ _ _ _ (by simp)).trans g1)
      have HB9 : Hid (Below w.heap.size w ((w3.setCell ⟨q2, 0, none⟩ (.slice none 0 0)).setCell ⟨q2, 1, none⟩ (.slice none 0 0))) := Lib.hid ((HB3.out.setCell (p := ⟨q2, 0, none⟩) (by rw [HQ2.out]; exact Nat.le_refl _) _).setCell (p := ⟨q2, 1, none⟩) (by rw [HQ2.out]; exact Nat.le_refl _) _)
      go_wp2_with fail
      exact bodyPost_ret (v := .tuple #[.agg #[.slice none 0 0, .slice none 0 0], .iface 67 (.int .i64 10)]) (by simp [results, Tryz.results9, go_sem, y0, y1]) rfl ⟨_, _, 10, by unfold errO; rw [if_neg (by omega)], HBR.out, HB9.out, fun h => absurd h (by omega), fun _ => ⟨rfl, rfl⟩⟩
    | false =>
      have hG : GoodS S := good_of HLIN.out HWG.out.symm
      have hlay := glay_any S hG HF.out (.slice a n c) w3 (HR.out.below HB3.out) (by rw [← HNN.out]; omega) (fun p hp => by have := HSM.out.one hp; omega) (fun R hR => ids_small HSM.out hR)
      have HLAY := Lib.hid hlay
      have HG := Lib.hid hG
      clear hlay hG
      go_wp2_with fail
      refine HLAY.out.mono ?_
      rintro e w4 ⟨p, R, Z, S1, rfl, hRp, hrise, hsx, hskd, hsm1, hZ, hb4⟩
      have HB4 := Lib.hid (HB3.out.trans (hb4.mono HB3.out.size))
      have cA4 : ∀ i, i < 2 → w4.cell? ⟨q2, i, none⟩ = some (.slice none 0 0) ∧ w4.frozen? ⟨q2, i, none⟩ = false := fun i hi => by
        have hq : q2 < w3.heap.size := cell_lt (HC3.out i hi).1
        exact ⟨(hb4.cell (p := ⟨q2, i, none⟩) hq).trans (HC3.out i hi).1, (hb4.frozen (p := ⟨q2, i, none⟩) hq).trans (HC3.out i hi).2⟩
      have hZq : ¬ Z q2 := fun hz => by have := hZ q2 hz; have := HQ2.out; have := HS3.out; omega
      have htR : Tame nil0 R := tame_perm hRp HG.out.tame
      obtain ⟨lk, hlk⟩ : ∃ lk, lk = S.any (fun p => lackP (mR (gsetS S)) p.2) := ⟨_, rfl⟩
      have hmRR : S1.m = mR (gsetS S) := by rw [hsm1]; funext x; exact mR_perm hRp HG.out.tame.one x
      have hlck : Calls Tryz.prog 23 #[.slice a n c, .func (.func 26) #[.pointer (some ⟨p, 0, none⟩)] #[]] w4 fun e w' => e = .returned (.bool lk) ∧ Below w4.heap.size w4 w' := by
        obtain ⟨bl, bj, vv, uv, hsm⟩ := hsx
        rw [hlk]
        refine containsLacks_any p S (fun p => lackP (mR (gsetS S)) p.2) _ w4 (HR.out.below HB4.out) (by rw [← HNN.out]; omega) fun q hq dv ov wy hy hpr => ?_
        have hsy := hsm.below hy
        have hl := hsy.lots
        rw [hmRR] at hl
        exact lacks_any q.1 q.2 dv ov wy hsy.c0 (hsy.zlt p hsy.zp) hl hpr (by have := HSM.out.one hq; omega) (fun o ho => HG.out.refK HF.out (fun x hx => by
          rw [hskd.ks, ← gset_names] at *
          exact (hRp.map _).mem_iff.2 hx) hq ho)
      have HSX := Lib.hid hsx
      have HSK := Lib.hid hskd
      have HRP := Lib.hid hRp
      have HRI := Lib.hid hrise
      have HZ := Lib.hid hZ
      have HZQ := Lib.hid hZq
      have HTR := Lib.hid htR
      have HLK := Lib.hid hlk
      have HLC := Lib.hid hlck
      have HC4 := Lib.hid cA4
      have HS4 : Hid (w.heap.size + 1 ≤ w4.heap.size) := Lib.hid (Nat.le_trans HS3.out hb4.size)
      clear hRp hrise hsx hskd hsm1 hZ hb4 cA4 hZq htR hlk hlck hmRR HLAY
      go_wp2_with fail
      refine HLC.out.mono ?_
      rintro e w5 ⟨rfl, hb5⟩
      have HB5 := Lib.hid (HB4.out.trans (hb5.mono HB4.out.size))
      have cA5 : ∀ i, i < 2 → w5.cell? ⟨q2, i, none⟩ = some (.slice none 0 0) ∧ w5.frozen? ⟨q2, i, none⟩ = false := fun i hi => by
        have hq : q2 < w4.heap.size := cell_lt (HC4.out i hi).1
        exact ⟨(hb5.cell (p := ⟨q2, i, none⟩) hq).trans (HC4.out i hi).1, (hb5.frozen (p := ⟨q2, i, none⟩) hq).trans (HC4.out i hi).2⟩
      have HC5 := Lib.hid cA5
      have HSX5 := Lib.hid (HSX.out.below hb5)
      have HS5 : Hid (w.heap.size + 1 ≤ w5.heap.size) := Lib.hid (Nat.le_trans HS4.out hb5.size)
      clear hb5 cA5 HLC
      cases lk with
      | true =>
        obtain ⟨g0, f0⟩ := HC5.out 0 (by omega)
        obtain ⟨g1, f1⟩ := HC5.out 1 (by omega)
        have hno : ¬ NoLack S := fun hno => by
          have h1 := HLK.out.symm
          rw [List.any_eq_true] at h1
          obtain ⟨q, hq, h2⟩ := h1
          rw [hno q hq] at h2
          cases h2
        have HBR : Hid (BuildR S 14) := Lib.hid ⟨out, 0, HLIN.out, .inr (.inr (.inl ⟨rfl, HWG.out.symm, hno, rfl⟩))⟩
        clear hno
        have y0 : (w5.setCell ⟨q2, 0, none⟩ (.slice none 0 0)).cell? ⟨q2, 0, none⟩ = some (.slice none 0 0) := World.cell?_setCell_same _ _ _ g0
        have y1 : ((w5.setCell ⟨q2, 0, none⟩ (.slice none 0 0)).setCell ⟨q2, 1, none⟩ (.slice none 0 0)).cell? ⟨q2, 1, none⟩ = some (.slice none 0 0) := World.cell?_setCell_same _ _ _ ((World.cell?_setCell_other _ _ _ _ (by simp)).trans g1)
        have HB9 : Hid (Below w.heap.size w ((w5.setCell ⟨q2, 0, none⟩ (.slice none 0 0)).setCell ⟨q2, 1, none⟩ (.slice none 0 0))) := Lib.hid ((HB5.out.setCell (p := ⟨q2, 0, none⟩) (by rw [HQ2.out]; exact Nat.le_refl _) _).setCell (p := ⟨q2, 1, none⟩) (by rw [HQ2.out]; exact Nat.le_refl _) _)
        go_wp2_with fail
        exact bodyPost_ret (v := .tuple #[.agg #[.slice none 0 0, .slice none 0 0], .iface 67 (.int .i64 14)]) (by simp [results, Tryz.results9, go_sem, y0, y1]) rfl ⟨_, _, 14, by unfold errO; rw [if_neg (by omega)], HBR.out, HB9.out, fun h => absurd h (by omega), fun _ => ⟨rfl, rfl⟩⟩
      | false =>
        have hNL : NoLack S := fun q hq => by
          have h1 := List.any_eq_false.1 HLK.out.symm q hq
          simpa using h1
        have HNL := Lib.hid hNL
        have HBR : Hid (BuildR S 0) := Lib.hid ⟨out, 0, HLIN.out, .inr (.inr (.inr ⟨rfl, HWG.out.symm, hNL, rfl⟩))⟩
        have HD0 : Hid (DwI Z w5 p R (evL (gsetS (S.take 0))) w5) := Lib.hid ⟨S1, ⟨Z, HSX5.out, Off.refl _ _, fun i hi => .inl hi⟩, HSK.out⟩
        clear hNL
        go_wp2_with fail
        go_loopw [28] (fun iv wr => ∃ k : Nat, k ≤ n ∧ iv = .int .i64 (k : Nat) ∧ Hid (DwI Z w5 p R (evL (gsetS (S.take k))) wr)) (fun iv _ => n - (intOf iv).toNat)
        case atStart => exact ⟨0, Nat.zero_le _, rfl, HD0⟩
        case round =>
          clear HD0
          obtain ⟨k, hk, rfl, HD⟩ := hrel
          by_cases hlt : k < n
          · obtain ⟨x, hx⟩ : ∃ x, S[k]? = some x := ⟨S[k]'(by rw [← HNN.out]; exact hlt), by simp⟩
            obtain ⟨b, o, rfl, hbl, hnc, hcm, hat⟩ := HR.out.at hx
            obtain ⟨dv, ov, m0, m1, m2, m3, hpr⟩ := hat
            obtain ⟨S2, ⟨Z2, hsx2, hof2, hz2⟩, hsk2⟩ := HD.out
            have hZw : ∀ i, Z i → w.heap.size ≤ i := fun i hi => Nat.le_trans HB3.out.size (HZ.out i hi)
            have hbwr : Below w.heap.size w wr := HB5.out.trans (hof2.below hZw HB5.out.size)
            have hZ2w : ∀ i, Z2 i → w.heap.size ≤ i := fun i hi => by
              rcases hz2 i hi with h | h
              · exact hZw i h
              · have := HS5.out; omega
            have d0 := (hbwr.cell (p := ⟨b, o + k * 4, none⟩) hbl).trans m0
            have d1 := (hbwr.cell (p := ⟨b, o + k * 4 + 1, none⟩) hbl).trans m1
            have d2 := (hbwr.cell (p := ⟨b, o + k * 4 + 2, none⟩) hbl).trans m2
            have d3 := (hbwr.cell (p := ⟨b, o + k * 4 + 3, none⟩) hbl).trans m3
            obtain ⟨da, dc, hdv, _⟩ := hpr.deps.form
            obtain ⟨oa, oc, hov, _⟩ := hpr.ops.form
            obtain ⟨dn, hdn⟩ : ∃ dn, dn = x.2.deps.length := ⟨_, rfl⟩
            obtain ⟨on, hon⟩ : ∃ on, on = x.2.ops.length := ⟨_, rfl⟩
            rw [← hdn] at hdv
            rw [← hon] at hov
            subst hdv hov
            obtain ⟨nm, P⟩ := x
            simp only at d0 d1 hpr
            obtain ⟨t, htt⟩ : ∃ t, t = P.note := ⟨_, rfl⟩
            obtain ⟨wy, hwy⟩ : ∃ wy, wy = wr.alloc (.cells #[.string nm, .string t, .slice da dn dc, .slice oa on oc] 49) := ⟨_, rfl⟩
            have hby : Below wr.heap.size wr wy := by rw [hwy]; exact (Below.refl _ _).alloc (Nat.le_refl _) _
            have hxS : (nm, P) ∈ S := List.mem_of_getElem? hx
            have hdraw := gdraw_any (Z := Z2) (p := p) (S := S2) HTR.out (ids_small HSM.out HRP.out) nm P (.slice da dn dc) (.slice oa on oc) w wy (hsx2.below hby) hsk2 (hbwr.trans (hby.mono hbwr.size)) hZ2w hpr (HRP.out.mem_iff.2 (List.mem_map.2 ⟨_, hxS, rfl⟩)) (HF.out.2 _ hxS).2.1 (fun k o hko => HG.out.refs HF.out HNL.out HRP.out hxS hko) (by have := HSM.out.take hx; simp only at this; omega)
            rw [← htt] at hdraw d1
            have HDR := Lib.hid (hdraw.mono (R' := fun e w' => e = .returned (.tuple #[]) ∧ DwI Z w5 p R (evL (gsetS (S.take (k + 1)))) w') (by
              rintro e w' ⟨rfl, S', ⟨Z', h1, h2, h3⟩, h4⟩
              refine ⟨rfl, ?_⟩
              rw [evL_take hx]
              exact DwI.step (hof2.trans (Off.of_below hby)) (Z1 := Z2) hz2 h1 h2 h3 h4))
            have HWY := Lib.hid hwy
            clear hdraw hx hpr hsx2 hof2 hz2 hsk2 hZw hbwr hZ2w m0 m1 m2 m3 hxS htt hwy hby HD hdn hon
            go_wp2_with fail
            first
              | (rw [← HWY.out]; refine HDR.out.mono ?_)
              | refine HDR.out.mono ?_
            rintro e w6 ⟨rfl, hd6⟩
            have HD6 := Lib.hid hd6
            clear hd6 HDR HWY d0 d1 d2 d3
            go_wp2_with fail
            exact ⟨⟨k + 1, by omega, by go_num, HD6⟩, by simp [intOf]; omega⟩
          · have hkn : k = n := by omega
            subst hkn
            obtain ⟨S2, ⟨Z2, ⟨bl, bj, vv, uv, hsm2⟩, hof2, hz2⟩, hsk2⟩ := HD.out
            rw [List.take_of_length_le (by rw [← HNN.out]; exact Nat.le_refl _)] at hsk2
            have hZw : ∀ i, Z i → w.heap.size ≤ i := fun i hi => Nat.le_trans HB3.out.size (HZ.out i hi)
            have hbwr : Below w.heap.size w wr := HB5.out.trans (hof2.below hZw HB5.out.size)
            have hq5 : q2 < w5.heap.size := cell_lt (HC5.out 0 (by omega)).1
            have hcq : ∀ i, i < 2 → wr.cell? ⟨q2, i, none⟩ = some (.slice none 0 0) ∧ wr.frozen? ⟨q2, i, none⟩ = false := fun i hi =>
              ⟨(hof2.cell (p := ⟨q2, i, none⟩) hq5 HZQ.out).trans (HC5.out i hi).1, (hof2.frozen (p := ⟨q2, i, none⟩) hq5 HZQ.out).trans (HC5.out i hi).2⟩
            have hpq : p ≠ q2 := fun e => by
              rcases hz2 p hsm2.zp with h | h
              · exact HZQ.out (e ▸ h)
              · omega
            have hcd := Below.refl wr.heap.size wr.drew
            have hed := gedges_any (Z := Z2) (p := p) (S := S2) wr.drew ⟨bl, bj, vv, uv, hsm2.below (Below.refl _ wr).drew⟩ hsk2 (by rw [costE_gset]; exact HSM.out.sum) (ids_small HSM.out HRP.out) (graph_refs HG.out HF.out HNL.out HRP.out)
            obtain ⟨va, vc, hvv⟩ := hsm2.rv.form
            obtain ⟨vn, hvn⟩ : ∃ vn, vn = S2.vs.length := ⟨_, rfl⟩
            rw [← hvn] at hvv
            subst hvv
            have hbu : BuC p q2 (.slice va vn vc) wr.drew := ⟨hsm2.c1, anyCell_of (by rw [show wr.drew.cell? ⟨q2, 0, none⟩ = _ from (hcq 0 (by omega)).1]; rfl), anyCell_of (by rw [show wr.drew.cell? ⟨q2, 1, none⟩ = _ from (hcq 1 (by omega)).1]; rfl), (hcq 0 (by omega)).2, (hcq 1 (by omega)).2⟩
            have HBU := Lib.hid hbu
            have HED := Lib.hid hed
            have HPQ := Lib.hid hpq
            have HFIN : Hid (∀ w7 ev, (∃ E, RE w7 ev (prI E) ∧ E.Pairwise lexN ∧ ∀ q, q ∈ E ↔ q ∈ putE (plR nil0 R) (evL (gsetS S)) ∨ 0 < wtE (plR nil0 R) (evL (gsetS S)) q) → (∀ g, ev.ownBlock = some g → wr.heap.size ≤ g) → Below wr.heap.size wr w7 → BuPost S w (.returned (.tuple #[.agg #[.slice va vn vc, ev], .nilIface])) ((w7.setCell ⟨q2, 0, none⟩ (.slice va vn vc)).setCell ⟨q2, 1, none⟩ ev)) := Lib.hid (fun w7 ev hE hown hb7 => by
              have hq2l : q2 < wr.heap.size := Nat.lt_of_lt_of_le hq5 hof2.size
              have hzq2 : ¬ Z2 q2 := fun hi => by
                rcases hz2 q2 hi with h | h
                · exact HZQ.out h
                · omega
              have ho8 : Off (fun i => i = q2) w7 ((w7.setCell ⟨q2, 0, none⟩ (.slice va vn vc)).setCell ⟨q2, 1, none⟩ ev) := ((Off.refl (fun i => i = q2) w7).setCell (p := ⟨q2, 0, none⟩) (.inr rfl) (.slice va vn vc)).setCell (p := ⟨q2, 1, none⟩) (.inr rfl) ev
              obtain ⟨E, e1, e2, e3⟩ := hE
              obtain ⟨V, hV, hgr⟩ := graph_done HG.out HF.out HNL.out HRP.out HRI.out hsk2 e2 e3
              have hrv := (hsm2.rv.below hb7).off ho8 (fun b hb e => hzq2 (e ▸ hsm2.zv b hb))
              rw [hV] at hrv
              rw [List.length_map] at hrv
              refine ⟨_, _, 0, by unfold errO; rw [if_pos rfl], HBR.out, (hbwr.trans (hb7.mono hbwr.size)).trans (ho8.below (B := w.heap.size) (fun i hi => by subst hi; rw [HQ2.out]; exact Nat.le_refl _) (Nat.le_trans hbwr.size hb7.size)), fun _ => ⟨⟨V, E, hrv, e1.off ho8 (fun b hb e => by have := hown b hb; omega), hgr⟩, fun g hg => ⟨?_, fun h => ?_⟩, fun g hg => by have h1 := hown g hg; have := hbwr.size; omega⟩, fun h => absurd rfl h⟩
              · rcases hz2 g (hsm2.zv g hg) with h | h
                · exact hZw g h
                · have := HB5.out.size; omega
              · have h1 := hown g h
                have h2 := hsm2.zlt g (hsm2.zv g hg)
                omega)
            have HSETB : Hid (∀ w7, Below wr.heap.size wr w7 → Below wr.heap.size wr w7) := Lib.hid (fun _ h => h)
            clear hsm2 hof2 hz2 hsk2 hZw hbwr hq5 hcq hpq hcd hed hbu HD hvn
            go_wp2_with fail
            refine wp_region_held_drew (S := (fun W => W.cell? ⟨p, 1, none⟩ = some (.slice va vn vc) ∧ W.cell? ⟨q2, 0, none⟩ = some (anyCell W ⟨q2, 0, none⟩) ∧ W.cell? ⟨q2, 1, none⟩ = some (anyCell W ⟨q2, 1, none⟩) ∧ W.frozen? ⟨q2, 0, none⟩ = false ∧ W.frozen? ⟨q2, 1, none⟩ = false)) (by kernel_rfl) ?_ (fun hHeld => ?_)
            · exact HBU.out
            refine tkH 0 ⟨some 36, .move (.tmp 5), 68, "graph.go:29", #[], none⟩ ?_
            try simp only [Act.put, List.setIfInBounds_toArray, List.set_cons_zero, List.set_cons_succ]
            refine tkH 1 ⟨some 37, .nilCheck (.tmp 36), 0, "graph.go:29", #[⟨0, .data⟩], none⟩ ?_
            try simp only [Act.put, List.setIfInBounds_toArray, List.set_cons_zero, List.set_cons_succ]
            refine tkH 2 ⟨some 38, .fieldAddr 74 (.tmp 37) 1, 0, "graph.go:29", #[⟨1, .data⟩], none⟩ ?_
            try simp only [Act.put, List.setIfInBounds_toArray, List.set_cons_zero, List.set_cons_succ]
            refine tkH 3 ⟨some 39, .load 27 (.tmp 38), 27, "graph.go:29", #[⟨2, .data⟩], none⟩ ?_
            try simp only [Act.put, List.setIfInBounds_toArray, List.set_cons_zero, List.set_cons_succ]
            refine tkH 4 ⟨some 40, .move (.tmp 5), 68, "graph.go:29", #[], none⟩ ?_
            try simp only [Act.put, List.setIfInBounds_toArray, List.set_cons_zero, List.set_cons_succ]
            refine wpAnyH_ready (rs := [5]) (by kernel_rfl) (by simp) ?_
            refine AllReadyH.cons (o := ⟨some 41, .call { callee := Callee.value (Operand.func 28), args := #[.tmp 40], argTypes := #[68] }, 28, "graph.go:29", #[⟨4, .data⟩], none⟩) rfl (fun KK hK => ?_) AllReadyH.nil
            go_simp
            (with_reducible refine HED.out.mono ?_)
            rintro e w7 ⟨ev, rfl, hE, hown, hb7⟩
            obtain ⟨E, hE1, hE2, hE3⟩ := hE
            obtain ⟨eva, evc, rfl⟩ := hE1.form
            obtain ⟨evn, hevn⟩ : ∃ evn, evn = (prI E).length := ⟨_, rfl⟩
            rw [← hevn] at hE1 hown ⊢
            have HE7 := Lib.hid (show ∃ E, RE w7 (.slice eva evn evc) (prI E) ∧ E.Pairwise lexN ∧ ∀ q, q ∈ E ↔ q ∈ putE (plR nil0 R) (evL (gsetS S)) ∨ 0 < wtE (plR nil0 R) (evL (gsetS S)) q from ⟨E, hE1, hE2, hE3⟩)
            have HBU7 := Lib.hid (HBU.out.below hb7)
            have HO7 := Lib.hid hown
            have HB7 := Lib.hid hb7
            clear hE1 hE2 hE3 hevn hown hb7
            refine hK.out _ _ ?_ (fun hHeld => ?_)
            · exact HBU7.out
            clear hK KK
            try simp only [Act.put, List.setIfInBounds_toArray, List.set_cons_zero, List.set_cons_succ]
            refine tkH 6 ⟨some 42, .build 30 #[(0, .tmp 39), (1, .tmp 41)], 30, "graph.go:29", #[⟨3, .data⟩, ⟨5, .data⟩], none⟩ ?_
            try simp only [Act.put, List.setIfInBounds_toArray, List.set_cons_zero, List.set_cons_succ]
            refine wpAnyH_ready (rs := [7]) (by kernel_rfl) (by simp) ?_
            refine AllReadyH.cons (o := ⟨none, .store 30 (.tmp 2) (.tmp 42), 0, "graph.go:29", #[⟨6, .data⟩, ⟨5, .chain⟩, ⟨0, .phase⟩, ⟨1, .phase⟩, ⟨2, .phase⟩, ⟨3, .phase⟩, ⟨4, .phase⟩, ⟨5, .phase⟩, ⟨6, .phase⟩], none⟩) rfl (fun KK hK => ?_) AllReadyH.nil
            go_simp
            obtain ⟨_, c8, c9, f8, f9⟩ := hHeld
            go_simp
            refine hK.out _ _ ?_ (fun hHeld => ?_)
            · exact HBU7.out.set HPQ.out _ _
            clear hK KK
            try simp only [Act.put, List.setIfInBounds_toArray, List.set_cons_zero, List.set_cons_succ]
            refine tkH 8 ⟨some 3, .assign (.const Value.nilIface), 32, "graph.go:29", #[⟨7, .chain⟩, ⟨0, .phase⟩, ⟨1, .phase⟩, ⟨2, .phase⟩, ⟨3, .phase⟩, ⟨4, .phase⟩, ⟨5, .phase⟩, ⟨6, .phase⟩, ⟨7, .phase⟩], none⟩ ?_
            try simp only [Act.put, List.setIfInBounds_toArray, List.set_cons_zero, List.set_cons_succ]
            refine wpAnyH_done (by kernel_rfl) ?_ _
            clear hHeld
            obtain ⟨z0, z1⟩ := set_ends HBU7.out.2.1 HBU7.out.2.2.1 (.slice va vn vc) (.slice eva evn evc)
            have HFF := Lib.hid (HFIN.out w7 (.slice eva evn evc) HE7.out HO7.out ⟨HB7.out.os, HB7.out.tape, HB7.out.output, HB7.out.size, HB7.out.block⟩)
            go_wp2_with fail
            exact bodyPost_ret (v := .tuple #[.agg #[.slice va vn vc, .slice eva evn evc], .nilIface]) (by simp [results, Tryz.results9, go_sem, z0, z1]) rfl HFF.out
  · obtain ⟨g0, f0⟩ := HC2.out 0 (by omega)
    obtain ⟨g1, f1⟩ := HC2.out 1 (by omega)
    have HBR : Hid (BuildR S k1) := Lib.hid ⟨out, k1, HLIN.out, .inl ⟨hk1, rfl⟩⟩
    have e9 : errO k1 = .iface 67 (.int .i64 k1) := by unfold errO; rw [if_neg hk1]
    rw [e9]
    clear e9
    have y0 : (w2.setCell ⟨q2, 0, none⟩ (.slice none 0 0)).cell? ⟨q2, 0, none⟩ = some (.slice none 0 0) := World.cell?_setCell_same _ _ _ g0
    have y1 : ((w2.setCell ⟨q2, 0, none⟩ (.slice none 0 0)).setCell ⟨q2, 1, none⟩ (.slice none 0 0)).cell? ⟨q2, 1, none⟩ = some (.slice none 0 0) := World.cell?_setCell_same _ _ _ ((World.cell?_setCell_other _ _ _ _ (by simp)).trans g1)
    have HB9 : Hid (Below w.heap.size w ((w2.setCell ⟨q2, 0, none⟩ (.slice none 0 0)).setCell ⟨q2, 1, none⟩ (.slice none 0 0))) := Lib.hid ((HB2.out.setCell (p := ⟨q2, 0, none⟩) (by rw [HQ2.out]; exact Nat.le_refl _) _).setCell (p := ⟨q2, 1, none⟩) (by rw [HQ2.out]; exact Nat.le_refl _) _)
    go_wp2_with fail
    exact bodyPost_ret (v := .tuple #[.agg #[.slice none 0 0, .slice none 0 0], .iface 67 (.int .i64 k1)]) (by simp [results, Tryz.results9, go_sem, y0, y1]) rfl ⟨_, _, k1, by unfold errO; rw [if_neg hk1], HBR.out, HB9.out, fun h => absurd h hk1, fun _ => ⟨rfl, rfl⟩⟩
end Go.Proofs.YtojnagonhihknaaGreatDoor
