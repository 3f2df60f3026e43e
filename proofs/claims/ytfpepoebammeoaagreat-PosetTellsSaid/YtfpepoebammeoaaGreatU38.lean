/- Of package poset: single. -/
import Derived.Test.YtfpepoebammeoaaGreatU36
import Derived.Test.YtfpepoebammeoaaGreatU37
import Derived.Test.YtfpepoebammeoaaGreatU4
import Derived.Test.YtfpepoebammeoaaGreatU6
set_option linter.unusedVariables false
set_option linter.unusedSimpArgs false
namespace Go.Proofs.YtfpepoebammeoaaGreat
open Go.ChangeShapes Go.WideShapes Go.ChangeAt Go.RowKit Go.Shelf
attribute [local go_sem] Oper.semAt_some

theorem Row.kept {k B n : Nat} {w w' : World} {row : Option Nat} {v : Value} {cs : List Value} (h : Row k B w v n cs) (hg : w.grownBy w' row) (hr : ∀ r, row = some r → ∃ o : Obj, w.heap[r]? = some o ∧ o.isCells = false) : Row k B w' v n cs := by
  obtain ⟨h0, h | ⟨b, cap, h1, h2, h3, h4, h5, h6, h7⟩⟩ := h
  · exact ⟨h0, .inl h⟩
  · refine ⟨h0, .inr ⟨b, cap, h1, h2, Nat.lt_of_lt_of_le h3 hg.size, h4, h5, fun j hj => ?_, fun j u hu => cell_kept (h7 j u hu) hg hr⟩⟩
    obtain ⟨hs, hf⟩ := h6 j hj
    obtain ⟨x, hx⟩ := Option.isSome_iff_exists.1 hs
    exact ⟨by rw [cell_kept hx hg hr]; rfl, (frozen_kept hx hg hr).trans hf⟩
def sgS (f : Nat → Int) (Lv : List Int) (st : (Nat → Bool) × Int) (x : IXL Lv) : (Nat → Bool) × Int := (fun i => if i = x.1 then decide (((x.1 : Nat) : Int) ≤ st.2) else st.1 i, min st.2 (f (Lv[x.1]'x.2).toNat))
def sgL (f : Nat → Int) (Lv : List Int) (m : Int) (pre : List (IXL Lv)) : (Nat → Bool) × Int := pre.foldl (sgS f Lv) (fun _ => false, m)
theorem sgL_snoc (f : Nat → Int) (Lv : List Int) (m : Int) (pre : List (IXL Lv)) (x : IXL Lv) : sgL f Lv m (pre ++ [x]) = sgS f Lv (sgL f Lv m pre) x := by simp [sgL]
theorem sgL_is (f : Nat → Int) (D : Nat) (L : List Int) (hL : ∀ x ∈ L, 0 ≤ x) : ∀ k, k ≤ L.length → (sgL f (L.map fun x => (D : Int) + x) (L.length : Int) (ixl _ k)).2 = bkM f D L (L.length - k) ∧ ∀ i, (sgL f (L.map fun x => (D : Int) + x) (L.length : Int) (ixl _ k)).1 i = (decide (L.length - k ≤ i ∧ i < L.length) && decide ((i : Int) ≤ bkM f D L (i + 1)))
  | 0, _ => by
    refine ⟨?_, fun i => ?_⟩
    · show (L.length : Int) = _
      rw [Nat.sub_zero, bkM_end]
    · show false = _
      have : decide (L.length - 0 ≤ i ∧ i < L.length) = false := decide_eq_false (by omega)
      rw [this, Bool.false_and]
  | k + 1, h => by
    obtain ⟨h1, h2⟩ := sgL_is f D L hL k (by omega)
    have hlen : (L.map fun x => (D : Int) + x).length = L.length := List.length_map _
    have hlt : (L.map fun x => (D : Int) + x).length - 1 - k < (L.map fun x => (D : Int) + x).length := by omega
    have hidx : (L.map fun x => (D : Int) + x).length - 1 - k = L.length - (k + 1) := by omega
    have hx : L[L.length - (k + 1)]? = some (L[L.length - (k + 1)]'(by omega)) := List.getElem?_eq_getElem _
    have h0 := hL _ (List.mem_of_getElem? hx)
    obtain ⟨i0, hi0⟩ : ∃ i0 : Nat, L[L.length - (k + 1)]'(by omega) = (i0 : Int) := ⟨(L[L.length - (k + 1)]'(by omega)).toNat, by omega⟩
    have hv : ((L.map fun x => (D : Int) + x)[(L.map fun x => (D : Int) + x).length - 1 - k]'hlt).toNat = D + i0 := by
      rw [List.getElem_map]
      have : L[(L.map fun x => (D : Int) + x).length - 1 - k]'(by omega) = (i0 : Int) := by
        rw [← hi0]
        congr 1
      rw [this]
      omega
    rw [ixl_succ _ k hlt, sgL_snoc]
    unfold sgS
    simp only [hv]
    rw [h1]
    refine ⟨?_, fun i => ?_⟩
    · rw [bkM_at (show L[L.length - (k + 1)]? = some (i0 : Int) by rw [hx, hi0]), show L.length - (k + 1) + 1 = L.length - k by omega]
    · rw [h2 i]
      by_cases e : i = (L.map fun x => (D : Int) + x).length - 1 - k
      · rw [if_pos e]
        have h9 : decide (L.length - (k + 1) ≤ i ∧ i < L.length) = true := decide_eq_true (by omega)
        rw [h9, Bool.true_and, show i + 1 = L.length - k by omega, decide_eq_decide]
        omega
      · rw [if_neg e]
        congr 1
        rw [decide_eq_decide]
        omega
def SgC (p5 p6 p7 sb sz m Z : Nat) (rv : Value) (f g : Nat → Int) (o : Nat → Bool) (b : Int) (W : World) : Prop :=
  (W.cell? ⟨p5, 0, none⟩ = some rv ∧ W.cell? ⟨p6, 0, none⟩ = some (.slice (some ⟨sb, 0, none⟩) m m)) ∧ (W.cell? ⟨p7, 0, none⟩ = some (.int .i64 b) ∧ W.frozen? ⟨p7, 0, none⟩ = false) ∧ Row 2 Z W rv sz (rcv f g sz) ∧ Row 1 Z W (.slice (some ⟨sb, 0, none⟩) m m) m (tbv o m)
theorem SgC.kept {p5 p6 p7 sb sz m Z : Nat} {rv : Value} {f g : Nat → Int} {o : Nat → Bool} {b : Int} {W W' : World} {row : Option Nat} (h : SgC p5 p6 p7 sb sz m Z rv f g o b W) (hg : W.grownBy W' row) (hr : ∀ r, row = some r → ∃ o : Obj, W.heap[r]? = some o ∧ o.isCells = false) : SgC p5 p6 p7 sb sz m Z rv f g o b W' := by
  obtain ⟨⟨a0, a1⟩, ⟨a2, a3⟩, h1, h2⟩ := h
  exact ⟨⟨cell_kept a0 hg hr, cell_kept a1 hg hr⟩, ⟨cell_kept a2 hg hr, (frozen_kept a2 hg hr).trans a3⟩, h1.kept hg hr, h2.kept hg hr⟩
set_option maxHeartbeats 4000000 in
set_option maxRecDepth 100000 in
theorem single_any (D m sz : Nat) (tv ev lv : Value) (L : List Int) (P : (Nat → Int) → (Nat → Int) → Prop) (w : World) (hlv : RI w lv (L.map fun x => (D : Int) + x)) (hlen : L.length = m) (hin : ∀ x ∈ L, 0 ≤ x ∧ x < (m : Int)) (hsz : sz = D + m) (hm : m ≤ 100000) (hD : D ≤ 200000)
    (HRC : ∀ W, Below w.heap.size w W → Calls Tryz.prog 64 #[.agg #[tv, .int .i64 (D : Int), ev], lv] W fun e w' => ∃ rv f g, e = .returned rv ∧ Row 2 W.heap.size w' rv sz (rcv f g sz) ∧ P f g ∧ Below W.heap.size W w') :
    Calls Tryz.prog 62 #[.agg #[tv, .int .i64 (D : Int), ev], lv] w fun e w' => ∃ sv f g, e = .returned sv ∧ Row 1 w.heap.size w' sv m (tbv (sglB f g D L) m) ∧ P f g ∧ Below w.heap.size w w' := by
  obtain ⟨la, lc, hlvf⟩ := hlv.form
  rw [List.length_map, hlen] at hlvf
  subst hlvf
  have mk1 := run_make_row' (P := Tryz.prog) 55 4 (.bool false) 1 Tryz.underlying55 infoBo rfl .i64 .i64 m (by omega) (by omega)
  have hb1 : Below w.heap.size w (w.alloc (.cells #[tv, .int .i64 (D : Int), ev] 59)) := (Below.refl _ _).alloc (Nat.le_refl _) _
  have HRC1 := Lib.hid (HRC _ hb1)
  obtain ⟨S, hS⟩ : ∃ S, S = w.heap.size := ⟨_, rfl⟩
  have z0 : (w.alloc (.cells #[tv, .int .i64 (D : Int), ev] 59)).cell? ⟨w.heap.size, 0, none⟩ = some tv := World.cell?_alloc_at _ _ _ _ rfl
  have HB1 := Lib.hid hb1
  have HLV := Lib.hid hlv
  have HIN := Lib.hid hin
  have HLN := Lib.hid hlen
  have HSZ := Lib.hid hsz
  have HS := Lib.hid hS
  clear HRC hb1 hlv hin hlen hsz hS z0
  refine (callsIn_wide (n := 6)).1 ?_
  refine callsIn_of_wp_marks Tryz.func62 rfl trivial ?_ rfl
  simp only [Tryz.ntmps62, List.size_toArray, List.length_cons, List.length_nil, Nat.reduceAdd, Nat.reduceSub, Array.replicate_succ, Array.replicate_zero, List.push_toArray, List.append_toArray, List.nil_append, List.cons_append]
  gi_wp2_with fail
  refine ⟨trivial, (callsIn_wide.2 HRC1.out).mono ?_⟩
  rintro e w2 ⟨rv, f, g, rfl, hrow, hP, hb2⟩
  obtain ⟨ra, rc, hrv⟩ := hrow.form
  subst hrv
  have HROW := Lib.hid hrow
  have HP := Lib.hid hP
  have HB2 := Lib.hid (HB1.out.trans (hb2.mono HB1.out.size))
  have HBB2 := Lib.hid hb2
  have HRBB : Hid (∀ i, (Value.slice ra sz rc).ownBlock = some i → i < w2.heap.size) := Lib.hid (fun i hi => (hrow.lt i hi).2)
  clear hrow hP hb2
  gi_wp2_with fail
  refine ⟨trivial, (callsIn_wide.2 (backwardI_in _ _ _ _)).mono ?_⟩
  rintro e w5 ⟨rfl, rfl⟩
  gi_wp2_with fail
  obtain ⟨p5, hp5⟩ : ∃ p5, p5 = w2.heap.size := ⟨_, rfl⟩
  obtain ⟨W0, hW0⟩ : ∃ W0, W0 = (((((w2.alloc (.cells #[.slice ra sz rc] 86)).alloc (.cells (madeCells #[.bool false] m) 4)).alloc (.cells #[.slice (some ⟨w2.heap.size + 1, 0, none⟩) m m] 55)).alloc (.cells #[.int .i64 (m : Int)] 3)).alloc (.cells #[.slice la m lc] 23)) := ⟨_, rfl⟩
  have hs0 : W0.heap.size = p5 + 5 := by rw [hW0, hp5]; simp
  have hB20 : Below w2.heap.size w2 W0 := by
    rw [hW0]
    exact (((((Below.refl _ _).alloc (Nat.le_refl _) _).alloc (by simp) _).alloc (by simp; omega) _).alloc (by simp; omega) _).alloc (by simp; omega) _
  have c5 : W0.cell? ⟨p5, 0, none⟩ = some (.slice ra sz rc) := by
    rw [hW0, hp5, World.cell?_alloc_past _ _ _ (by simp only [World.size_alloc]; first | done | omega), World.cell?_alloc_past _ _ _ (by simp only [World.size_alloc]; first | done | omega), World.cell?_alloc_past _ _ _ (by simp only [World.size_alloc]; first | done | omega), World.cell?_alloc_past _ _ _ (by simp only [World.size_alloc]; first | done | omega), World.cell?_alloc_at _ _ _ _ rfl]; rfl
  have c6 : W0.cell? ⟨p5 + 1 + 1, 0, none⟩ = some (.slice (some ⟨p5 + 1, 0, none⟩) m m) := by
    rw [hW0, hp5, World.cell?_alloc_past _ _ _ (by simp only [World.size_alloc]; first | done | omega), World.cell?_alloc_past _ _ _ (by simp only [World.size_alloc]; first | done | omega), World.cell?_alloc_at _ _ _ _ (by simp only [World.size_alloc]; first | done | omega)]; rfl
  have c7 : W0.cell? ⟨p5 + 1 + 1 + 1, 0, none⟩ = some (.int .i64 (m : Int)) ∧ W0.frozen? ⟨p5 + 1 + 1 + 1, 0, none⟩ = false := by
    rw [hW0, hp5]
    refine ⟨?_, ?_⟩
    · rw [World.cell?_alloc_past _ _ _ (by simp only [World.size_alloc]; first | done | omega), World.cell?_alloc_at _ _ _ _ (by simp only [World.size_alloc]; first | done | omega)]; rfl
    · rw [World.frozen?_alloc_past _ _ _ (by simp only [World.size_alloc]; first | done | omega), World.frozen?_alloc_at _ _ _ _ (by simp only [World.size_alloc]; first | done | omega)]
  have c8 : W0.cell? ⟨p5 + 1 + 1 + 1 + 1, 0, none⟩ = some (.slice la m lc) := by
    rw [hW0, hp5, World.cell?_alloc_at _ _ _ _ (by simp only [World.size_alloc]; first | done | omega)]; rfl
  have hrs : Row 1 (w.heap.size + 1) W0 (.slice (some ⟨p5 + 1, 0, none⟩) m m) m (tbv (fun _ => false) m) := by
    have h := made_boolk (w := w2.alloc (.cells #[.slice ra sz rc] 86)) (m := m) (B := w.heap.size + 1) (by omega) (by have := HB2.out.size; simp; omega) 4
    rw [World.size_alloc, ← hp5] at h
    rw [hW0]
    exact (((h.alloc _).alloc _).alloc _)
  have hrr : Row 2 (w.heap.size + 1) W0 (.slice ra sz rc) sz (rcv f g sz) := (HROW.out.below hB20).mono (by simp)
  rw [← hW0]
  have HSG := Lib.hid (show SgC p5 (p5 + 1 + 1) (p5 + 1 + 1 + 1) (p5 + 1) sz m (w.heap.size + 1) (.slice ra sz rc) f g (fun _ => false) (m : Int) W0 from ⟨⟨c5, c6⟩, c7, hrr, hrs⟩)
  have HC8 := Lib.hid c8
  have HBW0 : Hid (Below w.heap.size w W0) := Lib.hid (HB2.out.trans (hB20.mono HB2.out.size))
  have HS0 := Lib.hid hs0
  have HP5 := Lib.hid (show w.heap.size < p5 by rw [hp5]; have := HBB2.out.size; simp at this; omega)
  have hmx : Tryz.prog.follows .mixedOrders = true := by kernel_rfl
  rw [← hp5] at HRBB
  rw [← hp5]
  clear hW0 c5 c6 c7 c8 hrs hrr hB20 hs0 hp5
  obtain ⟨Lv, hLv⟩ : ∃ Lv, Lv = L.map fun x => (D : Int) + x := ⟨_, rfl⟩
  have hLvl : Lv.length = m := by rw [hLv, List.length_map, HLN.out]
  have HLV2 := Lib.hid (show RI w (.slice la m lc) Lv by rw [hLv]; exact HLV.out)
  have HLVE := Lib.hid hLv
  have HLVL := Lib.hid hLvl
  have hLvb : ∀ (j : Nat) x, Lv[j]? = some x → ∃ b o, la = some ⟨b, o, none⟩ ∧ b < w.heap.size ∧ W0.cell? ⟨b, o + j, none⟩ = some (.int .i64 x) := fun j x hx => by
    obtain ⟨b, o, e, hb, _, _, hc⟩ := HLV2.out.at hx
    exact ⟨b, o, e, hb, (HBW0.out.cell (p := ⟨b, _, none⟩) hb).trans hc⟩
  have HNB : Hid (∀ x ∈ Lv, 0 ≤ x ∧ x.toNat < sz) := Lib.hid (fun x hx => by
    rw [hLv] at hx
    obtain ⟨y, hy, rfl⟩ := List.mem_map.1 hx
    have := HIN.out y hy
    have := HSZ.out
    omega)
  have HLVB := Lib.hid hLvb
  clear hLv hLvl hLvb
  refine wpIn_rangeFunc_ownH rfl (by omega) (gf := 111) (lb := #[.pointer (some ⟨p5 + 1 + 1 + 1 + 1, 0, none⟩)]) rfl trivial (enters_of Tryz.func111 (by kernel_rfl) rfl)
    (backI_stops Fence.wide _ trivial rfl (by omega) (p5 + 1 + 1 + 1 + 1) w.heap.size la m lc Lv HLVL.out.symm (by rw [HLVL.out]; omega) W0 HBW0.out.size HC8.out HLVB.out) (fun h k => Off.trans h k) (fun W l o o' hl ho _ _ => by
      have hg := grownBy_putObj' W l o'
      exact ⟨hg.os, hg.tape, hg.output, hg.size, fun i hi hz => hg.block i hi (fun e => hz (by injection e with e; have := HBW0.out.size; have := HS0.out; omega))⟩) (Below.refl _ _) (fun _ => rfl)
    (fun pre W => SgC p5 (p5 + 1 + 1) (p5 + 1 + 1 + 1) (p5 + 1) sz m (w.heap.size + 1) (.slice ra sz rc) f g (sgL f Lv (m : Int) pre).1 (sgL f Lv (m : Int) pre).2 W ∧ Below w.heap.size w W)
    (fun _ _ _ => False)
    (OwnFrom.and (Own.from (fun pre X Y row hs hg hr => hs.kept hg hr) _) (ownFrom_below (Nat.le_refl _) (by have := HBW0.out.size; omega)))
    (fun _ _ _ _ _ hs _ _ => hs)
    ⟨HSG.out, HBW0.out⟩
    (fun x a' W => a' = { tmps := #[.agg #[tv, .int .i64 (D : Int), ev], .slice la m lc, .pointer (some ⟨w.heap.size, 0, none⟩), undef, .slice none 0 0, .pointer (some ⟨p5, 0, none⟩), .pointer (some ⟨p5 + 1 + 1, 0, none⟩), .pointer (some ⟨p5 + 1 + 1 + 1, 0, none⟩), .int .i64 (x.1 : Nat), .int .i64 (Lv[x.1]'x.2), undef, undef, undef, .agg #[tv, .int .i64 (D : Int), ev], .slice la m lc, .slice ra sz rc, .slice la m lc, .int .i64 (m : Int), .slice (some ⟨p5 + 1, 0, none⟩) m m, .slice la m lc, .int .i64 (m : Int), .slice la m lc,
      .func (.func 111) #[] #[.pointer (some ⟨p5 + 1 + 1 + 1 + 1, 0, none⟩)], .int .i64 (x.1 : Nat), .int .i64 (Lv[x.1]'x.2), undef, undef, undef, undef, undef, undef, undef, undef, undef, undef, undef, undef, undef, undef, undef, undef, undef, undef, undef, undef, undef, undef, undef, undef, undef, undef, undef, undef, undef, undef, undef, undef, undef, undef, undef, undef, undef, undef, undef, undef, undef], defers := [] })
    (fun x a' _ X Y row hs hg hr => hs)
    ?assign ?body ?done ?stop
  case assign =>
    rintro l pre x W K ⟨hA1, hB1⟩ hK
    have HK := Lib.hid hK
    have HA1 := Lib.hid hA1
    have HBB := Lib.hid hB1
    clear hK hA1 hB1
    gi_wp2_with fail
    exact HK.out _ _ ((KeepsOthers.refl _).from _) (Off.refl _ W) ⟨HA1.out, HBB.out⟩ rfl
  case body =>
    rintro l pre x a' W hl ⟨r, hlr⟩ ⟨hA1, hB1⟩ rfl hplt
    have HSN := Lib.hid (sgL_snoc f Lv (m : Int) pre x)
    obtain ⟨⟨o, b⟩, hob⟩ : ∃ q, q = sgL f Lv (m : Int) pre := ⟨_, rfl⟩
    rw [← hob] at hA1 HSN
    simp only at hA1
    obtain ⟨y, hy⟩ : ∃ y, y = Lv[x.1]'x.2 := ⟨_, rfl⟩
    rw [← hy]
    have hyn := HNB.out _ (List.getElem_mem x.2)
    rw [← hy] at hyn
    obtain ⟨d, rfl⟩ : ∃ d : Nat, y = (d : Int) := ⟨y.toNat, by omega⟩
    have hk := x.2
    obtain ⟨k, hkx⟩ : ∃ k, k = x.1 := ⟨_, rfl⟩
    rw [← hkx]
    rw [← hkx] at hk
    have HKX := Lib.hid hkx
    clear hkx
    have hd : d < sz := by omega
    have hdI : (d : Int) < (sz : Int) := by omega
    have hkm : k < m := by rw [← HLVL.out]; exact hk
    have hkI : (k : Int) < (m : Int) := by omega
    obtain ⟨⟨a0, a1⟩, ⟨a2, a3⟩, h1, h2⟩ := hA1
    obtain ⟨rb, hra⟩ : ∃ rb, ra = some ⟨rb, 0, none⟩ := by
      obtain ⟨b', c', e, _⟩ := h1.pos (by omega)
      injection e with e
      exact ⟨b', e⟩
    subst hra
    obtain ⟨cs, fs, _, hsbw, _⟩ := h2.cellF (tbv_at o hkm)
    obtain ⟨cf, _, _, hrbw, hszc, hszm⟩ := h1.cellK (rcv_at f g hd).1
    obtain ⟨q, hq⟩ : ∃ q, q = decide ((k : Int) ≤ b) := ⟨_, rfl⟩
    have hq' := hq.symm
    have hput := h2.put (j := k) (by rw [tbv_len]; exact hkm) (.bool q)
    rw [tbv_set o (fun i => if i = k then q else o i) hkm q (fun i _ => rfl)] at hput
    have hne1 : p5 + 1 + 1 + 1 ≠ p5 + 1 := by omega
    have hrb := HRBB.out rb rfl
    obtain ⟨W1, hW1⟩ : ∃ W1, W1 = W.setCell ⟨p5 + 1, k, none⟩ (.bool q) := ⟨_, rfl⟩
    have hO1 : Off (fun i => i = p5 + 1) W W1 := by rw [hW1]; exact (Off.refl (fun i => i = p5 + 1) W).setCell (p := ⟨p5 + 1, k, none⟩) (.inr rfl) _
    have hpw : p5 + 1 + 1 + 1 < W.heap.size := cell_lt a2
    have e5 := (hO1.cell (p := ⟨p5, 0, none⟩) (by show p5 < _; omega) (by show ¬ p5 = p5 + 1; omega)).trans a0
    have e6 := (hO1.cell (p := ⟨p5 + 1 + 1, 0, none⟩) (by show p5 + 1 + 1 < _; omega) (by show ¬ p5 + 1 + 1 = p5 + 1; omega)).trans a1
    have e7 := (hO1.cell (p := ⟨p5 + 1 + 1 + 1, 0, none⟩) hpw (by show ¬ p5 + 1 + 1 + 1 = p5 + 1; omega)).trans a2
    have f7 := (hO1.frozen (p := ⟨p5 + 1 + 1 + 1, 0, none⟩) hpw (by show ¬ p5 + 1 + 1 + 1 = p5 + 1; omega)).trans a3
    have ed := (hO1.cell (p := ⟨rb, d * 2, none⟩) (by show rb < _; omega) (by show ¬ rb = p5 + 1; omega)).trans cf
    have hr1 := h1.off hO1 (fun i hi e => by have := HRBB.out i hi; omega)
    rw [← hW1] at hput
    have HS8 := Lib.hid (show (W1.drew.cell? ⟨p5 + 1 + 1 + 1, 0, none⟩ = some (.int .i64 b) ∧ W1.drew.frozen? ⟨p5 + 1 + 1 + 1, 0, none⟩ = false) ∧ W1.drew.cell? ⟨p5, 0, none⟩ = some (.slice (some ⟨rb, 0, none⟩) sz rc) ∧ W1.drew.cell? ⟨rb, d * 2, none⟩ = some (.int .i64 (f d)) from ⟨⟨e7, f7⟩, e5, ed⟩)
    have HW1 := Lib.hid hW1
    have HE := Lib.hid (And.intro e5 (And.intro e6 (And.intro e7 f7)))
    have HPUT := Lib.hid hput
    have HR1 := Lib.hid hr1
    have HBW := Lib.hid hB1
    have HHO := Lib.hid hob
    have HQ := Lib.hid hq
    have HYY := Lib.hid hy
    have hszb : sz ≤ 300000 := by have := HSZ.out; omega
    have hdd : (d : Int).toNat = d := Int.toNat_natCast d
    have HO1 := Lib.hid hO1
    unfold maxLen at hszm
    clear hput hr1 hob hq hy hO1 h1 h2 e5 e6 e7 f7 ed hB1 hyn hdd hW1
    gi_wp2_with fail
    rw [← HW1.out]
    refine wpIn_region_til (S := (fun W => (W.cell? ⟨p5 + 1 + 1 + 1, 0, none⟩ = some (.int .i64 b) ∧ W.frozen? ⟨p5 + 1 + 1 + 1, 0, none⟩ = false) ∧ W.cell? ⟨p5, 0, none⟩ = some (.slice (some ⟨rb, 0, none⟩) sz rc) ∧ W.cell? ⟨rb, d * 2, none⟩ = some (.int .i64 (f d)))) 7 hmx (by kernel_rfl) ?_ (fun hHeld => ?_)
    · exact HS8.out
    refine tkT 0 ⟨some 31, .load 3 (.tmp 7), 3, "board.go:122", #[], none⟩ ?_
    try simp only [Act.put, List.setIfInBounds_toArray, List.set_cons_zero, List.set_cons_succ]
    refine tkT 1 ⟨some 32, .load 86 (.tmp 5), 86, "board.go:122", #[], none⟩ ?_
    try simp only [Act.put, List.setIfInBounds_toArray, List.set_cons_zero, List.set_cons_succ]
    refine tkT 2 ⟨some 33, .move (.tmp 9), 3, "board.go:122", #[], none⟩ ?_
    try simp only [Act.put, List.setIfInBounds_toArray, List.set_cons_zero, List.set_cons_succ]
    refine tkT 3 ⟨some 34, .indexAddr 86 (.tmp 32) (.tmp 33), 0, "board.go:122", #[⟨1, .data⟩, ⟨2, .data⟩], none⟩ ?_
    try simp only [Act.put, List.setIfInBounds_toArray, List.set_cons_zero, List.set_cons_succ]
    refine tkT 4 ⟨some 35, .fieldAddr 92 (.tmp 34) 0, 0, "board.go:122", #[⟨3, .data⟩], none⟩ ?_
    try simp only [Act.put, List.setIfInBounds_toArray, List.set_cons_zero, List.set_cons_succ]
    refine tkT 5 ⟨some 36, .load 3 (.tmp 35), 3, "board.go:122", #[⟨4, .data⟩], none⟩ ?_
    try simp only [Act.put, List.setIfInBounds_toArray, List.set_cons_zero, List.set_cons_succ]
    refine tkT 6 ⟨some 37, .call { callee := Callee.builtin Builtin.min, args := #[.tmp 31, .tmp 36], argTypes := #[3, 3] }, 3, "board.go:122", #[⟨0, .data⟩, ⟨5, .data⟩], none⟩ ?_
    try simp only [Act.put, List.setIfInBounds_toArray, List.set_cons_zero, List.set_cons_succ]
    refine til_last (o := ⟨none, .store 3 (.tmp 7) (.tmp 37), 0, "board.go:122", #[⟨6, .data⟩, ⟨0, .phase⟩, ⟨1, .phase⟩, ⟨2, .phase⟩, ⟨3, .phase⟩, ⟨4, .phase⟩, ⟨5, .phase⟩, ⟨6, .phase⟩], none⟩) (by kernel_rfl) rfl (by kernel_rfl) (fun KK hK => ?_)
    go_simp
    obtain ⟨⟨q1, qf⟩, _, _⟩ := hHeld
    go_simp
    refine hK.out _ _ ?_
    clear hK KK
    try simp only [Act.put, List.setIfInBounds_toArray, List.set_cons_zero, List.set_cons_succ]
    unfold normQ
    dsimp only
    gi_wp2_with fail
    obtain ⟨⟨q1, qf⟩, _, _⟩ := HS8.out
    obtain ⟨e5, e6, e7, f7⟩ := HE.out
    have hO2 : Off (fun i => i = p5 + 1 + 1 + 1) W1 (W1.drew.setCell ⟨p5 + 1 + 1 + 1, 0, none⟩ (.int .i64 (min b (f d)))) := ((Off.refl (fun i => i = p5 + 1 + 1 + 1) W1).drew).setCell (p := ⟨p5 + 1 + 1 + 1, 0, none⟩) (.inr rfl) _
    have hs1 := HO1.out.size
    refine ⟨?_, ?_, ?_⟩
    · rw [HW1.out]
      have h9 := KeepsOthers.trans (KeepsOthers.setCell W ⟨p5 + 1, k, none⟩ (.bool q)) (KeepsOthers.setCell (W.setCell ⟨p5 + 1, k, none⟩ (.bool q)) ⟨p5 + 1 + 1 + 1, 0, none⟩ (.int .i64 (min b (f d))))
      exact KeepsOthers.from (⟨h9.1, h9.2⟩ : KeepsOthers W (World.drew ((W.setCell ⟨p5 + 1, k, none⟩ (.bool q)).setCell ⟨p5 + 1 + 1 + 1, 0, none⟩ (.int .i64 (min b (f d)))))) _
    · have hb0 := HBW0.out.size
      have hp5 := HP5.out
      exact (HO1.out.mono (fun i hi => by rw [hi]; exact ⟨by omega, by omega⟩)).trans (hO2.mono (fun i hi => by rw [hi]; exact ⟨by omega, by omega⟩))
    · have hp5 := HP5.out
      have hst : sgL f Lv (m : Int) (pre ++ [x]) = (fun i => if i = k then q else o i, min b (f d)) := by
        rw [HSN.out]
        unfold sgS
        refine Prod.ext ?_ ?_
        · show (fun i => if i = x.1 then decide (((x.1 : Nat) : Int) ≤ b) else o i) = _
          rw [← HKX.out, ← HQ.out]
        · show min b (f (Lv[x.1]'x.2).toNat) = _
          rw [← HYY.out, Int.toNat_natCast]
      dsimp only
      rw [hst]
      refine ⟨⟨⟨(hO2.cell (p := ⟨p5, 0, none⟩) (by show p5 < _; omega) (by show ¬ p5 = p5 + 1 + 1 + 1; omega)).trans e5, (hO2.cell (p := ⟨p5 + 1 + 1, 0, none⟩) (by show p5 + 1 + 1 < _; omega) (by show ¬ p5 + 1 + 1 = p5 + 1 + 1 + 1; omega)).trans e6⟩, ⟨World.cell?_setCell_same _ _ _ q1, (World.frozen?_setCell _ _ _ _).trans f7⟩, HR1.out.off hO2 (fun i hi e => by have := HRBB.out i hi; omega), HPUT.out.off hO2 (fun i hi e => by
        have e2 : p5 + 1 = i := by simpa [Value.ownBlock] using hi
        omega)⟩, ?_⟩
      exact (HBW.out.trans (HO1.out.below (fun i hi => by rw [hi]; omega) HBW.out.size)).trans (hO2.below (fun i hi => by rw [hi]; omega) (by have := HBW.out.size; omega))
  case done =>
    rintro D9 ys W hD9 rfl ⟨hA1, hB⟩ hK
    have hg := grownBy_putObj' W D9 (.deferred none)
    have hkp := hA1.kept hg (fun r e => by injection e with e; subst e; exact ⟨_, hK, rfl⟩)
    have hOD : Off (fun i => i = D9) W (W.putObj D9 (.deferred none)) := ⟨hg.os, hg.tape, hg.output, hg.size, fun i hi hz => hg.block i hi (fun e => hz (by injection e))⟩
    have HBD := Lib.hid (hB.trans (hOD.below (fun i hi => by have := HBW0.out.size; omega) hB.size))
    obtain ⟨o1, ho1⟩ : ∃ o1, o1 = (sgL f Lv (m : Int) (ixl Lv Lv.length)).1 := ⟨_, rfl⟩
    have hO1V : ∀ i, i < m → o1 i = decide ((i : Int) ≤ bkM f D L (i + 1)) := fun i hi => by
      have h := (sgL_is f D L (fun x hx => (HIN.out x hx).1) L.length (Nat.le_refl _)).2 i
      have hl : Lv.length = L.length := by rw [HLVL.out, HLN.out]
      rw [ho1]
      have e : sgL f Lv (m : Int) (ixl Lv Lv.length) = sgL f (L.map fun x => (D : Int) + x) (L.length : Int) (ixl (L.map fun x => (D : Int) + x) L.length) := by
        have h1 := HLVE.out
        subst h1
        rw [HLN.out]
        simp only [List.length_map, HLN.out]
      rw [e, h]
      have h9 : decide (L.length - L.length ≤ i ∧ i < L.length) = true := decide_eq_true (by have := HLN.out; omega)
      rw [h9, Bool.true_and]
    obtain ⟨⟨a0, a1⟩, _, h1, h2⟩ := hA1
    rw [← ho1] at h2
    have HO1V := Lib.hid hO1V
    have HA := Lib.hid (And.intro a0 (And.intro a1 (And.intro h1 h2)))
    have HKD := Lib.hid hK
    have HBW := Lib.hid hB
    have hsW : p5 + 5 ≤ W.heap.size := by
      have := HS0.out
      have := (Array.getElem?_eq_some_iff.1 hK).1
      omega
    clear ho1 hO1V a0 a1 h1 h2 hg hkp hOD hK hB HBD
    gi_wp2_with fail
    gi_loopw [10, 40] (fun zv jv wr => ∃ (j : Nat) (z : Int), zv = .int .i64 z ∧ jv = .int .i64 (j : Nat) ∧ j ≤ m ∧ Hid (z = onM g D L j) ∧ Hid (Row 1 (w.heap.size + 1) wr (.slice (some ⟨p5 + 1, 0, none⟩) m m) m (tbv (fun i => if i < j then sglB f g D L i else o1 i) m)) ∧ Hid (Off (fun i => i = p5 + 1) W wr)) (fun _ jv _ => m - (intOf jv).toNat)
    case atStart => exact ⟨0, -1, rfl, rfl, Nat.zero_le _, Lib.hid (onM_zero g D L).symm, Lib.hid (by rw [tbv_congr (g := o1) (fun i _ => by rw [if_neg (by omega)])]; exact HA.out.2.2.2), Lib.hid (Off.refl _ _)⟩
    case round =>
      obtain ⟨j, z, rfl, rfl, hj, HZ, HO, HOF⟩ := hrel
      have hsz9 := HOF.out.size
      have hp5 := HP5.out
      by_cases hlj : j < m
      · obtain ⟨i, hi⟩ : ∃ i, L[j]? = some i := ⟨L[j]'(by rw [HLN.out]; exact hlj), by simp⟩
        have hin := HIN.out i (List.mem_of_getElem? hi)
        obtain ⟨i0, rfl⟩ : ∃ i0 : Nat, i = (i0 : Int) := ⟨i.toNat, by omega⟩
        have HON := Lib.hid (onM_at (g := g) (D := D) hi)
        have hLj : Lv[j]? = some ((D + i0 : Nat) : Int) := by rw [HLVE.out, List.getElem?_map, hi]; simp
        obtain ⟨d, hd⟩ : ∃ d, d = D + i0 := ⟨_, rfl⟩
        rw [← hd] at hLj HON
        have hds : d < sz := by have := HSZ.out; omega
        have hdI : (d : Int) < (sz : Int) := by omega
        obtain ⟨vb, vo, rfl, hvb, hvc1, hvc2, cl⟩ := HLV2.out.at hLj
        have hBwr : Below w.heap.size w wr := HBW.out.trans (HOF.out.below (fun i hi => by rw [hi]; omega) HBW.out.size)
        have cl := (hBwr.cell (p := ⟨vb, _, none⟩) hvb).trans cl
        obtain ⟨c5, c6, h1, h2⟩ := HA.out
        have c5 := (HOF.out.cell (p := ⟨p5, 0, none⟩) (by show p5 < _; omega) (by show ¬ p5 = p5 + 1; omega)).trans c5
        have c6 := (HOF.out.cell (p := ⟨p5 + 1 + 1, 0, none⟩) (by show p5 + 1 + 1 < _; omega) (by show ¬ p5 + 1 + 1 = p5 + 1; omega)).trans c6
        have hr1 := h1.off HOF.out (fun i hi e => by have := HRBB.out i hi; omega)
        obtain ⟨rb, hra⟩ : ∃ rb, ra = some ⟨rb, 0, none⟩ := by
          obtain ⟨b', c', e, _⟩ := h1.pos (by omega)
          injection e with e
          exact ⟨b', e⟩
        subst hra
        obtain ⟨cg, _, _, hrbw, hszc, hszm⟩ := hr1.cellK (rcv_at f g hds).2
        have hrb := HRBB.out rb rfl
        obtain ⟨cs, fs, _, hsbw, _⟩ := HO.out.cellF (tbv_at (fun i => if i < j then sglB f g D L i else o1 i) hlj)
        rw [if_neg (by omega)] at cs
        have hsg : sglB f g D L j = (o1 j && decide (z ≤ (j : Int))) := by
          unfold sglB
          rw [HO1V.out j hlj, ← HZ.out]
        obtain ⟨z2, hz2⟩ : ∃ z2, z2 = max z (g d) := ⟨_, rfl⟩
        have HZ2 : Hid (z2 = onM g D L (j + 1)) := Lib.hid (by rw [HON.out, hz2, HZ.out])
        have hput := HO.out.put (j := j) (by rw [tbv_len]; exact hlj) (.bool (sglB f g D L j))
        rw [tbv_set (fun i => if i < j then sglB f g D L i else o1 i) (fun i => if i < j + 1 then sglB f g D L i else o1 i) hlj (sglB f g D L j) (fun i _ => by
          by_cases e : i = j
          · rw [if_pos e, if_pos (by omega), e]
          · rw [if_neg e]
            by_cases e2 : i < j
            · rw [if_pos e2, if_pos (by omega)]
            · rw [if_neg e2, if_neg (by omega)])] at hput
        have HPUT := Lib.hid hput
        have HOF9 := Lib.hid (HOF.out.setCell (p := ⟨p5 + 1, j, none⟩) (.inr rfl) (.bool (sglB f g D L j)))
        obtain ⟨q1, hq1⟩ : ∃ q1, q1 = o1 j := ⟨_, rfl⟩
        obtain ⟨q2, hq2⟩ : ∃ q2, q2 = decide (z ≤ (j : Int)) := ⟨_, rfl⟩
        rw [← hq1] at cs
        rw [← hq1, ← hq2] at hsg
        have hq2' := hq2.symm
        have HRX := Lib.hid hr1
        have HCELL := Lib.hid (And.intro c5 (And.intro c6 (And.intro cg (And.intro cs fs))))
        obtain ⟨q3, hq3⟩ : ∃ q3, q3 = sglB f g D L j := ⟨_, rfl⟩
        rw [← hq3] at hsg HPUT HOF9
        unfold maxLen at hvc2 hszm
        have hne : ¬ p5 = p5 + 1 := by omega
        have hne2 : ¬ rb = p5 + 1 := by omega
        have hjm : (j : Int) < (m : Int) := by omega
        have hS13 : Hid ((wr.drew.cell? ⟨p5 + 1 + 1, 0, none⟩ = some (.slice (some ⟨p5 + 1, 0, none⟩) m m)) ∧ wr.drew.cell? ⟨p5 + 1, j, none⟩ = some (.bool q1) ∧ wr.drew.frozen? ⟨p5 + 1, j, none⟩ = false) := Lib.hid ⟨c6, cs, fs⟩
        have hw5 : wr.drew.heap.size = wr.heap.size := rfl
        clear hi hin HON hLj hd h1 h2 hr1 hput hq1 hq2 hq3 hBwr
        cases q1 with
        | true =>
          rw [Bool.true_and] at hsg
          rw [hsg] at HPUT HOF9
          clear hsg
          gi_wp2_with fail
          refine wpIn_region_til (S := (fun W => (W.cell? ⟨p5 + 1 + 1, 0, none⟩ = some (.slice (some ⟨p5 + 1, 0, none⟩) m m)) ∧ W.cell? ⟨p5 + 1, j, none⟩ = some (.bool true) ∧ W.frozen? ⟨p5 + 1, j, none⟩ = false)) 12 hmx (by kernel_rfl) ?_ (fun hHeld => ?_)
          · exact hS13.out
          refine tkT 0 ⟨some 45, .load 55 (.tmp 6), 55, "board.go:126", #[], none⟩ ?_
          try simp only [Act.put, List.setIfInBounds_toArray, List.set_cons_zero, List.set_cons_succ]
          refine tkT 1 ⟨some 46, .move (.tmp 11), 3, "board.go:126", #[], none⟩ ?_
          try simp only [Act.put, List.setIfInBounds_toArray, List.set_cons_zero, List.set_cons_succ]
          refine tkT 2 ⟨some 47, .load 55 (.tmp 6), 55, "board.go:126", #[], none⟩ ?_
          try simp only [Act.put, List.setIfInBounds_toArray, List.set_cons_zero, List.set_cons_succ]
          refine tkT 3 ⟨some 48, .move (.tmp 11), 3, "board.go:126", #[], none⟩ ?_
          try simp only [Act.put, List.setIfInBounds_toArray, List.set_cons_zero, List.set_cons_succ]
          refine tkT 4 ⟨some 49, .indexAddr 55 (.tmp 47) (.tmp 48), 0, "board.go:126", #[⟨2, .data⟩, ⟨3, .data⟩], none⟩ ?_
          try simp only [Act.put, List.setIfInBounds_toArray, List.set_cons_zero, List.set_cons_succ]
          refine tkT 5 ⟨some 50, .load 4 (.tmp 49), 4, "board.go:126", #[⟨4, .data⟩], none⟩ ?_
          try simp only [Act.put, List.setIfInBounds_toArray, List.set_cons_zero, List.set_cons_succ]
          refine til_t 6 ⟨some 51, .move (.tmp 50), 4, "board.go:126", #[⟨5, .data⟩], none⟩ (v := .bool true) rfl (by kernel_rfl) (by kernel_rfl) (fun _ _ _ h => h) (by assumption) ?_ ?_
          · (intro w hSw; (try dsimp only at hSw); go_simp; try with_reducible rfl)
          try simp only [Act.put, List.setIfInBounds_toArray, List.set_cons_zero, List.set_cons_succ]
          refine tkT 7 ⟨some 52, .move (.tmp 10), 3, "board.go:126", #[⟨6, .guard⟩], some (6, true)⟩ ?_
          try simp only [Act.put, List.setIfInBounds_toArray, List.set_cons_zero, List.set_cons_succ]
          refine tkT 8 ⟨some 53, .move (.tmp 11), 3, "board.go:126", #[⟨6, .guard⟩], some (6, true)⟩ ?_
          try simp only [Act.put, List.setIfInBounds_toArray, List.set_cons_zero, List.set_cons_succ]
          refine tkT 9 ⟨some 54, .binOp BinOp.leq 3 (.tmp 52) (.tmp 53) 3, 4, "board.go:126", #[⟨7, .data⟩, ⟨8, .data⟩, ⟨6, .guard⟩], some (6, true)⟩ ?_
          try simp only [Act.put, List.setIfInBounds_toArray, List.set_cons_zero, List.set_cons_succ]
          refine tkT 10 ⟨some 55, .pick (.tmp 51) (.tmp 54) (.const (Value.bool false)), 4, "board.go:126", #[⟨6, .data⟩, ⟨9, .data⟩], none⟩ ?_
          try simp only [Act.put, List.setIfInBounds_toArray, List.set_cons_zero, List.set_cons_succ]
          refine tkT 11 ⟨some 56, .indexAddr 55 (.tmp 45) (.tmp 46), 0, "board.go:126", #[⟨0, .data⟩, ⟨1, .data⟩, ⟨0, .phase⟩, ⟨1, .phase⟩, ⟨2, .phase⟩, ⟨3, .phase⟩, ⟨4, .phase⟩, ⟨5, .phase⟩, ⟨6, .phase⟩, ⟨7, .phase⟩, ⟨8, .phase⟩, ⟨9, .phase⟩, ⟨10, .phase⟩], none⟩ ?_
          try simp only [Act.put, List.setIfInBounds_toArray, List.set_cons_zero, List.set_cons_succ]
          refine til_last (o := ⟨none, .store 4 (.tmp 56) (.tmp 55), 0, "board.go:126", #[⟨11, .data⟩, ⟨10, .data⟩, ⟨6, .chain⟩, ⟨0, .phase⟩, ⟨1, .phase⟩, ⟨2, .phase⟩, ⟨3, .phase⟩, ⟨4, .phase⟩, ⟨5, .phase⟩, ⟨6, .phase⟩, ⟨7, .phase⟩, ⟨8, .phase⟩, ⟨9, .phase⟩, ⟨10, .phase⟩], none⟩) (by kernel_rfl) rfl (by kernel_rfl) (fun KK hK => ?_)
          go_simp
          obtain ⟨_, q1, qf⟩ := hHeld
          go_simp
          refine hK.out _ _ ?_
          clear hK KK
          try simp only [Act.put, List.setIfInBounds_toArray, List.set_cons_zero, List.set_cons_succ]
          unfold normQ
          dsimp only
          obtain ⟨wy, hwy⟩ : ∃ wy, wy = wr.setCell ⟨p5 + 1, j, none⟩ (.bool q2) := ⟨_, rfl⟩
          have hOy : Off (fun i => i = p5 + 1) wr wy := by rw [hwy]; exact (Off.refl (fun i => i = p5 + 1) wr).setCell (p := ⟨p5 + 1, j, none⟩) (.inr rfl) _
          obtain ⟨g5, g6, gg, _⟩ := HCELL.out
          have g5 := (hOy.cell (p := ⟨p5, 0, none⟩) (by show p5 < _; omega) hne).trans g5
          have gg := (hOy.cell (p := ⟨rb, d * 2 + 1, none⟩) (by show rb < _; omega) hne2).trans gg
          rw [← hwy] at HPUT HOF9 ⊢
          have hz3 : max z (g d) = z2 := hz2.symm
          clear hwy hOy g6
          gi_wp2_with fail
          refine wpIn_max2 rfl rfl rfl ?_
          have HZ3 := Lib.hid hz3
          clear hz3
          gi_wp2_with fail
          exact ⟨⟨j + 1, z2, by rw [HZ3.out], by go_num, by omega, HZ2, Lib.hid HPUT.out.drew, Lib.hid HOF9.out.drew⟩, by simp [intOf]; omega⟩
        | false =>
          rw [Bool.false_and] at hsg
          rw [hsg] at HPUT HOF9
          clear hsg
          gi_wp2_with fail
          refine wpIn_region_til (S := (fun W => (W.cell? ⟨p5 + 1 + 1, 0, none⟩ = some (.slice (some ⟨p5 + 1, 0, none⟩) m m)) ∧ W.cell? ⟨p5 + 1, j, none⟩ = some (.bool false) ∧ W.frozen? ⟨p5 + 1, j, none⟩ = false)) 12 hmx (by kernel_rfl) ?_ (fun hHeld => ?_)
          · exact hS13.out
          refine tkT 0 ⟨some 45, .load 55 (.tmp 6), 55, "board.go:126", #[], none⟩ ?_
          try simp only [Act.put, List.setIfInBounds_toArray, List.set_cons_zero, List.set_cons_succ]
          refine tkT 1 ⟨some 46, .move (.tmp 11), 3, "board.go:126", #[], none⟩ ?_
          try simp only [Act.put, List.setIfInBounds_toArray, List.set_cons_zero, List.set_cons_succ]
          refine tkT 2 ⟨some 47, .load 55 (.tmp 6), 55, "board.go:126", #[], none⟩ ?_
          try simp only [Act.put, List.setIfInBounds_toArray, List.set_cons_zero, List.set_cons_succ]
          refine tkT 3 ⟨some 48, .move (.tmp 11), 3, "board.go:126", #[], none⟩ ?_
          try simp only [Act.put, List.setIfInBounds_toArray, List.set_cons_zero, List.set_cons_succ]
          refine tkT 4 ⟨some 49, .indexAddr 55 (.tmp 47) (.tmp 48), 0, "board.go:126", #[⟨2, .data⟩, ⟨3, .data⟩], none⟩ ?_
          try simp only [Act.put, List.setIfInBounds_toArray, List.set_cons_zero, List.set_cons_succ]
          refine tkT 5 ⟨some 50, .load 4 (.tmp 49), 4, "board.go:126", #[⟨4, .data⟩], none⟩ ?_
          try simp only [Act.put, List.setIfInBounds_toArray, List.set_cons_zero, List.set_cons_succ]
          refine til_t 6 ⟨some 51, .move (.tmp 50), 4, "board.go:126", #[⟨5, .data⟩], none⟩ (v := .bool false) rfl (by kernel_rfl) (by kernel_rfl) (fun _ _ _ h => h) (by assumption) ?_ ?_
          · (intro w hSw; (try dsimp only at hSw); go_simp; try with_reducible rfl)
          try simp only [Act.put, List.setIfInBounds_toArray, List.set_cons_zero, List.set_cons_succ]
          refine til_s 7 ⟨some 52, .move (.tmp 10), 3, "board.go:126", #[⟨6, .guard⟩], some (6, true)⟩ rfl (by kernel_rfl) (by kernel_rfl) (fun _ _ _ h => h) (by assumption) ?_
          try simp only [Act.put, List.setIfInBounds_toArray, List.set_cons_zero, List.set_cons_succ]
          refine til_s 8 ⟨some 53, .move (.tmp 11), 3, "board.go:126", #[⟨6, .guard⟩], some (6, true)⟩ rfl (by kernel_rfl) (by kernel_rfl) (fun _ _ _ h => h) (by assumption) ?_
          try simp only [Act.put, List.setIfInBounds_toArray, List.set_cons_zero, List.set_cons_succ]
          refine til_s 9 ⟨some 54, .binOp BinOp.leq 3 (.tmp 52) (.tmp 53) 3, 4, "board.go:126", #[⟨7, .data⟩, ⟨8, .data⟩, ⟨6, .guard⟩], some (6, true)⟩ rfl (by kernel_rfl) (by kernel_rfl) (fun _ _ _ h => h) (by assumption) ?_
          try simp only [Act.put, List.setIfInBounds_toArray, List.set_cons_zero, List.set_cons_succ]
          refine tkT 10 ⟨some 55, .pick (.tmp 51) (.tmp 54) (.const (Value.bool false)), 4, "board.go:126", #[⟨6, .data⟩, ⟨9, .data⟩], none⟩ ?_
          try simp only [Act.put, List.setIfInBounds_toArray, List.set_cons_zero, List.set_cons_succ]
          refine tkT 11 ⟨some 56, .indexAddr 55 (.tmp 45) (.tmp 46), 0, "board.go:126", #[⟨0, .data⟩, ⟨1, .data⟩, ⟨0, .phase⟩, ⟨1, .phase⟩, ⟨2, .phase⟩, ⟨3, .phase⟩, ⟨4, .phase⟩, ⟨5, .phase⟩, ⟨6, .phase⟩, ⟨7, .phase⟩, ⟨8, .phase⟩, ⟨9, .phase⟩, ⟨10, .phase⟩], none⟩ ?_
          try simp only [Act.put, List.setIfInBounds_toArray, List.set_cons_zero, List.set_cons_succ]
          refine til_last (o := ⟨none, .store 4 (.tmp 56) (.tmp 55), 0, "board.go:126", #[⟨11, .data⟩, ⟨10, .data⟩, ⟨6, .chain⟩, ⟨0, .phase⟩, ⟨1, .phase⟩, ⟨2, .phase⟩, ⟨3, .phase⟩, ⟨4, .phase⟩, ⟨5, .phase⟩, ⟨6, .phase⟩, ⟨7, .phase⟩, ⟨8, .phase⟩, ⟨9, .phase⟩, ⟨10, .phase⟩], none⟩) (by kernel_rfl) rfl (by kernel_rfl) (fun KK hK => ?_)
          go_simp
          obtain ⟨_, q1, qf⟩ := hHeld
          go_simp
          refine hK.out _ _ ?_
          clear hK KK
          try simp only [Act.put, List.setIfInBounds_toArray, List.set_cons_zero, List.set_cons_succ]
          unfold normQ
          dsimp only
          obtain ⟨wy, hwy⟩ : ∃ wy, wy = wr.setCell ⟨p5 + 1, j, none⟩ (.bool false) := ⟨_, rfl⟩
          have hOy : Off (fun i => i = p5 + 1) wr wy := by rw [hwy]; exact (Off.refl (fun i => i = p5 + 1) wr).setCell (p := ⟨p5 + 1, j, none⟩) (.inr rfl) _
          obtain ⟨g5, g6, gg, _⟩ := HCELL.out
          have g5 := (hOy.cell (p := ⟨p5, 0, none⟩) (by show p5 < _; omega) hne).trans g5
          have gg := (hOy.cell (p := ⟨rb, d * 2 + 1, none⟩) (by show rb < _; omega) hne2).trans gg
          rw [← hwy] at HPUT HOF9 ⊢
          have hz3 : max z (g d) = z2 := hz2.symm
          clear hwy hOy g6
          gi_wp2_with fail
          refine wpIn_max2 rfl rfl rfl ?_
          have HZ3 := Lib.hid hz3
          clear hz3
          gi_wp2_with fail
          exact ⟨⟨j + 1, z2, by rw [HZ3.out], by go_num, by omega, HZ2, Lib.hid HPUT.out.drew, Lib.hid HOF9.out.drew⟩, by simp [intOf]; omega⟩
      · have hje : m = j := by omega
        have hdw : D9 < W.heap.size := (Array.getElem?_eq_some_iff.1 HKD.out).1
        have hKr : wr.heap[D9]? = some (.deferred (some [])) := (HOF.out.block D9 hdw (by have := HS0.out; omega)).trans HKD.out
        have hg := grownBy_putObj' wr D9 (.deferred none)
        have hOD : Off (fun i => i = D9) wr (wr.putObj D9 (.deferred none)) := ⟨hg.os, hg.tape, hg.output, hg.size, fun i hi hz => hg.block i hi (fun e => hz (by injection e))⟩
        have hrow9 : Row 1 w.heap.size (wr.putObj D9 (.deferred none)) (.slice (some ⟨p5 + 1, 0, none⟩) m m) m (tbv (sglB f g D L) m) := by
          have h := (HO.out.off hOD (fun i hi e => by
            have e2 : p5 + 1 = i := by simpa [Value.ownBlock] using hi
            have := HS0.out
            omega)).mono (Nat.le_succ _)
          rw [tbv_congr (g := sglB f g D L) (fun i hi => by rw [if_pos (by omega)])] at h
          exact h
        have HR9 := Lib.hid hrow9
        have HB9 := Lib.hid ((HBW.out.trans (HOF.out.below (fun i hi => by rw [hi]; omega) HBW.out.size)).trans (hOD.below (fun i hi => by rw [hi]; have := HS0.out; omega) (by have := HBW.out.size; omega)))
        obtain ⟨_, c6, _⟩ := HA.out
        have c6 := (HOF.out.cell (p := ⟨p5 + 1 + 1, 0, none⟩) (by show p5 + 1 + 1 < _; omega) (by show ¬ p5 + 1 + 1 = p5 + 1; omega)).trans c6
        have HKR := Lib.hid hKr
        subst hje
        clear hrow9 hOD hg hKr HO HZ
        gi_wp2_with fail
        refine ⟨by simp, .inl ⟨_, _, rfl, run_takeDeferred HKR.out, ?_⟩⟩
        refine ⟨_, results_tmp rfl _ _ _, ?_⟩
        exact ⟨_, f, g, rfl, HR9.out, HP.out, HB9.out⟩
  case stop =>
    rintro D c pre W _ _ h _
    exact h.elim
end Go.Proofs.YtfpepoebammeoaaGreat
