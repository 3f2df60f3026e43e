/- The contract of the program's Write. The contract of List; values that read as forms. -/
import Derived.Deep.RegionHeld3
import Derived.Deep.DrawnRows
import Derived.Lib.ItoaLen
import Derived.Test.YthamfbfeokmhgaaGreatDoorU20
import Derived.Test.YthamfbfeokmhgaaGreatDoorU24
import Derived.Test.YthamfbfeokmhgaaGreatDoorU25
set_option linter.unusedVariables false
namespace Go.Proofs.YthamfbfeokmhgaaGreatDoor
open Go.ChangeShapes Go.WideShapes Go.ChangeAt Go.RowKit

theorem row_string {B n : Nat} {P : Program} {w : World} {v : Value} {l : List UInt8} (h : Row 1 B w v n (bcs l)) (src dst e : TypeId) (hs : P.underlying src = some (.slice e)) (he : P.underlying e = some (.int .u8)) (hd : P.underlying dst = some .string) :
    (convert src dst v).run P w = .ok (.string (tx l)) w := by
  obtain ⟨h0, ⟨rfl, rfl⟩ | ⟨b, cap, rfl, h2, h3, h4, h5, h6, h7⟩⟩ := h
  · have : l = [] := by
      have := h0
      rw [bcs_len] at this
      exact List.length_eq_zero_iff.1 (by omega)
    subst this
    rw [run_convert_bytes_string w src dst e none 0 0 hs he hd]
    rfl
  · have hn : n = l.length := by rw [bcs_len] at h0; omega
    subst hn
    refine run_convert_bytes_back w src dst e ⟨b, 0, none⟩ cap l hs he hd (fun j hj => ?_)
    have e2 : (⟨b, 0, none⟩ : Addr).add j = ⟨b, j, none⟩ := by unfold Addr.add; split <;> simp_all
    rw [e2]
    refine h7 j _ ?_
    rw [bcs, List.getElem?_map, List.getElem?_eq_getElem hj]
    rfl

abbrev errW (k : Int) : Value := .iface 55 (.int .i64 k)

def SoundP (P : Bool → Prop) (w : World) (e : Ending) (w' : World) : Prop := ∃ r : Bool, e = .returned (.bool r) ∧ P r ∧ Below w.heap.size w w'

def WriteP (T : Tm) (P : Bool → Prop) (w : World) (e : Ending) (w' : World) : Prop :=
  Below w.heap.size w w' ∧ ((CanW 0 [] T ∧ e = .returned (.tuple #[.string (tx T.bytes), .nilIface])) ∨ (¬ CanW 0 [] T ∧ ∃ r : Bool, P r ∧ e = .returned (.tuple #[.string ⟨#[]⟩, errW (if r then 2 else 1)])))

set_option maxHeartbeats 2000000 in
set_option maxRecDepth 100000 in
theorem write_any (l : Bool) (t : ByteArray) (ys : List Tm) (Z : Nat → Prop) (P : Bool → Prop) (w : World) (a : Option Addr) (c : Nat) (hsl : SlL Z w (.slice a ys.length c) ys) (hts : t.size ≤ 140737488355328) (hz : ∀ i, Z i → i < w.heap.size) (htab : HasTab w)
    (hsound : ¬ CanW 0 [] (.mk l t ys) → ∀ wz, Below w.heap.size w wz → Calls Tryz.prog 72 #[fv l t (.slice a ys.length c)] wz (SoundP P wz)) :
    Calls Tryz.prog 50 #[fv l t (.slice a ys.length c)] w (WriteP (.mk l t ys) P w) := by
  obtain ⟨n, hn⟩ : ∃ n, n = ys.length := ⟨_, rfl⟩
  have hlt := htab.lt
  have hc : Calls Tryz.prog 71 #[.pointer (some ⟨w.heap.size + 1, 0, none⟩), fv l t (.slice a n c), .int .i64 0] ((w.alloc (.cells #[.bool l, .string t, .slice a n c] 101)).alloc (.cells #[.slice none 0 0] 147)) (FormP (.mk l t ys) (w.heap.size + 1) (.slice none 0 0) [] 0 ((w.alloc (.cells #[.bool l, .string t, .slice a n c] 101)).alloc (.cells #[.slice none 0 0] 147))) := by
    have hb : ∀ o1 o2, Below w.heap.size w ((w.alloc o1).alloc o2) := fun o1 o2 => ((Below.refl _ _).alloc (Nat.le_refl _) _).alloc (by simp) _
    rw [hn]
    refine wform_any _ l t ys rfl Z _ a c (w.heap.size + 1) (.slice none 0 0) [] 0 (hsl.keep (hb _ _)) hts (fun i hi => by have := hz i hi; omega) ⟨Row.nil _ _ _, ?_, ?_, by simp⟩ (htab.below (hb _ _)) (by omega) (by omega)
    · exact (World.cell?_alloc_at _ _ _ _ (by simp)).trans rfl
    · exact World.frozen?_alloc_at _ _ _ _ (by simp)
  rw [← hn] at hsound ⊢
  have HC := Lib.hid hc
  have HS := Lib.hid hsound
  clear hc hsound hsl htab hn hz
  go_enter Tryz.func50, Tryz.ntmps50
  go_wp2_with fail
  refine HC.out.mono ?_
  rintro e w1 ⟨r, v', out', rfl, hw, ho, hy, hn⟩
  have hoff : Off (· = w.heap.size + 1) ((w.alloc (.cells #[.bool l, .string t, .slice a n c] 101)).alloc (.cells #[.slice none 0 0] 147)) w1 := ho.off.mono fun i h => by
    rcases h with h | h
    · exact h
    · cases h
  have hlt2 : w.heap.size < ((w.alloc (.cells #[.bool l, .string t, .slice a n c] 101)).alloc (.cells #[.slice none 0 0] 147)).heap.size := by simp; omega
  have hbx : ((w.alloc (.cells #[.bool l, .string t, .slice a n c] 101)).alloc (.cells #[.slice none 0 0] 147)).heap[w.heap.size]? = (w.alloc (.cells #[.bool l, .string t, .slice a n c] 101)).heap[w.heap.size]? := Below.heap_alloc _ _ _ (by simp)
  have hcell : ∀ j, w1.cell? ⟨w.heap.size, j, none⟩ = #[.bool l, .string t, .slice a n c][j]? := fun j => (hoff.cell (p := ⟨w.heap.size, j, none⟩) hlt2 (by show ¬ w.heap.size = _; omega)).trans ((World.cell?_of_block (a := ⟨w.heap.size, j, none⟩) hbx).trans (World.cell?_alloc_at _ _ _ _ rfl))
  have k1 : w1.cell? ⟨w.heap.size, 0, none⟩ = some (.bool l) := hcell 0
  have k2 : w1.cell? ⟨w.heap.size, 1, none⟩ = some (.string t) := hcell 1
  have k3 : w1.cell? ⟨w.heap.size, 2, none⟩ = some (.slice a n c) := hcell 2
  have hb : Below w.heap.size w w1 := (((Below.refl _ _).alloc (Nat.le_refl _) _).alloc (by simp) _).trans (hoff.below (fun i hi => by omega) (by simp; omega))
  have hst := row_string hw.row 79 9 5 Tryz.underlying79 Tryz.underlying5 Tryz.underlying9
  have k4 := hw.cell
  have HB := Lib.hid hb
  have HY := Lib.hid hy
  have HN := Lib.hid hn
  clear hw ho hoff hlt2 hbx hcell hb hy hn
  cases r with
  | true =>
    obtain ⟨h1, h2⟩ := HY.out rfl
    have hw2 : out' = (Tm.mk l t ys).bytes := by rw [h2]; rfl
    rw [hw2] at hst
    obtain ⟨X, hX⟩ : ∃ X, X = (Tm.mk l t ys).bytes := ⟨_, rfl⟩
    rw [← hX] at hst
    have HX := Lib.hid hX
    have H1 := Lib.hid h1
    clear h1 h2 hw2 hX HY HN
    go_wp2_with fail
    go_ret2
    exact ⟨HB.out, .inl ⟨H1.out, by rw [← HX.out]; rfl⟩⟩
  | false =>
    have hno := HN.out rfl
    have HNO := Lib.hid hno
    clear hno HY HN hst k4
    go_wp2_with fail
    refine (HS.out HNO.out _ HB.out).mono ?_
    rintro e w2 ⟨q, rfl, hq, hb2⟩
    have HQ := Lib.hid hq
    have HB2 := Lib.hid (HB.out.trans (hb2.mono HB.out.size))
    clear hq hb2
    cases q with
    | true =>
      go_wp2_with fail
      go_ret2
      exact ⟨HB2.out, .inr ⟨HNO.out, true, HQ.out, rfl⟩⟩
    | false =>
      go_wp2_with fail
      go_ret2
      exact ⟨HB2.out, .inr ⟨HNO.out, false, HQ.out, rfl⟩⟩
end Go.Proofs.YthamfbfeokmhgaaGreatDoor
set_option linter.unusedVariables false
namespace Go.Proofs.YthamfbfeokmhgaaGreatDoor
open Go.ChangeShapes Go.WideShapes Go.ChangeAt Go.RowKit
open Go.Lib (itoa)

attribute [local go_sem ↓] Go.wp_at_zero Go.wp_at_succ

def ListZ (Z : Nat → Prop) (xs : List Tm) (w : World) (e : Ending) (w' : World) : Prop :=
  ∃ a n c, e = .returned (fv true noText (.slice a n c)) ∧ n = xs.length ∧ Below w.heap.size w w' ∧ SlU Z w' (.slice a n c) xs

set_option maxHeartbeats 1000000 in
set_option maxRecDepth 100000 in
theorem list_any (Z : Nat → Prop) (lv : Value) (xs : List Tm) (w : World) (hsl : SlU Z w lv xs) (hzn : ∀ i, w.heap.size ≤ i → Z i) (hn : xs.length ≤ 65536) :
    Calls Tryz.prog 49 #[lv] w (ListZ Z xs w) := by
  obtain ⟨a0, c0, rfl, _, _⟩ := hsl.form
  obtain ⟨n, hnn⟩ : ∃ n, n = xs.length := ⟨_, rfl⟩
  obtain ⟨W, hW⟩ : ∃ W, W = (w.alloc (.cells #[.bool false, .string ⟨#[]⟩, .slice none 0 0] 101)).alloc (.cells #[.int .i64 65536] 3) := ⟨_, rfl⟩
  have eW : W.heap.size = w.heap.size + 2 := by rw [hW]; simp
  have hc1 : W.cell? ⟨w.heap.size + 1, 0, none⟩ = some (.int .i64 ((65536 : Nat) : Int)) := by rw [hW]; exact (World.cell?_alloc_at _ _ _ _ (by simp)).trans rfl
  have hf1 : W.frozen? ⟨w.heap.size + 1, 0, none⟩ = false := by rw [hW]; exact World.frozen?_alloc_at _ _ _ _ (by simp)
  have hs1 : SlU (fun i => Z i ∧ i ≠ w.heap.size ∧ i ≠ w.heap.size + 1) W (.slice a0 xs.length c0) xs := by
    rw [hW]
    exact ((hsl.mono (Z' := fun i => Z i ∧ i ≠ w.heap.size ∧ i ≠ w.heap.size + 1) (fun i hi hz => ⟨hz, by omega, by omega⟩)).alloc _).alloc _
  have hown := own_any 7 1 (by omega)
  unfold OwnC at hown
  have hc := hown (fun i => Z i ∧ i ≠ w.heap.size ∧ i ≠ w.heap.size + 1) (w.heap.size + 1) W a0 c0 xs 65536 hs1 (fun i hi => by
    rw [eW] at hi
    exact ⟨hzn i (by omega), by omega, by omega⟩) (fun h => h.2.2 rfl) hc1 hf1 hn (Nat.le_refl _)
  clear hown hc1 hf1 hs1 eW
  rw [hW, ← hnn] at hc
  clear hW
  rw [← hnn] at hsl hn ⊢
  have HC := Lib.hid hc
  have HN := Lib.hid hnn
  clear hc hsl hnn
  go_enter Tryz.func49, Tryz.ntmps49
  go_wp2_with fail
  refine HC.out.mono ?_
  rintro e w3 h3
  unfold OwnZ at h3
  obtain ⟨v, es', rfl, hmap, hmd, hoff, hlx, hfx⟩ := h3
  clear hlx hfx
  obtain ⟨⟨z1, z2, z3⟩, zf, zl, zb⟩ := two_off hoff
  have zf0 := zf 0
  have zf1 := zf 1
  have zf2 := zf 2
  have zl2 : w.heap.size < w3.heap.size := by omega
  have hsl := hmd.sl
  rw [hmap] at hsl
  obtain ⟨a, c, hv, hle, hcm⟩ := hsl.form
  rw [← HN.out] at hv
  subst hv
  have HZB := Lib.hid zb
  have HSL := Lib.hid hsl
  clear hmap hmd hoff zf zb hsl hle hcm
  go_wp2_with fail
  refine bodyPost_ret (v := fv true noText (.slice a n c)) (by simp [results, Tryz.results49, go_sem, z1, z2, z3]) rfl ⟨a, n, c, rfl, HN.out, set3_below HZB.out _ _ _, ?_⟩
  have hfo : Off (fun i => i = w.heap.size) w3 (((w3.setCell ⟨w.heap.size, 0, none⟩ (.bool true)).setCell ⟨w.heap.size, 1, none⟩ (.string ⟨#[]⟩)).setCell ⟨w.heap.size, 2, none⟩ (.slice a n c)) :=
    (((Off.refl (fun i => i = w.heap.size) w3).setCell (p := ⟨w.heap.size, 0, none⟩) (.inr rfl) _).setCell (p := ⟨w.heap.size, 1, none⟩) (.inr rfl) _).setCell (p := ⟨w.heap.size, 2, none⟩) (.inr rfl) _
  exact (HSL.out.off hfo fun i hi e => hi.2.1 e).mono fun i _ hi => hi.1

def IsV (Z : Nat → Prop) (w : World) (v : Value) (T : Tm) : Prop := ∃ l t ys a n c, v = fv l t (.slice a n c) ∧ n = ys.length ∧ T = .mk l t ys ∧ t.size ≤ 140737488355328 ∧ SlU Z w (.slice a n c) ys
theorem IsV.keep {Z : Nat → Prop} {w w' : World} {v : Value} {T : Tm} (h : IsV Z w v T) (hb : Below w.heap.size w w') : IsV Z w' v T := by
  obtain ⟨l, t, ys, a, n, c, h1, h2, h3, h4, h5⟩ := h
  exact ⟨l, t, ys, a, n, c, h1, h2, h3, h4, h5.keep hb⟩
theorem lit_sl {es : List FE} (Z : Nat → Prop) (w : World) (c : Nat) (hz : Z w.heap.size) (hc : c = es.length) (hm : es.length ≤ 1000) (hs : ∀ p ∈ es, p.2.1.size ≤ 140737488355328 ∧ SlU Z w p.2.2.2 p.2.2.1) (t : TypeId) :
    SlU Z (w.alloc (.cells (fcells es).toArray t)) (.slice (some ⟨w.heap.size, 0, none⟩) c c) (es.map FE.tm) := by
  subst hc
  by_cases e : es = []
  · subst e; exact .nil _ _ (Nat.zero_le _)
  · have hcell : ∀ j, (w.alloc (.cells (fcells es).toArray t)).cell? ⟨w.heap.size, j, none⟩ = (fcells es)[j]? := fun j => by
      rw [World.cell?_alloc_at _ _ _ _ rfl]; simp
    have := SlU.of_row (Z := Z) (w := w.alloc (.cells (fcells es).toArray t)) (b := w.heap.size) (o := 0) (c := es.length) (xs := es.map FE.tm) ⟨⟨hz, World.frozen?_alloc_at _ _ _ _ rfl⟩, by simp, fun j l t' ys hj => by
      rw [List.getElem?_map] at hj
      obtain ⟨p, hp, hpe⟩ := Option.map_eq_some_iff.1 hj
      obtain ⟨l', t'', ys', s'⟩ := p
      injection hpe with e1 e2 e3
      dsimp only at e1 e2 e3
      subst e1; subst e2; subst e3
      obtain ⟨c1, c2, c3⟩ := fcells_at hp
      obtain ⟨g1, g2⟩ := hs _ (List.mem_of_getElem? hp)
      have g3 := g2.alloc (.cells (fcells es).toArray t)
      obtain ⟨a', c', es', _, _⟩ := g3.form
      dsimp only at es'
      rw [Nat.zero_add, hcell, hcell, hcell]
      refine ⟨a', c', c1, c2, ?_, g1, ?_⟩
      · rw [← es']; exact c3
      · rw [← es']; exact g3⟩ (by simpa using e) (by rw [List.length_map]; exact Nat.le_refl _) (by unfold maxLen; omega)
    rw [List.length_map] at this
    exact this
end Go.Proofs.YthamfbfeokmhgaaGreatDoor
