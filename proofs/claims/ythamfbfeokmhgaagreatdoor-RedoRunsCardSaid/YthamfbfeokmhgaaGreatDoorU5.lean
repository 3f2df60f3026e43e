/- Forms in memory: a slice value reads as a list of forms. The contract of the reader's next. -/
import Derived.Test.YthamfbfeokmhgaaGreatDoorU2
import Derived.Test.YthamfbfeokmhgaaGreatDoorU4
set_option linter.unusedVariables false
namespace Go.Proofs.YthamfbfeokmhgaaGreatDoor
open Go.ChangeShapes Go.WideShapes Go.ChangeAt Go.RowKit

inductive SlL (Z : Nat → Prop) (w : World) : Value → List Tm → Prop
  | nil (a : Option Addr) (c : Nat) : c ≤ maxLen → SlL Z w (.slice a 0 c) []
  | row (b o c : Nat) (xs : List Tm) (S : Nat → Value) : xs ≠ [] → Z b → xs.length ≤ c → c ≤ maxLen →
      (∀ j l t ys, xs[j]? = some (.mk l t ys) → w.cell? ⟨b, o + j * 3, none⟩ = some (.bool l) ∧ w.cell? ⟨b, o + j * 3 + 1, none⟩ = some (.string t) ∧ w.cell? ⟨b, o + j * 3 + 2, none⟩ = some (S j) ∧ t.size ≤ 140737488355328) →
      (∀ j l t ys, xs[j]? = some (.mk l t ys) → SlL Z w (S j) ys) → SlL Z w (.slice (some ⟨b, o, none⟩) xs.length c) xs

theorem SlL.form {Z : Nat → Prop} {w : World} {v : Value} {xs : List Tm} (h : SlL Z w v xs) : ∃ a c, v = .slice a xs.length c ∧ xs.length ≤ c ∧ c ≤ maxLen := by
  cases h with
  | nil a c hc => exact ⟨a, c, rfl, Nat.zero_le _, hc⟩
  | row b o c xs S h1 h2 h3 h4 h5 h6 => exact ⟨_, c, rfl, h3, h4⟩

def FRow (Z : Nat → Prop) (w : World) (b o : Nat) (xs : List Tm) : Prop :=
  Z b ∧ b < w.heap.size ∧ ∀ j l t ys, xs[j]? = some (.mk l t ys) → ∃ a c, w.cell? ⟨b, o + j * 3, none⟩ = some (.bool l) ∧ w.cell? ⟨b, o + j * 3 + 1, none⟩ = some (.string t) ∧ w.cell? ⟨b, o + j * 3 + 2, none⟩ = some (.slice a ys.length c) ∧
    t.size ≤ 140737488355328 ∧ SlL Z w (.slice a ys.length c) ys

theorem SlL.pos {Z : Nat → Prop} {w : World} {v : Value} {xs : List Tm} (h : SlL Z w v xs) (hne : xs ≠ []) : ∃ b o c, v = .slice (some ⟨b, o, none⟩) xs.length c ∧ xs.length ≤ c ∧ c ≤ maxLen ∧ FRow Z w b o xs := by
  cases h with
  | nil a c => exact absurd rfl hne
  | row b o c xs S h1 h2 h3 h4 h5 h6 =>
    refine ⟨b, o, c, rfl, h3, h4, h2, ?_, fun j l t ys hj => ?_⟩
    · obtain ⟨⟨l, t, ys⟩, r, rfl⟩ := List.exists_cons_of_ne_nil h1
      exact cell_lt (h5 0 l t ys rfl).1
    · obtain ⟨c1, c2, c3, c4⟩ := h5 j l t ys hj
      have hs := h6 j l t ys hj
      obtain ⟨a, c', e, _, _⟩ := hs.form
      rw [e] at c3 hs
      exact ⟨a, c', c1, c2, c3, c4, hs⟩

theorem SlL.of_row {Z : Nat → Prop} {w : World} {b o c : Nat} {xs : List Tm} (h : FRow Z w b o xs) (hne : xs ≠ []) (hc : xs.length ≤ c) (hm : c ≤ maxLen) : SlL Z w (.slice (some ⟨b, o, none⟩) xs.length c) xs := by
  obtain ⟨h1, h2, h3⟩ := h
  have hS : ∀ j, ∃ v, ∀ l t ys, xs[j]? = some (.mk l t ys) → w.cell? ⟨b, o + j * 3, none⟩ = some (.bool l) ∧ w.cell? ⟨b, o + j * 3 + 1, none⟩ = some (.string t) ∧ w.cell? ⟨b, o + j * 3 + 2, none⟩ = some v ∧ t.size ≤ 140737488355328 ∧ SlL Z w v ys := by
    intro j
    cases e : xs[j]? with
    | none => exact ⟨.nilIface, fun _ _ _ h => by cases h⟩
    | some x =>
      obtain ⟨l, t, ys⟩ := x
      obtain ⟨a, c', k⟩ := h3 j l t ys e
      refine ⟨.slice a ys.length c', fun l' t' ys' h => ?_⟩
      cases h
      exact k
  obtain ⟨S, hS⟩ := Classical.axiomOfChoice hS
  exact .row b o c xs S hne h1 hc hm (fun j l t ys hj => by obtain ⟨a1, a2, a3, a4, _⟩ := hS j l t ys hj; exact ⟨a1, a2, a3, a4⟩) (fun j l t ys hj => (hS j l t ys hj).2.2.2.2)

theorem SlL.carry {Z Z' : Nat → Prop} {w w' : World} {v : Value} {xs : List Tm} (h : SlL Z w v xs) (hb : ∀ i, i < w.heap.size → Z i → w'.heap[i]? = w.heap[i]? ∧ Z' i) : SlL Z' w' v xs := by
  induction h with
  | nil a c hc => exact .nil a c hc
  | row b o c xs S h1 h2 h3 h4 h5 h6 ih =>
    have hlt : b < w.heap.size := by
      obtain ⟨⟨l, t, ys⟩, r, rfl⟩ := List.exists_cons_of_ne_nil h1
      exact cell_lt (h5 0 l t ys rfl).1
    obtain ⟨e, hz⟩ := hb b hlt h2
    refine .row b o c xs S h1 hz h3 h4 (fun j l t ys hj => ?_) (fun j l t ys hj => ih j l t ys hj)
    obtain ⟨a1, a2, a3, a4⟩ := h5 j l t ys hj
    exact ⟨(World.cell?_of_block (w := w) (a := ⟨b, o + j * 3, none⟩) e).trans a1, (World.cell?_of_block (w := w) (a := ⟨b, o + j * 3 + 1, none⟩) e).trans a2, (World.cell?_of_block (w := w) (a := ⟨b, o + j * 3 + 2, none⟩) e).trans a3, a4⟩

theorem SlL.keep {Z : Nat → Prop} {w w' : World} {v : Value} {xs : List Tm} (h : SlL Z w v xs) (hb : Below w.heap.size w w') : SlL Z w' v xs := h.carry fun i hi hz => ⟨hb.block i hi, hz⟩
theorem SlL.belowB {B : Nat} {w w' : World} {v : Value} {xs : List Tm} (h : SlL (· < B) w v xs) (hb : Below B w w') : SlL (· < B) w' v xs := h.carry fun i hi hz => ⟨hb.block i hz, hz⟩
theorem SlL.off {Z Y : Nat → Prop} {w w' : World} {v : Value} {xs : List Tm} (h : SlL Z w v xs) (ho : Off Y w w') (hz : ∀ i, Z i → ¬ Y i) : SlL Z w' v xs := h.carry fun i hi h => ⟨ho.block i hi (hz i h), h⟩
theorem SlL.mono {Z Z' : Nat → Prop} {w : World} {v : Value} {xs : List Tm} (h : SlL Z w v xs) (hz : ∀ i, i < w.heap.size → Z i → Z' i) : SlL Z' w v xs := h.carry fun i hi h => ⟨rfl, hz i hi h⟩
theorem SlL.drewN {Z : Nat → Prop} {w : World} {v : Value} {xs : List Tm} {n : Nat} (h : SlL Z w v xs) : SlL Z (w.drewN n) v xs := h.carry fun i hi h => ⟨rfl, h⟩
theorem SlL.drew {Z : Nat → Prop} {w : World} {v : Value} {xs : List Tm} (h : SlL Z w v xs) : SlL Z w.drew v xs := h.carry fun i hi h => ⟨rfl, h⟩
theorem SlL.alloc {Z : Nat → Prop} {w : World} {v : Value} {xs : List Tm} (h : SlL Z w v xs) (o : Obj) : SlL Z (w.alloc o) v xs := h.keep ((Below.refl _ _).alloc (Nat.le_refl _) o)
theorem FRow.below {Z : Nat → Prop} {w w' : World} {b o : Nat} {xs : List Tm} (h : FRow Z w b o xs) (hb : Below w.heap.size w w') : FRow Z w' b o xs := by
  obtain ⟨h1, h2, h3⟩ := h
  refine ⟨h1, Nat.lt_of_lt_of_le h2 hb.size, fun j l t ys hj => ?_⟩
  obtain ⟨a, c, a1, a2, a3, a4, a5⟩ := h3 j l t ys hj
  exact ⟨a, c, (hb.cell (p := ⟨b, o + j * 3, none⟩) h2).trans a1, (hb.cell (p := ⟨b, o + j * 3 + 1, none⟩) h2).trans a2, (hb.cell (p := ⟨b, o + j * 3 + 2, none⟩) h2).trans a3, a4, a5.keep hb⟩
theorem FRow.off {Z Y : Nat → Prop} {w w' : World} {b o : Nat} {xs : List Tm} (h : FRow Z w b o xs) (ho : Off Y w w') (hz : ∀ i, Z i → ¬ Y i) : FRow Z w' b o xs := by
  obtain ⟨h1, h2, h3⟩ := h
  refine ⟨h1, Nat.lt_of_lt_of_le h2 ho.size, fun j l t ys hj => ?_⟩
  obtain ⟨a, c, a1, a2, a3, a4, a5⟩ := h3 j l t ys hj
  have hn := hz b h1
  exact ⟨a, c, (ho.cell (p := ⟨b, o + j * 3, none⟩) h2 hn).trans a1, (ho.cell (p := ⟨b, o + j * 3 + 1, none⟩) h2 hn).trans a2, (ho.cell (p := ⟨b, o + j * 3 + 2, none⟩) h2 hn).trans a3, a4, a5.off ho hz⟩

abbrev fv (l : Bool) (t : ByteArray) (s : Value) : Value := .agg #[.bool l, .string t, s]
end Go.Proofs.YthamfbfeokmhgaaGreatDoor
set_option linter.unusedVariables false
namespace Go.Proofs.YthamfbfeokmhgaaGreatDoor
open Go.ChangeShapes Go.WideShapes Go.ChangeAt Go.RowKit

structure Rd (br : Nat) (w : World) (s : ByteArray) (p : Nat) : Prop where
  text : w.cell? ⟨br, 0, none⟩ = some (.string s)
  at_ : w.cell? ⟨br, 1, none⟩ = some (.int .i64 (p : Nat))
  free : w.frozen? ⟨br, 1, none⟩ = false
theorem Rd.below {br : Nat} {w w' : World} {s : ByteArray} {p : Nat} (h : Rd br w s p) (hb : Below w.heap.size w w') : Rd br w' s p :=
  ⟨(hb.cell (p := ⟨br, 0, none⟩) (cell_lt h.text)).trans h.text, (hb.cell (p := ⟨br, 1, none⟩) (cell_lt h.at_)).trans h.at_, (hb.frozen (p := ⟨br, 1, none⟩) (cell_lt h.at_)).trans h.free⟩
theorem Rd.drewN {br n : Nat} {w : World} {s : ByteArray} {p : Nat} (h : Rd br w s p) : Rd br (w.drewN n) s p := ⟨h.text, h.at_, h.free⟩
theorem Rd.set {br : Nat} {w : World} {s : ByteArray} {p : Nat} (h : Rd br w s p) (q : Nat) : Rd br (w.setCell ⟨br, 1, none⟩ (.int .i64 (q : Nat))) s q :=
  ⟨(World.cell?_setCell_other _ _ _ _ (fun e => by injection e with _ e; cases e)).trans h.text, World.cell?_setCell_same _ _ _ h.at_, (World.frozen?_setCell _ _ _ _).trans h.free⟩

def nx (L : List UInt8) : Int := match L with | [] => 0 | c :: _ => (c.toNat : Int)
theorem nx_range (L : List UInt8) : 0 ≤ nx L ∧ nx L < 256 := by
  cases L with
  | nil => exact ⟨Int.le_refl _, by decide⟩
  | cons c r => have := UInt8.toNat_lt c; show 0 ≤ (c.toNat : Int) ∧ (c.toNat : Int) < 256; omega
theorem drop_end (s : ByteArray) : s.data.toList.drop s.size = [] := List.drop_eq_nil_of_le (by rw [ba_len]; exact Nat.le_refl _)
theorem drop_at (s : ByteArray) (p : Nat) (h : p < s.size) : s.data.toList.drop p = s[p] :: s.data.toList.drop (p + 1) := by
  rw [List.drop_eq_getElem_cons (by rw [ba_len]; exact h)]; rfl

set_option maxHeartbeats 1000000 in
theorem next_any (br : Nat) (s : ByteArray) (p : Nat) (w : World) (h : Rd br w s p) (hp : p ≤ s.size) (hs : s.size ≤ 9223372036854775807) :
    Calls Tryz.prog 98 #[.pointer (some ⟨br, 0, none⟩)] w fun e w' => e = .returned (.int .u8 (nx (s.data.toList.drop p))) ∧ ∃ n, w' = w.drewN n := by
  obtain ⟨h1, h2, h3⟩ := h
  by_cases he : p = s.size
  · subst he
    rw [drop_end]
    show Calls _ _ _ _ fun e w' => e = .returned (.int .u8 0) ∧ ∃ n, w' = w.drewN n
    clear h3
    go_enter Tryz.func98, Tryz.ntmps98
    go_wp2_with fail
    go_quiet (fail)
    go_wp2_with fail
    go_ret
    exact ⟨rfl, _, rfl⟩
  · have hlt : p < s.size := by omega
    rw [drop_at s p hlt]
    show Calls _ _ _ _ fun e w' => e = .returned (.int .u8 (s[p].toNat : Int)) ∧ ∃ n, w' = w.drewN n
    have e1 : ((p : Int) == (s.size : Int)) = false := by rw [beq_eq_false_iff_ne]; omega
    have k0 : (0 : Int) ≤ p := by omega
    have k1 : (p : Int) < s.size := by omega
    clear h3 he
    go_enter Tryz.func98, Tryz.ntmps98
    go_wp2_with fail
    go_quiet (fail)
    go_wp2_with fail
    go_quiet (fail)
    go_wp2_with fail
    go_ret
    exact ⟨rfl, _, World.drewN_drewN _ _ _⟩
end Go.Proofs.YthamfbfeokmhgaaGreatDoor
