/- The contract of the reader's next. -/
import Derived.Test.YtapplhoglmihbaaDoorForms
import Derived.Test.YtapplhoglmihbaaDoorParse
set_option linter.unusedVariables false
namespace Go.Proofs.YtapplhoglmihbaaDoor
open Go.ChangeShapes Go.WideShapes Go.ChangeAt Go.RowKit

/-- The reader in block br has read s up to p. -/
structure Rd (br : Nat) (w : World) (s : ByteArray) (p : Nat) : Prop where
  text : w.cell? ⟨br, 0, none⟩ = some (.string s)
  at_ : w.cell? ⟨br, 1, none⟩ = some (.int .i64 (p : Nat))
  free : w.frozen? ⟨br, 1, none⟩ = false
theorem Rd.below {br : Nat} {w w' : World} {s : ByteArray} {p : Nat} (h : Rd br w s p) (hb : Below w.heap.size w w') : Rd br w' s p :=
  ⟨(hb.cell (p := ⟨br, 0, none⟩) (cell_lt h.text)).trans h.text, (hb.cell (p := ⟨br, 1, none⟩) (cell_lt h.at_)).trans h.at_, (hb.frozen (p := ⟨br, 1, none⟩) (cell_lt h.at_)).trans h.free⟩
theorem Rd.drewN {br n : Nat} {w : World} {s : ByteArray} {p : Nat} (h : Rd br w s p) : Rd br (w.drewN n) s p := ⟨h.text, h.at_, h.free⟩
theorem Rd.set {br : Nat} {w : World} {s : ByteArray} {p : Nat} (h : Rd br w s p) (q : Nat) : Rd br (w.setCell ⟨br, 1, none⟩ (.int .i64 (q : Nat))) s q :=
  ⟨(World.cell?_setCell_other _ _ _ _ (fun e => by injection e with _ e; cases e)).trans h.text, World.cell?_setCell_same _ _ _ h.at_, (World.frozen?_setCell _ _ _ _).trans h.free⟩

/-- The next byte, 0 at the end. -/
def nx (L : List UInt8) : Int := match L with | [] => 0 | c :: _ => (c.toNat : Int)
theorem nx_range (L : List UInt8) : 0 ≤ nx L ∧ nx L < 256 := by
  cases L with
  | nil => exact ⟨Int.le_refl _, by decide⟩
  | cons c r => have := UInt8.toNat_lt c; show 0 ≤ (c.toNat : Int) ∧ (c.toNat : Int) < 256; omega
theorem drop_end (s : ByteArray) : s.data.toList.drop s.size = [] := List.drop_eq_nil_of_le (by rw [ba_len]; exact Nat.le_refl _)
theorem drop_at (s : ByteArray) (p : Nat) (h : p < s.size) : s.data.toList.drop p = s[p] :: s.data.toList.drop (p + 1) := by
  rw [List.drop_eq_getElem_cons (by rw [ba_len]; exact h)]; rfl

set_option maxHeartbeats 1000000 in
theorem next_any (br : Nat) (s : ByteArray) (p : Nat) (w : World) (h : Rd br w s p) (hp : p ≤ s.size) (hs : s.size ≤ 9223372036854775807) :
    Calls Tryd.prog 46 #[.pointer (some ⟨br, 0, none⟩)] w fun e w' => e = .returned (.int .u8 (nx (s.data.toList.drop p))) ∧ ∃ n, w' = w.drewN n := by
  obtain ⟨h1, h2, h3⟩ := h
  by_cases he : p = s.size
  · subst he
    rw [drop_end]
    show Calls _ _ _ _ fun e w' => e = .returned (.int .u8 0) ∧ ∃ n, w' = w.drewN n
    clear h3
    go_enter Tryd.func46, Tryd.ntmps46
    go_wp2_with fail
    go_quiet (fail)
    go_wp2_with fail
    go_ret
    exact ⟨rfl, _, rfl⟩
  · have hlt : p < s.size := by omega
    rw [drop_at s p hlt]
    show Calls _ _ _ _ fun e w' => e = .returned (.int .u8 (s[p].toNat : Int)) ∧ ∃ n, w' = w.drewN n
    have e1 : ((p : Int) == (s.size : Int)) = false := by rw [beq_eq_false_iff_ne]; omega
    have k0 : (0 : Int) ≤ p := by omega
    have k1 : (p : Int) < s.size := by omega
    clear h3 he
    go_enter Tryd.func46, Tryd.ntmps46
    go_wp2_with fail
    go_quiet (fail)
    go_wp2_with fail
    go_quiet (fail)
    go_wp2_with fail
    go_ret
    exact ⟨rfl, _, World.drewN_drewN _ _ _⟩
end Go.Proofs.YtapplhoglmihbaaDoor
