/- The contract of the writer's put. -/
import Derived.Test.YtapplhoglmihbaaDoorForms
set_option linter.unusedVariables false
namespace Go.Proofs.YtapplhoglmihbaaDoor
open Go.ChangeShapes Go.WideShapes Go.ChangeAt Go.RowKit

theorem Tryd.infoByte : (Tryd.prog.info? 5).map (fun i => (i.zero, i.size, i.bytes)) = some (some (.int .u8 0), 1, 1) := by kernel_rfl

/-- Bytes as elements. -/
def bcs (l : List UInt8) : List Value := l.map fun b => .int .u8 b.toNat
theorem bcs_len (l : List UInt8) : (bcs l).length = l.length := by simp [bcs]
theorem bcs_app (l m : List UInt8) : bcs (l ++ m) = bcs l ++ bcs m := by simp [bcs]
theorem byteCells_bcs (s : ByteArray) : byteCells s = bcs s.data.toList := rfl

/-- The writer in block bw: the slice value v holds what is written so far. -/
structure Wr (bw : Nat) (w : World) (v : Value) (out : List UInt8) : Prop where
  row : Row 1 (bw + 1) w v out.length (bcs out)
  cell : w.cell? ⟨bw, 0, none⟩ = some v
  free : w.frozen? ⟨bw, 0, none⟩ = false
  len : out.length ≤ 65536

/-- From w to w' only the writer and the bytes that it has written have turned. -/
structure WOff (bw : Nat) (w : World) (v : Value) (w' : World) (v' : Value) : Prop where
  off : Off (fun i => i = bw ∨ v.ownBlock = some i) w w'
  own : ∀ g, v'.ownBlock = some g → v.ownBlock = some g ∨ w.heap.size ≤ g

theorem WOff.refl (bw : Nat) (w : World) (v : Value) : WOff bw w v w v := ⟨Off.refl _ _, fun g h => .inl h⟩
theorem WOff.trans {bw : Nat} {a b c : World} {u v z : Value} (h : WOff bw a u b v) (k : WOff bw b v c z) : WOff bw a u c z :=
  ⟨h.off.trans' k.off fun i hi hz => by
    rcases hz with hz | hz
    · exact .inl hz
    · rcases h.own i hz with h1 | h1
      · exact .inr h1
      · omega, fun g hg => by
    rcases k.own g hg with h1 | h1
    · exact h.own g h1
    · exact .inr (Nat.le_trans h.off.size h1)⟩
theorem WOff.alloc {bw : Nat} {a b : World} {u v : Value} (h : WOff bw a u b v) (o : Obj) : WOff bw a u (b.alloc o) v := ⟨h.off.alloc o, h.own⟩
theorem WOff.of_below {bw : Nat} {a b : World} {v : Value} (h : Below a.heap.size a b) : WOff bw a v b v := ⟨Off.of_below h, fun g h => .inl h⟩
theorem Wr.below {bw : Nat} {w w' : World} {v : Value} {out : List UInt8} (h : Wr bw w v out) (hb : Below w.heap.size w w') : Wr bw w' v out :=
  ⟨h.row.below hb, (hb.cell (p := ⟨bw, 0, none⟩) (cell_lt h.cell)).trans h.cell, (hb.frozen (p := ⟨bw, 0, none⟩) (cell_lt h.cell)).trans h.free, h.len⟩

set_option maxHeartbeats 1000000 in
theorem put_no (s : ByteArray) (bw : Nat) (v : Value) (out : List UInt8) (w : World) (h : Wr bw w v out) (hs : ¬ out.length + s.size ≤ 65536) (hsm : s.size ≤ 140737488355328) :
    Calls Tryd.prog 39 #[.pointer (some ⟨bw, 0, none⟩), .string s] w fun e w' => e = .returned (.bool false) ∧ w' = w := by
  obtain ⟨a, c, hv⟩ := h.row.form
  have hl := h.len
  have hc := h.cell
  rw [hv] at hc
  obtain ⟨N, hN⟩ : ∃ N, N = out.length := ⟨_, rfl⟩
  rw [← hN] at hc hl hs
  have k1 : (65536 : Int) - N < s.size := by omega
  clear h hv hN hs
  go_enter Tryd.func39, Tryd.ntmps39
  go_wp2
  go_ret
  exact ⟨rfl, rfl⟩

/-- What put leaves. -/
def PutP (s : ByteArray) (bw : Nat) (v : Value) (out : List UInt8) (w : World) (e : Ending) (w' : World) : Prop :=
  ∃ v', e = .returned (.bool true) ∧ Wr bw w' v' (out ++ s.data.toList) ∧ WOff bw w v w' v'

set_option maxHeartbeats 1000000 in
theorem put_yes (s : ByteArray) (bw : Nat) (v : Value) (out : List UInt8) (w : World) (h : Wr bw w v out) (hs : out.length + s.size ≤ 65536) :
    Calls Tryd.prog 39 #[.pointer (some ⟨bw, 0, none⟩), .string s] w (PutP s bw v out w) := by
  obtain ⟨a, c, hv⟩ := h.row.form
  have hl := h.len
  have hc := h.cell
  have hf := h.free
  have hrow := h.row
  have hbw := cell_lt hc
  have hlen : (out ++ s.data.toList).length = out.length + s.size := by rw [List.length_append, ba_len]
  subst hv
  obtain ⟨N, hN⟩ : ∃ N, N = out.length := ⟨_, rfl⟩
  rw [← hN] at hc hl hs hrow hlen
  have k1 : ¬ (65536 : Int) - N < s.size := by omega
  have HR := Lib.hid hrow
  have HH := Lib.hid h
  have HN := Lib.hid hN
  have HL := Lib.hid hlen
  clear h hN hrow hlen
  go_enter Tryd.func39, Tryd.ntmps39
  go_wp2_with (at_builtin; refine wpList_append_row rfl (.tmp 18) (.tmp 19) 52 9 rfl 1 5 (.int .u8 0) 1 Tryd.underlying52 Tryd.infoByte rfl (bw + 1) (.slice a N c) N (bcs out) (by simp [Act.eval]) (by exact HR.out) (.string s) (by simp [Act.eval]) s.size (byteCells s) (Src.ofString _ Tryd.underlying9 s) (by omega) (by omega) (by decide) ?_; intro v' w1 hr1 ho1 hw1; obtain ⟨a1, c1, hv1⟩ := hr1.form; have hn1 : ¬ (Value.slice a N c).ownBlock = some bw := (fun e => by have := (HR.out.lt bw e).1; omega); have hc1 := (ho1.cell (p := ⟨bw, 0, none⟩) hbw hn1).trans HH.out.cell; have hf1 := (ho1.frozen (p := ⟨bw, 0, none⟩) hbw hn1).trans HH.out.free; have HR1 := Lib.hid hr1; have HO1 := Lib.hid ho1; have HW1 := Lib.hid hw1; have HV1 := Lib.hid hv1; subst hv1; clear hr1 ho1 hw1)
  go_ret
  have hoff : Off (fun i => i = bw ∨ (Value.slice a N c).ownBlock = some i) w (w1.setCell ⟨bw, 0, none⟩ (.slice a1 (N + s.size) c1)) :=
    (HO1.out.mono fun i h => .inr h).setCell (.inr (.inl rfl)) _
  have hown : ∀ g, (Value.slice a1 (N + s.size) c1).ownBlock = some g → (Value.slice a N c).ownBlock = some g ∨ w.heap.size ≤ g := fun g hg => by
    rcases HW1.out with e | e
    · exact .inl (e.symm.trans hg)
    · have : w.heap.size = g := Option.some.inj (e.symm.trans hg)
      exact .inr (by omega)
  have hN := HN.out
  subst hN
  refine ⟨_, rfl, ⟨?_, ?_, ?_, ?_⟩, ⟨hoff, hown⟩⟩
  · rw [HL.out, bcs_app]
    exact HR1.out.setOther (p := ⟨bw, 0, none⟩) (fun e => by have := (HR1.out.lt bw e).1; omega) _
  · exact World.cell?_setCell_same _ _ _ hc1
  · rw [World.frozen?_setCell]; exact hf1
  · rw [HL.out]; exact hs
end Go.Proofs.YtapplhoglmihbaaDoor
