/- The program's disk beside the document's. -/
import Derived.Test.YtbicecbcloellaaDoorSecA
import Derived.Test.YtbicecbcloellaaDoorSecQF
import Derived.Test.YtbicecbcloellaaDoorCode
set_option linter.unusedVariables false
set_option linter.unusedSimpArgs false
namespace Go.Proofs.YtbicecbcloellaaDoor
open Go.ChangeShapes Go.WideShapes Go.ChangeAt Go.RowKit

/-- A disk of the program's behind p, one of the document's behind q, both made since w0, in blocks of their own; block z is neither's, and holds ob. -/
def Two (w0 w : World) (p q z k : Nat) (ob : Obj) (D1 D2 : Dk) : Prop := (∃ Z1 Z2, DX Z1 w p D1 ∧ RX Z2 w q k D2 ∧ (∀ j, Z1 j → ¬ Z2 j) ∧ (∀ j, Z1 j → w0.heap.size ≤ j ∧ j ≠ z) ∧ (∀ j, Z2 j → w0.heap.size ≤ j ∧ j ≠ z)) ∧ z < w.heap.size ∧ w.heap[z]? = some ob ∧ Below w0.heap.size w0 w
section
variable {w0 w w' : World} {p q z k k' : Nat} {ob : Obj} {D1 D2 D' : Dk}
theorem Two.below (h : Two w0 w p q z k ob D1 D2) (hb : Below w.heap.size w w') : Two w0 w' p q z k ob D1 D2 := by
  obtain ⟨⟨Z1, Z2, h1, h2, h3, h4, h5⟩, h6, h7, h8⟩ := h
  exact ⟨⟨Z1, Z2, h1.below hb, h2.off (Y := fun _ => False) (Off.of_below hb) (fun _ _ h => h), h3, h4, h5⟩, Nat.lt_of_lt_of_le h6 hb.size, (hb.block z h6).trans h7, h8.trans (hb.mono h8.size)⟩
/-- Another block is watched. -/
theorem Two.watch (h : Two w0 w p q z k ob D1 D2) (o : Obj) : Two w0 (w.alloc o) p q w.heap.size k o D1 D2 := by
  obtain ⟨⟨Z1, Z2, h1, h2, h3, h4, h5⟩, h6, h7, h8⟩ := h
  have hb : Below w.heap.size w (w.alloc o) := (Below.refl _ _).alloc (Nat.le_refl _) _
  refine ⟨⟨Z1, Z2, h1.below hb, h2.off (Y := fun _ => False) (Off.of_below hb) (fun _ _ h => h), h3, fun j hj => ⟨(h4 j hj).1, ?_⟩, fun j hj => ⟨(h5 j hj).1, ?_⟩⟩, by simp, by show (w.heap.push o)[w.heap.size]? = some o; simp, h8.trans (hb.mono h8.size)⟩
  · have := h1.zlt j hj; omega
  · have := h2.zlt j hj; omega
theorem Two.ok (h : Two w0 w p q z k ob D1 D2) : D1.Ok := by
  obtain ⟨⟨Z1, Z2, h1, _⟩, _⟩ := h
  exact h1.ok
end
/-- The step from a call's post to both disks'. -/
theorem two_one {w0 w w' : World} {p q z k : Nat} {ob : Obj} {D2 D' : Dk} {Z1 Z2 : Nat → Prop} (h2 : RX Z2 w q k D2) (h3 : ∀ j, Z1 j → ¬ Z2 j) (h4 : ∀ j, Z1 j → w0.heap.size ≤ j ∧ j ≠ z) (h5 : ∀ j, Z2 j → w0.heap.size ≤ j ∧ j ≠ z) (h6 : z < w.heap.size) (h7 : w.heap[z]? = some ob) (h8 : Below w0.heap.size w0 w) (b : DPost Z1 w p D' w') : Two w0 w' p q z k ob D' D2 := by
  obtain ⟨Z', g1, g2, g3⟩ := b
  refine ⟨⟨Z', Z2, g1, h2.off g2 (fun j hj e => h3 j e hj), fun j hj e => ?_, fun j hj => ?_, h5⟩, Nat.lt_of_lt_of_le h6 g2.size, (g2.block z h6 (fun e => (h4 z e).2 rfl)).trans h7, h8.trans (g2.below (fun j hj => (h4 j hj).1) h8.size)⟩
  · rcases g3 j hj with a | a
    · exact h3 j a e
    · have := h2.zlt j e; omega
  · rcases g3 j hj with a | a
    · exact h4 j a
    · exact ⟨Nat.le_trans h8.size a, by omega⟩
theorem two_two {w0 w w' : World} {p q z k' : Nat} {ob : Obj} {D1 D' : Dk} {Z1 Z2 : Nat → Prop} (h1 : DX Z1 w p D1) (h3 : ∀ j, Z1 j → ¬ Z2 j) (h4 : ∀ j, Z1 j → w0.heap.size ≤ j ∧ j ≠ z) (h5 : ∀ j, Z2 j → w0.heap.size ≤ j ∧ j ≠ z) (h6 : z < w.heap.size) (h7 : w.heap[z]? = some ob) (h8 : Below w0.heap.size w0 w) (b : RPost Z2 w q k' D' w') : Two w0 w' p q z k' ob D1 D' := by
  obtain ⟨Z', g1, g2, g3⟩ := b
  refine ⟨⟨Z1, Z', h1.off g2 (fun j hj e => h3 j hj e), g1, fun j hj e => ?_, h4, fun j hj => ?_⟩, Nat.lt_of_lt_of_le h6 g2.size, (g2.block z h6 (fun e => (h5 z e).2 rfl)).trans h7, h8.trans (g2.below (fun j hj => (h5 j hj).1) h8.size)⟩
  · rcases g3 j e with a | a
    · exact h3 j hj a
    · have := h1.zlt j hj; omega
  · rcases g3 j hj with a | a
    · exact h5 j a
    · exact ⟨Nat.le_trans h8.size a, by omega⟩
section
variable {w0 w : World} {p q z k : Nat} {ob : Obj} {D1 D2 : Dk}
theorem twrite (h : Two w0 w p q z k ob D1 D2) (i : Int) (s : ByteArray) (hl : D1.pend.length ≤ 1000000) (hs : s.size ≤ 140737488355328) : Calls Tryd.prog 10 #[.pointer (some ⟨p, 0, none⟩), .int .i64 i, .string s] w fun e w' => e = .returned (errS (writeD D1 i s).2) ∧ Two w0 w' p q z k ob (writeD D1 i s).1 D2 := by
  obtain ⟨⟨Z1, Z2, h1, h2, h3, h4, h5⟩, h6, h7, h8⟩ := h
  exact (swrite_any i s w h1 hl hs).mono fun e w' ⟨a, b⟩ => ⟨a, two_one h2 h3 h4 h5 h6 h7 h8 b⟩
theorem tflush (h : Two w0 w p q z k ob D1 D2) (hl : D1.pend.length ≤ 1000000) : Calls Tryd.prog 11 #[.pointer (some ⟨p, 0, none⟩)] w fun e w' => e = .returned (errS (flushD D1).2) ∧ Two w0 w' p q z k ob (flushD D1).1 D2 := by
  obtain ⟨⟨Z1, Z2, h1, h2, h3, h4, h5⟩, h6, h7, h8⟩ := h
  exact (sflush_any w h1 hl).mono fun e w' ⟨a, b⟩ => ⟨a, two_one h2 h3 h4 h5 h6 h7 h8 b⟩
theorem tfuel (h : Two w0 w p q z k ob D1 D2) (n : Int) (hn : n ≤ 9223372036854775807) : Calls Tryd.prog 17 #[.pointer (some ⟨p, 0, none⟩), .int .i64 n] w fun e w' => e = .returned (.tuple #[]) ∧ Two w0 w' p q z k ob (fuelD D1 n) D2 := by
  obtain ⟨⟨Z1, Z2, ⟨bs, bh, v, h1⟩, h2, h3, h4, h5⟩, h6, h7, h8⟩ := h
  exact (sfuel_any w n h1 hn).mono fun e w' ⟨a, b, c⟩ => ⟨a, two_one h2 h3 h4 h5 h6 h7 h8 ⟨Z1, ⟨bs, bh, v, b⟩, c, fun i hi => .inl hi⟩⟩
theorem tfall (h : Two w0 w p q z k ob D1 D2) (ks : List Bool) (kv : Value) (hl : D1.pend.length ≤ 1000000) (hk : RB w kv ks) (hz : ks ≠ [] → ∀ b o n c, kv = .slice (some ⟨b, o, none⟩) n c → b < w0.heap.size) : Calls Tryd.prog 18 #[.pointer (some ⟨p, 0, none⟩), kv] w fun e w' => e = .returned (.tuple #[]) ∧ Two w0 w' p q z k ob (fallD (fun j => ks.getD j false) D1) D2 := by
  obtain ⟨⟨Z1, Z2, h1, h2, h3, h4, h5⟩, h6, h7, h8⟩ := h
  exact (sfall_any ks kv w h1 hl hk (fun hne b o n c e hb => by have := hz hne b o n c e; have := (h4 b hb).1; omega)).mono fun e w' ⟨a, b⟩ => ⟨a, two_one h2 h3 h4 h5 h6 h7 h8 b⟩
theorem tread (h : Two w0 w p q z k ob D1 D2) (i : Int) : Calls Tryd.prog 9 #[.pointer (some ⟨p, 0, none⟩), .int .i64 i] w fun e w' => e = .returned (.tuple #[.string (readD D1 i).1, errS (readD D1 i).2]) ∧ Below w.heap.size w w' := by
  obtain ⟨⟨Z1, Z2, h1, h2, h3, h4, h5⟩, h6, h7, h8⟩ := h
  exact sread_any i w h1
theorem toff (h : Two w0 w p q z k ob D1 D2) : Calls Tryd.prog 12 #[.pointer (some ⟨p, 0, none⟩)] w fun e w' => e = .returned (.bool D1.off) ∧ w' = w := by
  obtain ⟨⟨Z1, Z2, ⟨bs, bh, v, h1⟩, h2⟩, h3⟩ := h
  exact soff_any p D1.off w h1.c4
theorem ssize_any (p b n c : Nat) (w : World) (hc : w.cell? ⟨p, 0, none⟩ = some (.slice (some ⟨b, 0, none⟩) n c)) : Calls Tryd.prog 13 #[.pointer (some ⟨p, 0, none⟩)] w fun e w' => e = .returned (.int .i64 (n : Int)) ∧ w' = w := by
  go_enter Tryd.func13, Tryd.ntmps13
  go_wp2_with fail
  go_ret
  exact ⟨rfl, rfl⟩
theorem spend_any (p n c : Nat) (a : Option Addr) (w : World) (hc : w.cell? ⟨p, 2, none⟩ = some (.slice a n c)) : Calls Tryd.prog 14 #[.pointer (some ⟨p, 0, none⟩)] w fun e w' => e = .returned (.int .i64 (n : Int)) ∧ w' = w := by
  go_enter Tryd.func14, Tryd.ntmps14
  go_wp2_with fail
  go_ret
  exact ⟨rfl, rfl⟩
theorem tsize (h : Two w0 w p q z k ob D1 D2) : Calls Tryd.prog 13 #[.pointer (some ⟨p, 0, none⟩)] w fun e w' => e = .returned (.int .i64 (D1.sure.length : Int)) ∧ w' = w := by
  obtain ⟨⟨Z1, Z2, ⟨bs, bh, v, h1⟩, h2⟩, h3⟩ := h
  exact ssize_any p bs _ _ w h1.c0
theorem tpend (h : Two w0 w p q z k ob D1 D2) : Calls Tryd.prog 14 #[.pointer (some ⟨p, 0, none⟩)] w fun e w' => e = .returned (.int .i64 (D1.pend.length : Int)) ∧ w' = w := by
  obtain ⟨⟨Z1, Z2, ⟨bs, bh, v, h1⟩, h2⟩, h3⟩ := h
  obtain ⟨a, c, hv⟩ := h1.rp.form
  have c2 := h1.c2
  rw [hv] at c2
  exact spend_any p _ _ _ w c2
theorem urwrite (h : Two w0 w p q z k ob D1 D2) (hok : D2.Ok) (i : Int) (s : ByteArray) (hl : D2.pend.length ≤ 1000000) : Calls Tryd.prog 15 #[.pointer (some ⟨q, 0, none⟩), .int .i64 i, .string s] w fun e w' => e = .returned (.int .i64 (writeD D2 i s).2) ∧ Two w0 w' p q z k ob D1 (writeD D2 i s).1 := by
  obtain ⟨⟨Z1, Z2, h1, h2, h3, h4, h5⟩, h6, h7, h8⟩ := h
  exact (rwrite_any i s w h2 hok hl).mono fun e w' ⟨a, b⟩ => ⟨a, two_two h1 h3 h4 h5 h6 h7 h8 b⟩
theorem urflush (h : Two w0 w p q z k ob D1 D2) (hok : D2.Ok) (hl : D2.pend.length ≤ 1000000) (hk : k ≤ 100000000) : Calls Tryd.prog 16 #[.pointer (some ⟨q, 0, none⟩)] w fun e w' => e = .returned (.int .i64 (flushD D2).2) ∧ ∃ k', Two w0 w' p q z k' ob D1 (flushD D2).1 ∧ k' ≤ k + D2.pend.length := by
  obtain ⟨⟨Z1, Z2, h1, h2, h3, h4, h5⟩, h6, h7, h8⟩ := h
  exact (rflush_any w h2 hok hl hk).mono fun e w' ⟨a, k', b, c⟩ => ⟨a, k', two_two h1 h3 h4 h5 h6 h7 h8 b, c⟩
theorem urfall (h : Two w0 w p q z k ob D1 D2) (hok : D2.Ok) (ks : List Bool) (kv : Value) (hl : D2.pend.length ≤ 1000000) (hk9 : k ≤ 100000000) (hk : RB w kv ks) (hz : ks ≠ [] → ∀ b o n c, kv = .slice (some ⟨b, o, none⟩) n c → b < w0.heap.size) : Calls Tryd.prog 19 #[.pointer (some ⟨q, 0, none⟩), kv] w fun e w' => e = .returned (.tuple #[]) ∧ ∃ k', Two w0 w' p q z k' ob D1 (fallD (fun j => ks.getD j false) D2) ∧ k' ≤ k + D2.pend.length := by
  obtain ⟨⟨Z1, Z2, h1, h2, h3, h4, h5⟩, h6, h7, h8⟩ := h
  exact (rfall_any ks kv w h2 hok hl hk9 hk (fun hne b o n c e hb => by have := hz hne b o n c e; have := (h5 b hb).1; omega)).mono fun e w' ⟨a, k', b, c⟩ => ⟨a, k', two_two h1 h3 h4 h5 h6 h7 h8 b, c⟩
theorem urread (h : Two w0 w p q z k ob D1 D2) (hok : D2.Ok) (i : Int) (hl : D2.pend.length ≤ 1000000) : Calls Tryd.prog 20 #[.pointer (some ⟨q, 0, none⟩), .int .i64 i] w fun e w' => e = .returned (.tuple #[.string (readD D2 i).1, .int .i64 (readD D2 i).2]) ∧ Below w.heap.size w w' := by
  obtain ⟨⟨Z1, Z2, h1, h2, h3, h4, h5⟩, h6, h7, h8⟩ := h
  exact rread_any i w h2 hok hl
/-- The document's disk's own cells. -/
theorem Two.cells (h : Two w0 w p q z k ob D1 D2) : ∃ a c, w.cell? ⟨q, 2, none⟩ = some (.bool D2.off) ∧ w.cell? ⟨q, 4, none⟩ = some (.slice a D2.pend.length c) ∧ w.cell? ⟨q, 1, none⟩ = some (.int .i64 D2.fuel) ∧ w.frozen? ⟨q, 1, none⟩ = false := by
  obtain ⟨⟨Z1, Z2, h1, ⟨mb, v, h2⟩, h3⟩, h4⟩ := h
  obtain ⟨a, c, hv⟩ := h2.rp.form
  have c4 := h2.c4
  rw [hv] at c4
  exact ⟨a, c, h2.c2, c4, h2.c1, h2.fz 1 (by omega)⟩
/-- The document's fuel is set by hand. -/
theorem Two.left (h : Two w0 w p q z k ob D1 D2) (n : Int) : Two w0 (w.setCell ⟨q, 1, none⟩ (.int .i64 (max n (-1)))) p q z k ob D1 (fuelD D2 n) := by
  obtain ⟨⟨Z1, Z2, h1, ⟨mb, v, h2⟩, h3, h4, h5⟩, h6, h7, h8⟩ := h
  exact two_two h1 h3 h4 h5 h6 h7 h8 ⟨Z2, ⟨mb, v, h2.setLeft _⟩, (Off.refl Z2 w).setCell (p := ⟨q, 1, none⟩) (.inr h2.zq) _, fun i hi => .inl hi⟩
end
/-- Both disks, no block watched. -/
def Duo (w0 w : World) (p q k : Nat) (D : Dk) : Prop := (∃ Z1 Z2, DX Z1 w p D ∧ RX Z2 w q k D ∧ (∀ j, Z1 j → ¬ Z2 j) ∧ (∀ j, Z1 j → w0.heap.size ≤ j) ∧ (∀ j, Z2 j → w0.heap.size ≤ j)) ∧ Below w0.heap.size w0 w
section
variable {w0 w w' : World} {p q z k : Nat} {ob : Obj} {D : Dk}
theorem Two.duo (h : Two w0 w p q z k ob D D) : Duo w0 w p q k D := by
  obtain ⟨⟨Z1, Z2, h1, h2, h3, h4, h5⟩, h6, h7, h8⟩ := h
  exact ⟨⟨Z1, Z2, h1, h2, h3, fun j hj => (h4 j hj).1, fun j hj => (h5 j hj).1⟩, h8⟩
theorem Duo.below (h : Duo w0 w p q k D) (hb : Below w.heap.size w w') : Duo w0 w' p q k D := by
  obtain ⟨⟨Z1, Z2, h1, h2, h3, h4, h5⟩, h8⟩ := h
  exact ⟨⟨Z1, Z2, h1.below hb, h2.off (Y := fun _ => False) (Off.of_below hb) (fun _ _ h => h), h3, h4, h5⟩, h8.trans (hb.mono h8.size)⟩
theorem Duo.watch (h : Duo w0 w p q k D) (o : Obj) : Two w0 (w.alloc o) p q w.heap.size k o D D := by
  obtain ⟨⟨Z1, Z2, h1, h2, h3, h4, h5⟩, h8⟩ := h
  have hb : Below w.heap.size w (w.alloc o) := (Below.refl _ _).alloc (Nat.le_refl _) _
  refine ⟨⟨Z1, Z2, h1.below hb, h2.off (Y := fun _ => False) (Off.of_below hb) (fun _ _ h => h), h3, fun j hj => ⟨h4 j hj, ?_⟩, fun j hj => ⟨h5 j hj, ?_⟩⟩, by simp, by show (w.heap.push o)[w.heap.size]? = some o; simp, h8.trans (hb.mono h8.size)⟩
  · have := h1.zlt j hj; omega
  · have := h2.zlt j hj; omega
theorem Duo.ok (h : Duo w0 w p q k D) : D.Ok := by
  obtain ⟨⟨Z1, Z2, h1, _⟩, _⟩ := h
  exact h1.ok
theorem dread (h : Duo w0 w p q k D) (i : Int) : Calls Tryd.prog 9 #[.pointer (some ⟨p, 0, none⟩), .int .i64 i] w fun e w' => e = .returned (.tuple #[.string (readD D i).1, errS (readD D i).2]) ∧ Below w.heap.size w w' := by
  obtain ⟨⟨Z1, Z2, h1, h2⟩, h8⟩ := h
  exact sread_any i w h1
theorem durread (h : Duo w0 w p q k D) (i : Int) (hl : D.pend.length ≤ 1000000) : Calls Tryd.prog 20 #[.pointer (some ⟨q, 0, none⟩), .int .i64 i] w fun e w' => e = .returned (.tuple #[.string (readD D i).1, .int .i64 (readD D i).2]) ∧ Below w.heap.size w w' := by
  obtain ⟨⟨Z1, Z2, h1, h2, _⟩, h8⟩ := h
  exact rread_any i w h2 h1.ok hl
end
theorem code_s (k : Int) (w : World) (hg : HasErr w) : Calls Tryd.prog 8 #[errS k] w fun e w' => e = .returned (.int .i64 k) ∧ Below w.heap.size w w' := by
  by_cases h : k = 0
  · subst h
    exact (code_nil w).mono fun e w' ⟨h1, h2⟩ => ⟨h1, h2 ▸ Below.refl _ _⟩
  · rw [errS_pos h]
    exact code_errno k w hg
/-! A nil disk. -/
theorem soff_nil (w : World) : Calls Tryd.prog 12 #[.pointer none] w fun e w' => e = .returned (.bool true) ∧ w' = w := by
  go_enter Tryd.func12, Tryd.ntmps12
  go_wp2_with fail
  go_ret
  exact ⟨rfl, rfl⟩
theorem ssize_nil (w : World) : Calls Tryd.prog 13 #[.pointer none] w fun e w' => e = .returned (.int .i64 0) ∧ w' = w := by
  go_enter Tryd.func13, Tryd.ntmps13
  go_wp2_with fail
  go_ret
  exact ⟨rfl, rfl⟩
theorem spend_nil (w : World) : Calls Tryd.prog 14 #[.pointer none] w fun e w' => e = .returned (.int .i64 0) ∧ w' = w := by
  go_enter Tryd.func14, Tryd.ntmps14
  go_wp2_with fail
  go_ret
  exact ⟨rfl, rfl⟩
theorem sread_nil (i : Int) (w : World) : Calls Tryd.prog 9 #[.pointer none, .int .i64 i] w fun e w' => e = .returned (.tuple #[.string ⟨#[]⟩, errS 20]) ∧ w' = w := by
  have SO := Lib.hid (soff_nil w)
  go_enter Tryd.func9, Tryd.ntmps9
  go_wp2_with fail
  refine SO.out.mono ?_
  rintro e w2 ⟨rfl, rfl⟩
  go_wp2_with fail
  go_ret2
  exact ⟨rfl, rfl⟩
theorem swrite_nil (i : Int) (s : ByteArray) (w : World) : Calls Tryd.prog 10 #[.pointer none, .int .i64 i, .string s] w fun e w' => e = .returned (errS 20) ∧ w' = w := by
  have SO := Lib.hid (soff_nil w)
  go_enter Tryd.func10, Tryd.ntmps10
  go_wp2_with fail
  refine SO.out.mono ?_
  rintro e w2 ⟨rfl, rfl⟩
  go_wp2_with fail
  go_ret
  exact ⟨rfl, rfl⟩
theorem sflush_nil (w : World) : Calls Tryd.prog 11 #[.pointer none] w fun e w' => e = .returned (errS 20) ∧ w' = w := by
  have SO := Lib.hid (soff_nil w)
  go_enter Tryd.func11, Tryd.ntmps11
  go_wp2_with fail
  refine SO.out.mono ?_
  rintro e w2 ⟨rfl, rfl⟩
  go_wp2_with fail
  go_ret
  exact ⟨rfl, rfl⟩
end Go.Proofs.YtbicecbcloellaaDoor
