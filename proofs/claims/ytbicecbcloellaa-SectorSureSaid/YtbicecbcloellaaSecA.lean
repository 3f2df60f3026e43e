/- What the laws of sector call: a disk that a call has made, and awake. -/
import Derived.Test.YtbicecbcloellaaSecN
set_option linter.unusedVariables false
set_option linter.unusedSimpArgs false
namespace Go.Proofs.Ytbicecbcloellaa
open Go.ChangeShapes Go.WideShapes Go.ChangeAt Go.RowKit

/-- A disk behind p that has been made since w0. -/
def DK (w0 w : World) (p : Nat) (D : Dk) : Prop := (∃ Z, DX Z w p D ∧ ∀ i, Z i → w0.heap.size ≤ i) ∧ Below w0.heap.size w0 w
theorem DK.post {w0 w w' : World} {p : Nat} {D' : Dk} {Z : Nat → Prop} (hz : ∀ i, Z i → w0.heap.size ≤ i) (hb : Below w0.heap.size w0 w) (h : DPost Z w p D' w') : DK w0 w' p D' := by
  obtain ⟨Z', h1, h2, h3⟩ := h
  refine ⟨⟨Z', h1, fun i hi => ?_⟩, hb.trans (h2.below hz hb.size)⟩
  rcases h3 i hi with h | h
  · exact hz i h
  · exact Nat.le_trans hb.size h
theorem DK.below {w0 w w' : World} {p : Nat} {D : Dk} (h : DK w0 w p D) (hb : Below w.heap.size w w') : DK w0 w' p D := by
  obtain ⟨⟨Z, h1, h2⟩, h3⟩ := h
  exact ⟨⟨Z, h1.below hb, h2⟩, h3.trans (hb.mono h3.size)⟩
theorem DK.ok {w0 w : World} {p : Nat} {D : Dk} (h : DK w0 w p D) : D.Ok := by
  obtain ⟨⟨Z, h1, h2⟩, h3⟩ := h
  exact h1.ok
theorem kwrite {w0 w : World} {p : Nat} {D : Dk} (h : DK w0 w p D) (i : Int) (s : ByteArray) (hl : D.pend.length ≤ 1000000) (hs : s.size ≤ 140737488355328) : Calls Try.prog 7 #[.pointer (some ⟨p, 0, none⟩), .int .i64 i, .string s] w fun e w' => e = .returned (errS (writeD D i s).2) ∧ DK w0 w' p (writeD D i s).1 := by
  obtain ⟨⟨Z, h1, h2⟩, h3⟩ := h
  exact (swrite_any i s w h1 hl hs).mono fun e w' ⟨a, b⟩ => ⟨a, DK.post h2 h3 b⟩
theorem kflush {w0 w : World} {p : Nat} {D : Dk} (h : DK w0 w p D) (hl : D.pend.length ≤ 1000000) : Calls Try.prog 8 #[.pointer (some ⟨p, 0, none⟩)] w fun e w' => e = .returned (errS (flushD D).2) ∧ DK w0 w' p (flushD D).1 := by
  obtain ⟨⟨Z, h1, h2⟩, h3⟩ := h
  exact (sflush_any w h1 hl).mono fun e w' ⟨a, b⟩ => ⟨a, DK.post h2 h3 b⟩
theorem kfall {w0 w W : World} {p : Nat} {D : Dk} (h : DK w0 w p D) (hb : Below w.heap.size w W) (ks : List Bool) (kv : Value) (hl : D.pend.length ≤ 1000000) (hk : RB W kv ks) (hz : ks ≠ [] → ∀ b o n c, kv = .slice (some ⟨b, o, none⟩) n c → b < w0.heap.size ∨ w.heap.size ≤ b) : Calls Try.prog 10 #[.pointer (some ⟨p, 0, none⟩), kv] W fun e w' => e = .returned (.tuple #[]) ∧ DK w0 w' p (fallD (fun j => ks.getD j false) D) := by
  obtain ⟨⟨Z, h1, h2⟩, h3⟩ := h
  exact (sfall_any ks kv W (h1.below hb) hl hk (fun hne b o n c e hb => by have h4 := hz hne b o n c e; have h5 := h2 b hb; have h6 := h1.zlt b hb; omega)).mono fun e w' ⟨a, b⟩ => ⟨a, DK.post h2 (h3.trans (hb.mono h3.size)) b⟩
theorem kfuel {w0 w : World} {p : Nat} {D : Dk} (h : DK w0 w p D) (n : Int) (hn : n ≤ 9223372036854775807) : Calls Try.prog 9 #[.pointer (some ⟨p, 0, none⟩), .int .i64 n] w fun e w' => e = .returned (.tuple #[]) ∧ DK w0 w' p (fuelD D n) := by
  obtain ⟨⟨Z, ⟨bs, bh, v, h1⟩, h2⟩, h3⟩ := h
  exact (sfuel_any w n h1 hn).mono fun e w' ⟨a, b, c⟩ => ⟨a, DK.post h2 h3 ⟨Z, ⟨bs, bh, v, b⟩, c, fun i hi => .inl hi⟩⟩
theorem kread {w0 w : World} {p : Nat} {D : Dk} (h : DK w0 w p D) (i : Int) : Calls Try.prog 6 #[.pointer (some ⟨p, 0, none⟩), .int .i64 i] w fun e w' => e = .returned (.tuple #[.string (readD D i).1, errS (readD D i).2]) ∧ DK w0 w' p D := by
  have h0 := h
  obtain ⟨⟨Z, h1, h2⟩, h3⟩ := h
  exact (sread_any i w h1).mono fun e w' ⟨a, b⟩ => ⟨a, h0.below b⟩
theorem koff {w0 w : World} {p : Nat} {D : Dk} (h : DK w0 w p D) : Calls Try.prog 11 #[.pointer (some ⟨p, 0, none⟩)] w fun e w' => e = .returned (.bool D.off) ∧ w' = w := by
  obtain ⟨⟨Z, ⟨bs, bh, v, h1⟩, h2⟩, h3⟩ := h
  exact soff_any p D.off w h1.c4
theorem knew (n : Nat) (w : World) (h1 : 1 ≤ n) (h2 : n ≤ 4096) : Calls Try.prog 5 #[.int .i64 (n : Int)] w fun e w' => ∃ p, e = .returned (.tuple #[.pointer (some ⟨p, 0, none⟩), .nilIface]) ∧ DK w w' p (newD n) :=
  (snew_ok n w h1 h2).mono fun e w' ⟨p, he, hz, hb⟩ => ⟨p, he, hz, hb⟩

abbrev bA : ByteArray := ⟨#[97]⟩
abbrev bB : ByteArray := ⟨#[98]⟩
abbrev bC : ByteArray := ⟨#[99]⟩
def aw1 : Dk := { sure := List.replicate 9 ByteArray.empty, pend := [(3, bA)], fuel := -1, off := false }
def aw2 : Dk := { sure := (List.replicate 9 ByteArray.empty).set 3 bA, pend := [], fuel := -1, off := false }
def aw3 : Dk := { sure := (List.replicate 9 ByteArray.empty).set 3 bA, pend := [(3, bB)], fuel := -1, off := false }
def aw4 : Dk := { sure := (List.replicate 9 ByteArray.empty).set 3 bA, pend := [(3, bB), (4, bC)], fuel := -1, off := false }
def aw5 : Dk := { sure := ((List.replicate 9 ByteArray.empty).set 3 bA).set 4 bC, pend := [], fuel := -1, off := false }
theorem aw1_is : writeD (newD 9) 3 bA = (aw1, 0) := rfl
theorem aw2_is : flushD aw1 = (aw2, 0) := rfl
theorem aw3_is : writeD aw2 3 bB = (aw3, 0) := rfl
theorem aw4_is : writeD aw3 4 bC = (aw4, 0) := rfl
theorem aw5_is : fallD (fun j => [false, true].getD j false) aw4 = aw5 := rfl
theorem aw6_is : readD aw5 3 = (fullB bA, 0) := rfl
theorem aw7_is : readD aw5 4 = (fullB bC, 0) := rfl
set_option maxHeartbeats 1000000 in
set_option maxRecDepth 100000 in
theorem sawake_any (w : World) : Calls Try.prog 4 #[] w fun e w' => e = .returned (.bool true) ∧ Below w.heap.size w w' := by
  have N := Lib.hid (knew 9 w (by omega) (by omega))
  have E0 : errS 0 = .nilIface := rfl
  obtain ⟨fa, hfa⟩ : ∃ fa, fa = fullB bA := ⟨_, rfl⟩
  obtain ⟨fc, hfc⟩ : ∃ fc, fc = fullB bC := ⟨_, rfl⟩
  have sa : fa.size = 512 := by rw [hfa]; rfl
  have ia : ∀ W : World, (Instr.index 9 (.string fa) (.int .i64 0)).run Try.prog W = .ok (.int .u8 97) W := fun W => by rw [hfa]; kernel_rfl
  have ic : ∀ W : World, (Instr.index 9 (.string fc) (.int .i64 0)).run Try.prog W = .ok (.int .u8 99) W := fun W => by rw [hfc]; kernel_rfl
  have E6 := aw6_is
  have E7 := aw7_is
  rw [← hfa] at E6
  rw [← hfc] at E7
  have HE6 := Lib.hid E6
  have HE7 := Lib.hid E7
  clear hfa hfc E6 E7
  go_enter Try.func4, Try.ntmps4
  go_wp2_with fail
  refine N.out.mono ?_
  rintro e w1 ⟨p, rfl, hk⟩
  have W1 := Lib.hid (kwrite hk 3 bA (by show 0 ≤ 1000000; omega) (by show 1 ≤ 140737488355328; omega))
  rw [aw1_is] at W1
  simp only [E0] at W1
  clear hk N
  go_wp2_with fail
  refine W1.out.mono ?_
  rintro e w2 ⟨rfl, hk⟩
  have W2 := Lib.hid (kflush hk (by show 1 ≤ 1000000; omega))
  rw [aw2_is] at W2
  simp only [E0] at W2
  clear hk W1
  go_wp2_with fail
  refine W2.out.mono ?_
  rintro e w3 ⟨rfl, hk⟩
  have W3 := Lib.hid (kwrite hk 3 bB (by show 0 ≤ 1000000; omega) (by show 1 ≤ 140737488355328; omega))
  rw [aw3_is] at W3
  simp only [E0] at W3
  clear hk W2
  go_wp2_with fail
  refine W3.out.mono ?_
  rintro e w4 ⟨rfl, hk⟩
  have W4 := Lib.hid (kwrite hk 4 bC (by show 1 ≤ 1000000; omega) (by show 1 ≤ 140737488355328; omega))
  rw [aw4_is] at W4
  simp only [E0] at W4
  clear hk W3
  go_wp2_with fail
  refine W4.out.mono ?_
  rintro e w5 ⟨rfl, hk⟩
  obtain ⟨w6, hw6⟩ : ∃ w6, w6 = w5.alloc (.cells #[.bool false, .bool true] 4) := ⟨_, rfl⟩
  have hb6 : Below w5.heap.size w5 w6 := by rw [hw6]; exact (Below.refl _ _).alloc (Nat.le_refl _) _
  have hkr : RB w6 (.slice (some ⟨w5.heap.size, 0, none⟩) 2 2) [false, true] := .inr ⟨by simp, w5.heap.size, 0, 2, rfl, Nat.le_refl _, by unfold maxLen; omega, by rw [hw6]; simp, fun j x hx => by
    rw [hw6, World.cell?_alloc_at _ _ _ _ rfl]
    match j, hx with
    | 0, hx => cases hx; rfl
    | 1, hx => cases hx; rfl⟩
  have W5 := Lib.hid (kfall hk hb6 [false, true] (.slice (some ⟨w5.heap.size, 0, none⟩) 2 2) (by show 2 ≤ 1000000; omega) hkr (fun _ b o n c e => by
    simp only [Value.slice.injEq, Option.some.injEq, Addr.mk.injEq] at e
    omega))
  rw [aw5_is] at W5
  have HW6 := Lib.hid hw6
  clear hk W4 hb6 hkr hw6
  go_wp2_with fail
  rw [← HW6.out]
  refine W5.out.mono ?_
  rintro e w7 ⟨rfl, hk⟩
  have W6 := Lib.hid (kread hk 3)
  rw [HE6.out] at W6
  simp only [E0] at W6
  clear hk W5 HW6
  go_wp2_with fail
  refine W6.out.mono ?_
  rintro e w8 ⟨rfl, hk⟩
  have W7 := Lib.hid (kread hk 4)
  rw [HE7.out] at W7
  simp only [E0] at W7
  clear hk W6
  go_wp2_with fail
  refine W7.out.mono ?_
  rintro e w9 ⟨rfl, hk⟩
  have HB := Lib.hid hk.2
  clear hk W7
  go_wp2_with fail
  go_ret
  exact ⟨rfl, HB.out⟩
end Go.Proofs.Ytbicecbcloellaa
