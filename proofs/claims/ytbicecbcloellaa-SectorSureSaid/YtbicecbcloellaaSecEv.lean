/- The disk of SectorSure beside what the law keeps of it. -/
import Derived.Test.YtbicecbcloellaaSecA
import Derived.Test.YtbicecbcloellaaSecE
set_option linter.unusedVariables false
set_option linter.unusedSimpArgs false
namespace Go.Proofs.Ytbicecbcloellaa
open Go.ChangeShapes Go.WideShapes Go.ChangeAt Go.RowKit

/-- The disk behind p and what is kept beside it, in blocks of their own; block z is neither's, and holds ob. -/
def EvZ (w0 w : World) (p b5 b6 me n c z : Nat) (mb : Nat → Nat) (ob : Obj) (D : Dk) (SA LA : List ByteArray) (E : Nat → ByteArray → Prop) : Prop :=
  (∃ Z, DX Z w p D ∧ (∀ j, Z j → ¬ Yb b5 b6 me n mb j) ∧ (∀ j, Z j → w0.heap.size ≤ j ∧ j ≠ z)) ∧ OX w b5 b6 me n c mb SA LA E ∧ (∀ j, Yb b5 b6 me n mb j → w0.heap.size ≤ j ∧ j ≠ z) ∧ z < w.heap.size ∧ w.heap[z]? = some ob ∧ Below w0.heap.size w0 w
/-- The same, no block watched. -/
def Ev (w0 w : World) (p b5 b6 me n c : Nat) (mb : Nat → Nat) (D : Dk) (SA LA : List ByteArray) (E : Nat → ByteArray → Prop) : Prop :=
  (∃ Z, DX Z w p D ∧ (∀ j, Z j → ¬ Yb b5 b6 me n mb j) ∧ (∀ j, Z j → w0.heap.size ≤ j)) ∧ OX w b5 b6 me n c mb SA LA E ∧ (∀ j, Yb b5 b6 me n mb j → w0.heap.size ≤ j) ∧ Below w0.heap.size w0 w
section
variable {w0 w w' : World} {p b5 b6 me n c c' z : Nat} {mb : Nat → Nat} {ob : Obj} {D D' : Dk} {SA LA SA' LA' : List ByteArray} {E E' : Nat → ByteArray → Prop}
theorem EvZ.ev (h : EvZ w0 w p b5 b6 me n c z mb ob D SA LA E) : Ev w0 w p b5 b6 me n c mb D SA LA E := by
  obtain ⟨⟨Z, h1, h2, h3⟩, h4, h5, h6, h7, h8⟩ := h
  exact ⟨⟨Z, h1, h2, fun j hj => (h3 j hj).1⟩, h4, fun j hj => (h5 j hj).1, h8⟩
theorem Ev.below (h : Ev w0 w p b5 b6 me n c mb D SA LA E) (hb : Below w.heap.size w w') : Ev w0 w' p b5 b6 me n c mb D SA LA E := by
  obtain ⟨⟨Z, h1, h2, h3⟩, h4, h5, h8⟩ := h
  exact ⟨⟨Z, h1.below hb, h2, h3⟩, h4.off (Off.of_below (Z := fun _ => False) hb) (fun _ _ h => h), h5, h8.trans (hb.mono h8.size)⟩
theorem Ev.watch (h : Ev w0 w p b5 b6 me n c mb D SA LA E) (o : Obj) : EvZ w0 (w.alloc o) p b5 b6 me n c w.heap.size mb o D SA LA E := by
  obtain ⟨⟨Z, h1, h2, h3⟩, h4, h5, h8⟩ := h
  have hb : Below w.heap.size w (w.alloc o) := (Below.refl _ _).alloc (Nat.le_refl _) _
  refine ⟨⟨Z, h1.below hb, h2, fun j hj => ⟨h3 j hj, ?_⟩⟩, h4.off (Off.of_below (Z := fun _ => False) hb) (fun _ _ h => h), fun j hj => ⟨h5 j hj, ?_⟩, by simp, by show (w.heap.push o)[w.heap.size]? = some o; simp, h8.trans (hb.mono h8.size)⟩
  · have := h1.zlt j hj; omega
  · have := h4.lt j hj; omega
theorem EvZ.below (h : EvZ w0 w p b5 b6 me n c z mb ob D SA LA E) (hb : Below w.heap.size w w') : EvZ w0 w' p b5 b6 me n c z mb ob D SA LA E := by
  obtain ⟨⟨Z, h1, h2, h3⟩, h4, h5, h6, h7, h8⟩ := h
  exact ⟨⟨Z, h1.below hb, h2, h3⟩, h4.off (Off.of_below (Z := fun _ => False) hb) (fun _ _ h => h), h5, Nat.lt_of_lt_of_le h6 hb.size, (hb.block z h6).trans h7, h8.trans (hb.mono h8.size)⟩
/-- Behind a call of the disk's. -/
theorem ez_post {Z : Nat → Prop} (h2 : ∀ j, Z j → ¬ Yb b5 b6 me n mb j) (h3 : ∀ j, Z j → w0.heap.size ≤ j ∧ j ≠ z) (h4 : OX w b5 b6 me n c mb SA LA E) (h5 : ∀ j, Yb b5 b6 me n mb j → w0.heap.size ≤ j ∧ j ≠ z) (h6 : z < w.heap.size) (h7 : w.heap[z]? = some ob) (h8 : Below w0.heap.size w0 w) (b : DPost Z w p D' w') : EvZ w0 w' p b5 b6 me n c z mb ob D' SA LA E := by
  obtain ⟨Z', g1, g2, g3⟩ := b
  refine ⟨⟨Z', g1, fun j hj e => ?_, fun j hj => ?_⟩, h4.off g2 (fun j hj e => h2 j e hj), h5, Nat.lt_of_lt_of_le h6 g2.size, (g2.block z h6 (fun e => (h3 z e).2 rfl)).trans h7, h8.trans (g2.below (fun j hj => (h3 j hj).1) h8.size)⟩
  · rcases g3 j hj with a | a
    · exact h2 j a e
    · have := h4.lt j e; omega
  · rcases g3 j hj with a | a
    · exact h3 j a
    · exact ⟨Nat.le_trans h8.size a, by omega⟩
theorem ev_post {Z : Nat → Prop} (h2 : ∀ j, Z j → ¬ Yb b5 b6 me n mb j) (h3 : ∀ j, Z j → w0.heap.size ≤ j) (h4 : OX w b5 b6 me n c mb SA LA E) (h5 : ∀ j, Yb b5 b6 me n mb j → w0.heap.size ≤ j) (h8 : Below w0.heap.size w0 w) (b : DPost Z w p D' w') : Ev w0 w' p b5 b6 me n c mb D' SA LA E := by
  obtain ⟨Z', g1, g2, g3⟩ := b
  refine ⟨⟨Z', g1, fun j hj e => ?_, fun j hj => ?_⟩, h4.off g2 (fun j hj e => h2 j e hj), h5, h8.trans (g2.below h3 h8.size)⟩
  · rcases g3 j hj with a | a
    · exact h2 j a e
    · have := h4.lt j e; omega
  · rcases g3 j hj with a | a
    · exact h3 j a
    · exact Nat.le_trans h8.size a
/-- Behind a turn of what is kept. -/
theorem EvZ.oth (h : EvZ w0 w p b5 b6 me n c z mb ob D SA LA E) (ho : Off (Yb b5 b6 me n mb) w w') (hx : OX w' b5 b6 me n c' mb SA' LA' E') : EvZ w0 w' p b5 b6 me n c' z mb ob D SA' LA' E' := by
  obtain ⟨⟨Z, h1, h2, h3⟩, h4, h5, h6, h7, h8⟩ := h
  exact ⟨⟨Z, h1.off ho h2, h2, h3⟩, hx, h5, Nat.lt_of_lt_of_le h6 ho.size, (ho.block z h6 (fun e => (h5 z e).2 rfl)).trans h7, h8.trans (ho.below (fun j hj => (h5 j hj).1) h8.size)⟩
theorem Ev.oth (h : Ev w0 w p b5 b6 me n c mb D SA LA E) (ho : Off (Yb b5 b6 me n mb) w w') (hx : OX w' b5 b6 me n c' mb SA' LA' E') : Ev w0 w' p b5 b6 me n c' mb D SA' LA' E' := by
  obtain ⟨⟨Z, h1, h2, h3⟩, h4, h5, h8⟩ := h
  exact ⟨⟨Z, h1.off ho h2, h2, h3⟩, hx, h5, h8.trans (ho.below h5 h8.size)⟩
theorem zwrite (h : EvZ w0 w p b5 b6 me n c z mb ob D SA LA E) (i : Int) (s : ByteArray) (hl : D.pend.length ≤ 1000000) (hs : s.size ≤ 140737488355328) : Calls Try.prog 7 #[.pointer (some ⟨p, 0, none⟩), .int .i64 i, .string s] w fun e w' => e = .returned (errS (writeD D i s).2) ∧ EvZ w0 w' p b5 b6 me n c z mb ob (writeD D i s).1 SA LA E := by
  obtain ⟨⟨Z, h1, h2, h3⟩, h4, h5, h6, h7, h8⟩ := h
  exact (swrite_any i s w h1 hl hs).mono fun e w' ⟨a, b⟩ => ⟨a, ez_post h2 h3 h4 h5 h6 h7 h8 b⟩
theorem zflush (h : EvZ w0 w p b5 b6 me n c z mb ob D SA LA E) (hl : D.pend.length ≤ 1000000) : Calls Try.prog 8 #[.pointer (some ⟨p, 0, none⟩)] w fun e w' => e = .returned (errS (flushD D).2) ∧ EvZ w0 w' p b5 b6 me n c z mb ob (flushD D).1 SA LA E := by
  obtain ⟨⟨Z, h1, h2, h3⟩, h4, h5, h6, h7, h8⟩ := h
  exact (sflush_any w h1 hl).mono fun e w' ⟨a, b⟩ => ⟨a, ez_post h2 h3 h4 h5 h6 h7 h8 b⟩
theorem zfuel (h : EvZ w0 w p b5 b6 me n c z mb ob D SA LA E) (i : Int) (hi : i ≤ 9223372036854775807) : Calls Try.prog 9 #[.pointer (some ⟨p, 0, none⟩), .int .i64 i] w fun e w' => e = .returned (.tuple #[]) ∧ EvZ w0 w' p b5 b6 me n c z mb ob (fuelD D i) SA LA E := by
  obtain ⟨⟨Z, ⟨bs, bh, v, h1⟩, h2, h3⟩, h4, h5, h6, h7, h8⟩ := h
  exact (sfuel_any w i h1 hi).mono fun e w' ⟨a, b, d⟩ => ⟨a, ez_post h2 h3 h4 h5 h6 h7 h8 ⟨Z, ⟨bs, bh, v, b⟩, d, fun i hi => .inl hi⟩⟩
theorem zfall (h : EvZ w0 w p b5 b6 me n c z mb ob D SA LA E) (ks : List Bool) (kv : Value) (hl : D.pend.length ≤ 1000000) (hk : RB w kv ks) (hz : ks ≠ [] → ∀ b o n c, kv = .slice (some ⟨b, o, none⟩) n c → b < w0.heap.size) : Calls Try.prog 10 #[.pointer (some ⟨p, 0, none⟩), kv] w fun e w' => e = .returned (.tuple #[]) ∧ EvZ w0 w' p b5 b6 me n c z mb ob (fallD (fun j => ks.getD j false) D) SA LA E := by
  obtain ⟨⟨Z, h1, h2, h3⟩, h4, h5, h6, h7, h8⟩ := h
  exact (sfall_any ks kv w h1 hl hk (fun hne b o n c e hb => by have := hz hne b o n c e; have := (h3 b hb).1; omega)).mono fun e w' ⟨a, b⟩ => ⟨a, ez_post h2 h3 h4 h5 h6 h7 h8 b⟩
theorem vfall (h : Ev w0 w p b5 b6 me n c mb D SA LA E) (hl : D.pend.length ≤ 1000000) : Calls Try.prog 10 #[.pointer (some ⟨p, 0, none⟩), .slice none 0 0] w fun e w' => e = .returned (.tuple #[]) ∧ Ev w0 w' p b5 b6 me n c mb (fallD (fun j => ([] : List Bool).getD j false) D) SA LA E := by
  obtain ⟨⟨Z, h1, h2, h3⟩, h4, h5, h8⟩ := h
  exact (sfall_any [] (.slice none 0 0) w h1 hl (RB.nil _) (fun hne => absurd rfl hne)).mono fun e w' ⟨a, b⟩ => ⟨a, ev_post h2 h3 h4 h5 h8 b⟩
theorem vread (h : Ev w0 w p b5 b6 me n c mb D SA LA E) (i : Int) : Calls Try.prog 6 #[.pointer (some ⟨p, 0, none⟩), .int .i64 i] w fun e w' => e = .returned (.tuple #[.string (readD D i).1, errS (readD D i).2]) ∧ Below w.heap.size w w' := by
  obtain ⟨⟨Z, h1, h2⟩, h3⟩ := h
  exact sread_any i w h1
end
/-- What is kept is what the disk has: what is sure, what is shown, what was ever there. -/
def Told (D : Dk) (SA LA : List ByteArray) (E : Nat → ByteArray → Prop) : Prop := D.sure.length = 9 ∧ SA = D.sure.map fullB ∧ LA = D.shown.map fullB ∧ (∀ k s, D.sure[k]? = some s → E k (fullB s)) ∧ ∀ q ∈ D.pend, E q.1 (fullB q.2)
theorem told_shown {D : Dk} {SA LA : List ByteArray} {E : Nat → ByteArray → Prop} (h : Told D SA LA E) (kp : Nat → Bool) {k : Nat} {s : ByteArray} (hs : (sk kp D.sure D.pend D.pend.length)[k]? = some s) : E k (fullB s) := by
  rcases sk_from hs with h1 | ⟨q, hq, rfl, rfl⟩
  · exact h.2.2.2.1 k s h1
  · exact h.2.2.2.2 q hq
theorem told_off {D : Dk} {SA LA : List ByteArray} {E : Nat → ByteArray → Prop} (h : Told D SA LA E) : Told { D with off := true } SA LA E := h
theorem told_fuel {D : Dk} {SA LA : List ByteArray} {E : Nat → ByteArray → Prop} (h : Told D SA LA E) (n : Int) : Told (fuelD D n) SA LA E := h
/-- A write: refused, or its text is shown. -/
theorem told_write {D : Dk} {SA LA : List ByteArray} {E : Nat → ByteArray → Prop} (h : Told D SA LA E) (i : Int) (s : ByteArray) :
    ((writeD D i s).2 ≠ 0 ∧ Told (writeD D i s).1 SA LA E ∧ (writeD D i s).1.pend = D.pend) ∨
    ((writeD D i s).2 = 0 ∧ s.size ≤ 512 ∧ (writeD D i s).1.pend.length = D.pend.length + 1 ∧ ∃ k : Nat, i = (k : Int) ∧ k < 9 ∧ readD (writeD D i s).1 i = (fullB s, 0) ∧ Told (writeD D i s).1 SA (LA.set k (fullB s)) (fun j => if j = k then (fun x => E k x ∨ x = fullB s) else E j)) := by
  unfold writeD
  by_cases ho : D.off = true
  · rw [if_pos ho]
    exact .inl ⟨by show (20 : Int) ≠ 0; omega, h, rfl⟩
  rw [if_neg ho]
  by_cases hi : i < 0 ∨ (D.sure.length : Int) ≤ i ∨ 512 < s.size
  · rw [if_pos hi]
    exact .inl ⟨by show (1 : Int) ≠ 0; omega, h, rfl⟩
  rw [if_neg hi]
  by_cases hf : D.fuel = 0
  · rw [if_pos hf]
    exact .inl ⟨by show (20 : Int) ≠ 0; omega, told_off h, rfl⟩
  rw [if_neg hf]
  obtain ⟨h1, h2, h3, h4, h5⟩ := h
  obtain ⟨k, rfl⟩ : ∃ k : Nat, i = (k : Int) := ⟨i.toNat, by omega⟩
  rw [Int.toNat_natCast]
  have hk : k < 9 := by omega
  have hsh : ({ D with fuel := stepF D.fuel, pend := D.pend ++ [(k, s)] } : Dk).shown = D.shown.set k s := shown_push D.sure D.pend (k, s)
  refine .inr ⟨rfl, by omega, by simp, k, rfl, hk, ?_, h1, h2, ?_, fun j x hx => ?_, fun q hq => ?_⟩
  · unfold readD
    rw [if_neg (by exact ho), if_neg (by show ¬ ((k : Int) < 0 ∨ (D.sure.length : Int) ≤ k); omega), hsh, Int.toNat_natCast, List.getD_eq_getElem?_getD, List.getElem?_set_self (by rw [D.shown_len]; omega)]
    rfl
  · rw [hsh, List.map_set, h3]
  · show (if j = k then (fun x => E k x ∨ x = fullB s) else E j) (fullB x)
    by_cases e : j = k
    · rw [if_pos e]; exact .inl (e ▸ h4 j x hx)
    · rw [if_neg e]; exact h4 j x hx
  · show (if q.1 = k then (fun x => E k x ∨ x = fullB s) else E q.1) (fullB q.2)
    rcases List.mem_append.1 hq with hq | hq
    · by_cases e : q.1 = k
      · rw [if_pos e]; exact .inl (e ▸ h5 q hq)
      · rw [if_neg e]; exact h5 q hq
    · rw [List.mem_singleton] at hq
      subst hq
      rw [if_pos rfl]
      exact .inr rfl
theorem told_flush {D : Dk} {SA LA : List ByteArray} {E : Nat → ByteArray → Prop} (h : Told D SA LA E) :
    ((flushD D).2 ≠ 0 ∧ Told (flushD D).1 SA LA E ∧ (flushD D).1.pend = D.pend) ∨ ((flushD D).2 = 0 ∧ Told (flushD D).1 LA LA E ∧ (flushD D).1.pend = []) := by
  unfold flushD
  by_cases ho : D.off = true
  · rw [if_pos ho]
    exact .inl ⟨by show (20 : Int) ≠ 0; omega, h, rfl⟩
  rw [if_neg ho]
  by_cases hf : D.fuel = 0
  · rw [if_pos hf]
    exact .inl ⟨by show (20 : Int) ≠ 0; omega, told_off h, rfl⟩
  rw [if_neg hf]
  exact .inr ⟨rfl, ⟨by show D.shown.length = 9; rw [D.shown_len]; exact h.1, h.2.2.1, h.2.2.1, fun k s hs => told_shown h allK hs, fun q hq => (by cases hq)⟩, rfl⟩
/-- What Read answers of a disk that is on. -/
theorem read_on {D : Dk} (hl : D.sure.length = 9) (ho : D.off = false) (hp : D.pend = []) {k : Nat} (hk : k < 9) : ∃ s, D.sure[k]? = some s ∧ readD D (k : Int) = (fullB s, 0) := by
  obtain ⟨s, hs⟩ : ∃ s, D.sure[k]? = some s := ⟨D.sure[k]'(by omega), by simp⟩
  refine ⟨s, hs, ?_⟩
  have hsh : D.shown = D.sure := by unfold Dk.shown; rw [hp]; rfl
  unfold readD
  rw [if_neg (by rw [ho]; simp), if_neg (by rw [hl]; show ¬ ((k : Int) < 0 ∨ ((9 : Nat) : Int) ≤ k); omega), hsh, Int.toNat_natCast, List.getD_eq_getElem?_getD, hs]
  rfl
theorem told_fall {D : Dk} {SA LA : List ByteArray} {E : Nat → ByteArray → Prop} (h : Told D SA LA E) (kp : Nat → Bool) (M : List ByteArray) (hm : M.length = 9) (hM : ∀ k s, k < 9 → (fallD kp D).sure[k]? = some s → M[k]? = some (fullB s)) : Told (fallD kp D) M M E := by
  have hl : (fallD kp D).sure.length = 9 := by show (sk _ _ _ _).length = 9; rw [sk_len]; exact h.1
  have he : M = (fallD kp D).sure.map fullB := by
    apply List.ext_getElem?
    intro k
    rw [List.getElem?_map]
    by_cases hk : k < 9
    · obtain ⟨s, hs⟩ : ∃ s, (fallD kp D).sure[k]? = some s := ⟨(fallD kp D).sure[k]'(by omega), by simp⟩
      rw [hM k s hk hs, hs]; rfl
    · rw [List.getElem?_eq_none (by omega), List.getElem?_eq_none (by omega)]; rfl
  exact ⟨hl, he, he, fun k s hs => told_shown h kp hs, fun q hq => (by cases hq)⟩
/-- A fall that keeps nothing. -/
theorem fall_none (D : Dk) : (fallD (fun j => ([] : List Bool).getD j false) D).sure = D.sure := by
  show sk _ D.sure D.pend _ = D.sure
  generalize D.pend.length = m
  induction m with
  | zero => rfl
  | succ m ih =>
    rw [sk]
    cases D.pend[m]? with
    | none => exact ih
    | some q => simpa using ih
end Go.Proofs.Ytbicecbcloellaa
