/- Maps whose keys are ints: what they hold. Maps from ints to ints: what they hold. Maps from pairs of numbers to numbers: what they hold; an entry that is stored into. Forms as9 trees: which are right, their depth, their bytes; bytes are a form's in one way at most. Mathematics alone. Maps from names to lots, of two ints each: what they hold. -/
import Derived.Maps.OwnOps
import Derived.Maps.OwnSet
import Derived.WideKeyPair
import Derived.WideKeyEntry
import Derived.WideKeyArr
import Derived.Lib.ItoaNum
import Derived.Test.YtojnagonhihknaaGreatDoorU0
import Derived.Test.YtojnagonhihknaaGreatDoorU3
set_option linter.unusedVariables false
namespace Go.Proofs.YtojnagonhihknaaGreatDoor
open Go.ChangeShapes Go.WideShapes Go.ChangeAt Go.RowKit Go.WideMaps Go.Maps

theorem ilaw : Keyed Tryz.prog 3 := int_keyed Tryz.underlying3
abbrev DU := DataW Unit
abbrev li (x : Int) : Lit := .int .i64 x
theorem li_ne {x y : Int} (h : x ≠ y) : li x ≠ li y := fun e => h (by injection e)
theorem li_wf {x : Int} (h1 : -9223372036854775808 ≤ x) (h2 : x ≤ 9223372036854775807) : (li x).wf = true := by
  show (decide (IntKind.i64.min ≤ x) && decide (x ≤ IntKind.i64.max)) = true
  rw [Bool.and_eq_true, decide_eq_true_iff, decide_eq_true_iff]
  exact ⟨h1, h2⟩
theorem has_li {D : DU} (hD : IsMap D) (x y : Int) (d : DU) : has (D.put (li x) d) (li y) = (y == x || has D (li y)) := by
  by_cases e : y = x
  · subst e
    rw [has_put_same hD (by exact trivial)]
    simp
  · rw [has_put_other (li_ne e)]
    have : (y == x) = false := by rw [beq_eq_false_iff_ne]; exact e
    rw [this, Bool.false_or]
theorem at_li {D : DU} (hD : IsMap D) (x y : Int) (d z : DU) : (D.put (li x) d).atKey (li y) z = if y = x then d else D.atKey (li y) z := by
  by_cases e : y = x
  · subst e
    rw [if_pos rfl]
    exact atKey_put_same hD (by exact trivial) d z
  · rw [if_neg e]
    exact atKey_put_other (li_ne e) d z
def MS (W : World) (b : Nat) (ks : List Int) : Prop := ∃ D : DU, W.ownsMap Tryz.prog 3 unitElem b ks.length D ∧ ∀ y, has D (li y) = ks.contains y
theorem MS.lt {W : World} {b : Nat} {ks : List Int} (h : MS W b ks) : b < W.heap.size := by obtain ⟨D, h, _⟩ := h; exact World.ownsMap.lt h
theorem owns_below {W W' : World} {R : Value → Option (DU × List MemPlace)} {b n : Nat} {D : DU} (h : W.ownsMap Tryz.prog 3 R b n D) (hb : Below W.heap.size W W') : W'.ownsMap Tryz.prog 3 R b n D := by
  have hlt := World.ownsMap.lt h
  obtain ⟨es, clock, h0, F, hs, hD⟩ := h
  exact ⟨es, clock, (hb.block b hlt).trans h0, F, hs, hD⟩
theorem MS.below {W W' : World} {b : Nat} {ks : List Int} (h : MS W b ks) (hb : Below W.heap.size W W') : MS W' b ks := by
  obtain ⟨D, h, h2⟩ := h
  exact ⟨D, owns_below h hb, h2⟩
theorem MS.made (W : World) : MS (W.alloc (.map #[] 0)) W.heap.size [] := ⟨.map [], World.ownsMap_made _ _ _ _, fun y => rfl⟩
theorem MS.step {W : World} {b : Nat} {ks : List Int} {D : DU} {x : Int} (hD : IsMap D) (h : ∀ y, has D (li y) = ks.contains y) (h' : W.ownsMap Tryz.prog 3 unitElem b (ks.length + 1) (D.put (li x) (.agg []))) : MS W b (ks ++ [x]) := by
  refine ⟨_, by rw [List.length_append, List.length_singleton]; exact h', fun y => ?_⟩
  rw [has_li hD, h y, Bool.eq_iff_iff]
  simp
  exact Or.comm
end Go.Proofs.YtojnagonhihknaaGreatDoor
set_option linter.unusedVariables false
namespace Go.Proofs.YtojnagonhihknaaGreatDoor
open Go.ChangeShapes Go.WideShapes Go.ChangeAt Go.RowKit Go.WideMaps Go.Maps

def MI (W : World) (b : Nat) (hs : List Int) : Prop := ∃ D : DU, W.ownsMap Tryz.prog 3 (plainElem Tryz.prog 3) b hs.length D ∧ (∀ y, has D (li y) = hs.contains y) ∧ (∀ y ∈ hs, D.atKey (li y) (.lit (.int .i64 0)) = .lit (.int .i64 (hs.idxOf y : Int))) ∧ size D = hs.length
theorem MI.lt {W : World} {b : Nat} {hs : List Int} (h : MI W b hs) : b < W.heap.size := by obtain ⟨D, h, _⟩ := h; exact World.ownsMap.lt h
theorem MI.off {W W' : World} {b : Nat} {hs : List Int} {Z : Nat → Prop} (h : MI W b hs) (ho : Off Z W W') (hb : ¬ Z b) : MI W' b hs := by
  have hlt := h.lt
  obtain ⟨D, ⟨es, clock, h0, F, hs, hD⟩, h2⟩ := h
  exact ⟨D, ⟨es, clock, (ho.block b hlt hb).trans h0, F, hs, hD⟩, h2⟩
theorem MI.below {W W' : World} {b : Nat} {hs : List Int} (h : MI W b hs) (hb : Below W.heap.size W W') : MI W' b hs := h.off (Z := fun _ => False) (Off.of_below hb) (fun h => h)
theorem MI.made (W : World) : MI (W.alloc (.map #[] 0)) W.heap.size [] := ⟨.map [], World.ownsMap_made _ _ _ _, fun y => rfl, fun y h => (by cases h), rfl⟩
theorem MI.step {W W0 : World} {b : Nat} {hs : List Int} {D : DU} {x : Int} (h0 : W0.ownsMap Tryz.prog 3 (plainElem Tryz.prog 3) b hs.length D) (h : ∀ y, has D (li y) = hs.contains y) (h3 : ∀ y ∈ hs, D.atKey (li y) (.lit (.int .i64 0)) = .lit (.int .i64 (hs.idxOf y : Int))) (h4 : size D = hs.length) (hx : x ∉ hs) (h' : W.ownsMap Tryz.prog 3 (plainElem Tryz.prog 3) b (hs.length + 1) (D.put (li x) (.lit (.int .i64 (hs.length : Int))))) : MI W b (hs ++ [x]) := by
  have hD := World.ownsMap.isMap h0
  refine ⟨_, by rw [List.length_append, List.length_singleton]; exact h', fun y => ?_, fun y hy => ?_, ?_⟩
  · rw [has_li hD, h y, Bool.eq_iff_iff]
    simp
    exact Or.comm
  · rw [at_li hD]
    by_cases e : y = x
    · subst e
      rw [if_pos rfl, List.idxOf_append, if_neg hx]
      simp
    · rw [if_neg e]
      rcases List.mem_append.1 hy with hm | hm
      · rw [h3 y hm, List.idxOf_append, if_pos hm]
      · exact absurd (List.mem_singleton.1 hm) e
  · rw [size_put (World.ownsMap.tidy h0 ilaw), h x, h4]
    have : hs.contains x = false := by simpa using hx
    rw [this, List.length_append]
    rfl
theorem lit_i {a b : Int} (h : (DataW.lit (Lit.int .i64 a) : DU) = .lit (.int .i64 b)) : a = b := by
  injection h with h
  injection h
end Go.Proofs.YtojnagonhihknaaGreatDoor
set_option linter.unusedVariables false
namespace Go.Proofs.YtojnagonhihknaaGreatDoor
open Go.ChangeShapes Go.WideShapes Go.ChangeAt Go.RowKit Go.WideMaps Go.Maps

theorem pairArr : ArrKey Tryz.prog 54 3 2 := ⟨Tryz.underlying54, by kernel_rfl, by kernel_rfl, by kernel_rfl⟩
theorem pairLaw : KeyLaw Tryz.prog 54 := pairArr.law
theorem pairKeyed : Keyed Tryz.prog 54 := Keyed.of_law pairLaw
abbrev prV (p : Int × Int) : Value := .agg #[.int .i64 p.1, .int .i64 p.2]
abbrev kP (p : Int × Int) : Lit := .string (keyBytes [.int .i64 p.1, .int .i64 p.2])
def okP (p : Int × Int) : Prop := (-9223372036854775808 ≤ p.1 ∧ p.1 ≤ 9223372036854775807) ∧ (-9223372036854775808 ≤ p.2 ∧ p.2 ≤ 9223372036854775807)
set_option maxRecDepth 100000 in
theorem kP_key {p : Int × Int} (h : okP p) : keyOf Tryz.prog 54 (prV p) = some (kP p) :=
  keyOf_pair pairArr Tryz.underlying3 ⟨Tryz.prog.types.size - 1, by kernel_rfl⟩ (li_wf h.1.1 h.1.2) (li_wf h.2.1 h.2.2)
set_option maxRecDepth 100000 in
theorem kP_ne {p q : Int × Int} (hp : okP p) (hq : okP q) (h : p ≠ q) : kP p ≠ kP q := fun e => h (by
  have h1 := kP_key hp
  rw [e] at h1
  have h2 := pairKeyed.inj h1 (kP_key hq)
  injection h2 with h2
  have h3 := congrArg Array.toList h2
  simp only [List.cons.injEq, Value.int.injEq, true_and, and_true] at h3
  exact Prod.ext h3.1 h3.2)
def MJ (W : World) (b c : Nat) (ks : List (Int × Int)) (wt : Int × Int → Int) : Prop := ∃ D : DU, W.ownsMap Tryz.prog 54 (plainElem Tryz.prog 3) b c D ∧ (∀ p, okP p → (has D (kP p) = true ↔ p ∈ ks)) ∧ (∀ p, okP p → D.atKey (kP p) (.lit (.int .i64 0)) = .lit (.int .i64 (wt p)))
theorem MJ.lt {W : World} {b c : Nat} {ks : List (Int × Int)} {wt : Int × Int → Int} (h : MJ W b c ks wt) : b < W.heap.size := by obtain ⟨D, h, _⟩ := h; exact World.ownsMap.lt h
theorem MJ.off {W W' : World} {b c : Nat} {ks : List (Int × Int)} {wt : Int × Int → Int} {Z : Nat → Prop} (h : MJ W b c ks wt) (ho : Off Z W W') (hb : ¬ Z b) : MJ W' b c ks wt := by
  have hlt := h.lt
  obtain ⟨D, ⟨es, clock, h0, F, hs, hD⟩, h2⟩ := h
  exact ⟨D, ⟨es, clock, (ho.block b hlt hb).trans h0, F, hs, hD⟩, h2⟩
theorem MJ.made (W : World) : MJ (W.alloc (.map #[] 0)) W.heap.size 0 [] (fun _ => 0) := ⟨.map [], World.ownsMap_made _ _ _ _, fun p _ => ⟨fun h => (by cases h), fun h => (by cases h)⟩, fun p _ => rfl⟩
theorem zeroI9 (w : World) : (zeroValue 3).run Tryz.prog w = .ok (.int .i64 0) w := by kernel_rfl
set_option maxRecDepth 100000 in
theorem MJ.look {W : World} {b c : Nat} {ks : List (Int × Int)} {wt : Int × Int → Int} (h : MJ W b c ks wt) {p : Int × Int} (hp : okP p) : (Instr.lookup 72 (.map (some b)) (prV p) false).run Tryz.prog W = .ok (.int .i64 (wt p)) W := by
  obtain ⟨D, h1, _, h3⟩ := h
  obtain ⟨v, hrun, hat, _⟩ := h1.lookup_int pairKeyed Tryz.underlying72 Tryz.underlying3 (zeroI9 W) (kP_key hp)
  rw [h3 p hp] at hat
  rw [hrun, lit_i hat]
theorem size_setBlock {w : World} {b : Nat} {o : Obj} : (ChangeMaps.setBlock w b o).heap.size = w.heap.size := by simp [ChangeMaps.setBlock]
set_option maxRecDepth 100000 in
theorem MJ.tick {W : World} {b c : Nat} {ks : List (Int × Int)} {wt : Int × Int → Int} (h : MJ W b c ks wt) {p : Int × Int} (hp : okP p) (hc : c ≤ 1000000000) {x : Int} (hx : (Lit.int .i64 x).wf = true) :
    ∃ v0 st W1 W2, (Instr.mapEntry 72 (.map (some b)) (prV p)).run Tryz.prog W = .ok (.tuple #[v0, goInt st]) W1 ∧ (Instr.entryStore 72 (.map (some b)) (goInt st) (.int .i64 x)).run Tryz.prog W1 = .ok () W2 ∧
      MJ W2 b (c + 1) (if p ∈ ks then ks else ks ++ [p]) (fun q => if q = p then x else wt q) ∧ Off (fun j => j = b) W W1 ∧ Off (fun j => j = b) W W2 := by
  obtain ⟨D, h1, h2, h3⟩ := h
  have hD := World.ownsMap.isMap h1
  obtain ⟨W', hrun, ho, hg⟩ := h1.update pairKeyed Tryz.underlying72 (by unfold maxLen; omega) (kP_key hp) (plainElem_int (P := Tryz.prog) Tryz.underlying3 hx)
  obtain ⟨es, clock, hb, F, _, _⟩ := h1
  obtain ⟨v0, st, es1, clock1, hr1, _, hst⟩ := WideElems.entry_then_store pairLaw Tryz.underlying72 (fun u => zeroI9 u) hb F (kP_key hp)
  obtain ⟨es', clock', hr2, hr3⟩ := hst (ChangeMaps.setBlock W b (.map es1 clock1)) (.int .i64 x) (ChangeMaps.heap_setBlock_same hb _)
  have hW' : W' = ChangeMaps.setBlock W b (.map es' clock') := by
    rw [hrun] at hr3
    injection hr3
  have e2 : ChangeMaps.setBlock (ChangeMaps.setBlock W b (.map es1 clock1)) b (.map es' clock') = ChangeMaps.setBlock W b (.map es' clock') := by simp [ChangeMaps.setBlock]
  have o1 : ∀ o, Off (fun j => j = b) W (ChangeMaps.setBlock W b o) := fun o => ⟨rfl, rfl, rfl, by rw [size_setBlock]; exact Nat.le_refl _, fun i _ hne => ChangeMaps.heap_setBlock_other hb _ hne⟩
  refine ⟨v0, st, _, _, hr1, hr2, ?_, o1 _, by rw [e2]; exact o1 _⟩
  rw [e2, ← hW']
  refine ⟨_, ho, fun q hq => ?_, fun q hq => ?_⟩
  · by_cases e : q = p
    · subst e
      rw [has_put_same hD (by exact trivial)]
      refine ⟨fun _ => ?_, fun _ => rfl⟩
      split
      · assumption
      · simp
    · rw [has_put_other (kP_ne hq hp e), h2 q hq]
      split
      · exact Iff.rfl
      · simp [e]
  · show (D.put (kP p) _).atKey (kP q) _ = .lit (.int .i64 (if q = p then x else wt q))
    by_cases e : q = p
    · subst e
      rw [if_pos rfl, atKey_put_same hD (by exact trivial)]
    · rw [if_neg e, atKey_put_other (kP_ne hq hp e)]
      exact h3 q hq
end Go.Proofs.YtojnagonhihknaaGreatDoor
set_option linter.unusedVariables false
namespace Go.Proofs.YtojnagonhihknaaGreatDoor
open Go.Lib

inductive Tm where
  | mk (l : Bool) (t : ByteArray) (xs : List Tm)

mutual
def Tm.ok : Tm → Bool
  | .mk l t xs => if l then decide (t.size = 0) && Tm.oks xs else xs.isEmpty
def Tm.oks : List Tm → Bool
  | [] => true
  | x :: r => Tm.ok x && Tm.oks r
end
mutual
def Tm.depth : Tm → Nat
  | .mk l t xs => if l then Tm.depths xs + 1 else 0
def Tm.depths : List Tm → Nat
  | [] => 0
  | x :: r => max (Tm.depth x) (Tm.depths r)
end
mutual
def Tm.bytes : Tm → List UInt8
  | .mk l t xs => if l then 40 :: (Tm.bytess xs ++ [41]) else decDigits t.size ++ 58 :: t.data.toList
def Tm.bytess : List Tm → List UInt8
  | [] => []
  | x :: r => Tm.bytes x ++ Tm.bytess r
end
mutual
def Tm.parts : Tm → Nat
  | .mk l t xs => Tm.partss xs + 1
def Tm.partss : List Tm → Nat
  | [] => 0
  | x :: r => Tm.parts x + Tm.partss r
end
mutual
def Tm.texts : Tm → Nat
  | .mk l t xs => t.size + Tm.textss xs
def Tm.textss : List Tm → Nat
  | [] => 0
  | x :: r => Tm.texts x + Tm.textss r
end

theorem Tm.ind {P : Tm → Prop} (h : ∀ l t xs, (∀ x ∈ xs, P x) → P (.mk l t xs)) (T : Tm) : P T := by
  refine Tm.rec (motive_1 := P) (motive_2 := fun xs => ∀ x ∈ xs, P x) (fun l t xs ih => h l t xs ih) (fun x hx => by cases hx) (fun x r hx hr y hy => ?_) T
  rcases List.mem_cons.1 hy with rfl | hy
  · exact hx
  · exact hr y hy

theorem snoc_ind {α : Type} {P : List α → Prop} (h0 : P []) (h1 : ∀ r x, P r → P (r ++ [x])) (l : List α) : P l := by
  have : ∀ n, ∀ l : List α, l.length = n → P l := by
    intro n
    induction n with
    | zero => intro l hl; rw [List.length_eq_zero_iff.1 hl]; exact h0
    | succ n ih =>
      intro l hl
      have hne : l ≠ [] := by rintro rfl; simp at hl
      rw [← List.dropLast_concat_getLast hne]
      exact h1 _ _ (ih _ (by simp; omega))
  exact this _ l rfl

theorem Tm.oks_app (xs ys : List Tm) : Tm.oks (xs ++ ys) = (Tm.oks xs && Tm.oks ys) := by
  induction xs with
  | nil => simp [Tm.oks]
  | cons x r ih => simp [Tm.oks, ih, Bool.and_assoc]
theorem Tm.depths_app (xs ys : List Tm) : Tm.depths (xs ++ ys) = max (Tm.depths xs) (Tm.depths ys) := by
  induction xs with
  | nil => simp [Tm.depths]
  | cons x r ih => simp only [List.cons_append, Tm.depths, ih]; omega
theorem Tm.bytess_app (xs ys : List Tm) : Tm.bytess (xs ++ ys) = Tm.bytess xs ++ Tm.bytess ys := by
  induction xs with
  | nil => simp [Tm.bytess]
  | cons x r ih => simp [Tm.bytess, ih]
theorem Tm.partss_app (xs ys : List Tm) : Tm.partss (xs ++ ys) = Tm.partss xs + Tm.partss ys := by
  induction xs with
  | nil => simp [Tm.partss]
  | cons x r ih => simp only [List.cons_append, Tm.partss, ih]; omega
theorem Tm.oks_iff {xs : List Tm} : Tm.oks xs = true ↔ ∀ x ∈ xs, Tm.ok x = true := by
  induction xs with
  | nil => simp [Tm.oks]
  | cons x r ih => simp [Tm.oks, ih]
theorem Tm.depths_le {xs : List Tm} {d : Nat} : Tm.depths xs ≤ d ↔ ∀ x ∈ xs, Tm.depth x ≤ d := by
  induction xs with
  | nil => simp [Tm.depths]
  | cons x r ih => simp only [Tm.depths, List.mem_cons, forall_eq_or_imp, ← ih]; omega
def isDig (c : UInt8) : Prop := 48 ≤ c.toNat ∧ c.toNat ≤ 57
instance (c : UInt8) : Decidable (isDig c) := by unfold isDig; exact inferInstance
def val (l : List UInt8) : Nat := l.foldl (fun a c => 10 * a + (c.toNat - 48)) 0
theorem val_snoc (l : List UInt8) (c : UInt8) : val (l ++ [c]) = 10 * val l + (c.toNat - 48) := by simp [val]
theorem dig_toNat {u : Nat} (h : u < 10) : (UInt8.ofNat (48 + u)).toNat = 48 + u := by
  rw [UInt8.toNat_ofNat']; omega
theorem decDigits_dig : ∀ (u : Nat), ∀ c ∈ decDigits u, isDig c := by
  intro u
  induction u using Nat.strongRecOn with
  | _ u ih =>
    rw [decDigits]
    split
    · intro c hc
      rw [List.mem_singleton] at hc
      subst hc
      unfold isDig
      rw [dig_toNat (by omega)]; omega
    · intro c hc
      rcases List.mem_append.1 hc with hc | hc
      · exact ih (u / 10) (by omega) c hc
      · rw [List.mem_singleton] at hc
        subst hc
        unfold isDig
        rw [dig_toNat (by omega)]; omega
theorem val_decDigits : ∀ (u : Nat), val (decDigits u) = u := by
  intro u
  induction u using Nat.strongRecOn with
  | _ u ih =>
    rw [decDigits]
    split
    · simp only [val, List.foldl_cons, List.foldl_nil]
      rw [dig_toNat (by omega)]; omega
    · rw [val_snoc, ih (u / 10) (by omega), dig_toNat (by omega)]; omega
theorem decDigits_inj {u v : Nat} (h : decDigits u = decDigits v) : u = v := by
  rw [← val_decDigits u, h, val_decDigits]
theorem decDigits_ne (u : Nat) : decDigits u ≠ [] := by
  rw [decDigits]
  split <;> simp
theorem val_app_le (l m : List UInt8) : val l ≤ val (l ++ m) := by
  induction m using snoc_ind with
  | h0 => simp
  | h1 r c ih => rw [← List.append_assoc, val_snoc]; omega
theorem not_dig_58 : ¬ isDig 58 := by unfold isDig; decide
theorem not_dig_40 : ¬ isDig 40 := by unfold isDig; decide
theorem not_dig_41 : ¬ isDig 41 := by unfold isDig; decide

theorem run_unique : ∀ {p q : List UInt8} {x y : UInt8} {a b : List UInt8}, (∀ c ∈ p, isDig c) → (∀ c ∈ q, isDig c) → ¬ isDig x → ¬ isDig y → p ++ x :: a = q ++ y :: b → p = q ∧ x = y ∧ a = b
  | [], [], x, y, a, b, _, _, _, _, h => by simpa using h
  | [], d :: q, x, y, a, b, _, hq, hx, _, h => by
    simp only [List.nil_append, List.cons_append, List.cons.injEq] at h
    exact absurd (h.1 ▸ hq d (by simp)) hx
  | c :: p, [], x, y, a, b, hp, _, _, hy, h => by
    simp only [List.nil_append, List.cons_append, List.cons.injEq] at h
    exact absurd (h.1 ▸ hp c (by simp)) hy
  | c :: p, d :: q, x, y, a, b, hp, hq, hx, hy, h => by
    simp only [List.cons_append, List.cons.injEq] at h
    obtain ⟨h1, h2⟩ := h
    obtain ⟨e1, e2⟩ := run_unique (fun c hc => hp c (by simp [hc])) (fun c hc => hq c (by simp [hc])) hx hy h2
    exact ⟨by rw [h1, e1], e2⟩

theorem ba_ext {s t : ByteArray} (h : s.data.toList = t.data.toList) : s = t := by
  cases s; cases t
  simp only [ByteArray.mk.injEq]
  exact Array.toList_inj.1 h
theorem ba_len (s : ByteArray) : s.data.toList.length = s.size := Array.length_toList

theorem Tm.head (T : Tm) : ∃ c r, T.bytes = c :: r ∧ (c = 40 ∨ isDig c) := by
  obtain ⟨l, t, xs⟩ := T
  cases l with
  | true => exact ⟨40, _, by rw [Tm.bytes, if_pos rfl], .inl rfl⟩
  | false =>
    cases e : decDigits t.size with
    | nil => exact absurd e (decDigits_ne _)
    | cons c r =>
      refine ⟨c, r ++ 58 :: t.data.toList, ?_, .inr (decDigits_dig t.size c (by rw [e]; simp))⟩
      rw [Tm.bytes, if_neg (by simp), e]; rfl

theorem Tm.unique : ∀ (T T' : Tm) (r r' : List UInt8), T.ok = true → T'.ok = true → T.bytes ++ r = T'.bytes ++ r' → T = T' ∧ r = r' := by
  intro T
  induction T using Tm.ind with
  | h l t xs ih =>
    rintro ⟨l', t', xs'⟩ r r' h1 h2 h
    rw [Tm.ok] at h1 h2
    rw [Tm.bytes, Tm.bytes] at h
    cases l with
    | true =>
      cases l' with
      | true =>
        simp only [if_true, Bool.and_eq_true, decide_eq_true_eq] at h1 h2
        obtain ⟨h1, k1⟩ := h1
        obtain ⟨h2, k2⟩ := h2
        have et : t = t' := by
          apply ba_ext
          have a := ba_len t
          have b := ba_len t'
          rw [List.length_eq_zero_iff.1 (by omega : t.data.toList.length = 0), List.length_eq_zero_iff.1 (by omega : t'.data.toList.length = 0)]
        subst et
        simp only [if_true, List.cons_append, List.cons.injEq, true_and, List.append_assoc, List.nil_append] at h
        have key : ∀ (xs xs' : List Tm), (∀ x ∈ xs, ∀ (T' : Tm) (r r' : List UInt8), x.ok = true → T'.ok = true → x.bytes ++ r = T'.bytes ++ r' → x = T' ∧ r = r') → Tm.oks xs = true → Tm.oks xs' = true →
            Tm.bytess xs ++ 41 :: r = Tm.bytess xs' ++ 41 :: r' → xs = xs' ∧ r = r' := by
          intro xs
          induction xs with
          | nil =>
            intro xs' _ _ k2 h
            cases xs' with
            | nil => simpa [Tm.bytess] using h
            | cons y s =>
              obtain ⟨c, q, e, hc⟩ := Tm.head y
              simp only [Tm.bytess, e, List.nil_append, List.cons_append, List.cons.injEq] at h
              rcases hc with rfl | hc
              · exact absurd h.1 (by decide)
              · exact absurd (h.1 ▸ hc) not_dig_41
          | cons x s ih2 =>
            intro xs' ihx k1 k2 h
            cases xs' with
            | nil =>
              obtain ⟨c, q, e, hc⟩ := Tm.head x
              simp only [Tm.bytess, e, List.nil_append, List.cons_append, List.cons.injEq] at h
              rcases hc with rfl | hc
              · exact absurd h.1 (by decide)
              · exact absurd (h.1 ▸ hc) not_dig_41
            | cons y s' =>
              simp only [Tm.oks, Bool.and_eq_true] at k1 k2
              simp only [Tm.bytess, List.append_assoc] at h
              obtain ⟨e1, e2⟩ := ihx x (by simp) y _ _ k1.1 k2.1 h
              obtain ⟨e3, e4⟩ := ih2 s' (fun z hz => ihx z (by simp [hz])) k1.2 k2.2 e2
              exact ⟨by rw [e1, e3], e4⟩
        obtain ⟨e1, e2⟩ := key xs xs' ih k1 k2 h
        exact ⟨by rw [e1], e2⟩
      | false =>
        obtain ⟨c, q, e, hc⟩ := Tm.head (.mk false t' xs')
        rw [Tm.bytes, if_neg (by simp)] at e
        simp only [if_true, Bool.false_eq_true, if_false] at h
        have hd : isDig c := by
          cases e2 : decDigits t'.size with
          | nil => exact absurd e2 (decDigits_ne _)
          | cons a b =>
            rw [e2] at e
            simp only [List.cons_append, List.cons.injEq] at e
            exact e.1 ▸ decDigits_dig t'.size a (by rw [e2]; simp)
        rw [e] at h
        simp only [List.cons_append, List.cons.injEq] at h
        exact absurd (h.1 ▸ hd) not_dig_40
    | false =>
      cases l' with
      | true =>
        simp only [if_true, Bool.false_eq_true, if_false] at h
        cases e2 : decDigits t.size with
        | nil => exact absurd e2 (decDigits_ne _)
        | cons a b =>
          rw [e2] at h
          simp only [List.cons_append, List.cons.injEq] at h
          have hd := decDigits_dig t.size a (by rw [e2]; simp)
          exact absurd (h.1 ▸ hd) not_dig_40
      | false =>
        simp only [Bool.false_eq_true, if_false, List.append_assoc, List.cons_append, List.isEmpty_iff] at h h1 h2
        subst h1; subst h2
        obtain ⟨e1, _, e2⟩ := run_unique (decDigits_dig _) (decDigits_dig _) not_dig_58 not_dig_58 h
        have hs := decDigits_inj e1
        have hl : t.data.toList.length = t'.data.toList.length := by rw [ba_len, ba_len, hs]
        obtain ⟨e3, e4⟩ := List.append_inj e2 hl
        exact ⟨by rw [ba_ext e3], e4⟩
end Go.Proofs.YtojnagonhihknaaGreatDoor
set_option linter.unusedVariables false
namespace Go.Proofs.YtojnagonhihknaaGreatDoor
open Go.ChangeShapes Go.WideShapes Go.ChangeAt Go.RowKit Go.WideMaps Go.Maps

theorem slaw : Keyed Tryz.prog 9 := string_keyed Tryz.underlying9
abbrev lS (s : ByteArray) : Lit := .string s.data.toList
theorem lS_ne {x y : ByteArray} (h : x ≠ y) : lS x ≠ lS y := fun e => h (by
  injection e with e
  exact ba_ext e)
theorem lS_key {x : ByteArray} (h : x.size ≤ 140737488355328) : keyOf Tryz.prog 9 (.string x) = some (lS x) := keyOf_string_mk Tryz.underlying9 (Nat.le_trans h (by decide))
theorem has_lS {D : DU} (hD : IsMap D) (x y : ByteArray) (d : DU) : (has (D.put (lS x) d) (lS y) = true ↔ y = x ∨ has D (lS y) = true) := by
  by_cases e : y = x
  · subst e
    rw [has_put_same hD (by exact trivial)]
    exact ⟨fun _ => .inl rfl, fun _ => rfl⟩
  · rw [has_put_other (lS_ne e)]
    exact ⟨.inr, fun h => h.resolve_left e⟩
theorem at_lS {D : DU} (hD : IsMap D) (x y : ByteArray) (d z : DU) : (D.put (lS x) d).atKey (lS y) z = if y = x then d else D.atKey (lS y) z := by
  by_cases e : y = x
  · subst e
    rw [if_pos rfl]
    exact atKey_put_same hD (by exact trivial) d z
  · rw [if_neg e]
    exact atKey_put_other (lS_ne e) d z
abbrev lotV (f m : Int) : Value := .agg #[.int .i64 f, .int .i64 m]
abbrev lotD (f m : Int) : DU := .agg [.lit (.int .i64 f), .lit (.int .i64 m)]
def lotElem (v : Value) : Option (DU × List MemPlace) :=
  match v with
  | .agg xs => (match xs.toList with | [.int .i64 x, .int .i64 y] => some (lotD x y, []) | _ => none)
  | _ => none
theorem lotElem_mk (x y : Int) : lotElem (lotV x y) = some (lotD x y, []) := rfl
theorem lotElem_inv {v : Value} {z : DU × List MemPlace} (h : lotElem v = some z) : ∃ x y, v = lotV x y ∧ z = (lotD x y, []) := by
  cases v with
  | agg xs =>
    obtain ⟨l⟩ := xs
    match l, h with
    | [.int .i64 x, .int .i64 y], h => exact ⟨x, y, rfl, (Option.some.inj h).symm⟩
  | _ => simp [lotElem] at h
theorem lotD_inj {a b c d : Int} (h : lotD a b = lotD c d) : c = a ∧ d = b := by
  injection h with h
  injection h with h1 h2
  injection h2 with h2 _
  exact ⟨(lit_i h1).symm, (lit_i h2).symm⟩
theorem zeroLot (w : World) : (zeroValue 104).run Tryz.prog w = .ok (lotV 0 0) w := by kernel_rfl
def MLot (W : World) (b : Nat) (ks : Lb) (f m : ByteArray → Int) : Prop := ∃ D : DU, W.ownsMap Tryz.prog 9 lotElem b ks.length D ∧ (∀ y, (has D (lS y) = true ↔ y ∈ ks)) ∧ (∀ y ∈ ks, D.atKey (lS y) (lotD 0 0) = lotD (f y) (m y)) ∧ size D = ks.length
theorem MLot.lt {W : World} {b : Nat} {ks : Lb} {f m : ByteArray → Int} (h : MLot W b ks f m) : b < W.heap.size := by obtain ⟨D, h, _⟩ := h; exact World.ownsMap.lt h
theorem MLot.off {W W' : World} {b : Nat} {ks : Lb} {f m : ByteArray → Int} {Z : Nat → Prop} (h : MLot W b ks f m) (ho : Off Z W W') (hb : ¬ Z b) : MLot W' b ks f m := by
  have hlt := h.lt
  obtain ⟨D, ⟨es, clock, h0, F, hs, hD⟩, h2⟩ := h
  exact ⟨D, ⟨es, clock, (ho.block b hlt hb).trans h0, F, hs, hD⟩, h2⟩
theorem MLot.below {W W' : World} {b : Nat} {ks : Lb} {f m : ByteArray → Int} (h : MLot W b ks f m) (hb : Below W.heap.size W W') : MLot W' b ks f m := h.off (Z := fun _ => False) (Off.of_below hb) (fun h => h)
theorem MLot.made (W : World) (f m : ByteArray → Int) : MLot (W.alloc (.map #[] 0)) W.heap.size [] f m := ⟨.map [], World.ownsMap_made _ _ _ _, fun y => ⟨fun h => (by cases h), fun h => (by cases h)⟩, fun y h => (by cases h), rfl⟩
set_option maxRecDepth 100000 in
theorem MLot.look {W : World} {b : Nat} {ks : Lb} {f m : ByteArray → Int} (h : MLot W b ks f m) {x : ByteArray} (hs : x.size ≤ 140737488355328) (hx : x ∈ ks) : (Instr.lookup 71 (.map (some b)) (.string x) false).run Tryz.prog W = .ok (lotV (f x) (m x)) W := by
  obtain ⟨D, h1, _, h3, _⟩ := h
  obtain ⟨v, ps, hrun, hv⟩ := h1.lookup slaw Tryz.underlying71 (zeroLot W) (lotElem_mk 0 0) (lS_key hs)
  obtain ⟨x', y', rfl, e⟩ := lotElem_inv hv
  injection e with e _
  rw [h3 x hx] at e
  obtain ⟨e1, e2⟩ := lotD_inj e
  rw [hrun, e1, e2]
theorem MLot.put {W W0 : World} {b n : Nat} {ks : Lb} {D : DU} {x : ByteArray} {c d : Int} {f m : ByteArray → Int} (h0 : W0.ownsMap Tryz.prog 9 lotElem b n D) (h : ∀ y, (has D (lS y) = true ↔ y ∈ ks)) (h3 : ∀ y ∈ ks, D.atKey (lS y) (lotD 0 0) = lotD (f y) (m y)) (h4 : size D = ks.length) (hx : x ∉ ks) (hf : f x = c) (hm : m x = d) (h' : W.ownsMap Tryz.prog 9 lotElem b (ks.length + 1) (D.put (lS x) (lotD c d))) : MLot W b (ks ++ [x]) f m := by
  have hD := World.ownsMap.isMap h0
  refine ⟨_, by rw [List.length_append, List.length_singleton]; exact h', fun y => ?_, fun y hy => ?_, ?_⟩
  · rw [has_lS hD, h y, List.mem_append, List.mem_singleton]
    exact Or.comm
  · rw [at_lS hD]
    by_cases e : y = x
    · rw [if_pos e, e, hf, hm]
    · rw [if_neg e]
      rcases List.mem_append.1 hy with hm | hm
      · exact h3 y hm
      · exact absurd (List.mem_singleton.1 hm) e
  · have hno : has D (lS x) = false := by
      cases e : has D (lS x) with
      | false => rfl
      | true => exact absurd ((h x).1 e) hx
    rw [size_put (World.ownsMap.tidy h0 slaw), hno, h4, List.length_append]
    rfl
end Go.Proofs.YtojnagonhihknaaGreatDoor
