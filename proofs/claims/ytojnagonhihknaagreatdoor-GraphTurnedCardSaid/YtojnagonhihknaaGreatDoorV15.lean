/- The mathematics of numbers' texts: what is written of a number is read as it; how long it is. Patches as values: which are right, their form, their lines, their inverse. Mathematics alone. One, two and three boxes made in a row. Patches in memory; the contracts of the checker's small functions. -/
import Derived.Lib.AtoiAllCases
import Derived.Test.YtojnagonhihknaaGreatDoorV0
import Derived.Test.YtojnagonhihknaaGreatDoorV12
import Derived.Test.YtojnagonhihknaaGreatDoorV13
import Derived.Test.YtojnagonhihknaaGreatDoorV14
import Derived.Test.YtojnagonhihknaaGreatDoorV3
import Derived.Test.YtojnagonhihknaaGreatDoorV4
import Derived.Test.YtojnagonhihknaaGreatDoorV5
import Derived.Test.YtojnagonhihknaaGreatDoorV7
import Derived.Test.YtojnagonhihknaaGreatDoorV9
set_option linter.unusedVariables false
namespace Go.Proofs.YtojnagonhihknaaGreatDoor
open Go.Lib (decDigits itoa)

theorem parse_digits : ∀ (r l : List UInt8), (∀ c ∈ r, isDig c) → val (l ++ r) < 18446744073709551616 → Lib.parseUint10 (val l) r = .ok (val (l ++ r))
  | [], l, _, _ => by simp [Lib.parseUint10]
  | c :: r, l, hd, hv => by
    have h1 := hd c (by simp)
    have h2 := parse_digits r (l ++ [c]) (fun x hx => hd x (by simp [hx])) (by rw [List.append_assoc]; exact hv)
    have h3 := val_app_le (l ++ [c]) r
    rw [List.append_assoc] at h3 h2
    have h4 : val ([c] ++ r) = val (c :: r) := rfl
    have h5 := val_snoc l c
    unfold isDig at h1
    simp only [Lib.parseUint10]
    have e : l ++ ([c] ++ r) = l ++ c :: r := rfl
    rw [e] at h3 h2
    rw [if_pos h1, if_neg (by omega), if_neg (by omega), ← h2, h5, Nat.mul_comm]

theorem parseMag_dec (u : Nat) (h : u < 18446744073709551616) : Lib.parseMag (decDigits u) = .ok u := by
  unfold Lib.parseMag
  rw [if_neg (decDigits_ne u)]
  have := parse_digits (decDigits u) [] (fun c hc => decDigits_dig u c hc) (by rw [List.nil_append, val_decDigits]; exact h)
  rw [List.nil_append, val_decDigits] at this
  exact this

theorem atoi_itoa (n : Int) (h0 : -9223372036854775808 ≤ n) (h1 : n ≤ 9223372036854775807) : Lib.atoiAll (itoa n) = .ok n := by
  by_cases hneg : n < 0
  · obtain ⟨u, hu⟩ : ∃ u : Nat, n = -(u : Int) := ⟨n.natAbs, by omega⟩
    subst hu
    rw [Lib.itoa_neg u (by omega), Lib.atoiAll_minus, parseMag_dec u (by omega)]
    simp only [Lib.signed]
    rw [if_neg (by omega)]
  · obtain ⟨u, hu⟩ : ∃ u : Nat, n = (u : Int) := ⟨n.toNat, by omega⟩
    subst hu
    rw [itoa_nat]
    obtain ⟨c, r, hcr⟩ : ∃ c r, decDigits u = c :: r := by
      cases h : decDigits u with
      | nil => exact absurd h (decDigits_ne u)
      | cons c r => exact ⟨c, r, rfl⟩
    have hc : isDig c := decDigits_dig u c (by rw [hcr]; simp)
    unfold isDig at hc
    have hp := parseMag_dec u (by omega)
    rw [hcr] at hp ⊢
    rw [Lib.atoiAll_plain c r (by omega) (by omega), hp]
    simp only [Lib.signless]
    rw [if_neg (by omega)]

theorem dec_len : ∀ (k u : Nat), u < 10 ^ (k + 1) → (decDigits u).length ≤ k + 1
  | 0, u, h => by
    rw [decDigits]
    rw [dif_pos (by omega)]
    simp
  | k + 1, u, h => by
    rw [decDigits]
    split
    · simp
    · have h1 : u / 10 < 10 ^ (k + 1) := by
        rw [Nat.div_lt_iff_lt_mul (by decide)]
        rw [Nat.pow_succ] at h
        exact h
      have := dec_len k (u / 10) h1
      rw [List.length_append, List.length_singleton]
      omega

theorem itoa_len (n : Int) (h0 : -9223372036854775808 ≤ n) (h1 : n ≤ 9223372036854775807) : (itoa n).length ≤ 20 := by
  by_cases hneg : n < 0
  · obtain ⟨u, hu⟩ : ∃ u : Nat, n = -(u : Int) := ⟨n.natAbs, by omega⟩
    subst hu
    rw [Lib.itoa_neg u (by omega)]
    have := dec_len 18 u (by simp; omega)
    simp; omega
  · obtain ⟨u, hu⟩ : ∃ u : Nat, n = (u : Int) := ⟨n.toNat, by omega⟩
    subst hu
    rw [itoa_nat]
    have := dec_len 18 u (by simp; omega)
    omega

def isNum (s : ByteArray) (lo hi n : Int) : Prop := -9223372036854775808 ≤ n ∧ n ≤ 9223372036854775807 ∧ s = tx (itoa n) ∧ lo ≤ n ∧ n ≤ hi

theorem itoa_inj {n m : Int} (h0 : -9223372036854775808 ≤ n) (h1 : n ≤ 9223372036854775807) (g0 : -9223372036854775808 ≤ m) (g1 : m ≤ 9223372036854775807) (h : itoa n = itoa m) : n = m := by
  have a := atoi_itoa n h0 h1
  rw [h, atoi_itoa m g0 g1] at a
  injection a with a
  exact a.symm

theorem tx_inj {l m : List UInt8} (h : tx l = tx m) : l = m := by
  have := congrArg (fun b : ByteArray => b.data.toList) h
  simpa using this

theorem isNum.one {s : ByteArray} {lo hi n m : Int} (h : isNum s lo hi n) (g : isNum s lo hi m) : n = m :=
  itoa_inj h.1 h.2.1 g.1 g.2.1 (tx_inj (h.2.2.1.symm.trans g.2.2.1))

theorem itoa_plain {n : Int} {l : List UInt8} (h : itoa n = l) (h0 : -9223372036854775808 ≤ n) (h1 : n ≤ 9223372036854775807) (hb : ∀ r, l ≠ 45 :: r) : 0 ≤ n ∧ (∀ c ∈ l, isDig c) ∧ (val l : Int) = n := by
  have hn : ¬ n < 0 := by
    intro hneg
    obtain ⟨u, hu⟩ : ∃ u : Nat, n = -(u : Int) := ⟨n.natAbs, by omega⟩
    subst hu
    rw [Lib.itoa_neg u (by omega)] at h
    exact hb _ h.symm
  obtain ⟨u, hu⟩ : ∃ u : Nat, n = (u : Int) := ⟨n.toNat, by omega⟩
  subst hu
  rw [itoa_nat] at h
  subst h
  exact ⟨by omega, fun c hc => decDigits_dig u c hc, by rw [val_decDigits]⟩

theorem itoa_below {n : Int} {r : List UInt8} (h : itoa n = 45 :: r) (h0 : -9223372036854775808 ≤ n) (h1 : n ≤ 9223372036854775807) : n < 0 ∧ (∀ c ∈ r, isDig c) ∧ (val r : Int) = -n := by
  have hn : n < 0 := by
    refine Int.not_le.1 fun hge => ?_
    obtain ⟨u, hu⟩ : ∃ u : Nat, n = (u : Int) := ⟨n.toNat, by omega⟩
    subst hu
    rw [itoa_nat] at h
    have := decDigits_dig u 45 (by rw [h]; simp)
    unfold isDig at this
    have e : (45 : UInt8).toNat = 45 := rfl
    omega
  obtain ⟨u, hu⟩ : ∃ u : Nat, n = -(u : Int) := ⟨n.natAbs, by omega⟩
  subst hu
  rw [Lib.itoa_neg u (by omega)] at h
  injection h with _ h
  subst h
  exact ⟨hn, fun c hc => decDigits_dig u c hc, by rw [val_decDigits]; omega⟩
end Go.Proofs.YtojnagonhihknaaGreatDoor
set_option linter.unusedVariables false
namespace Go.Proofs.YtojnagonhihknaaGreatDoor
open Go.Lib (decDigits itoa)


structure Rf where
  at_ : Int
  n : Int
deriving DecidableEq

structure Opp where
  kind : Int
  a : Rf
  b : Rf
  lines : Lb

structure Pt where
  note : ByteArray
  deps : Lb
  ops : List Opp

def refB (deps made : Nat) (r : Rf) : Bool :=
  if r.at_ = -1 then decide (r.n = 0) || decide (r.n = 1)
  else if r.at_ = -2 then decide (0 ≤ r.n) && decide (r.n < made)
  else decide (0 ≤ r.at_) && decide (r.at_ < deps) && decide (0 ≤ r.n) && decide (r.n < 300)
def betwB (deps made : Nat) (a b : Rf) : Bool := refB deps made a && refB deps made b && decide (a ≠ b) && decide (a ≠ ⟨-1, 1⟩) && decide (b ≠ ⟨-1, 0⟩)
def lineB (s : ByteArray) : Bool := decide (s.size ≤ 500) && !s.data.toList.contains 10 && !mk s.data.toList
def opR (deps made : Nat) (o : Opp) : Bool :=
  if o.kind = 1 then decide (o.lines.length ≠ 0) && o.lines.all lineB && betwB deps made o.a o.b
  else if o.kind = 2 ∨ o.kind = 3 then decide (o.lines.length = 0) && betwB deps made o.a o.b
  else if o.kind = 4 ∨ o.kind = 5 then decide (o.lines.length = 0) && decide (o.b = ⟨0, 0⟩) && decide (0 ≤ o.a.at_) && refB deps made o.a
  else false
def opB (deps made : Nat) (o : Opp) : Bool := opR deps made o && decide (o.kind = 1 → o.lines.length + made ≤ 300)
def opsR (deps : Nat) : Nat → List Opp → Bool
  | _, [] => true
  | m, o :: r => opR deps m o && opsR deps (m + (if o.kind = 1 then o.lines.length else 0)) r
def opsB (deps : Nat) : Nat → List Opp → Bool
  | _, [] => true
  | m, o :: r => opB deps m o && opsB deps (m + o.lines.length) r
def madeN : List Opp → Nat
  | [] => 0
  | o :: r => (if o.kind = 1 then o.lines.length else 0) + madeN r
def linesN : List Opp → Nat
  | [] => 0
  | o :: r => o.lines.length + linesN r

theorem madeN_app (a b : List Opp) : madeN (a ++ b) = madeN a + madeN b := by
  induction a with
  | nil => simp [madeN]
  | cons o r ih => simp only [List.cons_append, madeN, ih]; omega
theorem linesN_app (a b : List Opp) : linesN (a ++ b) = linesN a + linesN b := by
  induction a with
  | nil => simp [linesN]
  | cons o r ih => simp only [List.cons_append, linesN, ih]; omega
theorem madeN_le (a : List Opp) : madeN a ≤ linesN a := by
  induction a with
  | nil => simp [madeN]
  | cons o r ih => simp only [madeN, linesN]; split <;> omega
theorem lines_mem {l : List Opp} {o : Opp} (h : o ∈ l) : o.lines.length ≤ linesN l := by
  induction l with
  | nil => simp at h
  | cons x r ih =>
    simp only [linesN]
    rcases List.mem_cons.1 h with rfl | h
    · omega
    · have := ih h; omega
theorem linesN_take (l : List Opp) (k : Nat) : linesN (l.take k) ≤ linesN l := by
  have := linesN_app (l.take k) (l.drop k)
  rw [List.take_append_drop] at this
  omega
theorem madeN_take (l : List Opp) (k : Nat) : madeN (l.take k) ≤ madeN l := by
  have := madeN_app (l.take k) (l.drop k)
  rw [List.take_append_drop] at this
  omega

theorem opR_lines {deps m : Nat} {o : Opp} (h : opR deps m o = true) : (if o.kind = 1 then o.lines.length else 0) = o.lines.length := by
  unfold opR at h
  split at h
  · rename_i e; rw [if_pos e]
  · rename_i e
    rw [if_neg e]
    split at h
    · simp only [Bool.and_eq_true, decide_eq_true_eq] at h; omega
    · split at h
      · simp only [Bool.and_eq_true, decide_eq_true_eq] at h; omega
      · cases h

theorem opsB_iff (deps : Nat) : ∀ (l : List Opp) (m : Nat), m ≤ 300 → (opsB deps m l = true ↔ opsR deps m l = true ∧ m + madeN l ≤ 300)
  | [], m, hm => by simp [opsB, opsR, madeN]; omega
  | o :: r, m, hm => by
    simp only [opsB, opsR, madeN, opB, Bool.and_eq_true, decide_eq_true_eq]
    constructor
    · rintro ⟨⟨h1, h2⟩, h3⟩
      have e := opR_lines h1
      have hm' : m + o.lines.length ≤ 300 := by
        by_cases hk : o.kind = 1
        · have := h2 hk; omega
        · rw [if_neg hk] at e; omega
      have := (opsB_iff deps r _ hm').1 h3
      rw [e]
      exact ⟨⟨h1, this.1⟩, by have := this.2; omega⟩
    · rintro ⟨⟨h1, h3⟩, h4⟩
      have e := opR_lines h1
      rw [e] at h3 h4
      refine ⟨⟨h1, fun _ => by omega⟩, (opsB_iff deps r _ (by omega)).2 ⟨h3, by omega⟩⟩

theorem opsR_app (deps : Nat) : ∀ (a b : List Opp) (m : Nat), opsR deps m (a ++ b) = (opsR deps m a && opsR deps (m + madeN a) b)
  | [], b, m => by simp [opsR, madeN]
  | o :: r, b, m => by
    simp only [List.cons_append, opsR, madeN, opsR_app deps r b, Bool.and_assoc]
    rw [Nat.add_assoc]
theorem opsB_app (deps : Nat) : ∀ (a b : List Opp) (m : Nat), opsB deps m (a ++ b) = (opsB deps m a && opsB deps (m + linesN a) b)
  | [], b, m => by simp [opsB, linesN]
  | o :: r, b, m => by
    simp only [List.cons_append, opsB, linesN, opsB_app deps r b, Bool.and_assoc]
    rw [Nat.add_assoc]

def Ris (d : Lb) (k : Nat) : Prop := ∀ j, j < k → ∀ x, d[j]? = some x → rightL x.data.toList = true ∧ ∀ i y, j = i + 1 → d[i]? = some y → ¬ x.data.toList ≤ y.data.toList
noncomputable def risB (d : Lb) : Bool := @decide (d.length ≤ 64 ∧ Ris d d.length) (Classical.propDecidable _)
theorem risB_iff {d : Lb} : risB d = true ↔ d.length ≤ 64 ∧ Ris d d.length := by unfold risB; exact @decide_eq_true_iff _ (Classical.propDecidable _)

noncomputable def soundB (p : Pt) : Bool := decide (p.note.size ≤ 100) && decide (p.ops.length ≤ 400) && risB p.deps && opsB p.deps.length 0 p.ops

def txT (t : ByteArray) : Tm := .mk false t []
def liT (xs : List Tm) : Tm := .mk true noText xs
def nuT (n : Int) : Tm := txT (tx (itoa n))
def rfT (r : Rf) : Tm := liT [nuT r.at_, nuT r.n]
def tsT (l : Lb) : Tm := liT (l.map txT)
def opT (o : Opp) : Tm := liT [nuT o.kind, rfT o.a, rfT o.b, tsT o.lines]
def headB : ByteArray := ⟨#[116, 97, 109, 98, 111, 117, 114]⟩
def ptT (p : Pt) : Tm := liT [txT headB, txT p.note, tsT p.deps, liT (p.ops.map opT)]

theorem oks_all {α : Type} (f : α → Tm) (h : ∀ x, (f x).ok = true) (l : List α) : Tm.oks (l.map f) = true := by
  rw [Tm.oks_iff]
  intro x hx
  obtain ⟨y, _, rfl⟩ := List.mem_map.1 hx
  exact h y
theorem depths_all {α : Type} (f : α → Tm) (d : Nat) (h : ∀ x, (f x).depth ≤ d) (l : List α) : Tm.depths (l.map f) ≤ d := by
  rw [Tm.depths_le]
  intro x hx
  obtain ⟨y, _, rfl⟩ := List.mem_map.1 hx
  exact h y
theorem liT_ok (xs : List Tm) : (liT xs).ok = Tm.oks xs := by unfold liT; rw [Tm.ok_list]; rfl
theorem txT_ok (t : ByteArray) : (txT t).ok = true := by unfold txT; rw [Tm.ok_text]; rfl
theorem liT_depth (xs : List Tm) : (liT xs).depth = Tm.depths xs + 1 := by unfold liT; rw [Tm.depth]; rfl
theorem txT_depth (t : ByteArray) : (txT t).depth = 0 := by unfold txT; rw [Tm.depth]; rfl
theorem nuT_ok (n : Int) : (nuT n).ok = true := txT_ok _
theorem rfT_ok (r : Rf) : (rfT r).ok = true := by simp [rfT, liT_ok, Tm.oks, nuT_ok]
theorem tsT_ok (l : Lb) : (tsT l).ok = true := by rw [tsT, liT_ok]; exact oks_all _ txT_ok _
theorem opT_ok (o : Opp) : (opT o).ok = true := by simp [opT, liT_ok, Tm.oks, nuT_ok, rfT_ok, tsT_ok]
theorem ptT_ok (p : Pt) : (ptT p).ok = true := by
  simp only [ptT, liT_ok, Tm.oks, txT_ok, tsT_ok, oks_all _ opT_ok, Bool.and_self]
theorem nuT_depth (n : Int) : (nuT n).depth = 0 := txT_depth _
theorem rfT_depth (r : Rf) : (rfT r).depth = 1 := by simp [rfT, liT_depth, Tm.depths, nuT_depth]
theorem tsT_depth (l : Lb) : (tsT l).depth ≤ 1 := by
  rw [tsT, liT_depth]
  have := depths_all txT 0 (fun t => by rw [txT_depth]; exact Nat.le_refl _) l
  omega
theorem opT_depth (o : Opp) : (opT o).depth ≤ 2 := by
  have := tsT_depth o.lines
  simp only [opT, liT_depth, Tm.depths, nuT_depth, rfT_depth]
  omega
theorem ptT_depth (p : Pt) : (ptT p).depth ≤ 4 := by
  have h1 := tsT_depth p.deps
  have h2 := depths_all opT 2 opT_depth p.ops
  simp only [ptT, liT_depth, Tm.depths, txT_depth]
  omega

noncomputable def rightP (p : Pt) : Bool := soundB p && decide ((ptT p).bytes.length ≤ 65536)
theorem can_iff (p : Pt) : CanW 0 [] (ptT p) ↔ (ptT p).bytes.length ≤ 65536 := by
  have := ptT_depth p
  unfold CanW
  rw [ptT_ok]
  simp only [List.length_nil, true_and]
  omega
theorem fits_iff (p : Pt) : fits (ptT p) = decide ((ptT p).bytes.length ≤ 65536) := by
  have := ptT_depth p
  unfold fits
  rw [decide_eq_true (by omega : (ptT p).depth ≤ 8), Bool.true_and]

noncomputable def bytesP (p : Pt) : List UInt8 := if rightP p then (ptT p).bytes else []
noncomputable def errP (p : Pt) : Int := if rightP p then 0 else 10
def nameL (p : Pt) : List UInt8 := hexL (sumL (ptT p).bytes)
noncomputable def nameP (p : Pt) : List UInt8 := if rightP p then nameL p else []

def wfI (n : Int) : Prop := -9223372036854775808 ≤ n ∧ n ≤ 9223372036854775807
def Rf.wf (r : Rf) : Prop := wfI r.at_ ∧ wfI r.n
def Opp.wf (o : Opp) : Prop := wfI o.kind ∧ o.a.wf ∧ o.b.wf
def Pt.wf (p : Pt) : Prop := ∀ o ∈ p.ops, o.wf

theorem nuT_inj {n m : Int} (hn : wfI n) (hm : wfI m) (h : nuT n = nuT m) : n = m := by
  unfold nuT txT at h
  injection h with _ h _
  exact itoa_inj hn.1 hn.2 hm.1 hm.2 (tx_inj h)
theorem liT_inj {xs ys : List Tm} (h : liT xs = liT ys) : xs = ys := by unfold liT at h; injection h
theorem txT_inj {s t : ByteArray} (h : txT s = txT t) : s = t := by unfold txT at h; injection h
theorem rfT_inj {r s : Rf} (hr : r.wf) (hs : s.wf) (h : rfT r = rfT s) : r = s := by
  have h := liT_inj h
  simp only [List.cons.injEq, and_true] at h
  cases r; cases s
  have h1 := nuT_inj hr.1 hs.1 h.1
  have h2 := nuT_inj hr.2 hs.2 h.2
  simp_all
theorem tsT_inj {l m : Lb} (h : tsT l = tsT m) : l = m :=
  map_inj_on txT (fun _ => True) (fun _ _ _ _ e => txT_inj e) l m (fun _ _ => trivial) (fun _ _ => trivial) (liT_inj h)
theorem opT_inj {o q : Opp} (ho : o.wf) (hq : q.wf) (h : opT o = opT q) : o = q := by
  have h := liT_inj h
  simp only [List.cons.injEq, and_true] at h
  cases o; cases q
  have h1 := nuT_inj ho.1 hq.1 h.1
  have h2 := rfT_inj ho.2.1 hq.2.1 h.2.1
  have h3 := rfT_inj ho.2.2 hq.2.2 h.2.2.1
  have h4 := tsT_inj h.2.2.2
  simp_all
theorem ptT_inj {p q : Pt} (hp : p.wf) (hq : q.wf) (h : ptT p = ptT q) : p = q := by
  have h := liT_inj h
  simp only [List.cons.injEq, and_true, true_and] at h
  cases p; cases q
  have h1 := txT_inj h.1
  have h2 := tsT_inj h.2.1
  have h3 := map_inj_on opT Opp.wf (fun _ _ => opT_inj) _ _ hp hq (liT_inj h.2.2)
  simp_all
end Go.Proofs.YtojnagonhihknaaGreatDoor
set_option linter.unusedVariables false
namespace Go.Proofs.YtojnagonhihknaaGreatDoor
open Go.ChangeShapes Go.WideShapes Go.ChangeAt Go.RowKit

theorem boxA1 {w wz : World} {x1 : Array Value} {t1 : TypeId} (h : Below (w.alloc (.cells x1 t1)).heap.size (w.alloc (.cells x1 t1)) wz) :
    (∀ j, wz.cell? ⟨w.heap.size, j, none⟩ = x1[j]?) ∧ Below w.heap.size w wz ∧ w.heap.size + 1 ≤ wz.heap.size := by
  have hs : (w.alloc (.cells x1 t1)).heap.size = w.heap.size + 1 := by simp
  refine ⟨fun j => (h.cell (p := ⟨w.heap.size, j, none⟩) (by rw [hs]; exact Nat.lt_succ_self _)).trans (World.cell?_alloc_at _ _ _ _ rfl), ((Below.refl _ _).alloc (Nat.le_refl _) _).trans (h.mono (by omega)), by have := h.size; omega⟩
theorem boxA2 {w wz : World} {x1 x2 : Array Value} {t1 t2 : TypeId} (h : Below ((w.alloc (.cells x1 t1)).alloc (.cells x2 t2)).heap.size ((w.alloc (.cells x1 t1)).alloc (.cells x2 t2)) wz) :
    (∀ j, wz.cell? ⟨w.heap.size, j, none⟩ = x1[j]?) ∧ (∀ j, wz.cell? ⟨w.heap.size + 1, j, none⟩ = x2[j]?) ∧ Below w.heap.size w wz ∧ w.heap.size + 2 ≤ wz.heap.size := by
  obtain ⟨h2, h1, h3⟩ := boxA1 h
  have hs : (w.alloc (.cells x1 t1)).heap.size = w.heap.size + 1 := by simp
  rw [hs] at h1 h2 h3
  obtain ⟨k1, k2, _⟩ := boxA1 (by rw [hs]; exact h1)
  exact ⟨k1, h2, k2, h3⟩
theorem boxA3 {w wz : World} {x1 x2 x3 : Array Value} {t1 t2 t3 : TypeId} (h : Below (((w.alloc (.cells x1 t1)).alloc (.cells x2 t2)).alloc (.cells x3 t3)).heap.size (((w.alloc (.cells x1 t1)).alloc (.cells x2 t2)).alloc (.cells x3 t3)) wz) :
    (∀ j, wz.cell? ⟨w.heap.size, j, none⟩ = x1[j]?) ∧ (∀ j, wz.cell? ⟨w.heap.size + 1, j, none⟩ = x2[j]?) ∧ (∀ j, wz.cell? ⟨w.heap.size + 2, j, none⟩ = x3[j]?) ∧ Below w.heap.size w wz ∧ w.heap.size + 3 ≤ wz.heap.size := by
  obtain ⟨h2, h1, h3⟩ := boxA1 h
  have hs : ((w.alloc (.cells x1 t1)).alloc (.cells x2 t2)).heap.size = w.heap.size + 2 := by simp
  rw [hs] at h1 h2 h3
  obtain ⟨k1, k2, k3, _⟩ := boxA2 (by rw [hs]; exact h1)
  exact ⟨k1, k2, h2, k3, h3⟩
end Go.Proofs.YtojnagonhihknaaGreatDoor
set_option linter.unusedVariables false
namespace Go.Proofs.YtojnagonhihknaaGreatDoor
open Go.ChangeShapes Go.WideShapes Go.ChangeAt Go.RowKit

abbrev rfV (r : Rf) : Value := .agg #[.int .i64 r.at_, .int .i64 r.n]
abbrev opV (x : Opp) (lv : Value) : Value := .agg #[.int .i64 x.kind, .int .i64 x.a.at_, .int .i64 x.a.n, .int .i64 x.b.at_, .int .i64 x.b.n, lv]
abbrev ptV (t : ByteArray) (dv ov : Value) : Value := .agg #[.string t, dv, ov]

def OCells (w : World) (b o : Nat) (xs : List Opp) : Prop :=
  b < w.heap.size ∧ ∀ j x, xs[j]? = some x → ∃ lv, w.cell? ⟨b, o + j * 6, none⟩ = some (.int .i64 x.kind) ∧ w.cell? ⟨b, o + j * 6 + 1, none⟩ = some (.int .i64 x.a.at_) ∧ w.cell? ⟨b, o + j * 6 + 2, none⟩ = some (.int .i64 x.a.n) ∧
    w.cell? ⟨b, o + j * 6 + 3, none⟩ = some (.int .i64 x.b.at_) ∧ w.cell? ⟨b, o + j * 6 + 4, none⟩ = some (.int .i64 x.b.n) ∧ w.cell? ⟨b, o + j * 6 + 5, none⟩ = some lv ∧ Reads w lv x.lines
def OReads (w : World) (v : Value) (xs : List Opp) : Prop :=
  (xs = [] ∧ ∃ a c, v = .slice a 0 c) ∨ (xs ≠ [] ∧ ∃ b o c, v = .slice (some ⟨b, o, none⟩) xs.length c ∧ xs.length ≤ c ∧ c ≤ 9223372036854775807 ∧ OCells w b o xs)
structure PReads (w : World) (t : ByteArray) (dv ov : Value) (p : Pt) : Prop where
  note : t = p.note
  deps : Reads w dv p.deps
  ops : OReads w ov p.ops

theorem OCells.below {w w' : World} {b o : Nat} {xs : List Opp} (h : OCells w b o xs) (hb : Below w.heap.size w w') : OCells w' b o xs := by
  refine ⟨Nat.lt_of_lt_of_le h.1 hb.size, fun j x hx => ?_⟩
  obtain ⟨lv, h0, h1, h2, h3, h4, h5, h6⟩ := h.2 j x hx
  have hc : ∀ k, w'.cell? ⟨b, k, none⟩ = w.cell? ⟨b, k, none⟩ := fun k => hb.cell (p := ⟨b, k, none⟩) h.1
  exact ⟨lv, (hc _).trans h0, (hc _).trans h1, (hc _).trans h2, (hc _).trans h3, (hc _).trans h4, (hc _).trans h5, h6.below hb⟩
theorem OReads.below {w w' : World} {v : Value} {xs : List Opp} (h : OReads w v xs) (hb : Below w.heap.size w w') : OReads w' v xs := by
  rcases h with h | ⟨hn, b, o, c, hv, hc, hm, hx⟩
  · exact .inl h
  · exact .inr ⟨hn, b, o, c, hv, hc, hm, hx.below hb⟩
theorem PReads.below {w w' : World} {t : ByteArray} {dv ov : Value} {p : Pt} (h : PReads w t dv ov p) (hb : Below w.heap.size w w') : PReads w' t dv ov p :=
  ⟨h.note, h.deps.below hb, h.ops.below hb⟩
theorem OReads.form {w : World} {v : Value} {xs : List Opp} (h : OReads w v xs) : ∃ a c, v = .slice a xs.length c ∧ xs.length ≤ 9223372036854775807 := by
  rcases h with ⟨rfl, a, c, rfl⟩ | ⟨hn, b, o, c, rfl, hc, hm, hx⟩
  · exact ⟨_, _, rfl, Nat.zero_le _⟩
  · exact ⟨_, _, rfl, by omega⟩
theorem OReads.at {w : World} {a : Option Addr} {n c : Nat} {xs : List Opp} (h : OReads w (.slice a n c) xs) {j : Nat} {x : Opp} (hx : xs[j]? = some x) : ∃ b o, a = some ⟨b, o, none⟩ ∧ n = xs.length ∧ OCells w b o xs := by
  rcases h with ⟨rfl, a', c', e⟩ | ⟨hn, b, o, c', e, hc, hm, hx'⟩
  · simp at hx
  · simp only [Value.slice.injEq] at e
    obtain ⟨rfl, rfl, rfl⟩ := e
    exact ⟨b, o, rfl, rfl, hx'⟩
structure Pt.fine (p : Pt) : Prop where
  wf : p.wf
  note : p.note.size ≤ 140737488355328
  deps : ∀ x ∈ p.deps, x.size ≤ 140737488355328
  ops : ∀ o ∈ p.ops, ∀ x ∈ o.lines, x.size ≤ 140737488355328

abbrev ckV (deps made : Nat) : Value := .agg #[.int .i64 (deps : Nat), .int .i64 (made : Nat)]

theorem eqI {a b : Int} (h : a = b) : (a == b) = true := by rw [h]; exact beq_self_eq_true b
theorem neI {a b : Int} (h : a ≠ b) : (a == b) = false := beq_eq_false_iff_ne.2 h

set_option maxHeartbeats 1000000 in
theorem pref_any (deps made : Nat) (r : Rf) (w : World) :
    Calls Tryz.prog 168 #[ckV deps made, rfV r] w fun e w' => e = .returned (.bool (refB deps made r)) ∧ Below w.heap.size w w' := by
  obtain ⟨x, y⟩ := r
  have hb2 : ∀ o1 o2, Below w.heap.size w ((w.alloc o1).alloc o2) := fun o1 o2 => ((Below.refl _ _).alloc (Nat.le_refl _) _).alloc (by simp) _
  have HB := Lib.hid hb2
  clear hb2
  by_cases h1 : x = -1
  · have hr : refB deps made ⟨x, y⟩ = (decide (y = 0) || decide (y = 1)) := by simp [refB, h1]
    rw [hr]
    subst h1
    clear hr
    go_enter Tryz.func168, Tryz.ntmps168
    go_wp2
    all_goals go_ret
    all_goals refine ⟨ret_bool ?_, HB.out _ _⟩
    all_goals (apply Bool.eq_iff_iff.2; simp; try omega)
  · have e1 := neI h1
    by_cases h2 : x = -2
    · have hr : refB deps made ⟨x, y⟩ = (decide (0 ≤ y) && decide (y < made)) := by simp [refB, h2]
      rw [hr]
      subst h2
      clear hr
      go_enter Tryz.func168, Tryz.ntmps168
      go_wp2
      all_goals go_ret
      all_goals refine ⟨ret_bool ?_, HB.out _ _⟩
      all_goals (apply Bool.eq_iff_iff.2; simp; try omega)
    · have e2 := neI h2
      have hr : refB deps made ⟨x, y⟩ = (decide (0 ≤ x) && decide (x < deps) && decide (0 ≤ y) && decide (y < 300)) := by simp [refB, h1, h2]
      rw [hr]
      clear hr
      go_enter Tryz.func168, Tryz.ntmps168
      go_wp2
      all_goals go_ret
      all_goals refine ⟨ret_bool ?_, HB.out _ _⟩
      all_goals (apply Bool.eq_iff_iff.2; simp; try omega)

theorem rf_ne {a b : Rf} (h : a ≠ b) : ¬ (a.at_ = b.at_ ∧ a.n = b.n) := by
  rintro ⟨h1, h2⟩
  apply h
  cases a; cases b; simp_all
theorem rf_eq {a b : Rf} : a = b ↔ a.at_ = b.at_ ∧ a.n = b.n := by cases a; cases b; simp

set_option maxHeartbeats 2000000 in
theorem pbetween_any (deps made : Nat) (r s : Rf) (w : World) :
    Calls Tryz.prog 167 #[ckV deps made, rfV r, rfV s] w fun e w' => e = .returned (.bool (betwB deps made r s)) ∧ Below w.heap.size w w' := by
  have c1 := fun wz => pref_any deps made r wz
  have c2 := fun wz => pref_any deps made s wz
  obtain ⟨ra, hra⟩ : ∃ b, b = refB deps made r := ⟨_, rfl⟩
  obtain ⟨rb, hrb⟩ : ∃ b, b = refB deps made s := ⟨_, rfl⟩
  have hbw : betwB deps made r s = (ra && rb && decide (r ≠ s) && decide (r ≠ ⟨-1, 1⟩) && decide (s ≠ ⟨-1, 0⟩)) := by rw [hra, hrb]; rfl
  rw [← hra] at c1
  rw [← hrb] at c2
  rw [hbw]
  clear hra hrb hbw
  obtain ⟨x, y⟩ := r
  obtain ⟨u, v⟩ := s
  have C1 := Lib.hid c1
  have C2 := Lib.hid c2
  clear c1 c2
  go_enter Tryz.func167, Tryz.ntmps167
  go_wp2_with fail
  refine (C1.out _).mono ?_
  rintro e w1 ⟨rfl, hb1⟩
  obtain ⟨k1, k2, k3, kb, ks⟩ := boxA3 hb1
  have k10 := (k1 0).trans rfl
  have k11 := (k1 1).trans rfl
  have k20 := (k2 0).trans rfl
  have k21 := (k2 1).trans rfl
  have k30 := (k3 0).trans rfl
  have k31 := (k3 1).trans rfl
  have KB := Lib.hid kb
  have KS := Lib.hid ks
  clear hb1 k1 k2 k3 kb ks
  cases ra with
  | false =>
    go_wp2_with fail
    go_ret
    exact ⟨rfl, KB.out⟩
  | true =>
    go_wp2_with fail
    refine (C2.out _).mono ?_
    rintro e w2 ⟨rfl, hb2⟩
    have q : ∀ i j, i < w.heap.size + 3 → w2.cell? ⟨i, j, none⟩ = w1.cell? ⟨i, j, none⟩ := fun i j hi => hb2.cell (p := ⟨i, j, none⟩) (by have := KS.out; show i < _; omega)
    have g20 := (q _ _ (by omega)).trans k20
    have g21 := (q _ _ (by omega)).trans k21
    have g30 := (q _ _ (by omega)).trans k30
    have g31 := (q _ _ (by omega)).trans k31
    have KB2 := Lib.hid (KB.out.trans (hb2.mono (by have := KS.out; omega)))
    clear q hb2 k10 k11 k20 k21 k30 k31
    cases rb with
    | false =>
      go_wp2_with fail
      go_ret
      exact ⟨rfl, KB2.out⟩
    | true =>
      go_wp2_with fail
      all_goals go_ret
      all_goals refine ⟨ret_bool ?_, KB2.out⟩
      all_goals (apply Bool.eq_iff_iff.2; simp; try omega)
      all_goals trace_state
end Go.Proofs.YtojnagonhihknaaGreatDoor
