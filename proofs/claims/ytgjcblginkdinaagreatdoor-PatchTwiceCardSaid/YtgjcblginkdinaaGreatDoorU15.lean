/- Plain mathematics of lines: no program is named here. The contracts of the functions that tell a marker: the program's and the document's. Patches as values: which are right, their form, their lines, their inverse. Mathematics alone. -/
import Derived.Test.YtgjcblginkdinaaGreatDoorRows
import Derived.Lib.Split
import Derived.Lib.SplitLaws
import Derived.Lib.Join
import Derived.Test.YtgjcblginkdinaaGreatDoorU0
import Derived.Test.YtgjcblginkdinaaGreatDoorU10
import Derived.Test.YtgjcblginkdinaaGreatDoorU12
import Derived.Test.YtgjcblginkdinaaGreatDoorU14
import Derived.Test.YtgjcblginkdinaaGreatDoorU2
import Derived.Test.YtgjcblginkdinaaGreatDoorU3
import Derived.Test.YtgjcblginkdinaaGreatDoorU6
set_option linter.unusedVariables false
namespace Go.Proofs.YtgjcblginkdinaaGreatDoor

end Go.Proofs.YtgjcblginkdinaaGreatDoor
set_option linter.unusedVariables false
namespace Go.Proofs.YtgjcblginkdinaaGreatDoor
open Go.ChangeShapes Go.WideShapes Go.ChangeAt Go.RowKit

def mk (l : List UInt8) : Bool := decide (7 ≤ l.length) && (l.take 7 == [62, 62, 62, 62, 62, 62, 62] || l.take 7 == [61, 61, 61, 61, 61, 61, 61] || l.take 7 == [60, 60, 60, 60, 60, 60, 60])

theorem ext7 (s : ByteArray) : (s.extract 0 7).toList = s.data.toList.take 7 := by
  rw [ByteArray.toList_eq, Lib.extract_data]; simp

theorem mk_short (l : List UInt8) (h : l.length < 7) : mk l = false := by
  have : ¬ 7 ≤ l.length := by omega
  simp [mk, this]
theorem mk_yes (l : List UInt8) (h : 7 ≤ l.length) (e : (l.take 7 == [62, 62, 62, 62, 62, 62, 62]) = true ∨ (l.take 7 == [61, 61, 61, 61, 61, 61, 61]) = true ∨ (l.take 7 == [60, 60, 60, 60, 60, 60, 60]) = true) : mk l = true := by
  unfold mk
  rcases e with e | e | e <;> simp only [e, h, decide_true, Bool.or_true, Bool.true_or, Bool.true_and]
theorem mk_no (l : List UInt8) (e1 : (l.take 7 == [62, 62, 62, 62, 62, 62, 62]) = false) (e2 : (l.take 7 == [61, 61, 61, 61, 61, 61, 61]) = false) (e3 : (l.take 7 == [60, 60, 60, 60, 60, 60, 60]) = false) : mk l = false := by
  unfold mk
  simp only [e1, e2, e3, Bool.or_false, Bool.and_false]

set_option maxHeartbeats 400000 in
theorem marker_any (s : ByteArray) (w : World) (hs : s.size ≤ 9223372036854775807) :
    Calls Tryz.prog 128 #[.string s] w fun e w' => e = .returned (.bool (mk s.data.toList)) ∧ w' = w := by
  have hl : s.data.toList.length = s.size := Array.length_toList
  have HL := Lib.hid hl
  clear hl
  go_enter Tryz.func128, Tryz.ntmps128
  go_wp2
  all_goals go_ret
  all_goals refine ⟨ret_bool ?_, rfl⟩
  · exact (mk_short _ (by have := HL.out; omega)).symm
  · exact (mk_yes _ (by have := HL.out; omega) (.inl (by rw [← ext7]; assumption))).symm
  · exact (mk_yes _ (by have := HL.out; omega) (.inr (.inl (by rw [← ext7]; assumption)))).symm
  · exact (mk_yes _ (by have := HL.out; omega) (.inr (.inr (by rw [← ext7]; assumption)))).symm
  · exact (mk_no _ (by rw [← ext7]; assumption) (by rw [← ext7]; assumption) (by rw [← ext7]; assumption)).symm
end Go.Proofs.YtgjcblginkdinaaGreatDoor
set_option linter.unusedVariables false
namespace Go.Proofs.YtgjcblginkdinaaGreatDoor
open Go.Lib (decDigits itoa)

abbrev Lb := List ByteArray

structure Rf where
  at_ : Int
  n : Int
deriving DecidableEq

structure Opp where
  kind : Int
  a : Rf
  b : Rf
  lines : Lb

structure Pt where
  note : ByteArray
  deps : Lb
  ops : List Opp

def refB (deps made : Nat) (r : Rf) : Bool :=
  if r.at_ = -1 then decide (r.n = 0) || decide (r.n = 1)
  else if r.at_ = -2 then decide (0 ≤ r.n) && decide (r.n < made)
  else decide (0 ≤ r.at_) && decide (r.at_ < deps) && decide (0 ≤ r.n) && decide (r.n < 300)
def betwB (deps made : Nat) (a b : Rf) : Bool := refB deps made a && refB deps made b && decide (a ≠ b) && decide (a ≠ ⟨-1, 1⟩) && decide (b ≠ ⟨-1, 0⟩)
def lineB (s : ByteArray) : Bool := decide (s.size ≤ 500) && !s.data.toList.contains 10 && !mk s.data.toList
def opR (deps made : Nat) (o : Opp) : Bool :=
  if o.kind = 1 then decide (o.lines.length ≠ 0) && o.lines.all lineB && betwB deps made o.a o.b
  else if o.kind = 2 ∨ o.kind = 3 then decide (o.lines.length = 0) && betwB deps made o.a o.b
  else if o.kind = 4 ∨ o.kind = 5 then decide (o.lines.length = 0) && decide (o.b = ⟨0, 0⟩) && decide (0 ≤ o.a.at_) && refB deps made o.a
  else false
def opB (deps made : Nat) (o : Opp) : Bool := opR deps made o && decide (o.kind = 1 → o.lines.length + made ≤ 300)
def opsR (deps : Nat) : Nat → List Opp → Bool
  | _, [] => true
  | m, o :: r => opR deps m o && opsR deps (m + (if o.kind = 1 then o.lines.length else 0)) r
def opsB (deps : Nat) : Nat → List Opp → Bool
  | _, [] => true
  | m, o :: r => opB deps m o && opsB deps (m + o.lines.length) r
def madeN : List Opp → Nat
  | [] => 0
  | o :: r => (if o.kind = 1 then o.lines.length else 0) + madeN r
def linesN : List Opp → Nat
  | [] => 0
  | o :: r => o.lines.length + linesN r

theorem madeN_app (a b : List Opp) : madeN (a ++ b) = madeN a + madeN b := by
  induction a with
  | nil => simp [madeN]
  | cons o r ih => simp only [List.cons_append, madeN, ih]; omega
theorem linesN_app (a b : List Opp) : linesN (a ++ b) = linesN a + linesN b := by
  induction a with
  | nil => simp [linesN]
  | cons o r ih => simp only [List.cons_append, linesN, ih]; omega
theorem madeN_le (a : List Opp) : madeN a ≤ linesN a := by
  induction a with
  | nil => simp [madeN]
  | cons o r ih => simp only [madeN, linesN]; split <;> omega
theorem lines_mem {l : List Opp} {o : Opp} (h : o ∈ l) : o.lines.length ≤ linesN l := by
  induction l with
  | nil => simp at h
  | cons x r ih =>
    simp only [linesN]
    rcases List.mem_cons.1 h with rfl | h
    · omega
    · have := ih h; omega
theorem linesN_take (l : List Opp) (k : Nat) : linesN (l.take k) ≤ linesN l := by
  have := linesN_app (l.take k) (l.drop k)
  rw [List.take_append_drop] at this
  omega
theorem madeN_take (l : List Opp) (k : Nat) : madeN (l.take k) ≤ madeN l := by
  have := madeN_app (l.take k) (l.drop k)
  rw [List.take_append_drop] at this
  omega

theorem opR_lines {deps m : Nat} {o : Opp} (h : opR deps m o = true) : (if o.kind = 1 then o.lines.length else 0) = o.lines.length := by
  unfold opR at h
  split at h
  · rename_i e; rw [if_pos e]
  · rename_i e
    rw [if_neg e]
    split at h
    · simp only [Bool.and_eq_true, decide_eq_true_eq] at h; omega
    · split at h
      · simp only [Bool.and_eq_true, decide_eq_true_eq] at h; omega
      · cases h

theorem opsB_iff (deps : Nat) : ∀ (l : List Opp) (m : Nat), m ≤ 300 → (opsB deps m l = true ↔ opsR deps m l = true ∧ m + madeN l ≤ 300)
  | [], m, hm => by simp [opsB, opsR, madeN]; omega
  | o :: r, m, hm => by
    simp only [opsB, opsR, madeN, opB, Bool.and_eq_true, decide_eq_true_eq]
    constructor
    · rintro ⟨⟨h1, h2⟩, h3⟩
      have e := opR_lines h1
      have hm' : m + o.lines.length ≤ 300 := by
        by_cases hk : o.kind = 1
        · have := h2 hk; omega
        · rw [if_neg hk] at e; omega
      have := (opsB_iff deps r _ hm').1 h3
      rw [e]
      exact ⟨⟨h1, this.1⟩, by have := this.2; omega⟩
    · rintro ⟨⟨h1, h3⟩, h4⟩
      have e := opR_lines h1
      rw [e] at h3 h4
      refine ⟨⟨h1, fun _ => by omega⟩, (opsB_iff deps r _ (by omega)).2 ⟨h3, by omega⟩⟩

theorem opsB_app (deps : Nat) : ∀ (a b : List Opp) (m : Nat), opsB deps m (a ++ b) = (opsB deps m a && opsB deps (m + linesN a) b)
  | [], b, m => by simp [opsB, linesN]
  | o :: r, b, m => by
    simp only [List.cons_append, opsB, linesN, opsB_app deps r b, Bool.and_assoc]
    rw [Nat.add_assoc]

def Ris (d : Lb) (k : Nat) : Prop := ∀ j, j < k → ∀ x, d[j]? = some x → rightL x.data.toList = true ∧ ∀ i y, j = i + 1 → d[i]? = some y → ¬ x.data.toList ≤ y.data.toList
noncomputable def risB (d : Lb) : Bool := @decide (d.length ≤ 64 ∧ Ris d d.length) (Classical.propDecidable _)
theorem risB_iff {d : Lb} : risB d = true ↔ d.length ≤ 64 ∧ Ris d d.length := by unfold risB; exact @decide_eq_true_iff _ (Classical.propDecidable _)

noncomputable def soundB (p : Pt) : Bool := decide (p.note.size ≤ 100) && decide (p.ops.length ≤ 400) && risB p.deps && opsB p.deps.length 0 p.ops

def txT (t : ByteArray) : Tm := .mk false t []
def liT (xs : List Tm) : Tm := .mk true noText xs
def nuT (n : Int) : Tm := txT (tx (itoa n))
def rfT (r : Rf) : Tm := liT [nuT r.at_, nuT r.n]
def tsT (l : Lb) : Tm := liT (l.map txT)
def opT (o : Opp) : Tm := liT [nuT o.kind, rfT o.a, rfT o.b, tsT o.lines]
def headB : ByteArray := ⟨#[116, 97, 109, 98, 111, 117, 114]⟩
def ptT (p : Pt) : Tm := liT [txT headB, txT p.note, tsT p.deps, liT (p.ops.map opT)]

theorem oks_all {α : Type} (f : α → Tm) (h : ∀ x, (f x).ok = true) (l : List α) : Tm.oks (l.map f) = true := by
  rw [Tm.oks_iff]
  intro x hx
  obtain ⟨y, _, rfl⟩ := List.mem_map.1 hx
  exact h y
theorem depths_all {α : Type} (f : α → Tm) (d : Nat) (h : ∀ x, (f x).depth ≤ d) (l : List α) : Tm.depths (l.map f) ≤ d := by
  rw [Tm.depths_le]
  intro x hx
  obtain ⟨y, _, rfl⟩ := List.mem_map.1 hx
  exact h y
theorem liT_ok (xs : List Tm) : (liT xs).ok = Tm.oks xs := by unfold liT; rw [Tm.ok_list]; rfl
theorem txT_ok (t : ByteArray) : (txT t).ok = true := by unfold txT; rw [Tm.ok_text]; rfl
theorem liT_depth (xs : List Tm) : (liT xs).depth = Tm.depths xs + 1 := by unfold liT; rw [Tm.depth]; rfl
theorem txT_depth (t : ByteArray) : (txT t).depth = 0 := by unfold txT; rw [Tm.depth]; rfl
theorem nuT_ok (n : Int) : (nuT n).ok = true := txT_ok _
theorem rfT_ok (r : Rf) : (rfT r).ok = true := by simp [rfT, liT_ok, Tm.oks, nuT_ok]
theorem tsT_ok (l : Lb) : (tsT l).ok = true := by rw [tsT, liT_ok]; exact oks_all _ txT_ok _
theorem opT_ok (o : Opp) : (opT o).ok = true := by simp [opT, liT_ok, Tm.oks, nuT_ok, rfT_ok, tsT_ok]
theorem ptT_ok (p : Pt) : (ptT p).ok = true := by
  simp only [ptT, liT_ok, Tm.oks, txT_ok, tsT_ok, oks_all _ opT_ok, Bool.and_self]
theorem nuT_depth (n : Int) : (nuT n).depth = 0 := txT_depth _
theorem rfT_depth (r : Rf) : (rfT r).depth = 1 := by simp [rfT, liT_depth, Tm.depths, nuT_depth]
theorem tsT_depth (l : Lb) : (tsT l).depth ≤ 1 := by
  rw [tsT, liT_depth]
  have := depths_all txT 0 (fun t => by rw [txT_depth]; exact Nat.le_refl _) l
  omega
theorem opT_depth (o : Opp) : (opT o).depth ≤ 2 := by
  have := tsT_depth o.lines
  simp only [opT, liT_depth, Tm.depths, nuT_depth, rfT_depth]
  omega
theorem ptT_depth (p : Pt) : (ptT p).depth ≤ 4 := by
  have h1 := tsT_depth p.deps
  have h2 := depths_all opT 2 opT_depth p.ops
  simp only [ptT, liT_depth, Tm.depths, txT_depth]
  omega

noncomputable def rightP (p : Pt) : Bool := soundB p && decide ((ptT p).bytes.length ≤ 65536)
theorem can_iff (p : Pt) : CanW 0 [] (ptT p) ↔ (ptT p).bytes.length ≤ 65536 := by
  have := ptT_depth p
  unfold CanW
  rw [ptT_ok]
  simp only [List.length_nil, true_and]
  omega
noncomputable def bytesP (p : Pt) : List UInt8 := if rightP p then (ptT p).bytes else []
def nameL (p : Pt) : List UInt8 := hexL (sumL (ptT p).bytes)
noncomputable def nameP (p : Pt) : List UInt8 := if rightP p then nameL p else []

def wfI (n : Int) : Prop := -9223372036854775808 ≤ n ∧ n ≤ 9223372036854775807
def Rf.wf (r : Rf) : Prop := wfI r.at_ ∧ wfI r.n
def Opp.wf (o : Opp) : Prop := wfI o.kind ∧ o.a.wf ∧ o.b.wf
def Pt.wf (p : Pt) : Prop := ∀ o ∈ p.ops, o.wf

theorem nuT_inj {n m : Int} (hn : wfI n) (hm : wfI m) (h : nuT n = nuT m) : n = m := by
  unfold nuT txT at h
  injection h with _ h _
  exact itoa_inj hn.1 hn.2 hm.1 hm.2 (tx_inj h)
theorem liT_inj {xs ys : List Tm} (h : liT xs = liT ys) : xs = ys := by unfold liT at h; injection h
theorem txT_inj {s t : ByteArray} (h : txT s = txT t) : s = t := by unfold txT at h; injection h
theorem rfT_inj {r s : Rf} (hr : r.wf) (hs : s.wf) (h : rfT r = rfT s) : r = s := by
  have h := liT_inj h
  simp only [List.cons.injEq, and_true] at h
  cases r; cases s
  have h1 := nuT_inj hr.1 hs.1 h.1
  have h2 := nuT_inj hr.2 hs.2 h.2
  simp_all
theorem map_inj_on {α β : Type} (f : α → β) (Q : α → Prop) (h : ∀ x y, Q x → Q y → f x = f y → x = y) : ∀ l m : List α, (∀ x ∈ l, Q x) → (∀ x ∈ m, Q x) → l.map f = m.map f → l = m
  | [], [], _, _, _ => rfl
  | [], _ :: _, _, _, e => by simp at e
  | _ :: _, [], _, _, e => by simp at e
  | x :: r, y :: s, hl, hm, e => by
    simp only [List.map_cons, List.cons.injEq] at e
    rw [h x y (hl x (by simp)) (hm y (by simp)) e.1, map_inj_on f Q h r s (fun z hz => hl z (by simp [hz])) (fun z hz => hm z (by simp [hz])) e.2]
theorem tsT_inj {l m : Lb} (h : tsT l = tsT m) : l = m :=
  map_inj_on txT (fun _ => True) (fun _ _ _ _ e => txT_inj e) l m (fun _ _ => trivial) (fun _ _ => trivial) (liT_inj h)
theorem opT_inj {o q : Opp} (ho : o.wf) (hq : q.wf) (h : opT o = opT q) : o = q := by
  have h := liT_inj h
  simp only [List.cons.injEq, and_true] at h
  cases o; cases q
  have h1 := nuT_inj ho.1 hq.1 h.1
  have h2 := rfT_inj ho.2.1 hq.2.1 h.2.1
  have h3 := rfT_inj ho.2.2 hq.2.2 h.2.2.1
  have h4 := tsT_inj h.2.2.2
  simp_all
theorem ptT_inj {p q : Pt} (hp : p.wf) (hq : q.wf) (h : ptT p = ptT q) : p = q := by
  have h := liT_inj h
  simp only [List.cons.injEq, and_true, true_and] at h
  cases p; cases q
  have h1 := txT_inj h.1
  have h2 := tsT_inj h.2.1
  have h3 := map_inj_on opT Opp.wf (fun _ _ => opT_inj) _ _ hp hq (liT_inj h.2.2)
  simp_all
end Go.Proofs.YtgjcblginkdinaaGreatDoor
