/- Maps whose keys are pointers: what a look-up and a store leave. Whether two pointers into unlike blocks are one may be asked of the tape: nothing is said of the answer. No function of the program is named here. The contract of the program's sound: it ends, and turns nothing that was there. What it answers isn't said. -/
import Derived.Maps.Own
import Derived.Maps.OwnOps
import Derived.LaidEql
import Derived.Test.YtojnagonhihknaaGreatDoorU22
import Derived.Test.YtojnagonhihknaaGreatDoorU3
import Derived.Test.YtojnagonhihknaaGreatDoorU5
import Derived.Test.YtojnagonhihknaaGreatDoorU7
import Derived.Test.YtojnagonhihknaaGreatDoorU8
set_option linter.unusedVariables false
namespace Go.Proofs.YtojnagonhihknaaGreatDoor
open Go.ChangeShapes Go.WideShapes Go.ChangeAt Go.RowKit

section
variable {P : Program}

theorem run_stringish (w : World) (a : Addr) : ∃ m : Bool, (stringish a).run P w = .ok m w := by
  unfold stringish
  cases hf : w.frozen? a with
  | true => exact ⟨true, by simp [hf]⟩
  | false =>
    cases hs : w.shape? a.block with
    | none => exact ⟨false, by simp [hf, hs]⟩
    | some x =>
      obtain ⟨t, n⟩ := x
      exact ⟨w.frozen? { block := a.block, off := n }, by simp [hf, hs]⟩

theorem run_mayBeOne (w : World) (a b : Addr) : ∃ m : Bool, (mayBeOne a b).run P w = .ok m w := by
  obtain ⟨x, hx⟩ := run_stringish (P := P) w a
  obtain ⟨y, hy⟩ := run_stringish (P := P) w b
  unfold mayBeOne
  exact ⟨_, by simp only [Sem.run_bind, hx, hy, Result.andThen_ok, run_shape, Sem.run_pure]; rfl⟩

theorem run_sameAddr_some (w : World) (a b : Addr) (ha : w.frozen? a = false) (sa : (w.shape? a.block).isSome = true) (sb : (w.shape? b.block).isSome = true) : ∃ (r : Bool) (n : Nat), (sameAddr a b).run P w = .ok r (w.drewN n) := by
  have h0 : w.drewN 0 = w := rfl
  cases hb : a.block == b.block with
  | true => exact ⟨a == b, 0, by simp [sameAddr, hb, h0]⟩
  | false =>
    obtain ⟨m, hm⟩ := run_mayBeOne (P := P) w a b
    have va : (viewAt a.block).run P w = .ok none w := by simp [viewAt, sa]
    have vb : (viewAt b.block).run P w = .ok none w := by simp [viewAt, sb]
    cases m with
    | false => exact ⟨false, 0, by simp [sameAddr, hb, ha, noView, va, vb, hm, h0]⟩
    | true =>
      have hd : w.drewN 1 = w.drew := rfl
      cases hq : (Question.extern "sameAddr.stringBytes" 2).forced with
      | true => exact ⟨_, 0, by simp [sameAddr, hb, ha, noView, va, vb, hm, h0, hq]; rfl⟩
      | false => exact ⟨_, 1, by simp [sameAddr, hb, ha, noView, va, vb, hm, hd, hq]; rfl⟩

theorem run_equal_ptr (w : World) {k e : TypeId} {i : TypeInfo} (hk : P.underlying k = some (.pointer e)) (he : P.info? e = some i) (hz : P.cellsOf e ≠ 0) (a b : Addr) (ha : w.frozen? a = false) (sa : (w.shape? a.block).isSome = true) (sb : (w.shape? b.block).isSome = true) :
    ∃ (r : Bool) (n : Nat), (Op.equal k (.pointer (some a)) (.pointer (some b))).run P w = .ok r (w.drewN n) := by
  obtain ⟨r, n, h⟩ := run_sameAddr_some (P := P) w a b ha sa sb
  refine ⟨r, n, ?_⟩
  show (Op.equalIn (9999 + 1) k _ _).run P w = _
  rw [Op.equalIn]
  simp only [Sem.run_bind, run_underlying hk, Result.andThen_ok, run_sizeOf w he]
  simp [hz, h]

def PtrE (w : World) (V : Value → Prop) (e : MapEntry) : Prop := (∃ a : Addr, e.key = .pointer (some a) ∧ (w.shape? a.block).isSome = true) ∧ V e.val

theorem run_findAsking_ptr {k e : TypeId} {i : TypeInfo} (hk : P.underlying k = some (.pointer e)) (he : P.info? e = some i) (hz : P.cellsOf e ≠ 0) (a : Addr) (V : Value → Prop) : ∀ (es : List MapEntry) (j : Nat) (w : World), w.frozen? a = false → (w.shape? a.block).isSome = true → (∀ x ∈ es, PtrE w V x) →
    ∃ (r : Option (Nat × Value)) (n : Nat), (Instr.findAsking k (.pointer (some a)) es j).run P w = .ok r (w.drewN n) ∧ ∀ q v, r = some (q, v) → V v
  | [], j, w, _, _, _ => ⟨none, 0, by simp [Instr.findAsking, World.drewN], fun _ _ h => by cases h⟩
  | x :: es, j, w, ha, sa, hall => by
    obtain ⟨⟨b, hb, sb⟩, hv⟩ := hall x (by simp)
    obtain ⟨r, n, hr⟩ := run_equal_ptr (P := P) w hk he hz a b ha sa sb
    cases r with
    | true => exact ⟨some (j, x.val), n, by simp [Instr.findAsking, hb, hr], fun q v h => by cases h; exact hv⟩
    | false =>
      obtain ⟨r2, n2, h2, h3⟩ := run_findAsking_ptr hk he hz a V es (j + 1) (w.drewN n) ha sa (fun y hy => hall y (by simp [hy]))
      exact ⟨r2, n + n2, by simp [Instr.findAsking, hb, hr, h2], h3⟩

theorem run_findKey_ptr {k e : TypeId} {i : TypeInfo} (hk : P.underlying k = some (.pointer e)) (he : P.info? e = some i) (hz : P.cellsOf e ≠ 0) (a : Addr) (V : Value → Prop) (es : List MapEntry) (w : World) (ha : w.frozen? a = false) (sa : (w.shape? a.block).isSome = true) (hall : ∀ x ∈ es, PtrE w V x) :
    ∃ (r : Option (Nat × Value)) (n : Nat), (Instr.findKey k (.pointer (some a)) es).run P w = .ok r (w.drewN n) ∧ ∀ q v, r = some (q, v) → V v := by
  cases es with
  | nil => exact ⟨none, 0, by simp [Instr.findKey, run_underlying hk, Instr.findNow, World.drewN], fun _ _ h => by cases h⟩
  | cons x es =>
    obtain ⟨r, n, h, hv⟩ := run_findAsking_ptr hk he hz a V (x :: es) 0 w ha sa hall
    exact ⟨r, n, by simp [Instr.findKey, run_underlying hk, Instr.findNow, Instr.sameNow, h], hv⟩

theorem run_checkKey_ptr {k e : TypeId} (hk : P.underlying k = some (.pointer e)) (em : Bool) (v : Value) (w : World) : (Instr.checkKey em 10000 k v).run P w = .ok () w := by
  show (Instr.checkKey em (9999 + 1) k v).run P w = _
  rw [Instr.checkKey]
  simp only [Sem.run_bind, run_underlying hk, Result.andThen_ok]
  simp

def PMap (w : World) (V : Value → Prop) (B m : Nat) : Prop := ∃ es clock, w.heap[m]? = some (.map es clock) ∧ ∀ x ∈ es.toList, (∃ a : Addr, x.key = .pointer (some a) ∧ a.block < B ∧ (w.shape? a.block).isSome = true) ∧ V x.val

theorem PMap.lt {w : World} {V : Value → Prop} {B m : Nat} (h : PMap w V B m) : m < w.heap.size := by
  obtain ⟨es, clock, h1, _⟩ := h
  rcases Nat.lt_or_ge m w.heap.size with h | h
  · exact h
  · rw [Array.getElem?_eq_none h] at h1; cases h1
theorem shape_of_block {w w' : World} {b : Nat} (h : w'.heap[b]? = w.heap[b]?) : w'.shape? b = w.shape? b := by unfold World.shape?; rw [h]
theorem PMap.carry {w w' : World} {V : Value → Prop} {B m : Nat} (h : PMap w V B m) (hm : w'.heap[m]? = w.heap[m]?) (hb : ∀ i, i < B → w'.heap[i]? = w.heap[i]?) : PMap w' V B m := by
  obtain ⟨es, clock, h1, h2⟩ := h
  refine ⟨es, clock, hm.trans h1, fun x hx => ?_⟩
  obtain ⟨⟨a, e, ha, hs⟩, hv⟩ := h2 x hx
  exact ⟨⟨a, e, ha, by rw [shape_of_block (hb _ ha)]; exact hs⟩, hv⟩

theorem run_lookup_ptr {t k e E : TypeId} {i : TypeInfo} (ht : P.underlying t = some (.map k E)) (hk : P.underlying k = some (.pointer e)) (he : P.info? e = some i) (hz : P.cellsOf e ≠ 0) {z : Value} {w : World} (hzero : ∀ w : World, (zeroValue E).run P w = .ok z w) {V : Value → Prop} (hVz : V z) {B m : Nat} (h : PMap w V B m)
    {a : Addr} (ha : w.frozen? a = false) (sa : (w.shape? a.block).isSome = true) : ∃ (v : Value) (n : Nat), (Instr.lookup t (.map (some m)) (.pointer (some a)) false).run P w = .ok v (w.drewN n) ∧ V v := by
  obtain ⟨es, clock, h1, h2⟩ := h
  obtain ⟨r, n, hr, hv⟩ := run_findKey_ptr hk he hz a V es.toList w ha sa (fun x hx => by
    obtain ⟨⟨b, e1, _, e2⟩, e3⟩ := h2 x hx
    exact ⟨⟨b, e1, e2⟩, e3⟩)
  cases r with
  | none => exact ⟨z, n, by simp [Instr.lookup, run_underlying ht, MapKept.run_getObj_map h1, run_checkKey_ptr hk, hr, hzero, Result.andThen], hVz⟩
  | some q =>
    obtain ⟨q, v⟩ := q
    exact ⟨v, n, by simp [Instr.lookup, run_underlying ht, MapKept.run_getObj_map h1, run_checkKey_ptr hk, hr, Result.andThen], hv _ _ rfl⟩

theorem run_keyThatStays (w : World) (o n : Value) : ∃ (v : Value) (d : Nat), (Instr.keyThatStays o n).run P w = .ok v (w.drewN d) ∧ (v = o ∨ v = n) := by
  unfold Instr.keyThatStays
  cases hs : Instr.sameBits 10000 o n with
  | true => exact ⟨n, 0, by simp [World.drewN], .inr rfl⟩
  | false =>
    have hd : w.drewN 1 = w.drew := rfl
    cases hq : (Question.extern "map.whichKeyStays" 2).forced with
    | true => exact ⟨n, 0, by simp [hq, World.drewN], .inr rfl⟩
    | false =>
      by_cases hc : (Question.extern "map.whichKeyStays" 2).cut (w.tape w.drawn (Question.extern "map.whichKeyStays" 2)) = 0
      · exact ⟨n, 1, by simp [hq, hc, hd], .inr rfl⟩
      · exact ⟨o, 1, by simp [hq, hc, hd], .inl rfl⟩

theorem run_mapUpdate_ptr {t k e E : TypeId} {i : TypeInfo} (ht : P.underlying t = some (.map k E)) (hk : P.underlying k = some (.pointer e)) (he : P.info? e = some i) (hz : P.cellsOf e ≠ 0) {w : World} {V : Value → Prop} {B m : Nat} (h : PMap w V B m)
    {a : Addr} (ha : w.frozen? a = false) (sa : (w.shape? a.block).isSome = true) (hB : a.block < B) (hm : B ≤ m) {v : Value} (hv : V v) :
    ∃ (w' : World), (Instr.mapUpdate t (.map (some m)) (.pointer (some a)) v).run P w = .ok () w' ∧ PMap w' V B m ∧ Off (· = m) w w' := by
  obtain ⟨es, clock, h1, h2⟩ := h
  have hlt : m < w.heap.size := PMap.lt ⟨es, clock, h1, h2⟩
  obtain ⟨r, n, hr, hrv⟩ := run_findKey_ptr hk he hz a V es.toList w ha sa (fun x hx => by
    obtain ⟨⟨b, e1, _, e2⟩, e3⟩ := h2 x hx
    exact ⟨⟨b, e1, e2⟩, e3⟩)
  have fin : ∀ (d : Nat) (es' : Array MapEntry) (clock' : Nat), (∀ x ∈ es'.toList, (∃ b : Addr, x.key = .pointer (some b) ∧ b.block < B ∧ (w.shape? b.block).isSome = true) ∧ V x.val) →
      PMap { w.drewN d with heap := w.heap.setIfInBounds m (.map es' clock') } V B m ∧ Off (· = m) w { w.drewN d with heap := w.heap.setIfInBounds m (.map es' clock') } := by
    intro d es' clock' hes
    have ho : ∀ j, j ≠ m → (w.heap.setIfInBounds m (.map es' clock'))[j]? = w.heap[j]? := fun j hj => by rw [Array.getElem?_setIfInBounds_ne (Ne.symm hj)]
    refine ⟨⟨es', clock', ?_, fun x hx => ?_⟩, rfl, rfl, rfl, by simp, fun j _ hj => ho j hj⟩
    · show (w.heap.setIfInBounds m (.map es' clock'))[m]? = _
      rw [Array.getElem?_setIfInBounds_self_of_lt hlt]
    · obtain ⟨⟨b, e1, e2, e3⟩, e4⟩ := hes x hx
      refine ⟨⟨b, e1, e2, ?_⟩, e4⟩
      have : (World.shape? { w.drewN d with heap := w.heap.setIfInBounds m (.map es' clock') } b.block) = w.shape? b.block := shape_of_block (ho _ (by omega))
      rw [this]; exact e3
  cases r with
  | none =>
    have hb' : (w.drewN n).heap[m]? = some (.map es clock) := h1
    obtain ⟨f1, f2⟩ := fin n (es.push { key := .pointer (some a), val := v, born := clock }) (clock + 1) (fun x hx => by
      simp only [Array.toList_push, List.mem_append, List.mem_singleton] at hx
      rcases hx with hx | rfl
      · exact h2 x hx
      · exact ⟨⟨a, rfl, hB, sa⟩, hv⟩)
    exact ⟨_, by simp [Instr.mapUpdate, run_underlying ht, MapKept.run_getObj_map h1, run_checkKey_ptr hk, hr, MapKept.run_setObj_map _ hb', Result.andThen], f1, f2⟩
  | some q =>
    obtain ⟨q, u⟩ := q
    obtain ⟨k2, d, hk2, hor⟩ := run_keyThatStays (P := P) (w.drewN n) (((es[q]?).map (·.key)).getD (.pointer (some a))) (.pointer (some a))
    have hb' : (w.drewN (n + d)).heap[m]? = some (.map es clock) := h1
    have hkey : ∃ b : Addr, k2 = .pointer (some b) ∧ b.block < B ∧ (w.shape? b.block).isSome = true := by
      rcases hor with rfl | rfl
      · cases hq : es[q]? with
        | none => exact ⟨a, rfl, hB, sa⟩
        | some x =>
          have hx : x ∈ es.toList := Array.mem_toList_iff.2 (Array.mem_of_getElem? hq)
          exact (h2 x hx).1
      · exact ⟨a, rfl, hB, sa⟩
    obtain ⟨f1, f2⟩ := fin (n + d) (es.modify q fun x => { x with key := k2, val := v }) clock (fun x hx => by
      obtain ⟨j, hj, e⟩ := List.mem_iff_getElem.1 hx
      simp only [Array.length_toList, Array.size_modify] at hj
      rw [Array.getElem_toList, Array.getElem_modify] at e
      split at e
      · rw [← e]; exact ⟨hkey, hv⟩
      · rw [← e]; exact h2 _ (Array.mem_toList_iff.2 (Array.getElem_mem _)))
    have hdd : ((w.drewN n).drewN d) = w.drewN (n + d) := by simp [World.drewN, Nat.add_assoc]
    exact ⟨_, by simp [Instr.mapUpdate, run_underlying ht, MapKept.run_getObj_map h1, run_checkKey_ptr hk, hr, hk2, MapKept.run_setObj_map _ hb', Result.andThen, hdd], f1, f2⟩

end
end Go.Proofs.YtojnagonhihknaaGreatDoor
set_option linter.unusedVariables false
namespace Go.Proofs.YtojnagonhihknaaGreatDoor
open Go.ChangeShapes Go.WideShapes Go.ChangeAt Go.RowKit

theorem least_ex {p : Nat → Prop} (h : ∃ n, p n) : ∃ n, p n ∧ ∀ m, p m → n ≤ m := by
  have : ∀ k n, n ≤ k → p n → ∃ n, p n ∧ ∀ m, p m → n ≤ m := by
    intro k
    induction k with
    | zero => intro n hn hp; exact ⟨n, hp, fun m _ => by omega⟩
    | succ k ih =>
      intro n hn hp
      by_cases hx : ∃ m, p m ∧ m < n
      · obtain ⟨m, hm, hlt⟩ := hx
        exact ih m (by omega) hm
      · exact ⟨n, hp, fun m hm => by
          rcases Nat.lt_or_ge m n with h | h
          · exact absurd ⟨m, hm, h⟩ hx
          · exact h⟩
  obtain ⟨n, hn⟩ := h
  exact this n n (Nat.le_refl _) hn
open Classical in
noncomputable def leastN (p : Nat → Prop) : Nat := if h : ∃ n, p n ∧ ∀ m, p m → n ≤ m then Classical.choose h else 0
theorem leastN_spec {p : Nat → Prop} (h : ∃ n, p n) : p (leastN p) := by
  have h2 := least_ex h
  unfold leastN
  rw [dif_pos h2]
  exact (Classical.choose_spec h2).1
theorem leastN_le {p : Nat → Prop} {n : Nat} (h : p n) : leastN p ≤ n := by
  have h2 := least_ex ⟨n, h⟩
  unfold leastN
  rw [dif_pos h2]
  exact (Classical.choose_spec h2).2 n h

abbrev TD := Nat × Nat × Nat × List Tm
def TD.val (p : TD) : Value := .slice (some ⟨p.1, p.2.1, none⟩) p.2.2.2.length p.2.2.1
def TD.good (w w1 : World) (p : TD) : Prop :=
  (p.1 < w.heap.size ∨ p.1 = w.heap.size + 2) ∧ p.2.2.2.length ≤ p.2.2.1 ∧ p.2.2.1 ≤ maxLen ∧ ∀ j l t ys, p.2.2.2[j]? = some (.mk l t ys) → ∃ a c, w1.cell? ⟨p.1, p.2.1 + j * 3, none⟩ = some (.bool l) ∧
    w1.cell? ⟨p.1, p.2.1 + j * 3 + 1, none⟩ = some (.string t) ∧ w1.cell? ⟨p.1, p.2.1 + j * 3 + 2, none⟩ = some (.slice a ys.length c) ∧ t.size ≤ 140737488355328 ∧ SlG w (.slice a ys.length c) ys
def wtd : List TD → Nat
  | [] => 0
  | p :: r => wtd r + (2 * Tm.partss p.2.2.2 + 1)
theorem wtd_app (a b : List TD) : wtd (a ++ b) = wtd a + wtd b := by
  induction a with
  | nil => simp [wtd]
  | cons p r ih => simp only [List.cons_append, wtd, ih]; omega
theorem len_wtd (a : List TD) : a.length ≤ wtd a := by
  induction a with
  | nil => simp
  | cons p r ih => simp only [List.length_cons, wtd]; omega
theorem partss_drop (xs : List Tm) (k : Nat) : Tm.partss (xs.drop k) ≤ Tm.partss xs := by
  have h := congrArg Tm.partss (List.take_append_drop k xs)
  rw [Tm.partss_app] at h
  omega
theorem partss_at {xs : List Tm} {k : Nat} {x : Tm} (h : xs[k]? = some x) : Tm.partss (xs.drop k) = x.parts + Tm.partss (xs.drop (k + 1)) := by
  obtain ⟨hk, e⟩ := List.getElem?_eq_some_iff.1 h
  rw [List.drop_eq_getElem_cons hk, e, Tm.partss]

def IsN (v : Value) : Prop := ∃ z : Nat, v = .int .i64 (z : Nat) ∧ z ≤ 9223372036854775807

def Todo (w w1 : World) (W : Nat) (v : Value) (wr : World) : Prop :=
  ∃ qs : List TD, Row 1 w.heap.size wr v qs.length (qs.map TD.val) ∧ (∀ b, v.ownBlock = some b → b = w.heap.size + 3 ∨ w.heap.size + 4 ≤ b) ∧ (∀ q ∈ qs, TD.good w w1 q) ∧
    PMap wr IsN w.heap.size (w.heap.size + 1) ∧ Off (fun i => i = w.heap.size + 1 ∨ i = w.heap.size + 3) w1 wr ∧ wtd qs = W ∧ W ≤ 2000001

theorem Todo.below {w w1 wr wz : World} {W : Nat} {v : Value} (h : Todo w w1 W v wr) (hs1 : w1.heap.size = w.heap.size + 4) (hb : Below wr.heap.size wr wz) : Todo w w1 W v wz := by
  obtain ⟨qs, hrow, hown, hgood, hpm, hoff, hwt, hle⟩ := h
  have hsz := hoff.size
  exact ⟨qs, hrow.below hb, hown, hgood, hpm.carry (hb.block _ hpm.lt) (fun i hi => hb.block i (by omega)), hoff.trans (Off.of_below hb), hwt, hle⟩
theorem todo_push {w w1 w3 w6 w7 : World} {v v6 : Value} {qs : List TD} {q : TD} {W : Nat} (hs1 : w1.heap.size = w.heap.size + 4) (hown : ∀ b, v.ownBlock = some b → b = w.heap.size + 3 ∨ w.heap.size + 4 ≤ b)
    (hgood : ∀ q ∈ qs, TD.good w w1 q) (hq : TD.good w w1 q) (hoff3 : Off (fun i => i = w.heap.size + 1 ∨ i = w.heap.size + 3) w1 w3) (hr6 : Row 1 w.heap.size w6 v6 (qs.length + 1) (qs.map TD.val ++ [q.val])) (ho6 : Off (fun i => v.ownBlock = some i) w3 w6)
    (hw6 : v6.ownBlock = v.ownBlock ∨ v6.ownBlock = some w3.heap.size) (hp7 : PMap w7 IsN w.heap.size (w.heap.size + 1)) (ho7 : Off (· = w.heap.size + 1) w6 w7) (hW : wtd qs + (2 * Tm.partss q.2.2.2 + 1) = W) (hle : W ≤ 2000001) : Todo w w1 W v6 w7 := by
  have hsz := hoff3.size
  have hown6 : ∀ b, v6.ownBlock = some b → b = w.heap.size + 3 ∨ w.heap.size + 4 ≤ b := fun b hb => by
    rcases hw6 with e | e
    · exact hown b (by rw [← e]; exact hb)
    · rw [e] at hb
      injection hb with hb
      omega
  refine ⟨qs ++ [q], ?_, hown6, fun x hx => ?_, hp7, ?_, ?_, hle⟩
  · rw [List.length_append, List.map_append]
    exact hr6.off ho7 fun b hb e => by
      have := hown6 b hb
      omega
  · rcases List.mem_append.1 hx with hx | hx
    · exact hgood x hx
    · obtain rfl := List.mem_singleton.1 hx
      exact hq
  · refine (hoff3.trans' ho6 fun i hi e => ?_).trans' ho7 fun i hi e => .inl e
    have := hown i e
    omega
  · rw [wtd_app]
    simp only [wtd]
    omega
theorem shape_of_cell {w : World} {p : Addr} {v : Value} (h : w.cell? p = some v) : (w.shape? p.block).isSome = true := by
  unfold World.cell? at h
  unfold World.shape?
  split at h
  · rfl
  · cases h
theorem Tryz.zeroI (w : World) : (zeroValue 3).run Tryz.prog w = .ok (.int .i64 0) w := by
  obtain ⟨i, hi, hz⟩ : ∃ i, Tryz.prog.info? 3 = some i ∧ i.zero = some (.int .i64 0) := by
    have h : (Tryz.prog.info? 3).map (·.zero) = some (some (.int .i64 0)) := by kernel_rfl
    obtain ⟨i, h1, h2⟩ := Option.map_eq_some_iff.1 h
    exact ⟨i, h1, h2⟩
  simp [zeroValue, run_typeInfo w hi, hz]
theorem Tryz.infoF : ∃ i, Tryz.prog.info? 122 = some i := by
  have h : (Tryz.prog.info? 122).isSome = true := by kernel_rfl
  exact Option.isSome_iff_exists.1 h
theorem Tryz.cellsF : Tryz.prog.cellsOf 122 ≠ 0 := of_decide_eq_true (by kernel_rfl)

theorem Tryz.infoL : (Tryz.prog.info? 120).map (fun i => (i.zero, i.size, i.bytes)) = some (some (.slice none 0 0), 1, 24) := by kernel_rfl

set_option maxHeartbeats 4000000 in
set_option maxRecDepth 100000 in
theorem sound_any (l : Bool) (t : ByteArray) (ys : List Tm) (w : World) (a : Option Addr) (c : Nat) (hG : SlG w (.slice a ys.length c) ys) (hts : t.size ≤ 140737488355328) (hsm : (Tm.mk l t ys).parts ≤ 1000000) :
    Calls Tryz.prog 136 #[fv l t (.slice a ys.length c)] w (SoundP (fun _ => True) w) := by
  obtain ⟨n, hn⟩ : ∃ n, n = ys.length := ⟨_, rfl⟩
  obtain ⟨w1, hw1⟩ : ∃ w1, w1 = ((((w.alloc (Obj.cells #[Value.bool l, Value.string t, Value.slice a n c] 122)).alloc (Obj.map #[] 0)).alloc (Obj.cells #[Value.bool l, Value.string t, Value.slice a n c] 122)).alloc
      (Obj.cells #[Value.slice (some { block := w.heap.size + 1 + 1, off := 0 }) 1 1] 120)) := ⟨_, rfl⟩
  have hs1 : w1.heap.size = w.heap.size + 4 := by rw [hw1]; simp
  have hb1 : Below w.heap.size w w1 := by
    rw [hw1]
    exact ((((Below.refl _ _).alloc (Nat.le_refl _) _).alloc (by simp) _).alloc (by simp; omega) _).alloc (by simp; omega) _
  have h0 : Todo w w1 (2 * (Tm.mk l t ys).parts + 1) (.slice (some ⟨w.heap.size + 3, 0, none⟩) 1 1) w1 := by
    refine ⟨[(w.heap.size + 2, 0, 1, [.mk l t ys])], ?_, fun b hb => .inl (by simpa [Value.ownBlock] using hb.symm), fun q hq => ?_, ?_, Off.refl _ _, ?_, by omega⟩
    · rw [hw1]
      have := row_new (k := 1) (B := w.heap.size) (w := ((w.alloc (Obj.cells #[Value.bool l, Value.string t, Value.slice a n c] 122)).alloc (Obj.map #[] 0)).alloc (Obj.cells #[Value.bool l, Value.string t, Value.slice a n c] 122)) (e := 120) (n := 1) (cs := [.slice (some ⟨w.heap.size + 2, 0, none⟩) 1 1]) (cap := 1) (xs := #[Value.slice (some { block := w.heap.size + 1 + 1, off := 0 }) 1 1]) (fr := (0, 0)) (by simp; omega) rfl (Nat.le_refl _) (by decide) (by simp) (.inl rfl) (fun j u hu => by simpa using hu)
      have e3 : (((w.alloc (Obj.cells #[Value.bool l, Value.string t, Value.slice a n c] 122)).alloc (Obj.map #[] 0)).alloc (Obj.cells #[Value.bool l, Value.string t, Value.slice a n c] 122)).heap.size = w.heap.size + 3 := by simp
      rw [e3] at this
      exact this
    · obtain rfl := List.mem_singleton.1 hq
      refine ⟨.inr rfl, Nat.le_refl _, (show 1 ≤ maxLen by decide), fun j l' t' ys' hj => ?_⟩
      have hj0 : j = 0 := by
        have := (List.getElem?_eq_some_iff.1 hj).1
        simp at this
        exact this
      subst hj0
      cases hj
      have hc : ∀ k, w1.cell? ⟨w.heap.size + 2, k, none⟩ = #[Value.bool l, Value.string t, Value.slice a n c][k]? := fun k => by
        rw [hw1]
        refine (World.cell?_of_block (a := ⟨w.heap.size + 2, k, none⟩) (Below.heap_alloc _ _ _ (by simp))).trans (World.cell?_alloc_at _ _ _ _ (by simp))
      exact ⟨a, c, hc 0, hc 1, by rw [← hn]; exact hc 2, hts, hG⟩
    · refine ⟨#[], 0, ?_, by simp⟩
      rw [hw1]
      refine (Below.heap_alloc _ _ _ (by simp)).trans ((Below.heap_alloc _ _ _ (by simp)).trans ?_)
      have e : w.heap.size + 1 = (w.alloc (Obj.cells #[Value.bool l, Value.string t, Value.slice a n c] 122)).heap.size := by simp
      show ((w.alloc (Obj.cells #[Value.bool l, Value.string t, Value.slice a n c] 122)).heap.push (Obj.map #[] 0))[w.heap.size + 1]? = _
      rw [e]
      exact Array.getElem?_push_size
    · simp [wtd, Tm.partss]
  rw [← hn]
  have HN := Lib.hid hn
  have HG := Lib.hid hG
  have H0 := Lib.hid h0
  have HW1 := Lib.hid hw1
  clear hn hG h0 hts hsm
  have hmm := @run_makeMap Tryz.prog
  go_enter Tryz.func136, Tryz.ntmps136
  go_wp2_with fail
  refine Eq.mp (congrArg (Code.wp _ _ _ _) hw1) ?_
  clear hw1
  go_loopw [4] (fun v wr => ∃ W, Todo w w1 W v wr) (fun v wr => leastN fun W => Todo w w1 W v wr)
  case atStart => exact ⟨_, H0.out⟩
  case round =>
    have hs := leastN_spec hrel
    obtain ⟨M, hM⟩ : ∃ M, M = leastN (fun W => Todo w w1 W u4 wr) := ⟨_, rfl⟩
    rw [← hM] at hs
    have HM := Lib.hid hM
    clear hrel hM
    obtain ⟨qs, hrow, hown, hgood, hpm, hoff, hwt, hle⟩ := hs
    have hbel : Below w.heap.size w wr := hb1.trans (hoff.below (fun i hi => by omega) (by omega))
    have HB := Lib.hid hbel
    have HPM := Lib.hid hpm
    have HOFF := Lib.hid hoff
    clear hbel hpm hoff
    rcases List.eq_nil_or_concat qs with rfl | ⟨rs, p, rfl⟩
    · obtain ⟨a4, c4, rfl, -, -⟩ := hrow.form'
      clear hrow hown hgood hwt
      go_wp2_with fail
      go_ret
      exact ⟨true, rfl, trivial, HB.out⟩
    · obtain ⟨k, hk⟩ : ∃ k, k = rs.length := ⟨_, rfl⟩
      have hlen : (rs.concat p).length = k + 1 := by rw [List.length_concat, hk]
      rw [hlen] at hrow
      obtain ⟨bp, op, cp, xs⟩ := p
      obtain ⟨nx, hnx⟩ : ∃ nx, nx = xs.length := ⟨_, rfl⟩
      obtain ⟨b0, cap0, rfl, r1, r2, r3, r4, r5, r6⟩ := hrow.pos (by omega)
      have hpc : wr.cell? ⟨b0, k, none⟩ = some (.slice (some ⟨bp, op, none⟩) nx cp) := by
        refine r6 k _ ?_
        rw [List.concat_eq_append, List.map_append, List.getElem?_append_right (by simp; omega)]
        simp [TD.val, hk, hnx]
      have hrow2 : Row 1 w.heap.size wr (.slice (some ⟨b0, 0, none⟩) k cap0) k (rs.map TD.val) := by
        refine ⟨by simp [hk], .inr ⟨b0, cap0, rfl, r1, r2, by omega, r4, r5, fun j u hu => r6 j u ?_⟩⟩
        rw [List.concat_eq_append, List.map_append, List.getElem?_append_left]
        · exact hu
        · exact (List.getElem?_eq_some_iff.1 hu).1
      obtain ⟨g1, g2, g3, g4⟩ := hgood (bp, op, cp, xs) (by simp)
      have hwt2 : wtd rs + (2 * Tm.partss xs + 1) = M := by
        rw [← hwt, List.concat_eq_append, wtd_app]
        simp [wtd]
      have hgood2 : ∀ q ∈ rs, TD.good w w1 q := fun q hq => hgood q (by simp [hq])
      have hown2 : b0 = w.heap.size + 3 ∨ w.heap.size + 4 ≤ b0 := hown b0 rfl
      have hkM : k ≤ 2000001 := by
        have := len_wtd rs
        omega
      have HROW2 := Lib.hid hrow2
      have HG4 := Lib.hid g4
      have HWT2 := Lib.hid hwt2
      have HGOOD2 := Lib.hid hgood2
      have HK := Lib.hid hk
      have HNX := Lib.hid hnx
      clear hrow hown hgood hwt hrow2 g4 hwt2 hgood2 hk hnx hlen r6
      have r5k := r5 k (by omega)
      have r3' : k + 1 ≤ cap0 := r3
      unfold maxLen at r4 g3
      dsimp only at g1 g2 g3
      have hnx9 : nx ≤ cp := by have := HNX.out; omega
      have hk9 : (k : Int) + 1 - 1 = k := by omega
      have hk8 : RowKit.wrap64 ((k : Int) + 1 - 1) = k := by unfold RowKit.wrap64; omega
      clear r5 
      go_wp2_with fail
      obtain ⟨w0, hw0⟩ : ∃ w0, w0 = wr := ⟨wr, rfl⟩
      rw [← hw0] at hpc r2 r5k HROW2 HB HPM HOFF HM
      have HW0 := Lib.hid hw0
      clear hw0
      go_loopw [4, 30] (fun v i wr => ∃ (j : Nat) (W : Nat), j ≤ nx ∧ i = .int .i64 (j : Nat) ∧ Todo w w1 W v wr ∧ W + 2 * Tm.partss (xs.drop j) + 1 ≤ M) (fun v i wr => nx - (intOf i).toNat)
      case atStart =>
        refine ⟨0, wtd rs, Nat.zero_le _, rfl, ⟨rs, by rw [← HK.out, ← HW0.out]; exact HROW2.out, fun b hb => ?_, HGOOD2.out, by rw [← HW0.out]; exact HPM.out, by rw [← HW0.out]; exact HOFF.out, rfl, by have := HWT2.out; omega⟩, ?_⟩
        · have : b0 = b := by simpa [Value.ownBlock] using hb
          omega
        · rw [List.drop_zero]; have := HWT2.out; omega
      case round =>
        obtain ⟨j, W, hj, rfl, htodo, hW⟩ := hrel
        have HTODO := Lib.hid htodo
        obtain ⟨qs, hrow, hown, hgood, hpm, hoff, hwt, hle2⟩ := htodo
        have hbel : Below w.heap.size w wr := hb1.trans (hoff.below (fun i hi => by omega) (by omega))
        obtain ⟨m, hm⟩ : ∃ m, m = qs.length := ⟨_, rfl⟩
        rw [← hm] at hrow
        obtain ⟨a4, c4, rfl, q1, q2⟩ := hrow.form'
        have HROW := Lib.hid hrow
        have HOWN := Lib.hid hown
        have HGOOD := Lib.hid hgood
        have HPM1 := Lib.hid hpm
        have HOFF1 := Lib.hid hoff
        have HWT := Lib.hid hwt
        have HB1 := Lib.hid hbel
        have HMM := Lib.hid hm
        have hm6 : m ≤ 2000001 := by
          have := len_wtd qs
          omega
        clear hrow hown hgood hpm hwt hbel hm
        by_cases hjn : j < nx
        · have hjx : j < xs.length := by rw [← HNX.out]; exact hjn
          obtain ⟨x, hx⟩ : ∃ x, xs[j]? = some x := ⟨xs[j], List.getElem?_eq_getElem hjx⟩
          obtain ⟨l1, t1, ys1⟩ := x
          obtain ⟨a1, c1, e1, e2, e3, e4, hs1'⟩ := HG4.out j l1 t1 ys1 hx
          have hbp : bp < w1.heap.size := by omega
          have hbn : ¬ (bp = w.heap.size + 1 ∨ bp = w.heap.size + 3) := by omega
          have d1 := (hoff.cell (p := ⟨bp, op + j * 3, none⟩) hbp hbn).trans e1
          have d2 := (hoff.cell (p := ⟨bp, op + j * 3 + 1, none⟩) hbp hbn).trans e2
          have d3 := (hoff.cell (p := ⟨bp, op + j * 3 + 2, none⟩) hbp hbn).trans e3
          obtain ⟨n1, hn1⟩ : ∃ n1, n1 = ys1.length := ⟨_, rfl⟩
          rw [← hn1] at d3 hs1'
          have hp := partss_at hx
          rw [hp, Tm.parts] at hW
          have HS1 := Lib.hid hs1'
          have HN1 := Lib.hid hn1
          have hn1c : n1 ≤ c1 ∧ c1 ≤ maxLen := by
            rw [hn1] at hs1'
            obtain ⟨a', c', e, h1, h2⟩ := hs1'.form
            injection e with e1 e2 e3
            omega
          have hc := fun wz => fright_any l1 t1 a1 n1 c1 wz (by omega)
          have HC := Lib.hid hc
          clear e1 e2 e3 hs1' hn1 hoff hx hp hc
          unfold maxLen at hn1c q2
          go_wp2_with fail
          refine (HC.out _).mono ?_
          rintro e w2 ⟨rfl, hb2⟩
          have hb3 : Below wr.heap.size wr w2 := ((Below.refl _ _).alloc (Nat.le_refl _) _).trans (hb2.mono (by simp))
          have hcz : ∀ k, w2.cell? ⟨wr.heap.size, k, none⟩ = #[Value.bool l1, Value.string t1, Value.slice a1 n1 c1][k]? := fun k => (hb2.cell (p := ⟨wr.heap.size, k, none⟩) (by simp)).trans (World.cell?_alloc_at _ _ _ _ rfl)
          have z1 : w2.cell? ⟨wr.heap.size, 0, none⟩ = some (.bool l1) := hcz 0
          have z2 : w2.cell? ⟨wr.heap.size, 1, none⟩ = some (.string t1) := hcz 1
          have z3 : w2.cell? ⟨wr.heap.size, 2, none⟩ = some (.slice a1 n1 c1) := hcz 2
          have zl : wr.heap.size < w2.heap.size := by have := hb2.size; simp at this; omega
          have HB3 := Lib.hid hb3
          clear hb2 hcz hb3 d1 d2 d3
          cases hr : rightB l1 t1 n1 with
          | false =>
            clear hr
            go_wp2_with fail
            go_ret
            exact ⟨false, rfl, trivial, HB1.out.trans (HB3.out.mono (HB1.out.size))⟩
          | true =>
            clear hr
            by_cases hn0 : n1 = 0
            · have hz0 : ((n1 : Int) == 0) = true := by rw [beq_iff_eq]; omega
              have HN0 := Lib.hid hn0
              clear hn0
              go_wp2_with fail
              refine ⟨⟨j + 1, W, hjn, by go_num, HTODO.out.below hs1 HB3.out, by omega⟩, by simp [intOf]; omega⟩
            · have hz0 : ((n1 : Int) == 0) = false := by rw [beq_eq_false_iff_ne]; omega
              have hpos : 0 < n1 := by omega
              have hsg : SlG w (.slice a1 ys1.length c1) ys1 := by rw [← HN1.out]; exact HS1.out
              obtain ⟨b1, o1, c1', he1, -, -, hf1, hgr⟩ := hsg.pos (by rintro rfl; have := HN1.out; simp at this; omega)
              injection he1 with he1 _ he2
              subst he1
              subst he2
              have hb1w : b1 < w.heap.size := hgr.1
              have hsh : (w.shape? b1).isSome = true := by
                obtain ⟨y, r, hyr⟩ := List.exists_cons_of_ne_nil (l := ys1) (by rintro rfl; have := HN1.out; simp at this; omega)
                obtain ⟨ly, ty, yy⟩ := y
                obtain ⟨_, _, hc0, _⟩ := hgr.2 0 ly ty yy (by rw [hyr]; rfl)
                exact shape_of_cell hc0
              have hbw2 : Below w.heap.size w w2 := HB1.out.trans (HB3.out.mono (HB1.out.size))
              have hf2 : w2.frozen? ⟨b1, o1, none⟩ = false := (World.frozen?_of_block (w := w) (a := ⟨b1, o1, none⟩) (hbw2.block b1 hb1w)).trans hf1
              have hsh2 : (w2.shape? b1).isSome = true := by rw [shape_of_block (hbw2.block b1 hb1w)]; exact hsh
              have hpm2 : PMap w2 IsN w.heap.size (w.heap.size + 1) := by
                obtain ⟨_, _, _, _, h, _⟩ := HTODO.out.below hs1 HB3.out
                exact h
              obtain ⟨fi, hfi⟩ := Tryz.infoF
              obtain ⟨v9, nd, hrun, z, rfl, hz⟩ := run_lookup_ptr (P := Tryz.prog) (t := 247) Tryz.underlying247 Tryz.underlying249 hfi Tryz.cellsF Tryz.zeroI (V := IsN) ⟨0, rfl, by decide⟩ hpm2 hf2 hsh2
              have hmem1 : TD.good w w1 (b1, o1 + z * 3, c1 - z, ys1.drop z) := by
                refine ⟨.inl hb1w, ?_, ?_, fun i l' t' ys' hi => ?_⟩
                · show (ys1.drop z).length ≤ c1 - z
                  rw [List.length_drop, ← HN1.out]; omega
                · show c1 - z ≤ maxLen
                  unfold maxLen; omega
                · obtain ⟨a', c', f1, f2, f3, f4, f5⟩ := (hgr.drop z).2 i l' t' ys' hi
                  exact ⟨a', c', (hb1.cell (p := ⟨b1, o1 + z * 3 + i * 3, none⟩) hb1w).trans f1, (hb1.cell (p := ⟨b1, o1 + z * 3 + i * 3 + 1, none⟩) hb1w).trans f2, (hb1.cell (p := ⟨b1, o1 + z * 3 + i * 3 + 2, none⟩) hb1w).trans f3, f4, f5⟩
              have HF2 := Lib.hid hf2
              have HSH2 := Lib.hid hsh2
              have HPM2 := Lib.hid hpm2
              have HFI := Lib.hid hfi
              have HHB1 := Lib.hid hb1w
              have HQ := Lib.hid hmem1
              clear hsg hf1 hgr hsh hbw2 hf2 hsh2 hpm2 hfi hn0 hb1w hmem1
              by_cases hzn : z < n1
              · have hzi : (z : Int) < n1 := by omega
                have hzc : ¬ c1 = z := by omega
                have hsrc : Src Tryz.prog 1 248 (.slice (some ⟨w2.heap.size, 0, none⟩) 1 1) 1 [.slice (some ⟨b1, o1 + z * 3, none⟩) (n1 - z) (c1 - z)] ((w2.drewN nd).alloc (.cells #[.slice (some ⟨b1, o1 + z * 3, none⟩) (n1 - z) (c1 - z)] 120)) :=
                  src_new (P := Tryz.prog) (w := w2.drewN nd) (k := 1) Tryz.underlying248 [.slice (some ⟨b1, o1 + z * 3, none⟩) (n1 - z) (c1 - z)] 1 120 1 rfl (by intro u hu; obtain rfl := List.mem_singleton.1 hu; rfl)
                have hal : ∀ o, Below w2.heap.size w2 ((w2.drewN nd).alloc o) := fun o => (Below.drewN (Below.refl _ _)).alloc (by simp) o
                have hwr4 : w.heap.size + 4 ≤ wr.heap.size := by have := HOFF1.out.size; omega
                have hown' : ∀ b, (Value.slice a4 m c4).ownBlock = some b → b < wr.heap.size := fun b hb => (HROW.out.lt b hb).2
                have hlt1 : w.heap.size + 1 < w2.heap.size := by omega
                have HSRC := Lib.hid hsrc
                have HAL := Lib.hid hal
                have HOWN' := Lib.hid hown'
                clear hsrc hal hown'
                go_wp2_with (at_builtin; refine wpList_append_row rfl (.tmp 52) (.tmp 57) 248 248 rfl 1 120 (.slice none 0 0) 24 Tryz.underlying248 Tryz.infoL rfl w.heap.size (.slice a4 m c4) m (qs.map TD.val) (by simp [Act.eval]) (by exact (HROW.out.below (Below.drewN HB3.out)).alloc _) (.slice (some ⟨w2.heap.size, 0, none⟩) 1 1) (by simp [Act.eval]) 1 [.slice (some ⟨b1, o1 + z * 3, none⟩) (n1 - z) (c1 - z)] (by exact HSRC.out) (by simp; omega) (by omega) (by decide) ?_; intro v6 w6 hr6 ho6 hw6; have hblk : ∀ i, i < w2.heap.size → (i < w.heap.size ∨ i = w.heap.size + 1 ∨ i = wr.heap.size) → w6.heap[i]? = w2.heap[i]? := (fun i hi hor => (ho6.block i (by simp; omega) (fun e => by have h1 := HOWN.out _ e; have h2 := HOWN'.out _ e; omega)).trans ((HAL.out _).block i hi)); have k3 := (World.cell?_of_block (w := w2) (w' := w6) (a := ⟨wr.heap.size, 2, none⟩) (hblk _ zl (.inr (.inr rfl)))).trans z3; obtain ⟨w7, hrun7, hp7, ho7⟩ := run_mapUpdate_ptr (P := Tryz.prog) (t := 247) Tryz.underlying247 Tryz.underlying249 HFI.out Tryz.cellsF (V := IsN) (HPM2.out.carry (hblk _ hlt1 (.inr (.inl rfl))) (fun i hi => hblk i (by omega) (.inl hi))) ((World.frozen?_of_block (w := w2) (w' := w6) (a := ⟨b1, o1, none⟩) (hblk b1 (by have := HHB1.out; omega) (.inl HHB1.out))).trans HF2.out) (by rw [shape_of_block (hblk b1 (by have := HHB1.out; omega) (.inl HHB1.out))]; exact HSH2.out) HHB1.out (Nat.le_succ _) (v := .int .i64 (n1 : Nat)) ⟨n1, rfl, by omega⟩; have HR6 := Lib.hid hr6; have HO6 := Lib.hid ho6; have HW6 := Lib.hid hw6; have HP7 := Lib.hid hp7; have HO7 := Lib.hid ho7; clear hr6 ho6 hw6 hblk hp7 ho7)
                have hdp := partss_drop ys1 z
                have hzl : (ys1.drop z).length = n1 - z := by rw [List.length_drop, ← HN1.out]
                have hv9 : TD.val (b1, o1 + z * 3, c1 - z, ys1.drop z) = .slice (some ⟨b1, o1 + z * 3, none⟩) (n1 - z) (c1 - z) := by show Value.slice _ (ys1.drop z).length _ = _; rw [hzl]
                refine ⟨⟨j + 1, W + (2 * Tm.partss (ys1.drop z) + 1), hjn, by go_num, ?_, by omega⟩, by simp [intOf]; omega⟩
                refine todo_push hs1 HOWN.out HGOOD.out HQ.out (((HOFF1.out.trans (Off.of_below HB3.out)).drewN).alloc _) ?_ HO6.out HW6.out HP7.out HO7.out (by rw [HWT.out]) (by omega)
                rw [hv9, ← HMM.out]
                exact HR6.out
              · have hzi : ¬ (z : Int) < n1 := by omega
                go_wp2_with fail
                refine ⟨⟨j + 1, W, hjn, by go_num, HTODO.out.below hs1 (Below.drewN HB3.out), by omega⟩, by simp [intOf]; omega⟩
        · have hge : ¬ (j : Int) < nx := by omega
          have hjn2 : j = nx := by omega
          go_wp2_with fail
          refine ⟨⟨W, HTODO.out⟩, ?_⟩
          rw [← HW0.out, ← HM.out]
          exact Nat.lt_of_le_of_lt (leastN_le HTODO.out) (by omega)
end Go.Proofs.YtojnagonhihknaaGreatDoor
