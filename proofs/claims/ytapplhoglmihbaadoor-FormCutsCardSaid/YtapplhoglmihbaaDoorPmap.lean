/- Maps whose keys are pointers: what a look-up and a store leave. Whether two pointers into unlike blocks are one may be asked of the tape: nothing is said of the answer. No function of the program is named here. -/
import Derived.Test.YtapplhoglmihbaaDoorOff
import Derived.Maps.Own
import Derived.Maps.OwnOps
import Derived.LaidEql
set_option linter.unusedVariables false
namespace Go.Proofs.YtapplhoglmihbaaDoor
open Go.ChangeShapes Go.WideShapes Go.ChangeAt Go.RowKit

section
variable {P : Program}

theorem run_stringish (w : World) (a : Addr) : ∃ m : Bool, (stringish a).run P w = .ok m w := by
  unfold stringish
  cases hf : w.frozen? a with
  | true => exact ⟨true, by simp [hf]⟩
  | false =>
    cases hs : w.shape? a.block with
    | none => exact ⟨false, by simp [hf, hs]⟩
    | some x =>
      obtain ⟨t, n⟩ := x
      exact ⟨w.frozen? { block := a.block, off := n }, by simp [hf, hs]⟩

theorem run_mayBeOne (w : World) (a b : Addr) : ∃ m : Bool, (mayBeOne a b).run P w = .ok m w := by
  obtain ⟨x, hx⟩ := run_stringish (P := P) w a
  obtain ⟨y, hy⟩ := run_stringish (P := P) w b
  unfold mayBeOne
  exact ⟨_, by simp only [Sem.run_bind, hx, hy, Result.andThen_ok, run_shape, Sem.run_pure]; rfl⟩

/-- One of two addresses bears no mark: whether they are one is told, of the tape or not. -/
theorem run_sameAddr_some (w : World) (a b : Addr) (ha : w.frozen? a = false) (sa : (w.shape? a.block).isSome = true) (sb : (w.shape? b.block).isSome = true) : ∃ (r : Bool) (n : Nat), (sameAddr a b).run P w = .ok r (w.drewN n) := by
  have h0 : w.drewN 0 = w := rfl
  cases hb : a.block == b.block with
  | true => exact ⟨a == b, 0, by simp [sameAddr, hb, h0]⟩
  | false =>
    obtain ⟨m, hm⟩ := run_mayBeOne (P := P) w a b
    have va : (viewAt a.block).run P w = .ok none w := by simp [viewAt, sa]
    have vb : (viewAt b.block).run P w = .ok none w := by simp [viewAt, sb]
    cases m with
    | false => exact ⟨false, 0, by simp [sameAddr, hb, ha, noView, va, vb, hm, h0]⟩
    | true =>
      have hd : w.drewN 1 = w.drew := rfl
      cases hq : (Question.extern "sameAddr.stringBytes" 2).forced with
      | true => exact ⟨_, 0, by simp [sameAddr, hb, ha, noView, va, vb, hm, h0, hq]; rfl⟩
      | false => exact ⟨_, 1, by simp [sameAddr, hb, ha, noView, va, vb, hm, hd, hq]; rfl⟩

theorem run_equal_ptr (w : World) {k e : TypeId} {i : TypeInfo} (hk : P.underlying k = some (.pointer e)) (he : P.info? e = some i) (hz : P.cellsOf e ≠ 0) (a b : Addr) (ha : w.frozen? a = false) (sa : (w.shape? a.block).isSome = true) (sb : (w.shape? b.block).isSome = true) :
    ∃ (r : Bool) (n : Nat), (Op.equal k (.pointer (some a)) (.pointer (some b))).run P w = .ok r (w.drewN n) := by
  obtain ⟨r, n, h⟩ := run_sameAddr_some (P := P) w a b ha sa sb
  refine ⟨r, n, ?_⟩
  show (Op.equalIn (9999 + 1) k _ _).run P w = _
  rw [Op.equalIn]
  simp only [Sem.run_bind, run_underlying hk, Result.andThen_ok, run_sizeOf w he]
  simp [hz, h]

/-- What an entry of such a map is. -/
def PtrE (w : World) (V : Value → Prop) (e : MapEntry) : Prop := (∃ a : Addr, e.key = .pointer (some a) ∧ (w.shape? a.block).isSome = true) ∧ V e.val

theorem run_findAsking_ptr {k e : TypeId} {i : TypeInfo} (hk : P.underlying k = some (.pointer e)) (he : P.info? e = some i) (hz : P.cellsOf e ≠ 0) (a : Addr) (V : Value → Prop) : ∀ (es : List MapEntry) (j : Nat) (w : World), w.frozen? a = false → (w.shape? a.block).isSome = true → (∀ x ∈ es, PtrE w V x) →
    ∃ (r : Option (Nat × Value)) (n : Nat), (Instr.findAsking k (.pointer (some a)) es j).run P w = .ok r (w.drewN n) ∧ ∀ q v, r = some (q, v) → V v
  | [], j, w, _, _, _ => ⟨none, 0, by simp [Instr.findAsking, World.drewN], fun _ _ h => by cases h⟩
  | x :: es, j, w, ha, sa, hall => by
    obtain ⟨⟨b, hb, sb⟩, hv⟩ := hall x (by simp)
    obtain ⟨r, n, hr⟩ := run_equal_ptr (P := P) w hk he hz a b ha sa sb
    cases r with
    | true => exact ⟨some (j, x.val), n, by simp [Instr.findAsking, hb, hr], fun q v h => by cases h; exact hv⟩
    | false =>
      obtain ⟨r2, n2, h2, h3⟩ := run_findAsking_ptr hk he hz a V es (j + 1) (w.drewN n) ha sa (fun y hy => hall y (by simp [hy]))
      exact ⟨r2, n + n2, by simp [Instr.findAsking, hb, hr, h2], h3⟩

theorem run_findKey_ptr {k e : TypeId} {i : TypeInfo} (hk : P.underlying k = some (.pointer e)) (he : P.info? e = some i) (hz : P.cellsOf e ≠ 0) (a : Addr) (V : Value → Prop) (es : List MapEntry) (w : World) (ha : w.frozen? a = false) (sa : (w.shape? a.block).isSome = true) (hall : ∀ x ∈ es, PtrE w V x) :
    ∃ (r : Option (Nat × Value)) (n : Nat), (Instr.findKey k (.pointer (some a)) es).run P w = .ok r (w.drewN n) ∧ ∀ q v, r = some (q, v) → V v := by
  cases es with
  | nil => exact ⟨none, 0, by simp [Instr.findKey, run_underlying hk, Instr.findNow, World.drewN], fun _ _ h => by cases h⟩
  | cons x es =>
    obtain ⟨r, n, h, hv⟩ := run_findAsking_ptr hk he hz a V (x :: es) 0 w ha sa hall
    exact ⟨r, n, by simp [Instr.findKey, run_underlying hk, Instr.findNow, Instr.sameNow, h], hv⟩

theorem run_checkKey_ptr {k e : TypeId} (hk : P.underlying k = some (.pointer e)) (em : Bool) (v : Value) (w : World) : (Instr.checkKey em 10000 k v).run P w = .ok () w := by
  show (Instr.checkKey em (9999 + 1) k v).run P w = _
  rw [Instr.checkKey]
  simp only [Sem.run_bind, run_underlying hk, Result.andThen_ok]
  simp

/-- In block m lies a map whose keys are pointers and whose values are V. -/
def PMap (w : World) (V : Value → Prop) (B m : Nat) : Prop := ∃ es clock, w.heap[m]? = some (.map es clock) ∧ ∀ x ∈ es.toList, (∃ a : Addr, x.key = .pointer (some a) ∧ a.block < B ∧ (w.shape? a.block).isSome = true) ∧ V x.val

theorem PMap.lt {w : World} {V : Value → Prop} {B m : Nat} (h : PMap w V B m) : m < w.heap.size := by
  obtain ⟨es, clock, h1, _⟩ := h
  rcases Nat.lt_or_ge m w.heap.size with h | h
  · exact h
  · rw [Array.getElem?_eq_none h] at h1; cases h1
theorem shape_of_block {w w' : World} {b : Nat} (h : w'.heap[b]? = w.heap[b]?) : w'.shape? b = w.shape? b := by unfold World.shape?; rw [h]
theorem PMap.carry {w w' : World} {V : Value → Prop} {B m : Nat} (h : PMap w V B m) (hm : w'.heap[m]? = w.heap[m]?) (hb : ∀ i, i < B → w'.heap[i]? = w.heap[i]?) : PMap w' V B m := by
  obtain ⟨es, clock, h1, h2⟩ := h
  refine ⟨es, clock, hm.trans h1, fun x hx => ?_⟩
  obtain ⟨⟨a, e, ha, hs⟩, hv⟩ := h2 x hx
  exact ⟨⟨a, e, ha, by rw [shape_of_block (hb _ ha)]; exact hs⟩, hv⟩

theorem run_lookup_ptr {t k e E : TypeId} {i : TypeInfo} (ht : P.underlying t = some (.map k E)) (hk : P.underlying k = some (.pointer e)) (he : P.info? e = some i) (hz : P.cellsOf e ≠ 0) {z : Value} {w : World} (hzero : ∀ w : World, (zeroValue E).run P w = .ok z w) {V : Value → Prop} (hVz : V z) {B m : Nat} (h : PMap w V B m)
    {a : Addr} (ha : w.frozen? a = false) (sa : (w.shape? a.block).isSome = true) : ∃ (v : Value) (n : Nat), (Instr.lookup t (.map (some m)) (.pointer (some a)) false).run P w = .ok v (w.drewN n) ∧ V v := by
  obtain ⟨es, clock, h1, h2⟩ := h
  obtain ⟨r, n, hr, hv⟩ := run_findKey_ptr hk he hz a V es.toList w ha sa (fun x hx => by
    obtain ⟨⟨b, e1, _, e2⟩, e3⟩ := h2 x hx
    exact ⟨⟨b, e1, e2⟩, e3⟩)
  cases r with
  | none => exact ⟨z, n, by simp [Instr.lookup, run_underlying ht, MapKept.run_getObj_map h1, run_checkKey_ptr hk, hr, hzero, Result.andThen], hVz⟩
  | some q =>
    obtain ⟨q, v⟩ := q
    exact ⟨v, n, by simp [Instr.lookup, run_underlying ht, MapKept.run_getObj_map h1, run_checkKey_ptr hk, hr, Result.andThen], hv _ _ rfl⟩

theorem run_keyThatStays (w : World) (o n : Value) : ∃ (v : Value) (d : Nat), (Instr.keyThatStays o n).run P w = .ok v (w.drewN d) ∧ (v = o ∨ v = n) := by
  unfold Instr.keyThatStays
  cases hs : Instr.sameBits 10000 o n with
  | true => exact ⟨n, 0, by simp [World.drewN], .inr rfl⟩
  | false =>
    have hd : w.drewN 1 = w.drew := rfl
    cases hq : (Question.extern "map.whichKeyStays" 2).forced with
    | true => exact ⟨n, 0, by simp [hq, World.drewN], .inr rfl⟩
    | false =>
      by_cases hc : (Question.extern "map.whichKeyStays" 2).cut (w.tape w.drawn (Question.extern "map.whichKeyStays" 2)) = 0
      · exact ⟨n, 1, by simp [hq, hc, hd], .inr rfl⟩
      · exact ⟨o, 1, by simp [hq, hc, hd], .inl rfl⟩

theorem run_mapUpdate_ptr {t k e E : TypeId} {i : TypeInfo} (ht : P.underlying t = some (.map k E)) (hk : P.underlying k = some (.pointer e)) (he : P.info? e = some i) (hz : P.cellsOf e ≠ 0) {w : World} {V : Value → Prop} {B m : Nat} (h : PMap w V B m)
    {a : Addr} (ha : w.frozen? a = false) (sa : (w.shape? a.block).isSome = true) (hB : a.block < B) (hm : B ≤ m) {v : Value} (hv : V v) :
    ∃ (w' : World), (Instr.mapUpdate t (.map (some m)) (.pointer (some a)) v).run P w = .ok () w' ∧ PMap w' V B m ∧ Off (· = m) w w' := by
  obtain ⟨es, clock, h1, h2⟩ := h
  have hlt : m < w.heap.size := PMap.lt ⟨es, clock, h1, h2⟩
  obtain ⟨r, n, hr, hrv⟩ := run_findKey_ptr hk he hz a V es.toList w ha sa (fun x hx => by
    obtain ⟨⟨b, e1, _, e2⟩, e3⟩ := h2 x hx
    exact ⟨⟨b, e1, e2⟩, e3⟩)
  have fin : ∀ (d : Nat) (es' : Array MapEntry) (clock' : Nat), (∀ x ∈ es'.toList, (∃ b : Addr, x.key = .pointer (some b) ∧ b.block < B ∧ (w.shape? b.block).isSome = true) ∧ V x.val) →
      PMap { w.drewN d with heap := w.heap.setIfInBounds m (.map es' clock') } V B m ∧ Off (· = m) w { w.drewN d with heap := w.heap.setIfInBounds m (.map es' clock') } := by
    intro d es' clock' hes
    have ho : ∀ j, j ≠ m → (w.heap.setIfInBounds m (.map es' clock'))[j]? = w.heap[j]? := fun j hj => by rw [Array.getElem?_setIfInBounds_ne (Ne.symm hj)]
    refine ⟨⟨es', clock', ?_, fun x hx => ?_⟩, rfl, rfl, rfl, by simp, fun j _ hj => ho j hj⟩
    · show (w.heap.setIfInBounds m (.map es' clock'))[m]? = _
      rw [Array.getElem?_setIfInBounds_self_of_lt hlt]
    · obtain ⟨⟨b, e1, e2, e3⟩, e4⟩ := hes x hx
      refine ⟨⟨b, e1, e2, ?_⟩, e4⟩
      have : (World.shape? { w.drewN d with heap := w.heap.setIfInBounds m (.map es' clock') } b.block) = w.shape? b.block := shape_of_block (ho _ (by omega))
      rw [this]; exact e3
  cases r with
  | none =>
    have hb' : (w.drewN n).heap[m]? = some (.map es clock) := h1
    obtain ⟨f1, f2⟩ := fin n (es.push { key := .pointer (some a), val := v, born := clock }) (clock + 1) (fun x hx => by
      simp only [Array.toList_push, List.mem_append, List.mem_singleton] at hx
      rcases hx with hx | rfl
      · exact h2 x hx
      · exact ⟨⟨a, rfl, hB, sa⟩, hv⟩)
    exact ⟨_, by simp [Instr.mapUpdate, run_underlying ht, MapKept.run_getObj_map h1, run_checkKey_ptr hk, hr, MapKept.run_setObj_map _ hb', Result.andThen], f1, f2⟩
  | some q =>
    obtain ⟨q, u⟩ := q
    obtain ⟨k2, d, hk2, hor⟩ := run_keyThatStays (P := P) (w.drewN n) (((es[q]?).map (·.key)).getD (.pointer (some a))) (.pointer (some a))
    have hb' : (w.drewN (n + d)).heap[m]? = some (.map es clock) := h1
    have hkey : ∃ b : Addr, k2 = .pointer (some b) ∧ b.block < B ∧ (w.shape? b.block).isSome = true := by
      rcases hor with rfl | rfl
      · cases hq : es[q]? with
        | none => exact ⟨a, rfl, hB, sa⟩
        | some x =>
          have hx : x ∈ es.toList := Array.mem_toList_iff.2 (Array.mem_of_getElem? hq)
          exact (h2 x hx).1
      · exact ⟨a, rfl, hB, sa⟩
    obtain ⟨f1, f2⟩ := fin (n + d) (es.modify q fun x => { x with key := k2, val := v }) clock (fun x hx => by
      obtain ⟨j, hj, e⟩ := List.mem_iff_getElem.1 hx
      simp only [Array.length_toList, Array.size_modify] at hj
      rw [Array.getElem_toList, Array.getElem_modify] at e
      split at e
      · rw [← e]; exact ⟨hkey, hv⟩
      · rw [← e]; exact h2 _ (Array.mem_toList_iff.2 (Array.getElem_mem _)))
    have hdd : ((w.drewN n).drewN d) = w.drewN (n + d) := by simp [World.drewN, Nat.add_assoc]
    exact ⟨_, by simp [Instr.mapUpdate, run_underlying ht, MapKept.run_getObj_map h1, run_checkKey_ptr hk, hr, hk2, MapKept.run_setObj_map _ hb', Result.andThen, hdd], f1, f2⟩

theorem wpList_lookup_ptr (w : World) {ops : Array Oper} {rest : List Oper} {o : Oper} {a : Act} {Q : Exit → Act → World → Prop} (hg : o.guard = none) (m x : Operand) (t : TypeId) (hop : o.op = Op.lookup t m x false)
    {k e E : TypeId} {i : TypeInfo} (ht : P.underlying t = some (.map k E)) (hk : P.underlying k = some (.pointer e)) (he : P.info? e = some i) (hz : P.cellsOf e ≠ 0) {z : Value} (hzero : ∀ w : World, (zeroValue E).run P w = .ok z w) {V : Value → Prop} (hVz : V z) {B b : Nat} (h : PMap w V B b)
    (hm : a.eval m = .map (some b)) {p : Addr} (hx : a.eval x = .pointer (some p)) (ha : w.frozen? p = false) (sa : (w.shape? p.block).isSome = true) (hK : ∀ v n, V v → wpList P ops Q rest (a.put o.dst v) (w.drewN n)) : wpList P ops Q (o :: rest) a w := by
  refine wpList_plain hg fun K' hK' => ?_
  obtain ⟨v, n, hrun, hv⟩ := run_lookup_ptr ht hk he hz hzero hVz h ha sa
  unfold Oper.wp
  simp [execOp, hop, hm, hx, hrun, Result.andThen]
  exact hK' _ _ (hK v n hv)

theorem wpList_mapUpdate_ptr (w : World) {ops : Array Oper} {rest : List Oper} {o : Oper} {a : Act} {Q : Exit → Act → World → Prop} (hg : o.guard = none) (m x v : Operand) (t : TypeId) (hop : o.op = Op.mapUpdate t m x v)
    {k e E : TypeId} {i : TypeInfo} (ht : P.underlying t = some (.map k E)) (hk : P.underlying k = some (.pointer e)) (he : P.info? e = some i) (hz : P.cellsOf e ≠ 0) {V : Value → Prop} {B b : Nat} (h : PMap w V B b)
    (hm : a.eval m = .map (some b)) {p : Addr} (hx : a.eval x = .pointer (some p)) {u : Value} (hv : a.eval v = u) (ha : w.frozen? p = false) (sa : (w.shape? p.block).isSome = true) (hB : p.block < B) (hBm : B ≤ b) (hu : V u)
    (hK : ∀ w', PMap w' V B b → Off (· = b) w w' → wpList P ops Q rest (a.put o.dst undef) w') : wpList P ops Q (o :: rest) a w := by
  refine wpList_plain hg fun K' hK' => ?_
  obtain ⟨w', hrun, r1, r2⟩ := run_mapUpdate_ptr ht hk he hz h ha sa hB hBm hu
  unfold Oper.wp
  simp [execOp, hop, hm, hx, hv, hrun, Result.andThen]
  exact hK' _ _ (hK w' r1 r2)
end
end Go.Proofs.YtapplhoglmihbaaDoor
