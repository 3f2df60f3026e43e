/- Words of our own over memory that reads as lists of strings. No function of the program is named here. errors.As at a target of type *api.Errno, errors.Is between two errors of type api.Errno, and Code. Slices of one-cell elements that a call has made (nil, a conversion's, or made): what they hold, append and string(..). No function of the program is named here. -/
import Derived.Test.YtojnagonhihknaaGreatDoorRows
import Derived.WalkKit
import Derived.ProofKit
import Derived.OpenShut
import Derived.WalkSpells
import Derived.Outline
import Derived.BigQuiet
import Derived.Deep.QuietTactic
import Derived.Below
import Derived.Lib.Hide
import Derived.Laws.OwnMore
import Derived.OwnWalk
import Derived.LaidEql
import Derived.Stop.Asserts
import Derived.RowKitTokens
import Derived.LaidHandle
import Derived.LaidLaws
import Derived.Deep.AppendSrc
import Derived.Deep.MidRow
import Derived.Deep.RegionLaw
import Derived.Laws.IdiomStrings
import Derived.Test.YtojnagonhihknaaGreatDoorV0
set_option linter.unusedVariables false
namespace Go.Proofs.YtojnagonhihknaaGreatDoor
open Go.ChangeShapes Go.WideShapes Go.ChangeAt Go.RowKit

def Cells (w : World) (b o : Nat) (xs : List ByteArray) : Prop :=
  b < w.heap.size ∧ ∀ j x, xs[j]? = some x → w.cell? ⟨b, o + j, none⟩ = some (.string x)

def Reads (w : World) (v : Value) (xs : List ByteArray) : Prop :=
  (xs = [] ∧ ∃ a c, v = .slice a 0 c) ∨ (xs ≠ [] ∧ ∃ b o c, v = .slice (some ⟨b, o, none⟩) xs.length c ∧ xs.length ≤ c ∧ c ≤ 9223372036854775807 ∧ Cells w b o xs)

theorem Cells.below {w w' : World} {b o : Nat} {xs : List ByteArray} (h : Cells w b o xs) (hb : Below w.heap.size w w') : Cells w' b o xs :=
  ⟨Nat.lt_of_lt_of_le h.1 hb.size, fun j x hx => (hb.cell (p := ⟨b, o + j, none⟩) h.1).trans (h.2 j x hx)⟩

theorem Reads.below {w w' : World} {v : Value} {xs : List ByteArray} (h : Reads w v xs) (hb : Below w.heap.size w w') : Reads w' v xs := by
  rcases h with h | ⟨hn, b, o, c, hv, hc, hm, hx⟩
  · exact .inl h
  · exact .inr ⟨hn, b, o, c, hv, hc, hm, hx.below hb⟩

theorem Cells.drew {w : World} {b o : Nat} {xs : List ByteArray} (h : Cells w b o xs) : Cells w.drew b o xs := h
theorem Cells.drewN {w : World} {b o n : Nat} {xs : List ByteArray} (h : Cells w b o xs) : Cells (w.drewN n) b o xs := h
theorem Reads.drewN {w : World} {v : Value} {n : Nat} {xs : List ByteArray} (h : Reads w v xs) : Reads (w.drewN n) v xs := by
  rcases h with h | ⟨hn, b, o, c, hv, hc, hm, hx⟩
  · exact .inl h
  · exact .inr ⟨hn, b, o, c, hv, hc, hm, hx.drewN⟩
theorem Reads.drew {w : World} {v : Value} {xs : List ByteArray} (h : Reads w v xs) : Reads w.drew v xs := h

theorem wpList_push {P : Program} {ops : Array Oper} {rest : List Oper} {o : Oper} {a : Act} {Q : Exit → Act → World → Prop} (hgd : o.guard = none) (s x : Operand) (t : TypeId)
    (ho : o.op = .call { callee := .builtin .append, args := #[s, x], argTypes := #[t, t] })
    (base : Nat) (e : TypeId) (z : Value) (size bytes : Nat) (ht : P.underlying t = some (.slice e)) (hinfo : (P.info? e).map (fun i => (i.zero, i.size, i.bytes)) = some (some z, size, bytes)) (hzs : z.cells.size = size) (hsz : 0 < size)
    (wr : World) (v : Value) (n : Nat) (xs : List Value) (hs : a.eval s = v) (hown : wr.ownsRow base e size v n xs)
    (us : List Value) (c : Nat) (t1 : TypeId) (W : World) (hW : W = wr.alloc (.cells us.toArray t1)) (hx : a.eval x = .slice (some ⟨wr.heap.size, 0, none⟩) 1 c) (hl : us.length = size) (h1 : ∀ u ∈ us, u.oneCell' = true)
    (h63 : n + 1 ≤ 140737488355328) (hbytes : (n + 1) * bytes ≤ 140737488355328) (hbase : base ≤ wr.heap.size)
    (h : ∀ v' w', w'.ownsRow base e size v' (n + 1) (xs ++ us) → (wr.alloc (.cells us.toArray t1)).grownBy w' v.ownBlock → Below base wr w' → wpList P ops Q rest (a.put o.dst v') w') :
    wpList P ops Q (o :: rest) a W := by
  subst hW
  obtain ⟨i, hi, hz, hsize, hby⟩ := info_parts hinfo
  refine wpList_append_own _ hgd s x t ho base e i z size bytes ht hi hz hsize hby hzs hsz v n xs hs (hown.alloc _) ⟨wr.heap.size, 0, none⟩ 1 c us hx (by rw [hl]; omega) ?_ h1 (by unfold maxLen; omega) hbytes (by simp; omega) ?_
  · intro j u hj
    rw [show (⟨wr.heap.size, 0, none⟩ : Addr).add j = ⟨wr.heap.size, j, none⟩ by unfold Addr.add; split <;> simp_all, World.cell?_alloc_at _ _ _ _ rfl]
    simpa using hj
  · intro v' w' h1' h2' _
    refine h v' w' h1' h2' (((Below.refl _ _).alloc hbase _).grown h2' (by simp; omega) (fun k hk => (hown.lt k hk).1))

theorem cell_lt {w : World} {b o : Nat} {v : Value} (h : w.cell? ⟨b, o, none⟩ = some v) : b < w.heap.size := by
  rcases Nat.lt_or_ge b w.heap.size with h' | h'
  · exact h'
  · have e : w.heap[b]? = none := Array.getElem?_eq_none h'
    simp [World.cell?, e] at h

theorem Below.drewN {B n : Nat} {a w : World} (h : Below B a w) : Below B a (w.drewN n) := ⟨h.os, h.tape, h.output, h.size, h.block⟩

theorem take_succ_eq {α : Type} {xs ys : List α} {k : Nat} {x y : α} (h : xs.take k = ys.take k) (hx : xs[k]? = some x) (hy : ys[k]? = some y) (e : x = y) : xs.take (k + 1) = ys.take (k + 1) := by
  rw [List.take_add_one, List.take_add_one, h, hx, hy, e]

theorem ba_ne {x y : ByteArray} (h : (!x.toList == y.toList) = true) : x ≠ y := by
  rintro rfl
  simp at h
theorem ba_eq {x y : ByteArray} (h : (!x.toList == y.toList) = false) : x = y := by
  have h' : x.toList = y.toList := by simpa using h
  have e : x.data.toList = y.data.toList := by rw [← ByteArray.toList_eq x, ← ByteArray.toList_eq y]; exact h'
  cases x; cases y
  simp only [ByteArray.mk.injEq]
  exact Array.toList_inj.1 e

theorem ba_eq' {x y : ByteArray} (h : (x.toList == y.toList) = true) : x = y := by
  refine ba_eq ?_
  rw [h]; rfl
theorem ba_ne' {x y : ByteArray} (h : (x.toList == y.toList) = false) : x ≠ y := by
  refine ba_ne ?_
  rw [h]; rfl

theorem ret_bool {a b : Bool} (h : a = b) : Ending.returned (.bool a) = .returned (.bool b) := by rw [h]
theorem ret_int {k : IntKind} {a b : Int} (h : a = b) : Ending.returned (.int k a) = .returned (.int k b) := by rw [h]
theorem ret_str {a b : ByteArray} (h : a = b) : Ending.returned (.string a) = .returned (.string b) := by rw [h]
end Go.Proofs.YtojnagonhihknaaGreatDoor
set_option linter.unusedVariables false
namespace Go.Proofs.YtojnagonhihknaaGreatDoor
open Go.RowKit Go.Extern.Stop Go.Stop Go.Extern

abbrev hnd (t : Nat) : Value := .pointer (some ⟨5, t, none⟩)
def HasErr (w : World) : Prop := w.cell? ⟨0, 0, none⟩ = some (.iface 170 (.agg #[hnd 32]))
theorem HasErr.below {w w' : World} (h : HasErr w) (hb : Below w.heap.size w w') : HasErr w' := (hb.cell (p := ⟨0, 0, none⟩) (cell_lt h)).trans h

theorem as_nil (t : Value) (w : World) :
    Calls Tryz.prog 33 #[.nilIface, t] w fun e w' => e = .returned (.bool false) ∧ w' = w := by
  go_enter Tryz.func33, Tryz.ntmps33
  go_wp2
  go_ret
  exact ⟨rfl, rfl⟩

theorem valueOfP (t : Addr) (w : World) : (ReflectliteValue.unpack (.iface 80 (.pointer (some t)))).run Tryz.prog w
    = .ok (.agg #[hnd 80, .pointer (some ⟨w.heap.size, 0, none⟩), .int .u64 150]) (w.alloc (.cells #[.pointer (some t)] 80)) := by kernel_rfl
theorem typeP (a : Addr) (w : World) : (ReflectliteValue.methodAny (ReflectliteValue.valueError "reflectlite.Value.Type" 0) (fun t _ _ _ => ReflectliteType.toType t) #[.agg #[hnd 80, .pointer (some a), .int .u64 150]]).run Tryz.prog w
    = .ok (.iface 170 (.agg #[hnd 80])) w := by kernel_rfl
theorem kindP (w : World) : ((ReflectliteType.abiMethod fun t => (fun a : Nat => Value.int IntKind.u8 (a : Int)) <$> Rtype.kind t) #[hnd 80]).run Tryz.prog w = .ok (.int .u8 22) w := by kernel_rfl
theorem kindE (w : World) : ((ReflectliteType.abiMethod fun t => (fun a : Nat => Value.int IntKind.u8 (a : Int)) <$> Rtype.kind t) #[hnd 67]).run Tryz.prog w = .ok (.int .u8 2) w := by kernel_rfl
theorem elemP (w : World) : (ReflectliteType.method ReflectliteType.elem #[.agg #[hnd 80]]).run Tryz.prog w = .ok (.iface 170 (.agg #[hnd 67])) w := by kernel_rfl
theorem implE (w : World) : (ReflectliteType.relation "Implements" ReflectliteType.implements_ #[.agg #[hnd 67], .iface 170 (.agg #[hnd 32])]).run Tryz.prog w = .ok (.bool true) w := by kernel_rfl
theorem typeOfE (v : Value) (w : World) : (ReflectliteType.typeOf #[.iface 67 v]).run Tryz.prog w = .ok (.iface 170 (.agg #[hnd 67])) w := by kernel_rfl
theorem assignE (w : World) : (ReflectliteType.relation "AssignableTo" ReflectliteType.assignableTo #[.agg #[hnd 67], .iface 170 (.agg #[hnd 67])]).run Tryz.prog w = .ok (.bool true) w := by kernel_rfl
theorem valueOfE (k : Int) (w : World) : (ReflectliteValue.unpack (.iface 67 (.int .i64 k))).run Tryz.prog w
    = .ok (.agg #[hnd 67, .pointer (some ⟨w.heap.size, 0, none⟩), .int .u64 130]) (w.alloc (.cells #[.int .i64 k] 67)) := by kernel_rfl
theorem partsP (a : Addr) (w : World) : (ReflectliteValue.parts (.agg #[hnd 80, .pointer (some a), .int .u64 150])).run Tryz.prog w = .ok (some (80, a, 150)) w := by kernel_rfl
theorem elemOfP (w : World) : (Rtype.elem? 80).run Tryz.prog w = .ok (some 67) w := by kernel_rfl
theorem mkE (p : Addr) (w : World) : (ReflectliteValue.mk 67 p ReflectliteValue.flagAddr).run Tryz.prog w = .ok (.agg #[hnd 67, .pointer (some p), .int .u64 386]) w := by kernel_rfl
theorem partsEa (a : Addr) (w : World) : (ReflectliteValue.parts (.agg #[hnd 67, .pointer (some a), .int .u64 386])).run Tryz.prog w = .ok (some (67, a, 386)) w := by kernel_rfl
theorem partsE (a : Addr) (w : World) : (ReflectliteValue.parts (.agg #[hnd 67, .pointer (some a), .int .u64 130])).run Tryz.prog w = .ok (some (67, a, 130)) w := by kernel_rfl
theorem directE (w : World) : (Rtype.directlyAssignable 67 67).run Tryz.prog w = .ok true w := by kernel_rfl

theorem meth_open (z : Sem Value) (f : TypeId → Addr → Nat → Nat → Sem Value) (v : Value) :
    ReflectliteValue.method z f #[v] = (do match ← ReflectliteValue.parts v with | none => z | some (t, a, fl) => f t a fl (fl % 32)) := rfl

theorem isNilP (a p : Addr) (W : World) (ha : W.cell? a = some (.pointer (some p))) :
    (ReflectliteValue.method (ReflectliteValue.valueError "reflectlite.Value.IsNil" 0) ReflectliteValue.isNil #[.agg #[hnd 80, .pointer (some a), .int .u64 150]]).run Tryz.prog W = .ok (.bool false) W := by
  rw [meth_open]
  simp only [Sem.run_bind, partsP, Result.andThen]
  simp [ReflectliteValue.isNil, loadVar, isAgg, underlying, Tryz.underlying80, ha, Result.andThen]
theorem elemVP (a p : Addr) (W : World) (ha : W.cell? a = some (.pointer (some p))) :
    (ReflectliteValue.method (ReflectliteValue.valueError "reflectlite.Value.Elem" 0) ReflectliteValue.elem #[.agg #[hnd 80, .pointer (some a), .int .u64 150]]).run Tryz.prog W
      = .ok (.agg #[hnd 67, .pointer (some p), .int .u64 386]) W := by
  rw [meth_open]
  simp only [Sem.run_bind, partsP, Result.andThen]
  simp [ReflectliteValue.elem, loadVar, isAgg, underlying, Tryz.underlying80, ha, Result.andThen, elemOfP, mkE]
theorem setE (ta b : Addr) (k : Int) (old : Value) (W : World) (hb : W.cell? b = some (.int .i64 k)) (ht : W.cell? ta = some old) (hf : W.frozen? ta = false) :
    (ReflectliteValue.set #[.agg #[hnd 67, .pointer (some ta), .int .u64 386], .agg #[hnd 67, .pointer (some b), .int .u64 130]]).run Tryz.prog W
      = .ok (.tuple #[]) (W.setCell ta (.int .i64 k)) := by
  refine (congrArg (fun z => Sem.run Tryz.prog z W) (@id (ReflectliteValue.set #[.agg #[hnd 67, .pointer (some ta), .int .u64 386], .agg #[hnd 67, .pointer (some b), .int .u64 130]] = ReflectliteValue.parts (.agg #[hnd 67, .pointer (some ta), .int .u64 386]) >>= _) rfl)).trans ?_
  simp only [Sem.run_bind, Array.getLit, List.getElem_toArray, List.getElem_cons_succ, List.getElem_cons_zero, partsEa, partsE, Result.andThen]
  simp [ReflectliteValue.flagAddr, loadVar, isAgg, underlying, Tryz.underlying67, hb, Result.andThen, directE, storeVar, Value.cells, storeCells, Addr.add]
  rw [run_store Tryz.prog W ta _ _ (by rfl)]
  simp [ht, hf]
end Go.Proofs.YtojnagonhihknaaGreatDoor
set_option linter.unusedVariables false
namespace Go.Proofs.YtojnagonhihknaaGreatDoor
open Go.ChangeShapes Go.WideShapes Go.ChangeAt Go.RowKit

def Arr (B : Nat) (w : World) (v : Value) (cs : List Value) : Prop :=
  (v = .slice none 0 0 ∧ cs = []) ∨ ∃ b cap, v = .slice (some ⟨b, 0, none⟩) cs.length cap ∧ B ≤ b ∧ b < w.heap.size ∧ cs.length ≤ cap ∧ cap ≤ maxLen ∧
    (∀ j, j < cap → (w.cell? ⟨b, j, none⟩).isSome = true ∧ w.frozen? ⟨b, j, none⟩ = false) ∧ ∀ j u, cs[j]? = some u → w.cell? ⟨b, j, none⟩ = some u

theorem Arr.nil (B : Nat) (w : World) : Arr B w (.slice none 0 0) [] := .inl ⟨rfl, rfl⟩
theorem Arr.below {B : Nat} {w w' : World} {v : Value} {cs : List Value} (h : Arr B w v cs) (hb : Below w.heap.size w w') : Arr B w' v cs := by
  rcases h with h | ⟨b, cap, h1, h2, h3, h4, h5, h6, h7⟩
  · exact .inl h
  · exact .inr ⟨b, cap, h1, h2, Nat.lt_of_lt_of_le h3 hb.size, h4, h5, fun j hj => ⟨by rw [hb.cell (p := ⟨b, j, none⟩) h3]; exact (h6 j hj).1, (hb.frozen (p := ⟨b, j, none⟩) h3).trans (h6 j hj).2⟩, fun j u hu => (hb.cell (p := ⟨b, j, none⟩) h3).trans (h7 j u hu)⟩
theorem Arr.mono {B B' : Nat} {w : World} {v : Value} {cs : List Value} (h : Arr B w v cs) (hb : B' ≤ B) : Arr B' w v cs := by
  rcases h with h | ⟨b, cap, h1, h2, h3⟩
  · exact .inl h
  · exact .inr ⟨b, cap, h1, Nat.le_trans hb h2, h3⟩
theorem Arr.drewN {B n : Nat} {w : World} {v : Value} {cs : List Value} (h : Arr B w v cs) : Arr B (w.drewN n) v cs := h
theorem Arr.drew {B : Nat} {w : World} {v : Value} {cs : List Value} (h : Arr B w v cs) : Arr B w.drew v cs := h
theorem Arr.form {B : Nat} {w : World} {v : Value} {cs : List Value} (h : Arr B w v cs) : ∃ a c, v = .slice a cs.length c := by
  rcases h with ⟨rfl, rfl⟩ | ⟨b, cap, h1, _⟩
  · exact ⟨none, 0, rfl⟩
  · exact ⟨_, _, h1⟩
theorem Arr.pos {B : Nat} {w : World} {v : Value} {cs : List Value} (h : Arr B w v cs) (hp : cs ≠ []) : ∃ b cap, v = .slice (some ⟨b, 0, none⟩) cs.length cap ∧ B ≤ b ∧ b < w.heap.size ∧ cs.length ≤ cap ∧ cap ≤ maxLen ∧
    (∀ j, j < cap → (w.cell? ⟨b, j, none⟩).isSome = true ∧ w.frozen? ⟨b, j, none⟩ = false) ∧ ∀ j u, cs[j]? = some u → w.cell? ⟨b, j, none⟩ = some u := by
  rcases h with ⟨rfl, h⟩ | h
  · exact absurd h hp
  · exact h
theorem Arr.alloc {B : Nat} {w : World} {v : Value} {cs : List Value} (h : Arr B w v cs) (o : Obj) : Arr B (w.alloc o) v cs :=
  h.below ((Below.refl _ _).alloc (Nat.le_refl _) o)
theorem Arr.set {B : Nat} {w : World} {b n cap k : Nat} {cs : List Value} (h : Arr B w (.slice (some ⟨b, 0, none⟩) n cap) cs) (hk : k < cs.length) (u : Value) : Arr B (w.setCell ⟨b, k, none⟩ u) (.slice (some ⟨b, 0, none⟩) n cap) (cs.set k u) := by
  rcases h with ⟨h, _⟩ | ⟨b', cap', h1, h2, h3, h4, h5, h6, h7⟩
  · cases h
  · injection h1 with e1 e2 e3
    injection e1 with e1
    injection e1 with e1
    subst e1; subst e3; subst e2
    refine .inr ⟨b, cap, by rw [List.length_set], h2, by simpa [World.setCell] using h3, by rw [List.length_set]; exact h4, h5, fun j hj => ?_, fun j v hv => ?_⟩
    · refine ⟨?_, by rw [World.frozen?_setCell]; exact (h6 j hj).2⟩
      by_cases e : k = j
      · subst e
        obtain ⟨x, hx⟩ := Option.isSome_iff_exists.1 (h6 k hj).1
        rw [World.cell?_setCell_same _ _ _ hx]; rfl
      · rw [World.cell?_setCell_other _ _ _ _ (fun h => e (by injection h))]
        exact (h6 j hj).1
    · by_cases e : k = j
      · subst e
        obtain ⟨x, hx⟩ := Option.isSome_iff_exists.1 (h6 k (by omega)).1
        rw [World.cell?_setCell_same _ _ _ hx]
        rw [List.getElem?_set_self hk] at hv
        exact hv
      · rw [World.cell?_setCell_other _ _ _ _ (fun h => e (by injection h))]
        rw [List.getElem?_set_ne e] at hv
        exact h7 j v hv

section
variable {P : Program}

theorem arr_new {B : Nat} {w : World} {e : TypeId} {cs : List Value} {cap : Nat} {xs : Array Value} {fr : Nat × Nat} (hB : B ≤ w.heap.size) (hc : cs.length ≤ cap) (hm : cap ≤ maxLen) (hs : xs.size = cap) (hf : fr = (0, 0) ∨ cap ≤ fr.1) (hx : ∀ (j : Nat) (u : Value), cs[j]? = some u → xs[j]? = some u) :
    Arr B (w.alloc (.cells xs e fr)) (.slice (some ⟨w.heap.size, 0, none⟩) cs.length cap) cs := by
  have hcell : ∀ j, (w.alloc (.cells xs e fr)).cell? ⟨w.heap.size, j, none⟩ = xs[j]? := fun j => World.cell?_alloc_mark w xs e fr j
  refine .inr ⟨w.heap.size, cap, rfl, hB, by show _ < (w.heap.push _).size; simp, hc, hm, fun j hj => ⟨?_, ?_⟩, fun j u hu => by rw [hcell]; exact hx j u hu⟩
  · rw [hcell, Array.getElem?_eq_getElem (by omega)]; rfl
  · obtain ⟨lo, hi⟩ := fr
    rw [World.frozen?_alloc_mark]
    rcases hf with h | h
    · simp only [Prod.mk.injEq] at h
      simp [h.2]
    · have : ¬ lo ≤ j := by have : cap ≤ lo := h; omega
      simp [this]

theorem run_append_arr {B : Nat} {w : World} {v : Value} {cs news : List Value} (t ty e : TypeId) (z : Value) (bytes : Nat) (ht : P.underlying t = some (.slice e)) (hinfo : (P.info? e).map (fun i => (i.zero, i.size, i.bytes)) = some (some z, 1, bytes)) (hz1 : z.cells.size = 1)
    (h : Arr B w v cs) (g c : Nat) (hnews : ∀ j u, news[j]? = some u → w.cell? ⟨g, j, none⟩ = some u) (h1 : ∀ u ∈ news, u.oneCell' = true) (hn : 0 < news.length) (hB : B ≤ w.heap.size) (hl : cs.length + news.length ≤ 1099511627776) (hb : bytes ≤ 16) :
    ∃ v' w', (Builtin.append_ #[t, t] ty #[v, .slice (some ⟨g, 0, none⟩) news.length c]).run P w = .ok v' w' ∧ Arr B w' v' (cs ++ news) ∧ Below B w w' := by
  obtain ⟨i, hi, hzz⟩ := Option.map_eq_some_iff.1 hinfo
  simp only [Prod.mk.injEq] at hzz
  obtain ⟨hz, hsz, hby⟩ := hzz
  have hsrc : Src P i.size t (.slice (some ⟨g, 0, none⟩) news.length c) news.length news w := by
    rw [hsz]
    exact Src.ofSlice w ht ⟨g, 0, none⟩ news.length c news (by omega) (fun j u hu => by rw [Addr.add_mid, Nat.zero_add]; exact hnews j u hu) h1
  have grow : ∀ (base : Option Addr) (sCap : Nat), (Builtin.firstCells i.size cs.length (.slice base cs.length sCap)).run P w.drew = .ok cs.toArray w.drew → sCap < cs.length + news.length →
      ∃ v' w', (Builtin.append_ #[t, t] ty #[.slice base cs.length sCap, .slice (some ⟨g, 0, none⟩) news.length c]).run P w = .ok v' w' ∧ Arr B w' v' (cs ++ news) ∧ Below B w w' := by
    intro base sCap hold hg
    have hfit : Builtin.nextslicecap (cs.length + news.length) sCap * i.bytes ≤ 281474976710656 := growslice_fits hg (by
      rw [hby]
      have := Nat.mul_le_mul hl hb
      omega)
    have hr := run_append_grow_src (P := P) w t t ty e i z ht hi hz base cs.length sCap cs hold (.slice (some ⟨g, 0, none⟩) news.length c) news.length news hsrc hg (by omega) hfit
    have hge := grownCap_ge w (cs.length + news.length) sCap e
    have hcm : grownCap w (cs.length + news.length) sCap e ≤ maxLen := grownCap_le_maxLen w _ sCap e (by unfold maxLen; omega)
    refine ⟨_, _, hr, ?_, ?_⟩
    · have := arr_new (B := B) (w := w.drew) (e := e) (cs := cs ++ news) (cap := grownCap w (cs.length + news.length) sCap e) (xs := (cs ++ news).toArray ++ Builtin.zeroCells z.cells (grownCap w (cs.length + news.length) sCap e - (cs.length + news.length))) (fr := (0, 0)) hB
        (by rw [List.length_append]; exact hge) hcm (by rw [Array.size_append, List.size_toArray, List.length_append, size_zeroCells, hz1]; omega) (.inl rfl) (fun j u hu => by
          rw [Array.getElem?_append, if_pos (by rw [List.size_toArray]; exact (List.getElem?_eq_some_iff.1 hu).1)]
          simpa using hu)
      rw [List.length_append] at this
      exact this
    · exact ((Below.refl B w).drew).alloc hB _
  rcases h with ⟨rfl, rfl⟩ | ⟨b, cap, rfl, h2, h3, h4, h5, h6, h7⟩
  · exact grow none 0 (by simpa using run_firstCells_none w.drew i.size 0 0 0) (by omega)
  · by_cases hroom : cs.length + news.length ≤ cap
    · have hr := run_append_room_src (P := P) w t t ty e i ht hi b 0 cs.length cap _ news.length news hsrc hroom
        (fun j hj => by rw [hsz, Nat.zero_add, Nat.mul_one]; exact (h6 _ (by omega)).1) (fun j hj => by rw [hsz, Nat.zero_add, Nat.mul_one]; exact (h6 _ (by omega)).2)
      rw [hsz, Nat.zero_add, Nat.mul_one] at hr
      refine ⟨_, _, hr, .inr ⟨b, cap, by rw [List.length_append], h2, ?_, by rw [List.length_append]; exact hroom, h5, fun j hj => ?_, fun j u hu => ?_⟩, ?_⟩
      · have : ∀ (vs : List Value) (o : Nat) (x : World), (x.setCells b o vs).heap.size = x.heap.size := fun vs => by
          induction vs with
          | nil => intros; rfl
          | cons a r ih => intro o x; rw [World.setCells, ih]; simp [World.setCell]
        rw [this]; exact h3
      · exact ⟨World.isSome_setCells b news cs.length w _ (h6 j hj).1, by rw [World.frozen?_setCells]; exact (h6 j hj).2⟩
      · have hjl : j < (cs ++ news).length := (List.getElem?_eq_some_iff.1 hu).1
        rw [List.length_append] at hjl
        by_cases e1 : j < cs.length
        · rw [List.getElem?_append_left e1] at hu
          rw [World.cell?_setCells_out b news cs.length w ⟨b, j, none⟩ (fun _ _ => .inl e1)]
          exact h7 j u hu
        · rw [List.getElem?_append_right (by omega)] at hu
          have hin := World.cell?_setCells_in b news cs.length w (fun i hi => (h6 _ (by omega)).1) (j - cs.length) (by omega)
          rw [show cs.length + (j - cs.length) = j by omega] at hin
          rw [hin, ← hu, List.getElem?_eq_getElem (by omega)]
      · have : ∀ (vs : List Value) (o : Nat) (x : World), Below B w x → Below B w (x.setCells b o vs) := fun vs => by
          induction vs with
          | nil => intro o x hx; exact hx
          | cons a r ih => intro o x hx; exact ih (o + 1) _ (hx.setCell (p := ⟨b, o, none⟩) h2 a)
        exact this news cs.length w (Below.refl B w)
    · exact grow (some ⟨b, 0, none⟩) cap (run_firstCells_some w.drew i.size cs.length ⟨b, 0, none⟩ cs.length cap cs (by rw [hsz]; omega) (fun j u hu => by rw [Addr.add_mid, Nat.zero_add]; exact h7 j u hu)) (by omega)

theorem wp_append_arr {w : World} {o : Oper} {a : Act} {K : Act → World → Prop} {Q : Exit → Act → World → Prop} (s x : Operand) (t : TypeId)
    (ho : o.op = .call { callee := .builtin .append, args := #[s, x], argTypes := #[t, t] }) (e : TypeId) (z : Value) (bytes : Nat) (ht : P.underlying t = some (.slice e)) (hinfo : (P.info? e).map (fun i => (i.zero, i.size, i.bytes)) = some (some z, 1, bytes)) (hz1 : z.cells.size = 1)
    (B : Nat) (v : Value) (cs news : List Value) (hs : a.eval s = v) (h : Arr B w v cs) (g m c : Nat) (hx : a.eval x = .slice (some ⟨g, 0, none⟩) m c) (hm : m = news.length) (hnews : ∀ j u, news[j]? = some u → w.cell? ⟨g, j, none⟩ = some u) (h1 : ∀ u ∈ news, u.oneCell' = true) (hn : 0 < news.length)
    (hB : B ≤ w.heap.size) (hl : cs.length + news.length ≤ 1099511627776) (hb : bytes ≤ 16)
    (hK : ∀ v' w', Arr B w' v' (cs ++ news) → Below B w w' → K (a.put o.dst v') w') : o.wp P a w K Q := by
  subst hm
  obtain ⟨v', w', hr, h2, h3⟩ := run_append_arr (P := P) t o.type e z bytes ht hinfo hz1 h g c hnews h1 hn hB hl hb
  unfold Oper.wp execOp
  simp only [ho, resolve, invoke, builtin, Sem.run_bind, Sem.run_pure, Result.andThen_ok, List.map_toArray, List.map_cons, List.map_nil, hs, hx, hr]
  exact hK v' w' h2 h3

theorem wpList_append_arr {w : World} {ops : Array Oper} {rest : List Oper} {o : Oper} {a : Act} {Q : Exit → Act → World → Prop} (hgd : o.guard = none) (s x : Operand) (t : TypeId)
    (ho : o.op = .call { callee := .builtin .append, args := #[s, x], argTypes := #[t, t] }) (e : TypeId) (z : Value) (bytes : Nat) (ht : P.underlying t = some (.slice e)) (hinfo : (P.info? e).map (fun i => (i.zero, i.size, i.bytes)) = some (some z, 1, bytes)) (hz1 : z.cells.size = 1)
    (B : Nat) (v : Value) (cs news : List Value) (hs : a.eval s = v) (h : Arr B w v cs) (g m c : Nat) (hx : a.eval x = .slice (some ⟨g, 0, none⟩) m c) (hm : m = news.length) (hnews : ∀ j u, news[j]? = some u → w.cell? ⟨g, j, none⟩ = some u) (h1 : ∀ u ∈ news, u.oneCell' = true) (hn : 0 < news.length)
    (hB : B ≤ w.heap.size) (hl : cs.length + news.length ≤ 1099511627776) (hb : bytes ≤ 16)
    (hK : ∀ v' w', Arr B w' v' (cs ++ news) → Below B w w' → wpList P ops Q rest (a.put o.dst v') w') : wpList P ops Q (o :: rest) a w :=
  wpList_plain hgd fun _ hk => wp_append_arr s x t ho e z bytes ht hinfo hz1 B v cs news hs h g m c hx hm hnews h1 hn hB hl hb fun v' w' h2 h3 => hk _ _ (hK v' w' h2 h3)

theorem step_append_arr {w : World} {ops : Array Oper} {o : Oper} {a : Act} {K : Act → World → Prop} {Q : Exit → Act → World → Prop} {E : Prop} (hgd : o.guard = none) (s x : Operand) (t : TypeId)
    (ho : o.op = .call { callee := .builtin .append, args := #[s, x], argTypes := #[t, t] }) (e : TypeId) (z : Value) (bytes : Nat) (ht : P.underlying t = some (.slice e)) (hinfo : (P.info? e).map (fun i => (i.zero, i.size, i.bytes)) = some (some z, 1, bytes)) (hz1 : z.cells.size = 1)
    (B : Nat) (v : Value) (cs news : List Value) (hs : a.eval s = v) (h : Arr B w v cs) (g m c : Nat) (hx : a.eval x = .slice (some ⟨g, 0, none⟩) m c) (hm : m = news.length) (hnews : ∀ j u, news[j]? = some u → w.cell? ⟨g, j, none⟩ = some u) (h1 : ∀ u ∈ news, u.oneCell' = true) (hn : 0 < news.length)
    (hB : B ≤ w.heap.size) (hl : cs.length + news.length ≤ 1099511627776) (hb : bytes ≤ 16)
    (hK : ∀ v' w', Arr B w' v' (cs ++ news) → Below B w w' → K (a.put o.dst v') w') :
    if Region.wanted o (yielded ops a.tmps) = true then Oper.wp P o a w K Q else E := by
  have hw : Region.wanted o (yielded ops a.tmps) = true := by simp [Region.wanted, hgd]
  rw [if_pos hw]
  exact wp_append_arr s x t ho e z bytes ht hinfo hz1 B v cs news hs h g m c hx hm hnews h1 hn hB hl hb hK

end

/- one_u8 -/
theorem one1 {k : IntKind} {x : Int} : ∀ u ∈ [Value.int k x], u.oneCell' = true := by
  intro u hu
  rw [List.mem_singleton] at hu
  rw [hu]; rfl
theorem one_map {α : Type} {k : IntKind} {f : α → Int} {l : List α} : ∀ u ∈ l.map (fun x => Value.int k (f x)), u.oneCell' = true := by
  intro u hu
  obtain ⟨x, _, rfl⟩ := List.mem_map.1 hu
  rfl
theorem news_new {w : World} {c : List Value} {t : TypeId} : ∀ (j : Nat) (u : Value), c[j]? = some u → (w.alloc (.cells c.toArray t)).cell? ⟨w.heap.size, j, none⟩ = some u := fun j u hu => by
  rw [World.cell?_alloc_at _ _ _ _ rfl]; simpa using hu
def bys (l : List UInt8) : List Value := l.map fun b => .int .u8 (bv b)
theorem bys_len (l : List UInt8) : (bys l).length = l.length := by simp [bys]
theorem bys_app (l m : List UInt8) : bys (l ++ m) = bys l ++ bys m := by simp [bys]

theorem arr_bytes {B : Nat} {P : Program} (w : World) (src dst e : TypeId) (s : ByteArray) (hs : P.underlying src = some .string) (hd : P.underlying dst = some (.slice e)) (he : P.underlying e = some (.int .u8)) (hB : B ≤ w.heap.size) (hl : s.size ≤ 1099511627776) :
    ∃ v' w', (convert src dst (.string s)).run P w = .ok v' w' ∧ Arr B w' v' (bys s.data.toList) ∧ Below B w w' := by
  have hr := run_bytes_of_string (P := P) w src dst e s hs hd he
  have hge := grownCap_ge w s.size 0 e
  have hcm : grownCap w s.size 0 e ≤ maxLen := grownCap_le_maxLen w _ 0 e (by unfold maxLen; omega)
  have hll : s.data.toList.length = s.size := Array.length_toList
  have hbr : (bytesRow s (grownCap w s.size 0 e)).size = grownCap w s.size 0 e := by
    have hsd : s.data.size = s.size := rfl
    rw [bytesRow, Array.size_append, Array.size_map, Array.size_replicate, hsd]; omega
  refine ⟨_, _, hr, ?_, ((Below.refl B w).drew).alloc hB _⟩
  have := arr_new (B := B) (w := w.drew) (e := e) (cs := bys s.data.toList) (cap := grownCap w s.size 0 e) (xs := bytesRow s (grownCap w s.size 0 e)) (fr := ((bytesRow s (grownCap w s.size 0 e)).size, (bytesRow s (grownCap w s.size 0 e)).size + 1)) hB
    (by rw [bys_len, hll]; exact hge) hcm hbr (.inr (by rw [hbr]; exact Nat.le_refl _)) (fun j u hu => by
      have hj : j < (bys s.data.toList).length := (List.getElem?_eq_some_iff.1 hu).1
      rw [bys_len, hll] at hj
      rw [bytesRow_at s _ j hj]
      rw [bys, List.getElem?_map, List.getElem?_eq_getElem (by rw [hll]; exact hj)] at hu
      rw [← Option.some.inj hu]
      rfl)
  rw [bys_len, hll] at this
  exact this

theorem arr_string {B : Nat} {P : Program} {w : World} {v : Value} {l : List UInt8} (h : Arr B w v (bys l)) (src dst e : TypeId) (hs : P.underlying src = some (.slice e)) (he : P.underlying e = some (.int .u8)) (hd : P.underlying dst = some .string) :
    (convert src dst v).run P w = .ok (.string ⟨l.toArray⟩) w := by
  rcases h with ⟨rfl, h⟩ | ⟨b, cap, rfl, h2, h3, h4, h5, h6, h7⟩
  · have : l = [] := by simpa [bys] using h
    subst this
    rw [run_convert_bytes_string w src dst e none 0 0 hs he hd]
    rfl
  · rw [bys_len]
    refine run_convert_bytes_back w src dst e ⟨b, 0, none⟩ cap l hs he hd (fun j hj => ?_)
    rw [Addr.add_mid, Nat.zero_add]
    refine h7 j _ ?_
    rw [bys, List.getElem?_map, List.getElem?_eq_getElem hj]
    rfl
end Go.Proofs.YtojnagonhihknaaGreatDoor
