/- Small things that several texts lean on. What forms are by their parts; boxes of three cells. No function of the program is named here. The contract of the writer's put. What closes a law's row: the post of a law (it answers true, its arguments read as before) out of 'Below'; a world for the witness. Forms that a call was handed: what a form in an argument is, how it reads, and that its lists' first cells bear no mark. -/
import Derived.Test.YtojnagonhihknaaGreatDoorCards
import Derived.Test.YtojnagonhihknaaGreatDoorTie
import Derived.Deep.DeepHandedRow
import Derived.Lib.LaidTab
import Derived.Carry
import Derived.LaidHandle
import Derived.Deep.Slices
import Derived.Deep.Fields
import Derived.Test.YtojnagonhihknaaGreatDoorV1
import Derived.Test.YtojnagonhihknaaGreatDoorV5
set_option linter.unusedVariables false
namespace Go.Proofs.YtojnagonhihknaaGreatDoor
open Go.ChangeShapes Go.WideShapes Go.ChangeAt Go.RowKit

theorem take_snoc {α : Type} {l : List α} {k : Nat} {x : α} (h : l[k]? = some x) : l.take (k + 1) = l.take k ++ [x] := by rw [List.take_add_one, h]; rfl
theorem Tryz.infoByte : (Tryz.prog.info? 5).map (fun i => (i.zero, i.size, i.bytes)) = some (some (.int .u8 0), 1, 1) := by kernel_rfl
theorem list_of {α : Type} (Q : Nat → α → Prop) : ∀ n, (∀ i, i < n → ∃ p, Q i p) → ∃ ps : List α, ps.length = n ∧ ∀ (i : Nat) p, ps[i]? = some p → Q i p
  | 0, _ => ⟨[], rfl, by simp⟩
  | n + 1, h => by
    obtain ⟨ps, hl, hq⟩ := list_of Q n fun i hi => h i (by omega)
    obtain ⟨p, hp⟩ := h n (by omega)
    refine ⟨ps ++ [p], by simp [hl], fun i q hi => ?_⟩
    rcases Nat.lt_or_ge i n with hn | hn
    · rw [List.getElem?_append_left (by omega)] at hi
      exact hq i q hi
    · have hlt := (List.getElem?_eq_some_iff.1 hi).1
      simp [hl] at hlt
      have e : i = n := by omega
      subst e
      rw [List.getElem?_append_right (by omega), hl, Nat.sub_self] at hi
      have : p = q := by simpa using hi
      subst this
      exact hp
end Go.Proofs.YtojnagonhihknaaGreatDoor
set_option linter.unusedVariables false
namespace Go.Proofs.YtojnagonhihknaaGreatDoor
open Go.ChangeShapes Go.WideShapes Go.ChangeAt Go.RowKit
open Go.Lib (decDigits itoa)

theorem Tm.ok_list (t : ByteArray) (xs : List Tm) : (Tm.mk true t xs).ok = (decide (t.size = 0) && Tm.oks xs) := by rw [Tm.ok]; rfl
theorem Tm.ok_text (t : ByteArray) (xs : List Tm) : (Tm.mk false t xs).ok = decide (xs.length = 0) := by
  rw [Tm.ok]
  cases xs <;> simp

theorem Tm.depth_list (t : ByteArray) (xs : List Tm) : (Tm.mk true t xs).depth = Tm.depths xs + 1 := by rw [Tm.depth]; rfl
theorem Tm.depth_text (t : ByteArray) (xs : List Tm) : (Tm.mk false t xs).depth = 0 := by rw [Tm.depth]; rfl
theorem Tm.depth_le_parts (T : Tm) : T.depth ≤ T.parts := by
  induction T using Tm.ind with
  | h l t xs ih =>
    have : Tm.depths xs ≤ Tm.partss xs := Tm.depths_le.2 fun x hx => Nat.le_trans (ih x hx) (Tm.parts_mem hx)
    rw [Tm.depth, Tm.parts]
    split <;> omega
theorem Tm.depths_le_partss (xs : List Tm) : Tm.depths xs ≤ Tm.partss xs := Tm.depths_le.2 fun x hx => Nat.le_trans (Tm.depth_le_parts x) (Tm.parts_mem hx)
theorem Tm.partss_take (xs : List Tm) (k : Nat) : Tm.partss (xs.take k) ≤ Tm.partss xs := by
  have := congrArg Tm.partss (List.take_append_drop k xs)
  rw [Tm.partss_app] at this
  omega

theorem keep_box {w W W2 : World} {t : ByteArray} (hb : Below W.heap.size W W2) (h : W.cell? ⟨w.heap.size, 1, none⟩ = some (.string t) ∧ Below w.heap.size w W ∧ w.heap.size < W.heap.size) :
    W2.cell? ⟨w.heap.size, 1, none⟩ = some (.string t) ∧ Below w.heap.size w W2 ∧ w.heap.size < W2.heap.size :=
  ⟨(hb.cell (p := ⟨w.heap.size, 1, none⟩) h.2.2).trans h.1, h.2.1.trans (hb.mono h.2.1.size), Nat.lt_of_lt_of_le h.2.2 hb.size⟩

theorem start_box (w : World) (x y : Value) (t : ByteArray) (ty : TypeId) :
    (w.alloc (.cells #[x, .string t, y] ty)).drew.cell? ⟨w.heap.size, 1, none⟩ = some (.string t) ∧ Below w.heap.size w (w.alloc (.cells #[x, .string t, y] ty)).drew ∧ w.heap.size < (w.alloc (.cells #[x, .string t, y] ty)).drew.heap.size :=
  ⟨(World.cell?_alloc_at _ _ _ _ rfl).trans rfl, ((Below.refl _ _).alloc (Nat.le_refl _) _).drew, by show _ < (w.heap.push _).size; simp⟩

theorem bytes_join (X : List UInt8) (t : ByteArray) : tx X ++ ⟨#[58]⟩ ++ t = tx (X ++ 58 :: t.data.toList) := by
  apply ba_ext
  simp [ByteArray.data_append]

theorem Tm.bytes_text (t : ByteArray) (xs : List Tm) : (Tm.mk false t xs).bytes = decDigits t.size ++ 58 :: t.data.toList := by rw [Tm.bytes]; rfl
theorem Tm.bytes_list (t : ByteArray) (xs : List Tm) : (Tm.mk true t xs).bytes = 40 :: (Tm.bytess xs ++ [41]) := by rw [Tm.bytes]; rfl

theorem Tm.bytess_take_le (xs : List Tm) (k : Nat) : (Tm.bytess (xs.take k)).length ≤ (Tm.bytess xs).length := by
  have := congrArg (fun l => (Tm.bytess l).length) (List.take_append_drop k xs)
  simp only [Tm.bytess_app, List.length_append] at this
  omega
theorem Tm.bytes_mem {xs : List Tm} {x : Tm} (h : x ∈ xs) : x.bytes.length ≤ (Tm.bytess xs).length := by
  induction xs with
  | nil => simp at h
  | cons y r ih =>
    simp only [Tm.bytess, List.length_append]
    rcases List.mem_cons.1 h with rfl | h
    · omega
    · have := ih h; omega
theorem Tm.bytess_get (xs : List Tm) (k : Nat) (x : Tm) (h : xs[k]? = some x) : (Tm.bytess (xs.take k)).length + x.bytes.length ≤ (Tm.bytess xs).length := by
  have h1 := Tm.bytess_take_le xs (k + 1)
  rw [take_snoc h, Tm.bytess_app, List.length_append] at h1
  simpa [Tm.bytess] using h1

theorem Tm.bytes_le (T : Tm) : T.bytes.length ≤ 2 * T.texts + 3 * T.parts := by
  induction T using Tm.ind with
  | h l t xs ih =>
    have hxs : (Tm.bytess xs).length ≤ 2 * Tm.textss xs + 3 * Tm.partss xs := by
      clear l t
      induction xs with
      | nil => simp [Tm.bytess]
      | cons x r ih2 =>
        have h1 := ih x (by simp)
        have h2 := ih2 fun y hy => ih y (by simp [hy])
        simp only [Tm.bytess, Tm.textss, Tm.partss, List.length_append]; omega
    cases l with
    | true => rw [Tm.bytes_list, Tm.texts, Tm.parts]; simp only [List.length_cons, List.length_append, List.length_nil]; omega
    | false =>
      have h1 := decDigits_len t.size
      have h2 := ba_len t
      rw [Tm.bytes_text, Tm.texts, Tm.parts]; simp only [List.length_cons, List.length_append]; omega
end Go.Proofs.YtojnagonhihknaaGreatDoor
set_option linter.unusedVariables false
namespace Go.Proofs.YtojnagonhihknaaGreatDoor
open Go.ChangeShapes Go.WideShapes Go.ChangeAt Go.RowKit


def bcs (l : List UInt8) : List Value := l.map fun b => .int .u8 b.toNat
theorem bcs_len (l : List UInt8) : (bcs l).length = l.length := by simp [bcs]
theorem bcs_app (l m : List UInt8) : bcs (l ++ m) = bcs l ++ bcs m := by simp [bcs]
theorem byteCells_bcs (s : ByteArray) : byteCells s = bcs s.data.toList := rfl

structure Wr (bw : Nat) (w : World) (v : Value) (out : List UInt8) : Prop where
  row : Row 1 (bw + 1) w v out.length (bcs out)
  cell : w.cell? ⟨bw, 0, none⟩ = some v
  free : w.frozen? ⟨bw, 0, none⟩ = false
  len : out.length ≤ 65536

structure WOff (bw : Nat) (w : World) (v : Value) (w' : World) (v' : Value) : Prop where
  off : Off (fun i => i = bw ∨ v.ownBlock = some i) w w'
  own : ∀ g, v'.ownBlock = some g → v.ownBlock = some g ∨ w.heap.size ≤ g

theorem WOff.refl (bw : Nat) (w : World) (v : Value) : WOff bw w v w v := ⟨Off.refl _ _, fun g h => .inl h⟩
theorem WOff.trans {bw : Nat} {a b c : World} {u v z : Value} (h : WOff bw a u b v) (k : WOff bw b v c z) : WOff bw a u c z :=
  ⟨h.off.trans' k.off fun i hi hz => by
    rcases hz with hz | hz
    · exact .inl hz
    · rcases h.own i hz with h1 | h1
      · exact .inr h1
      · omega, fun g hg => by
    rcases k.own g hg with h1 | h1
    · exact h.own g h1
    · exact .inr (Nat.le_trans h.off.size h1)⟩
theorem WOff.alloc {bw : Nat} {a b : World} {u v : Value} (h : WOff bw a u b v) (o : Obj) : WOff bw a u (b.alloc o) v := ⟨h.off.alloc o, h.own⟩
theorem WOff.of_below {bw : Nat} {a b : World} {v : Value} (h : Below a.heap.size a b) : WOff bw a v b v := ⟨Off.of_below h, fun g h => .inl h⟩
theorem Wr.below {bw : Nat} {w w' : World} {v : Value} {out : List UInt8} (h : Wr bw w v out) (hb : Below w.heap.size w w') : Wr bw w' v out :=
  ⟨h.row.below hb, (hb.cell (p := ⟨bw, 0, none⟩) (cell_lt h.cell)).trans h.cell, (hb.frozen (p := ⟨bw, 0, none⟩) (cell_lt h.cell)).trans h.free, h.len⟩

set_option maxHeartbeats 1000000 in
theorem put_no (s : ByteArray) (bw : Nat) (v : Value) (out : List UInt8) (w : World) (h : Wr bw w v out) (hs : ¬ out.length + s.size ≤ 65536) (hsm : s.size ≤ 140737488355328) :
    Calls Tryz.prog 170 #[.pointer (some ⟨bw, 0, none⟩), .string s] w fun e w' => e = .returned (.bool false) ∧ w' = w := by
  obtain ⟨a, c, hv⟩ := h.row.form
  have hl := h.len
  have hc := h.cell
  rw [hv] at hc
  obtain ⟨N, hN⟩ : ∃ N, N = out.length := ⟨_, rfl⟩
  rw [← hN] at hc hl hs
  have k1 : (65536 : Int) - N < s.size := by omega
  clear h hv hN hs
  go_enter Tryz.func170, Tryz.ntmps170
  go_wp2
  go_ret
  exact ⟨rfl, rfl⟩

def PutP (s : ByteArray) (bw : Nat) (v : Value) (out : List UInt8) (w : World) (e : Ending) (w' : World) : Prop :=
  ∃ v', e = .returned (.bool true) ∧ Wr bw w' v' (out ++ s.data.toList) ∧ WOff bw w v w' v'

set_option maxHeartbeats 1000000 in
theorem put_yes (s : ByteArray) (bw : Nat) (v : Value) (out : List UInt8) (w : World) (h : Wr bw w v out) (hs : out.length + s.size ≤ 65536) :
    Calls Tryz.prog 170 #[.pointer (some ⟨bw, 0, none⟩), .string s] w (PutP s bw v out w) := by
  obtain ⟨a, c, hv⟩ := h.row.form
  have hl := h.len
  have hc := h.cell
  have hf := h.free
  have hrow := h.row
  have hbw := cell_lt hc
  have hlen : (out ++ s.data.toList).length = out.length + s.size := by rw [List.length_append, ba_len]
  subst hv
  obtain ⟨N, hN⟩ : ∃ N, N = out.length := ⟨_, rfl⟩
  rw [← hN] at hc hl hs hrow hlen
  have k1 : ¬ (65536 : Int) - N < s.size := by omega
  have HR := Lib.hid hrow
  have HH := Lib.hid h
  have HN := Lib.hid hN
  have HL := Lib.hid hlen
  clear h hN hrow hlen
  go_enter Tryz.func170, Tryz.ntmps170
  go_wp2_with (at_builtin; refine wpList_append_row rfl (.tmp 18) (.tmp 19) 144 9 rfl 1 5 (.int .u8 0) 1 Tryz.underlying144 Tryz.infoByte rfl (bw + 1) (.slice a N c) N (bcs out) (by simp [Act.eval]) (by exact HR.out) (.string s) (by simp [Act.eval]) s.size (byteCells s) (Src.ofString _ Tryz.underlying9 s) (by omega) (by omega) (by decide) ?_; intro v' w1 hr1 ho1 hw1; obtain ⟨a1, c1, hv1⟩ := hr1.form; have hn1 : ¬ (Value.slice a N c).ownBlock = some bw := (fun e => by have := (HR.out.lt bw e).1; omega); have hc1 := (ho1.cell (p := ⟨bw, 0, none⟩) hbw hn1).trans HH.out.cell; have hf1 := (ho1.frozen (p := ⟨bw, 0, none⟩) hbw hn1).trans HH.out.free; have HR1 := Lib.hid hr1; have HO1 := Lib.hid ho1; have HW1 := Lib.hid hw1; have HV1 := Lib.hid hv1; subst hv1; clear hr1 ho1 hw1)
  go_ret
  have hoff : Off (fun i => i = bw ∨ (Value.slice a N c).ownBlock = some i) w (w1.setCell ⟨bw, 0, none⟩ (.slice a1 (N + s.size) c1)) :=
    (HO1.out.mono fun i h => .inr h).setCell (.inr (.inl rfl)) _
  have hown : ∀ g, (Value.slice a1 (N + s.size) c1).ownBlock = some g → (Value.slice a N c).ownBlock = some g ∨ w.heap.size ≤ g := fun g hg => by
    rcases HW1.out with e | e
    · exact .inl (e.symm.trans hg)
    · have : w.heap.size = g := Option.some.inj (e.symm.trans hg)
      exact .inr (by omega)
  have hN := HN.out
  subst hN
  refine ⟨_, rfl, ⟨?_, ?_, ?_, ?_⟩, ⟨hoff, hown⟩⟩
  · rw [HL.out, bcs_app]
    exact HR1.out.setOther (p := ⟨bw, 0, none⟩) (fun e => by have := (HR1.out.lt bw e).1; omega) _
  · exact World.cell?_setCell_same _ _ _ hc1
  · rw [World.frozen?_setCell]; exact hf1
  · rw [HL.out]; exact hs
end Go.Proofs.YtojnagonhihknaaGreatDoor
set_option linter.unusedVariables false
namespace Go.Proofs.YtojnagonhihknaaGreatDoor
open Go.ChangeShapes Go.WideShapes Go.ChangeAt Go.RowKit

theorem Tryz.own : ownKnob Tryz.prog.godebug = none := by kernel_rfl
theorem Tryz.laidOut : laidOutB Tryz.prog = true := by kernel_rfl

def numV : DataW Unit → Value | .lit (.int k n) => .int k n | _ => undef
def flat1 : DataW Unit → List Value | .agg l => l.map numV | _ => []
def flat2 : DataW Unit → List Value | .agg l => l.flatMap flat1 | _ => []
def relay (cs : Array Value) : Obj → Obj
  | .cells _ t frozen => .cells cs t frozen
  | o => o

noncomputable def laidWorld (os : Os) : World :=
  let w0 := World.holding Tryz.prog os ⟨#[], #[], []⟩
  let h0 := w0.heap
  let h0 := h0.modify 3 (relay (flat1 Rows.laid_math_bits_deBruijn32tab).toArray)
  let h0 := h0.modify 4 (relay (flat1 Rows.laid_math_bits_deBruijn64tab).toArray)
  let h0 := h0.modify 2 (relay (flat1 Rows.laid_internal_strconv_uint64pow10).toArray)
  let h0 := h0.modify 0 (relay #[.iface 170 (.agg #[.pointer (some ⟨5, 32, none⟩)])])
  { w0 with heap := h0 }

theorem trodAll_below {H : Type} {enc : TypeId × Value → H} {P : Program} (hl : laidOutB P = true) {W W' : World} (hb : Below W.heap.size W W') :
    ∀ (ts : List TypeId) (vs : List Value) (ds : List (DataW H)) (ps : List MemPlace), (∀ t ∈ ts, P.readableRec t = true ∧ t < P.types.size) → (∀ x ∈ ps, x.block < W.heap.size) →
      DataW.TrodAll enc P W 0 (fun _ => true) true ts vs ds ps → DataW.TrodAll enc P W' 0 (fun b => decide (b < W.heap.size)) true ts vs ds ps
  | [], vs, ds, ps, _, _, h => by
    cases vs <;> cases ds <;> exact h
  | t :: ts, vs, ds, ps, ht, hp, h => by
    obtain ⟨v, vs', d, ds', p, q, rfl, rfl, rfl, h0, h1⟩ := trodAll_cons h
    exact trodAll_cons_mk (Below.trod hl (ht t (by simp)).1 (ht t (by simp)).2 h0 hb fun x hx => hp x (by simp [hx])) (trodAll_below hl hb ts vs' ds' q (fun u hu => ht u (by simp [hu])) (fun x hx => hp x (by simp [hx])) h1)

theorem law_post {H : Type} {enc : TypeId × Value → H} {P : Program} {f : Func} {s : ChangeSpec} {W W' : World} {args : Array Value} {ds gs : List (DataW H)} {before : List MemPlace} {tb : TypeId}
    (hl : laidOutB P = true) (hp : f.params.toList.all (fun t => P.readableRec t && decide (t < P.types.size)) = true) (hv : s.vars = []) (hr : f.resultTypes = #[tb]) (htb : P.underlying tb = some .bool)
    (hW : DataW.Whole enc P f.params.toList s.vars false W args.toList ds gs before) (hspec : s.fn H (ds ++ gs) = { results := [.lit (.bool true)], args := ds }) (hb : Below W.heap.size W W') :
    s.post enc P f false true false false W args (.bool true) W' := by
  have hW0 := hW
  have hlt := fun p (hp : p ∈ before) => hW.lt p hp
  obtain ⟨p, q, hA, hV, rfl, _, _⟩ := hW
  rw [hv] at hV
  obtain ⟨rfl, rfl⟩ := trodVars_none hV
  refine ⟨ds, [], p ++ [], [], p, [], hW0, ?_, ?_, ?_, ?_, fun h => by cases h⟩
  · rw [hspec, hr]
    exact trodAll_cons_mk (shut_bool htb _) trodAll_mk0
  · rw [hspec]
    refine trodAll_below hl hb _ _ _ _ (fun t ht => ?_) (fun x hx => hlt x (by simpa using hx)) hA
    have := List.all_eq_true.1 hp t ht
    simpa using this
  · rw [hspec, hv]
    exact rfl
  · exact World.keptBut_mono (fun x hx => ⟨hx, .inr (.inl (by simpa using hx))⟩) (hb.frame (· ∈ p ++ []))

theorem mem_weightsAll {H : Type} {P : Program} {e : TypeId} {d : DataW H} {n : Nat} (hn : n ∈ d.weights P e) : ∀ {l : List (DataW H)}, d ∈ l → n ∈ DataW.weightsAll P e l
  | x :: r, h => by
    simp only [DataW.weightsAll, List.mem_append]
    cases List.mem_cons.1 h with
    | inl h => subst h; exact .inl hn
    | inr h => exact .inr (mem_weightsAll hn h)

theorem weights_reach {H : Type} {P : Program} {ts : List TypeId} {ds : List (DataW H)} (h : (DataW.weightsEach P ts ds).all (· ≤ reachBytes) = true) {j : Nat} {t : TypeId} {d : DataW H} (ht : ts[j]? = some t) (hd : ds[j]? = some d) :
    ∀ n ∈ d.weights P t, n ≤ reachBytes := by
  intro n hn
  have := List.all_eq_true.1 h n (DataW.weights_mem_each ht hd n hn)
  simpa using this

theorem open_reads {H : Type} {enc : TypeId × Value → H} {P : Program} {W : World} {b0 : Nat} {r : Reach} {t e : TypeId} {v : Value} {d : DataW H} {p : List MemPlace}
    (ht : P.underlying t = some (.slice e)) (he : P.underlying e = some .string) (hc : P.cellsOf e = 1) (hb : 0 < P.bytesOf e) (hval : Value.okWide P W r b0 t v) (h : DataW.Trod enc P W 0 (fun _ => true) true t v d p)
    (hw : ∀ n ∈ d.weights P t, n ≤ reachBytes) :
    ∃ xs : List ByteArray, Reads W v xs ∧ xs.length ≤ 140737488355328 ∧ (∀ x ∈ xs, x.size ≤ 140737488355328) ∧ ∃ spare, d = .nil ∧ xs = [] ∨ d = .slice (strs xs) spare := by
  obtain ⟨a0, len, cap, rfl⟩ := okWide_slice ht hval
  obtain ⟨fuel, hf⟩ := h
  have hreach : reachBytes ≤ 140737488355328 := by decide
  rcases open_strings ht he hc hf with ⟨hcs, hx⟩ | ⟨a, len', cap', ss, hcs, _, hl, hm, hz, hx, hcell, hsz⟩
  · simp [Value.cells] at hcs
    obtain ⟨rfl, rfl, rfl⟩ := hcs
    have hd : d = .nil := (Prod.mk.inj hx).1
    exact ⟨[], .inl ⟨rfl, none, 0, rfl⟩, by simp, by simp, [], .inl ⟨hd, rfl⟩⟩
  · simp [Value.cells] at hcs
    obtain ⟨rfl, rfl, rfl⟩ := hcs
    have hd : d = .slice (strs (ss.take len)) (strs (ss.drop len)) := (Prod.mk.inj hx).1
    subst hd
    simp only [if_true] at hz
    have hxl : (ss.take len).length = len := by simp; omega
    have hlen : len ≤ 140737488355328 := by
      have h1 := hw (((strs (H := H) (ss.take len)).length + (strs (H := H) (ss.drop len)).length) * P.bytesOf e) (by simp [DataW.weights, ht])
      have h2 : len ≤ (strs (H := H) (ss.take len)).length + (strs (H := H) (ss.drop len)).length := by simp [strs]; omega
      have h3 := Nat.le_mul_of_pos_right ((strs (H := H) (ss.take len)).length + (strs (H := H) (ss.drop len)).length) hb
      omega
    refine ⟨ss.take len, ?_, by omega, fun x hx => ?_, _, .inr rfl⟩
    · by_cases h0 : len = 0
      · subst h0
        exact .inl ⟨by simp, _, cap, rfl⟩
      · obtain ⟨b, off, spot⟩ := a
        have hspot : spot = none := by simpa [Addr.add] using World.cell?_spot (hcell 0 (by omega))
        subst hspot
        refine .inr ⟨fun e => h0 (by rw [← hxl, e]; rfl), b, off, cap, by rw [hxl], by omega, by unfold maxLen at hm; omega, cell_lt (hcell 0 (by omega)), fun j x hx => ?_⟩
        have hj : j < len := by
          have := (List.getElem?_eq_some_iff.1 hx).1
          omega
        have hX' : ss.getD j ByteArray.empty = x := by
          rw [List.getElem?_take_of_lt hj] at hx
          simp [List.getD, hx]
        have hcj := hcell j (by omega)
        rw [hX'] at hcj
        have ha : (⟨b, off, none⟩ : Addr).add j = ⟨b, off + j, none⟩ := by unfold Addr.add; split <;> simp_all
        rw [← ha]
        exact hcj
    · have hmem : (DataW.lit (H := H) (.string x.data.toList)) ∈ strs (H := H) (ss.take len) := List.mem_map.2 ⟨x, hx, rfl⟩
      have h1 := hw x.data.toList.length (by
        simp only [DataW.weights, ht, List.mem_cons, List.mem_append]
        exact .inr (.inl (mem_weightsAll (by simp [DataW.weights]) hmem)))
      have h2 : x.data.toList.length = x.size := Array.length_toList
      omega

theorem str_reach {l : List UInt8} (h : l.length ≤ reachBytes) : l.length ≤ 140737488355328 := Nat.le_trans h (by decide)
end Go.Proofs.YtojnagonhihknaaGreatDoor
set_option linter.unusedVariables false
namespace Go.Proofs.YtojnagonhihknaaGreatDoor
open Go.ChangeShapes Go.WideShapes Go.ChangeAt Go.RowKit Go.Deep

inductive SlG (w : World) : Value → List Tm → Prop
  | nil (a : Option Addr) (c : Nat) : c ≤ maxLen → SlG w (.slice a 0 c) []
  | row (b o c : Nat) (xs : List Tm) (S : Nat → Value) : xs ≠ [] → xs.length ≤ c → c ≤ maxLen → w.frozen? ⟨b, o, none⟩ = false →
      (∀ j l t ys, xs[j]? = some (.mk l t ys) → w.cell? ⟨b, o + j * 3, none⟩ = some (.bool l) ∧ w.cell? ⟨b, o + j * 3 + 1, none⟩ = some (.string t) ∧ w.cell? ⟨b, o + j * 3 + 2, none⟩ = some (S j) ∧ t.size ≤ 140737488355328) →
      (∀ j l t ys, xs[j]? = some (.mk l t ys) → SlG w (S j) ys) → SlG w (.slice (some ⟨b, o, none⟩) xs.length c) xs

theorem SlG.sl {w : World} {v : Value} {xs : List Tm} (h : SlG w v xs) : SlL (· < w.heap.size) w v xs := by
  induction h with
  | nil a c hc => exact .nil a c hc
  | row b o c xs S h1 h3 h4 hf h5 h6 ih =>
    have hlt : b < w.heap.size := by
      obtain ⟨⟨l, t, ys⟩, r, rfl⟩ := List.exists_cons_of_ne_nil h1
      exact cell_lt (h5 0 l t ys rfl).1
    exact .row b o c xs S h1 hlt h3 h4 h5 ih

theorem SlG.keep {w w' : World} {v : Value} {xs : List Tm} (h : SlG w v xs) (hb : Below w.heap.size w w') : SlG w' v xs := by
  induction h with
  | nil a c hc => exact .nil a c hc
  | row b o c xs S h1 h3 h4 hf h5 h6 ih =>
    have hlt : b < w.heap.size := by
      obtain ⟨⟨l, t, ys⟩, r, rfl⟩ := List.exists_cons_of_ne_nil h1
      exact cell_lt (h5 0 l t ys rfl).1
    have e := hb.block b hlt
    refine .row b o c xs S h1 h3 h4 ((World.frozen?_of_block (w := w) (a := ⟨b, o, none⟩) e).trans hf) (fun j l t ys hj => ?_) ih
    obtain ⟨a1, a2, a3, a4⟩ := h5 j l t ys hj
    exact ⟨(World.cell?_of_block (w := w) (a := ⟨b, o + j * 3, none⟩) e).trans a1, (World.cell?_of_block (w := w) (a := ⟨b, o + j * 3 + 1, none⟩) e).trans a2, (World.cell?_of_block (w := w) (a := ⟨b, o + j * 3 + 2, none⟩) e).trans a3, a4⟩
theorem SlG.form {w : World} {v : Value} {xs : List Tm} (h : SlG w v xs) : ∃ a c, v = .slice a xs.length c ∧ xs.length ≤ c ∧ c ≤ maxLen := h.sl.form

def GRow (w : World) (b o : Nat) (xs : List Tm) : Prop :=
  b < w.heap.size ∧ ∀ j l t ys, xs[j]? = some (.mk l t ys) → ∃ a c, w.cell? ⟨b, o + j * 3, none⟩ = some (.bool l) ∧ w.cell? ⟨b, o + j * 3 + 1, none⟩ = some (.string t) ∧ w.cell? ⟨b, o + j * 3 + 2, none⟩ = some (.slice a ys.length c) ∧
    t.size ≤ 140737488355328 ∧ SlG w (.slice a ys.length c) ys

theorem SlG.pos {w : World} {v : Value} {xs : List Tm} (h : SlG w v xs) (hne : xs ≠ []) : ∃ b o c, v = .slice (some ⟨b, o, none⟩) xs.length c ∧ xs.length ≤ c ∧ c ≤ maxLen ∧ w.frozen? ⟨b, o, none⟩ = false ∧ GRow w b o xs := by
  cases h with
  | nil a c => exact absurd rfl hne
  | row b o c xs S h1 h3 h4 hf h5 h6 =>
    refine ⟨b, o, c, rfl, h3, h4, hf, ?_, fun j l t ys hj => ?_⟩
    · obtain ⟨⟨l, t, ys⟩, r, rfl⟩ := List.exists_cons_of_ne_nil h1
      exact cell_lt (h5 0 l t ys rfl).1
    · obtain ⟨c1, c2, c3, c4⟩ := h5 j l t ys hj
      have hs := h6 j l t ys hj
      obtain ⟨a, c', e, _, _⟩ := hs.form
      rw [e] at c3 hs
      exact ⟨a, c', c1, c2, c3, c4, hs⟩
theorem GRow.keep {w w' : World} {b o : Nat} {xs : List Tm} (h : GRow w b o xs) (hb : Below w.heap.size w w') : GRow w' b o xs := by
  obtain ⟨h2, h3⟩ := h
  refine ⟨Nat.lt_of_lt_of_le h2 hb.size, fun j l t ys hj => ?_⟩
  obtain ⟨a, c, a1, a2, a3, a4, a5⟩ := h3 j l t ys hj
  exact ⟨a, c, (hb.cell (p := ⟨b, o + j * 3, none⟩) h2).trans a1, (hb.cell (p := ⟨b, o + j * 3 + 1, none⟩) h2).trans a2, (hb.cell (p := ⟨b, o + j * 3 + 2, none⟩) h2).trans a3, a4, a5.keep hb⟩
theorem GRow.drop {w : World} {b o : Nat} {xs : List Tm} (h : GRow w b o xs) (k : Nat) : GRow w b (o + k * 3) (xs.drop k) := by
  obtain ⟨h2, h3⟩ := h
  refine ⟨h2, fun j l t ys hj => ?_⟩
  rw [List.getElem?_drop] at hj
  have := h3 (k + j) l t ys hj
  rw [show o + (k + j) * 3 = o + k * 3 + j * 3 by omega] at this
  exact this

def OpensL {H : Type} (enc : TypeId × Value → H) (W : World) (fuel : Nat) : Prop :=
  ∀ (cs : List Value) (x : DataW H × List MemPlace), DataW.trod enc Tryz.prog W 0 (fun _ => true) true fuel 120 cs = some x → (∀ n ∈ x.1.weights Tryz.prog 120, n ≤ reachBytes) → W.noneFrozen x.2 →
    ∃ v xs, cs = [v] ∧ SlG W v xs

set_option maxRecDepth 100000 in
theorem open_form {H : Type} {enc : TypeId × Value → H} {W : World} {fuel : Nat} (IH : ∀ m, m < fuel → OpensL enc W m) {cs : List Value} {x : DataW H × List MemPlace} (h : DataW.trod enc Tryz.prog W 0 (fun _ => true) true fuel 122 cs = some x)
    (hw : ∀ n ∈ x.1.weights Tryz.prog 122, n ≤ reachBytes) (hfz : W.noneFrozen x.2) :
    ∃ (l : Bool) (t : ByteArray) (v : Value) (ys : List Tm), cs = [.bool l, .string t, v] ∧ t.size ≤ 140737488355328 ∧ SlG W v ys := by
  have hreach : reachBytes ≤ 140737488355328 := by decide
  have hu := Tryz.underlying122
  have hc3 : Tryz.prog.cellsOf 122 = 3 := by kernel_rfl
  have ci : Tryz.prog.cellsOf 4 = 1 := by kernel_rfl
  have cs1 : Tryz.prog.cellsOf 9 = 1 := by kernel_rfl
  have cl : Tryz.prog.cellsOf 120 = 1 := by kernel_rfl
  obtain ⟨xs, n, hfu, hx, hlen, hxl, hf⟩ := DataW.trod_struct hu h
  rw [hc3] at hlen
  obtain ⟨v0, v1, v2, rfl⟩ : ∃ v0 v1 v2, cs = [v0, v1, v2] := by
    match cs, hlen with
    | [v0, v1, v2], _ => exact ⟨v0, v1, v2, rfl⟩
  obtain ⟨y0, y1, y2, rfl⟩ : ∃ y0 y1 y2, xs = [y0, y1, y2] := by
    match xs, hxl with
    | [y0, y1, y2], _ => exact ⟨y0, y1, y2, rfl⟩
  have f0 : DataW.trod enc Tryz.prog W 0 (fun _ => true) true n 4 (([v0, v1, v2].drop 0).take (Tryz.prog.cellsOf 4)) = [y0, y1, y2][0]? := hf 0 _ rfl
  have f1 : DataW.trod enc Tryz.prog W 0 (fun _ => true) true n 9 (([v0, v1, v2].drop 1).take (Tryz.prog.cellsOf 9)) = [y0, y1, y2][1]? := hf 1 _ rfl
  have f2 : DataW.trod enc Tryz.prog W 0 (fun _ => true) true n 120 (([v0, v1, v2].drop 2).take (Tryz.prog.cellsOf 120)) = [y0, y1, y2][2]? := hf 2 _ rfl
  rw [ci] at f0
  rw [cs1] at f1
  rw [cl] at f2
  obtain ⟨l, e0, -⟩ := DataW.trod_bool (x := y0) Tryz.underlying4 (by simpa using f0)
  obtain ⟨t, e1, ex1, -⟩ := DataW.trod_string (x := y1) Tryz.underlying9 (by simpa using f1)
  have f2' : DataW.trod enc Tryz.prog W 0 (fun _ => true) true n 120 [v2] = some y2 := by simpa using f2
  have hwj : ∀ (j : Nat) (ty : TypeId) (d : DataW H), [4, 9, 120][j]? = some ty → [y0.1, y1.1, y2.1][j]? = some d → ∀ k ∈ d.weights Tryz.prog ty, k ≤ reachBytes := by
    intro j ty d hj hd k hk
    refine hw k ?_
    rw [hx]
    simp only [List.map_cons, List.map_nil, DataW.weights, hu]
    exact DataW.weights_mem_each (j := j) hj hd k hk
  obtain ⟨v, ys, ev, hs⟩ := IH n (by omega) _ _ f2' (hwj 2 _ _ rfl rfl) (fun b off hp => hfz b off (by rw [hx]; simp; exact .inr (.inr hp)))
  have hts : t.size ≤ reachBytes := by
    have := hwj 1 _ _ rfl rfl t.data.toList.length (by rw [ex1]; simp [DataW.weights])
    have h2 : t.data.toList.length = t.size := Array.length_toList
    omega
  refine ⟨l, t, v, ys, ?_, by omega, hs⟩
  have a0 : v0 = .bool l := by simpa using e0
  have a1 : v1 = .string t := by simpa using e1
  have a2 : v2 = v := by simpa using ev
  rw [a0, a1, a2]

set_option maxRecDepth 100000 in
theorem opens {H : Type} {enc : TypeId × Value → H} {W : World} (fuel : Nat) : OpensL enc W fuel := by
  induction fuel using Nat.strongRecOn with
  | _ fuel IH =>
  intro cs x h hw hfz
  have hu := Tryz.underlying120
  have hc3 : Tryz.prog.cellsOf 122 = 3 := by kernel_rfl
  rcases DataW.trod_slice hu h with ⟨rfl, rfl⟩ | ⟨a, len, cap, elems, rest, n, hfu, rfl, rfl, -, hl, hm, hlen, hel, -, -⟩
  · exact ⟨_, [], rfl, .nil none 0 (Nat.zero_le _)⟩
  rw [hc3] at hel
  have each : ∀ i, i < len → ∃ q : Tm × Value, ∃ l t ys, q.1 = .mk l t ys ∧ W.cell? (a.add (i * 3)) = some (.bool l) ∧ W.cell? ((a.add (i * 3)).add 1) = some (.string t) ∧ W.cell? ((a.add (i * 3)).add 2) = some q.2 ∧ t.size ≤ 140737488355328 ∧ SlG W q.2 ys := by
    intro i hi
    have he := hel i hi
    rw [List.getElem?_eq_getElem (by omega), Option.bind_eq_some_iff] at he
    obtain ⟨cs', hc, ht'⟩ := he
    have hmem : elems[i]'(by omega) ∈ elems := List.getElem_mem _
    obtain ⟨l, t, v, ys, rfl, hts, hs⟩ := open_form (fun m hm => IH m (by omega)) ht' (fun k hk => hw k (by
      simp only [DataW.weights, hu, List.mem_cons, List.mem_append]
      exact .inr (.inl (mem_weightsAll hk (List.mem_map.2 ⟨_, hmem, rfl⟩))))) (fun b off hp => hfz b off (by
      simp only [List.mem_append, List.flatMap_append, List.mem_flatMap]
      exact .inr (.inl ⟨_, hmem, hp⟩)))
    obtain ⟨_, _, hat⟩ := World.cells?_some hc
    have h0 := hat 0 (by omega)
    have h1 := hat 1 (by omega)
    have h2 := hat 2 (by omega)
    rw [show (a.add (i * 3)).add 0 = a.add (i * 3) by rw [Go.Deep.add_add]; rfl] at h0
    exact ⟨(.mk l t ys, v), l, t, ys, rfl, h0, h1, h2, hts, hs⟩
  obtain ⟨ps, hpl, hps⟩ := list_of _ len each
  rcases Nat.eq_zero_or_pos len with h0 | hpos
  · subst h0
    exact ⟨_, [], rfl, .nil _ cap hm⟩
  obtain ⟨b, off, spot⟩ := a
  obtain ⟨_, _, _, -, h00, -⟩ := hps 0 (ps[0]'(by omega)) (by simp)
  have hspot : spot = none := by simpa [Addr.add] using World.cell?_spot h00
  subst hspot
  have hadd : ∀ (o k : Nat), (⟨b, o, none⟩ : Addr).add k = ⟨b, o + k, none⟩ := fun o k => Addr.add_lit ..
  have hfz0 : W.frozen? ⟨b, off, none⟩ = false := hfz b off (by
    simp only [List.mem_append]
    refine .inl ?_
    rw [hc3]
    exact List.mem_map.2 ⟨0, List.mem_range.2 (by omega), rfl⟩)
  have hlen2 : (ps.map (·.1)).length = len := by rw [List.length_map]; exact hpl
  refine ⟨_, ps.map (·.1), rfl, ?_⟩
  rw [← hlen2]
  refine .row b off cap (ps.map (·.1)) (fun j => (ps.getD j (.mk false ByteArray.empty [], .nilIface)).2) ?_ (by omega) hm hfz0 (fun j l t ys hj => ?_) (fun j l t ys hj => ?_)
  · intro e
    rw [e] at hlen2
    simp at hlen2
    omega
  · rw [List.getElem?_map] at hj
    obtain ⟨q, hq, e⟩ := Option.map_eq_some_iff.1 hj
    obtain ⟨l', t', ys', e', c0, c1, c2, c3, hs⟩ := hps j q hq
    rw [e'] at e
    injection e with e1 e2 e3
    subst e1; subst e2; subst e3
    rw [hadd] at c0
    rw [hadd, hadd] at c1 c2
    have : ps.getD j (.mk false ByteArray.empty [], .nilIface) = q := by simp [List.getD, hq]
    rw [this]
    exact ⟨c0, c1, c2, c3⟩
  · rw [List.getElem?_map] at hj
    obtain ⟨q, hq, e⟩ := Option.map_eq_some_iff.1 hj
    obtain ⟨l', t', ys', e', c0, c1, c2, c3, hs⟩ := hps j q hq
    rw [e'] at e
    injection e with e1 e2 e3
    subst e1; subst e2; subst e3
    have : ps.getD j (.mk false ByteArray.empty [], .nilIface) = q := by simp [List.getD, hq]
    rw [this]
    exact hs

set_option maxRecDepth 100000 in
theorem open_formArg {H : Type} {enc : TypeId × Value → H} {W : World} {b0 : Nat} {r : Reach} {v : Value} {d : DataW H} {p : List MemPlace}
    (hval : Value.okWide Tryz.prog W r b0 122 v) (h : DataW.Trod enc Tryz.prog W 0 (fun _ => true) true 122 v d p) (hw : ∀ n ∈ d.weights Tryz.prog 122, n ≤ reachBytes) (hfz : W.noneFrozen p) :
    ∃ (l : Bool) (t : ByteArray) (ys : List Tm) (a : Option Addr) (c : Nat), v = fv l t (.slice a ys.length c) ∧ t.size ≤ 140737488355328 ∧ SlG W (.slice a ys.length c) ys := by
  obtain ⟨cs, rfl, -⟩ := okWide_struct Tryz.underlying122 hval
  obtain ⟨fuel, hf⟩ := h
  obtain ⟨l, t, v, ys, e, hts, hs⟩ := open_form (fun m _ => opens m) hf hw hfz
  obtain ⟨a, c, rfl, -, -⟩ := hs.form
  refine ⟨l, t, ys, a, c, ?_, hts, hs⟩
  have : cs = #[.bool l, .string t, .slice a ys.length c] := by
    apply Array.ext'
    simpa [Value.cells] using e
  rw [this]
end Go.Proofs.YtojnagonhihknaaGreatDoor
