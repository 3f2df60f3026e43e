/- append to a row of the call's own, and what type the row is of. No function of the program is named here. A builder of texts, as it is written and read: its copy check is walked at this program. -/
import Derived.Lib.OthersKept
import Derived.Shelf.Strings.BuilderF
import Derived.Lib.FrozenHead2
import Derived.Test.YthamfbfeokmhgaaGreatDoorShelf
import Derived.Test.YthamfbfeokmhgaaGreatDoorU2
import Derived.Test.YthamfbfeokmhgaaGreatDoorU8
set_option linter.unusedVariables false
namespace Go.Proofs.YthamfbfeokmhgaaGreatDoor
open Go.ChangeShapes Go.WideShapes Go.ChangeAt Go.RowKit

def OwnT (e : TypeId) (v : Value) (w : World) : Prop := ∀ i, v.ownBlock = some i → ∃ c fz, w.heap[i]? = some (.cells c e fz)
theorem OwnT.nil (e : TypeId) (w : World) : OwnT e (.slice none 0 0) w := fun i h => by cases h
theorem OwnT.below {e : TypeId} {v : Value} {w w' : World} (h : OwnT e v w) (hb : Below w.heap.size w w') : OwnT e v w' := fun i hi => by
  obtain ⟨c, fz, h1⟩ := h i hi
  refine ⟨c, fz, (hb.block i ?_).trans h1⟩
  exact (Array.getElem?_eq_some_iff.1 h1).1
theorem own_setCell {w : World} {i : Nat} {e : TypeId} {p : Addr} {u : Value} (h : ∃ c fz, w.heap[i]? = some (.cells c e fz)) : ∃ c fz, (w.setCell p u).heap[i]? = some (.cells c e fz) := by
  obtain ⟨c, fz, h⟩ := h
  unfold World.setCell
  simp only [Array.getElem?_modify]
  split
  · rw [h]; exact ⟨_, _, rfl⟩
  · exact ⟨c, fz, h⟩
theorem own_setCells {e : TypeId} {i : Nat} : ∀ (vs : List Value) (b o : Nat) {w : World}, (∃ c fz, w.heap[i]? = some (.cells c e fz)) → ∃ c fz, (w.setCells b o vs).heap[i]? = some (.cells c e fz)
  | [], _, _, _, h => h
  | v :: r, b, o, w, h => own_setCells r b (o + 1) (w := w.setCell ⟨b, o, none⟩ v) (own_setCell h)
theorem own_alloc {w : World} {c : Array Value} {e : TypeId} {fr : Nat × Nat} {n cap i : Nat} (hi : (Value.slice (some ⟨w.heap.size, 0, none⟩) n cap).ownBlock = some i) : ∃ c' fz, (w.alloc (.cells c e fr)).heap[i]? = some (.cells c' e fz) := by
  have : w.heap.size = i := Option.some.inj hi
  subst this
  exact ⟨c, fr, by show (w.heap.push _)[w.heap.size]? = _; simp⟩
theorem others_own {e1 e2 : TypeId} {b : Option Nat} {v : Value} {w w' : World} (h : OwnT e1 v w) (hne : e1 ≠ e2) (hk : Lib.OthersKept e2 b w w') (hb : ∀ i, v.ownBlock = some i → some i ≠ b) : ∀ i, v.ownBlock = some i → w'.heap[i]? = w.heap[i]? := fun i hi => by
  obtain ⟨c, fz, h1⟩ := h i hi
  rw [h1]
  exact hk i _ h1 (hb i hi) (fun c' fz' e => hne (by injection e))
section
variable {P : Program}

theorem run_append_rowT {k B : Nat} {w : World} {v : Value} {n : Nat} {cs : List Value} (t tx ty e : TypeId) (z : Value) (bytes : Nat) (ht : P.underlying t = some (.slice e)) (hinfo : (P.info? e).map (fun i => (i.zero, i.size, i.bytes)) = some (some z, k, bytes)) (hzk : z.cells.size = k)
    (h : Row k B w v n cs) (x : Value) (m : Nat) (news : List Value) (hsrc : Src P k tx x m news w) (hB : B ≤ w.heap.size) (hl : n + m ≤ 1099511627776) (hb : bytes ≤ 64) :
    ∃ v' w', (Builtin.append_ #[t, tx] ty #[v, x]).run P w = .ok v' w' ∧ Row k B w' v' (n + m) (cs ++ news) ∧ Off (fun i => v.ownBlock = some i) w w' ∧ (v'.ownBlock = v.ownBlock ∨ v'.ownBlock = some w.heap.size) ∧ (OwnT e v w → OwnT e v' w') := by
  obtain ⟨i, hi, hzz⟩ := Option.map_eq_some_iff.1 hinfo
  simp only [Prod.mk.injEq] at hzz
  obtain ⟨hz, hsz, hby⟩ := hzz
  obtain ⟨hlen, h⟩ := h
  have hnl := hsrc.newsLen
  have htot : (cs ++ news).length = (n + m) * k := by rw [List.length_append, hlen, hnl, Nat.add_mul]
  rw [← hsz] at hsrc
  have grow : ∀ (base : Option Addr) (sCap : Nat), (Builtin.firstCells i.size n (.slice base n sCap)).run P w.drew = .ok cs.toArray w.drew → sCap < n + m →
      ∃ v' w', (Builtin.append_ #[t, tx] ty #[.slice base n sCap, x]).run P w = .ok v' w' ∧ Row k B w' v' (n + m) (cs ++ news) ∧ Off (fun i => (Value.slice base n sCap).ownBlock = some i) w w' ∧ (v'.ownBlock = (Value.slice base n sCap).ownBlock ∨ v'.ownBlock = some w.heap.size) ∧ (OwnT e (.slice base n sCap) w → OwnT e v' w') := by
    intro base sCap hold hg
    have hfit : Builtin.nextslicecap (n + m) sCap * i.bytes ≤ 281474976710656 := growslice_fits hg (by
      rw [hby]
      have := Nat.mul_le_mul hl hb
      omega)
    have hr := run_append_grow_src (P := P) w t tx ty e i z ht hi hz base n sCap cs hold x m news hsrc hg (by omega) hfit
    have hge := grownCap_ge w (n + m) sCap e
    have hcm : grownCap w (n + m) sCap e ≤ maxLen := grownCap_le_maxLen w _ sCap e (by unfold maxLen; omega)
    refine ⟨_, _, hr, ?_, ?_, .inr rfl, fun _ i hi => own_alloc hi⟩
    · refine row_new (w := w.drew) (fr := (0, 0)) hB htot hge hcm ?_ (.inl rfl) (fun j u hu => ?_)
      · rw [Array.size_append, List.size_toArray, htot, size_zeroCells, hzk]
        have := Nat.add_mul (n + m) (grownCap w (n + m) sCap e - (n + m)) k
        rw [Nat.add_sub_cancel' hge] at this
        omega
      · rw [Array.getElem?_append, if_pos (by rw [List.size_toArray]; exact (List.getElem?_eq_some_iff.1 hu).1)]
        simpa using hu
    · exact ((Off.refl _ w).drew).alloc _
  rcases h with ⟨rfl, rfl⟩ | ⟨b, cap, rfl, h2, h3, h4, h5, h6, h7⟩
  · have hcs : cs = [] := List.length_eq_zero_iff.1 (by omega)
    subst hcs
    by_cases hm0 : m = 0
    · subst hm0
      have hnews : news = [] := List.length_eq_zero_iff.1 (by omega)
      subst hnews
      refine ⟨.slice none 0 0, w, ?_, ⟨by simp, .inl ⟨rfl, rfl⟩⟩, Off.refl _ _, .inl rfl, fun h => h⟩
      rcases hsrc.kind with ⟨e', hk⟩ | hk <;> simp [Builtin.append_, run_underlying ht, run_underlying hk, sizeOf, typeInfo, hi, hsrc.len, hsrc.cells]
    · exact grow none 0 (by simpa using run_firstCells_none w.drew i.size 0 0 0) (by omega)
  · by_cases hroom : n + m ≤ cap
    · have hfitk : (n + m) * k ≤ cap * k := Nat.mul_le_mul_right _ hroom
      have hr := run_append_room_src (P := P) w t tx ty e i ht hi b 0 n cap x m news hsrc hroom
        (fun j hj => by rw [hsz, Nat.zero_add]; exact (h6 _ (by rw [hnl] at hj; rw [Nat.add_mul] at hfitk; omega)).1) (fun j hj => by rw [hsz, Nat.zero_add]; exact (h6 _ (by rw [hnl] at hj; rw [Nat.add_mul] at hfitk; omega)).2)
      rw [hsz, Nat.zero_add] at hr
      obtain ⟨g1, g2, g3, g4, g5⟩ := heap_setCells news b (n * k) w
      refine ⟨_, _, hr, ⟨htot, .inr ⟨b, cap, rfl, h2, by rw [g1]; exact h3, hroom, h5, fun j hj => ?_, fun j u hu => ?_⟩⟩, ?_, .inl rfl, fun h i hi => own_setCells news b (n * k) (h i hi)⟩
      · exact ⟨World.isSome_setCells b news (n * k) w _ (h6 j hj).1, by rw [World.frozen?_setCells]; exact (h6 j hj).2⟩
      · have hjl : j < (cs ++ news).length := (List.getElem?_eq_some_iff.1 hu).1
        rw [htot] at hjl
        by_cases e1 : j < cs.length
        · rw [List.getElem?_append_left e1] at hu
          rw [World.cell?_setCells_out b news (n * k) w ⟨b, j, none⟩ (fun _ _ => .inl (by show j < n * k; omega))]
          exact h7 j u hu
        · rw [List.getElem?_append_right (by omega)] at hu
          have hj2 : j - cs.length < news.length := (List.getElem?_eq_some_iff.1 hu).1
          have hin := World.cell?_setCells_in b news (n * k) w (fun i hi => (h6 _ (by rw [hnl] at hi; rw [Nat.add_mul] at hfitk; omega)).1) (j - cs.length) hj2
          rw [show n * k + (j - cs.length) = j by omega] at hin
          rw [hin, ← hu, List.getElem?_eq_getElem hj2]
      · refine ⟨g3, g4, g5, by rw [g1]; exact Nat.le_refl _, fun i hi hn => g2 i (fun e => hn ?_)⟩
        subst e; rfl
    · refine grow (some ⟨b, 0, none⟩) cap (run_firstCells_some w.drew i.size n ⟨b, 0, none⟩ n cap cs (by rw [hsz]; exact hlen) (fun j u hu => ?_)) (by omega)
      have e2 : (⟨b, 0, none⟩ : Addr).add j = ⟨b, j, none⟩ := by unfold Addr.add; split <;> simp_all
      rw [e2]
      exact h7 j u hu

theorem wp_append_rowT {w : World} {o : Oper} {a : Act} {K : Act → World → Prop} {Q : Exit → Act → World → Prop} (s x : Operand) (t tx : TypeId)
    (ho : o.op = .call { callee := .builtin .append, args := #[s, x], argTypes := #[t, tx] }) (k : Nat) (e : TypeId) (z : Value) (bytes : Nat) (ht : P.underlying t = some (.slice e)) (hinfo : (P.info? e).map (fun i => (i.zero, i.size, i.bytes)) = some (some z, k, bytes)) (hzk : z.cells.size = k)
    (B : Nat) (v : Value) (n : Nat) (cs : List Value) (hs : a.eval s = v) (h : Row k B w v n cs) (xv : Value) (hx : a.eval x = xv) (m : Nat) (news : List Value) (hsrc : Src P k tx xv m news w)
    (hB : B ≤ w.heap.size) (hl : n + m ≤ 1099511627776) (hb : bytes ≤ 64)
    (hK : ∀ v' w', Row k B w' v' (n + m) (cs ++ news) → Off (fun i => v.ownBlock = some i) w w' → (v'.ownBlock = v.ownBlock ∨ v'.ownBlock = some w.heap.size) → (OwnT e v w → OwnT e v' w') → K (a.put o.dst v') w') : o.wp P a w K Q := by
  obtain ⟨v', w', hr, h2, h3, h4, h5⟩ := run_append_rowT (P := P) t tx o.type e z bytes ht hinfo hzk h xv m news hsrc hB hl hb
  unfold Oper.wp execOp
  simp only [ho, resolve, invoke, builtin, Sem.run_bind, Sem.run_pure, Result.andThen_ok, List.map_toArray, List.map_cons, List.map_nil, hs, hx, hr]
  exact hK v' w' h2 h3 h4 h5

theorem wpList_append_rowT {w : World} {ops : Array Oper} {rest : List Oper} {o : Oper} {a : Act} {Q : Exit → Act → World → Prop} (hgd : o.guard = none) (s x : Operand) (t tx : TypeId)
    (ho : o.op = .call { callee := .builtin .append, args := #[s, x], argTypes := #[t, tx] }) (k : Nat) (e : TypeId) (z : Value) (bytes : Nat) (ht : P.underlying t = some (.slice e)) (hinfo : (P.info? e).map (fun i => (i.zero, i.size, i.bytes)) = some (some z, k, bytes)) (hzk : z.cells.size = k)
    (B : Nat) (v : Value) (n : Nat) (cs : List Value) (hs : a.eval s = v) (h : Row k B w v n cs) (xv : Value) (hx : a.eval x = xv) (m : Nat) (news : List Value) (hsrc : Src P k tx xv m news w)
    (hB : B ≤ w.heap.size) (hl : n + m ≤ 1099511627776) (hb : bytes ≤ 64)
    (hK : ∀ v' w', Row k B w' v' (n + m) (cs ++ news) → Off (fun i => v.ownBlock = some i) w w' → (v'.ownBlock = v.ownBlock ∨ v'.ownBlock = some w.heap.size) → (OwnT e v w → OwnT e v' w') → wpList P ops Q rest (a.put o.dst v') w') : wpList P ops Q (o :: rest) a w :=
  wpList_plain hgd fun _ hk => wp_append_rowT s x t tx ho k e z bytes ht hinfo hzk B v n cs hs h xv hx m news hsrc hB hl hb fun v' w' h2 h3 h4 h5 => hk _ _ (hK v' w' h2 h3 h4 h5)
end
end Go.Proofs.YthamfbfeokmhgaaGreatDoor
set_option linter.unusedVariables false
set_option linter.unusedSimpArgs false
namespace Go.Proofs.YthamfbfeokmhgaaGreatDoor
open Go.ChangeShapes Go.WideShapes Go.ChangeAt Go.RowKit

theorem sizeBld : (Tryz.prog.info? 99).map (·.size) = some 2 := by kernel_rfl
theorem liesBld : liesAt Tryz.prog Tryz.prog.depth 99 (2 / Tryz.prog.cellsOf 99) 0 99 1 = true := by kernel_rfl
set_option maxRecDepth 100000 in
theorem bcopy_used (b : Nat) (w : World) (h0 : w.cell? ⟨b, 0, none⟩ = some (.pointer (some ⟨b, 0, none⟩))) :
    Calls Tryz.prog 69 #[.pointer (some ⟨b, 0, none⟩)] w fun e w' => e = .returned (.tuple #[]) ∧ w' = w := by
  obtain ⟨j, hj, _⟩ := Option.map_eq_some_iff.1 sizeBld
  go_enter Tryz.func69, Tryz.ntmps69
  go_wp2
  rw [Lib.run_neq_ptr_same w _ Tryz.underlying97 hj]
  go_wp2
  go_end0
  exact ⟨rfl, rfl⟩
set_option maxRecDepth 100000 in
theorem bcopy_fresh (b : Nat) (w : World) (h0 : w.cell? ⟨b, 0, none⟩ = some (.pointer none)) (hsh : w.shape? b = some (99, 2)) (hfz : w.frozen? ⟨b, 0, none⟩ = false) :
    Calls Tryz.prog 69 #[.pointer (some ⟨b, 0, none⟩)] w fun e w' => e = .returned (.tuple #[]) ∧ w' = w.setCell ⟨b, 0, none⟩ (.pointer (some ⟨b, 0, none⟩)) := by
  obtain ⟨j, hj, hjs⟩ := Option.map_eq_some_iff.1 sizeBld
  go_enter Tryz.func69, Tryz.ntmps69
  go_wp2
  rw [Lib.run_to_unsafe w ⟨b, 0, none⟩ Tryz.underlying97 Tryz.underlying82 hj (by rw [hjs]; decide) hsh (Nat.zero_lt_succ 1)]
  simp only [Result.andThen]
  rw [Oper.upon_value]
  go_wp2
  rw [run_callFunc_extern Tryz.func88 (by kernel_rfl) (by kernel_rfl) (by kernel_rfl) (e := Extern.AbiNoEscape.same) (by kernel_rfl)]
  rw [Lib.run_noEscape]
  simp only [Result.andThen]
  rw [Oper.upon_value]
  go_wp2
  rw [Lib.run_from_unsafe w ⟨b, 0, none⟩ Tryz.underlying82 Tryz.underlying97 hj hsh liesBld]
  simp only [Result.andThen]
  rw [Oper.upon_value]
  go_wp2
  go_end0
  exact ⟨rfl, rfl⟩
abbrev IsB (B b : Nat) (l : List UInt8) (w : World) : Prop := Lib.IsBuilderF 99 5 B b (Lib.byteCells l) w
theorem bld_new (w : World) {B : Nat} (hB : B ≤ w.heap.size) : IsB B w.heap.size [] (w.alloc (.cells #[.pointer none, .slice none 0 0] 99)) :=
  .inl ⟨hB, .slice none 0 0, by show (w.heap.push _)[w.heap.size]? = _; simp, World.ownsRowF_nil _ _ _ _, by intro h; cases h⟩
theorem bld_lt {B b : Nat} {l : List UInt8} {w : World} (h : IsB B b l w) : B ≤ b ∧ b < w.heap.size := by
  have key : ∀ {p : Value}, Lib.BuilderAtF 99 5 B b p (Lib.byteCells l) w → B ≤ b ∧ b < w.heap.size := fun h => by
    obtain ⟨hB, v, hb, _⟩ := h
    exact ⟨hB, (Array.getElem?_eq_some_iff.1 hb).1⟩
  exact h.elim key key
theorem bld_off {B b : Nat} {l : List UInt8} {w w' : World} {Z : Nat → Prop} (h : IsB B b l w) (ho : Off Z w w') (hz : ¬ Z b) (hu : ∀ i c fz, w.heap[i]? = some (.cells c 5 fz) → ¬ Z i) : IsB B b l w' := by
  have key : ∀ {p : Value}, Lib.BuilderAtF 99 5 B b p (Lib.byteCells l) w → Lib.BuilderAtF 99 5 B b p (Lib.byteCells l) w' := fun h => by
    obtain ⟨hB, v, hb, hown, hne⟩ := h
    refine ⟨hB, v, (ho.block b (Array.getElem?_eq_some_iff.1 hb).1 hz).trans hb, ?_, hne⟩
    obtain ⟨h1, ⟨h2, h3⟩ | ⟨g, cap, cur, fz, h2, h3, h4, h5⟩⟩ := hown
    · exact ⟨h1, .inl ⟨h2, h3⟩⟩
    · exact ⟨h1, .inr ⟨g, cap, cur, fz, h2, h3, (ho.block g (Array.getElem?_eq_some_iff.1 h4).1 (hu g cur fz h4)).trans h4, h5⟩⟩
  exact h.imp key key
theorem bld_below {B b : Nat} {l : List UInt8} {w w' : World} (h : IsB B b l w) (hb : Below w.heap.size w w') : IsB B b l w' := bld_off (Z := fun _ => False) h (Off.of_below hb) (fun h => h) (fun _ _ _ _ h => h)
def BldK (B b : Nat) (w w' : World) : Prop := Below B w w' ∧ Lib.OthersKept 5 (some b) w w'
set_option maxHeartbeats 2000000 in
set_option maxRecDepth 100000 in
theorem bwrite_any (B b : Nat) (l : List UInt8) (s : ByteArray) (w : World) (h : IsB B b l w) (hlen : l.length + s.size ≤ 140737488355328) (hBw : B ≤ w.heap.size) :
    Calls Tryz.prog 48 #[.pointer (some ⟨b, 0, none⟩), .string s] w fun e w' => e = .returned (.tuple #[.int .i64 s.size, .nilIface]) ∧ IsB B b (l ++ s.data.toList) w' ∧ BldK B b w w' := by
  obtain ⟨i0, hi, hz⟩ := Option.map_eq_some_iff.1 Tryz.infoByte
  simp only [Prod.mk.injEq] at hz
  obtain ⟨hz0, hz1, hz2⟩ := hz
  have hcopy : Calls Tryz.prog 69 #[.pointer (some ⟨b, 0, none⟩)] w fun e w' => e = .returned (.tuple #[]) ∧ (Lib.BuilderAtF 99 5 B b (.pointer (some ⟨b, 0, none⟩)) (Lib.byteCells l) w' ∧ Below B w w' ∧ Lib.OthersKept 5 (some b) w w') := by
    rcases h with h | h
    · refine (bcopy_fresh b w h.cell0 h.shape h.frozen0).mono ?_
      rintro e w' ⟨rfl, rfl⟩
      exact ⟨rfl, h.used _, (Below.refl B w).setCell (p := ⟨b, 0, none⟩) h.1 _, (Lib.OthersKept.refl _ _ w).setCell ⟨b, 0, none⟩ rfl _⟩
    · refine (bcopy_used b w h.cell0).mono ?_
      rintro e w' ⟨rfl, rfl⟩
      exact ⟨rfl, h, Below.refl B _, Lib.OthersKept.refl _ _ _⟩
  have HC := Lib.hid hcopy
  have hbl : (Lib.byteCells l).length = l.length := by simp [Lib.byteCells]
  have HBL := Lib.hid hbl
  clear hcopy h hbl
  go_enter Tryz.func48, Tryz.ntmps48
  go_wp2_with fail
  refine HC.out.mono ?_
  rintro e w1 ⟨rfl, h1, hb1, hk1⟩
  obtain ⟨hB, v, hbk, hown, hne⟩ := h1
  have c0 : w1.cell? ⟨b, 0, none⟩ = some (.pointer (some ⟨b, 0, none⟩)) := by rw [Lib.cell_of_heap hbk]; rfl
  have c1 : w1.cell? ⟨b, 1, none⟩ = some v := by rw [Lib.cell_of_heap hbk]; rfl
  go_wp2_with (at_builtin; refine Lib.wpList_append_own_stringF _ rfl _ _ 79 9 rfl B 5 i0 Tryz.underlying79 Tryz.underlying9 hi hz0 hz1 hz2 _ _ _ rfl hown s rfl ?c3 ?c4 ?c5 ?_)
  case c3 => rw [HBL.out]; unfold maxLen; omega
  case c4 => rw [HBL.out]; omega
  case c5 => have := hb1.size; omega
  intro v' w2 hown' hgrow _
  have hlt : b < w1.heap.size := (Array.getElem?_eq_some_iff.1 hbk).1
  have hb2 : w2.heap[b]? = some (.cells #[.pointer (some ⟨b, 0, none⟩), v] 99 (0, 0)) := by
    rw [hgrow.block b hlt (fun e => hne e.symm)]
    exact hbk
  have d0 : w2.cell? ⟨b, 0, none⟩ = some (.pointer (some ⟨b, 0, none⟩)) := by rw [Lib.cell_of_heap hb2]; rfl
  have d1 : w2.cell? ⟨b, 1, none⟩ = some v := by rw [Lib.cell_of_heap hb2]; rfl
  have f1 : w2.frozen? ⟨b, 1, none⟩ = false := Lib.frozen_of_heap hb2 1
  obtain ⟨ao, n', cap, rfl⟩ : ∃ ao n' cap, v' = .slice ao n' cap := by
    rcases hown'.2 with ⟨hv, _⟩ | ⟨g, cap, cur, fz, hv, _⟩
    · exact ⟨_, _, _, hv⟩
    · exact ⟨_, _, _, hv⟩
  go_wp2
  go_ret2
  have hcat : Lib.byteCells (l ++ s.data.toList) = Lib.byteCells l ++ Lib.strCells s := by simp [Lib.byteCells, Lib.strCells]
  refine ⟨rfl, ?_, ?_, (hk1.grown hgrow (Lib.ownsRowF_kind hown)).setCell ⟨b, 1, none⟩ rfl _⟩
  · rw [IsB, hcat]
    exact .inr (Lib.BuilderAtF.put (T := 99) (e := 5) hB hb2 (bs' := Lib.byteCells l ++ Lib.strCells s) (by simpa [Lib.strCells_length] using hown') (by decide))
  · exact (hb1.grown hgrow (by have := hb1.size; omega) (fun k hk => (hown.lt k hk).1)).setCell (p := ⟨b, 1, none⟩) hB _
def BldL (b : Nat) (G : Nat → Prop) (w : World) : Prop := ∀ p v, w.heap[b]? = some (.cells #[p, v] 99 (0, 0)) → ∀ g, v.ownBlock = some g → G g
theorem BldL.off {b : Nat} {G : Nat → Prop} {w w' : World} {Z : Nat → Prop} (h : BldL b G w) (ho : Off Z w w') (hb : b < w.heap.size) (hz : ¬ Z b) : BldL b G w' := fun p v hp => h p v ((ho.block b hb hz).symm.trans hp)
def ByB (B : Nat) (w : World) (i : Nat) : Prop := B ≤ i ∧ ∃ c fz, w.heap[i]? = some (.cells c 5 fz)
theorem BldL.of {B b : Nat} {l : List UInt8} {w : World} (h : IsB B b l w) : BldL b (ByB B w) w := fun p v hp g hg => by
  have key : ∀ {q : Value}, Lib.BuilderAtF 99 5 B b q (Lib.byteCells l) w → ByB B w g := fun h => by
    obtain ⟨hB, v', hb, hown, hne⟩ := h
    rw [hb] at hp
    injection hp with hp
    injection hp with hp
    have hv : v' = v := by
      have := congrArg (fun a : Array Value => a[1]?) hp
      simpa using this
    subst hv
    refine ⟨(hown.lt g hg).1, ?_⟩
    obtain ⟨h1, ⟨h2, h3⟩ | ⟨g', cap, cur, fz, h2, h3, h4, h5⟩⟩ := hown
    · rw [h2] at hg; cases hg
    · rw [h2] at hg
      have : g' = g := Option.some.inj hg
      subst this
      exact ⟨cur, fz, h4⟩
  exact h.elim key key
set_option maxHeartbeats 2000000 in
set_option maxRecDepth 100000 in
theorem bstring_any (B b : Nat) (G : Nat → Prop) (l : List UInt8) (w : World) (h : IsB B b l w) (hN : BldL b G w) (h0 : l ≠ []) :
    Calls Tryz.prog 53 #[.pointer (some ⟨b, 0, none⟩)] w fun e w' => e = .returned (.string ⟨l.toArray⟩) ∧ IsB B b l w' ∧ BldL b G w' ∧ Off G w w' := by
  obtain ⟨p, hp, hAt⟩ : ∃ p, (p = .pointer none ∨ p = .pointer (some ⟨b, 0, none⟩)) ∧ Lib.BuilderAtF 99 5 B b p (Lib.byteCells l) w := by
    rcases h with h | h
    · exact ⟨_, .inl rfl, h⟩
    · exact ⟨_, .inr rfl, h⟩
  obtain ⟨hB, v, hbk, hown, hne⟩ := hAt
  have hl0 : l.length ≠ 0 := by simpa using h0
  rw [Lib.byteCells_length] at hown
  obtain ⟨g, cap, cur, fz, rfl, hbg, hg, hfz, hnc, hcm, hcs, htake⟩ : ∃ g cap cur fz, v = .slice (some ⟨g, 0, none⟩) l.length cap ∧ B ≤ g ∧ w.heap[g]? = some (.cells cur 5 fz) ∧ fz.2 ≤ l.length * 1 ∧ l.length ≤ cap ∧ cap ≤ maxLen ∧ cur.size = cap * 1 ∧ cur.toList.take (l.length * 1) = Lib.byteCells l := by
    rcases hown.2 with ⟨_, hz⟩ | ⟨g, cap, cur, fz, hv, r⟩
    · exact absurd hz hl0
    · exact ⟨g, cap, cur, fz, hv, r⟩
  have hgN := hN _ _ hbk g rfl
  have hbg2 : b ≠ g := fun e => hne (by rw [e]; rfl)
  have c1 : w.drew.cell? ⟨b, 1, none⟩ = some (.slice (some ⟨g, 0, none⟩) l.length cap) := by
    have : w.drew.heap[b]? = some (.cells #[p, .slice (some ⟨g, 0, none⟩) l.length cap] 99 (0, 0)) := hbk
    rw [Lib.cell_of_heap this]; rfl
  have hSD : (Builtin.unsafeSliceData_ #[79] 153 #[.slice (some ⟨g, 0, none⟩) l.length cap]).run Tryz.prog w.drew = .ok (.pointer (some ⟨g, 0, none⟩)) w.drew :=
    Lib.run_unsafeSliceData_row _ _ _ _ _ _ (by omega)
  have hUS : (Builtin.unsafeString_ #[153, 3] 9 #[.pointer (some ⟨g, 0, none⟩), .int .i64 l.length]).run Tryz.prog w.drew = .ok (.string ⟨l.toArray⟩) (w.drew.freeze ⟨g, 0, none⟩ l.length) := by
    refine Lib.run_unsafeString_row w.drew 153 3 9 5 Tryz.underlying153 (by kernel_rfl) g cur.size (by have hg' : w.drew.heap[g]? = some (.cells cur 5 fz) := hg; simp [World.shape?, hg']) l h0 (by omega) (by unfold maxLen at hcm; omega) ?_
    intro j x hx
    have := hown.cells (g := g) rfl j (.int .u8 x.toNat) (by simp [Lib.byteCells, hx])
    exact this
  have hkeep : IsB B b l (w.drew.freeze ⟨g, 0, none⟩ l.length) := by
    have hA : Lib.BuilderAtF 99 5 B b p (Lib.byteCells l) w.drew := ⟨hB, _, hbk, by rw [Lib.byteCells_length]; exact hown, hne⟩
    have hF := hA.froze (g := g) (cap := cap) (by rw [Lib.byteCells_length]; exact c1)
    rw [Lib.byteCells_length] at hF
    rcases hp with rfl | rfl
    · exact .inl hF
    · exact .inr hF
  have hoff : Off G w (w.drew.freeze ⟨g, 0, none⟩ l.length) := by
    have hb := Lib.below_freeze (Below.drew (Below.refl B w)) (p := ⟨g, 0, none⟩) hbg l.length
    refine ⟨hb.os, hb.tape, hb.output, hb.size, fun i hi hz => ?_⟩
    have hne : g ≠ i := fun e => hz (e ▸ hgN)
    unfold World.freeze
    rw [if_neg hl0]
    simp only [Array.getElem?_modify]
    rw [if_neg hne]; rfl
  have hbl : BldL b G (w.drew.freeze ⟨g, 0, none⟩ l.length) := fun p' v' hp' => hN p' v' (by
    rw [← hp']
    unfold World.freeze
    rw [if_neg hl0]
    simp only [Array.getElem?_modify]
    rw [if_neg (fun e => hbg2 e.symm)]; rfl)
  have mixed : Tryz.prog.follows Departure.mixedOrders = true := by kernel_rfl
  go_enter Tryz.func53, Tryz.ntmps53
  go_wp2
  go_region_o
  all_goals (go_wp2; go_ret; exact ⟨rfl, hkeep, hbl, hoff⟩)
end Go.Proofs.YthamfbfeokmhgaaGreatDoor
