/- Between an entry and its store: what a look-up finds there. Keys that are pairs: what a key is that is one; a range over a map of pairs. Of package slices, as9 package graph calls it with pairs: Clone, Compare, SortFunc, Compact of none. -/
import Derived.Lib.SliceRun
import Derived.Test.YtojnagonhihknaaGreatDoorShelfB
import Derived.Test.YtojnagonhihknaaGreatDoorU20
import Derived.Test.YtojnagonhihknaaGreatDoorU31
import Derived.Test.YtojnagonhihknaaGreatDoorU4
set_option linter.unusedVariables false
set_option linter.unusedSimpArgs false
namespace Go.Proofs.YtojnagonhihknaaGreatDoor
open Go.ChangeShapes Go.WideShapes Go.ChangeAt Go.RowKit Go.WideMaps Go.Maps

section
variable {H : Type} {P : Program} {w : World} {t k e : TypeId} {R : Value → Option (DataW H × List MemPlace)} {b : Nat} {es : Array MapEntry} {clock : Nat}
theorem entry_says (K : KeyLaw P k) (ht : P.underlying t = some (.map k e)) {z : Value} (hz : ∀ u : World, (zeroValue e).run P u = .ok z u) (hb : w.heap[b]? = some (.map es clock)) (F : WideElems.Fit P k R es clock)
    {key : Value} {kl : Lit} (hkey : keyOf P k key = some kl) {v0 s : Value} {W1 : World} (hr : (Instr.mapEntry t (.map (some b)) key).run P w = .ok (.tuple #[v0, s]) W1) :
    (Instr.mapUpdate t (.map (some b)) key v0).run P w = .ok () W1 ∧ (Instr.lookup t (.map (some b)) key false).run P w = .ok v0 w := by
  rcases K.find w hkey es.toList F.keys with ⟨h1, h2⟩ | ⟨j, e0, h1, h2, h3⟩
  · simp [Instr.mapEntry, run_underlying ht, MapKept.run_getObj_map hb, K.check w false hkey, h1, hz, MapKept.run_setObj_map _ hb, Result.andThen] at hr
    obtain ⟨⟨rfl, _⟩, rfl⟩ := hr
    constructor
    · simp [Instr.mapUpdate, run_underlying ht, MapKept.run_getObj_map hb, K.check w false hkey, h1, MapKept.run_setObj_map _ hb, Result.andThen]
    · simp [Instr.lookup, run_underlying ht, MapKept.run_getObj_map hb, K.check w _ hkey, h1, hz, Result.andThen]
  · have hj : es[j]? = some e0 := by simpa using h2
    have hsame : es.modify j (fun e => { e with key := key }) = es := by
      apply Array.ext'
      rw [Array.toList_modify, ChangeMaps.modify_eq_set _ _ _ _ h2]
      have : ({ e0 with key := key } : MapEntry) = e0 := by rw [← h3]
      rw [this]
      exact WideElems.set_self _ _ _ h2
    have hsame2 : es.modify j (fun e => { e with key := key, val := e0.val }) = es := by
      apply Array.ext'
      rw [Array.toList_modify, ChangeMaps.modify_eq_set _ _ _ _ h2]
      have : ({ e0 with key := key, val := e0.val } : MapEntry) = e0 := by rw [← h3]
      rw [this]
      exact WideElems.set_self _ _ _ h2
    simp [Instr.mapEntry, run_underlying ht, MapKept.run_getObj_map hb, K.check w false hkey, h1, hj, h3, K.stays w hkey, hsame, MapKept.run_setObj_map _ hb, Result.andThen] at hr
    obtain ⟨⟨rfl, _⟩, rfl⟩ := hr
    constructor
    · simp [Instr.mapUpdate, run_underlying ht, MapKept.run_getObj_map hb, K.check w false hkey, h1, hj, h3, K.stays w hkey, hsame2, MapKept.run_setObj_map _ hb, Result.andThen]
    · simp [Instr.lookup, run_underlying ht, MapKept.run_getObj_map hb, K.check w _ hkey, h1, Result.andThen]
end
set_option maxRecDepth 100000 in
theorem MJ.mid {W : World} {b c : Nat} {ks : List (Int × Int)} {wt : Int × Int → Int} (h : MJ W b c ks wt) {p : Int × Int} (hp : okP p) (hc : c ≤ 1000000000) (hx : (Lit.int .i64 (wt p)).wf = true) {v0 s : Value} {W1 : World} (hr : (Instr.mapEntry 72 (.map (some b)) (prV p)).run Tryz.prog W = .ok (.tuple #[v0, s]) W1) :
    (Instr.lookup 72 (.map (some b)) (prV p) false).run Tryz.prog W1 = .ok (.int .i64 (wt p)) W1 := by
  have hl := h.look hp
  obtain ⟨D, h1, h2, h3⟩ := h
  have h1' := h1
  have hD := World.ownsMap.isMap h1
  obtain ⟨es, clock, hb, F, _, _⟩ := h1
  obtain ⟨hu, hk⟩ := entry_says pairLaw Tryz.underlying72 (fun u => zeroI9 u) hb F (kP_key hp) hr
  rw [hl] at hk
  obtain rfl := ((Result.ok.injEq _ _ _ _).mp hk).1
  clear hk
  obtain ⟨W', hrun, ho, _⟩ := h1'.update pairKeyed Tryz.underlying72 (by unfold maxLen; omega) (kP_key hp) (plainElem_int (P := Tryz.prog) Tryz.underlying3 hx)
  rw [hu] at hrun
  obtain rfl := ((Result.ok.injEq _ _ _ _).mp hrun).2
  obtain ⟨v, hrun2, hat, _⟩ := ho.lookup_int pairKeyed Tryz.underlying72 Tryz.underlying3 (zeroI9 W1) (kP_key hp)
  rw [atKey_put_same hD (by exact trivial)] at hat
  rw [hrun2, lit_i hat]
end Go.Proofs.YtojnagonhihknaaGreatDoor
set_option linter.unusedVariables false
set_option linter.unusedSimpArgs false
namespace Go.Proofs.YtojnagonhihknaaGreatDoor
open Go.ChangeShapes Go.WideShapes Go.ChangeAt Go.RowKit Go.WideMaps Go.Maps

theorem int_cell {x : Value} {m : Nat} {t : TypeId} {P : Program} {q : IntKind} (he : P.underlying t = some (.int q)) {ls : List Lit} (h : P.keyLits (m + 1) t [x] = some ls) : ∃ a, x = .int q a ∧ (Lit.int q a).wf = true ∧ ls = [.int q a] := by
  unfold Program.keyLits at h
  simp only [he] at h
  cases x with
  | int q' a =>
    simp only at h
    split at h
    · rename_i hc
      obtain ⟨rfl, hw⟩ := hc
      injection h with h
      exact ⟨a, rfl, hw, h.symm⟩
    · cases h
  | _ => simp at h
theorem pair_inv {P : Program} {k e : TypeId} {q : IntKind} (A : ArrKey P k e 2) (he : P.underlying e = some (.int q)) (hsz : ∃ m, P.types.size = m + 1) {v : Value} {kl : Lit} (h : keyOf P k v = some kl) : ∃ a b, v = .agg #[.int q a, .int q b] ∧ (Lit.int q a).wf = true ∧ (Lit.int q b).wf = true ∧ kl = .string (keyBytes [.int q a, .int q b]) := by
  obtain ⟨m, hm⟩ := hsz
  unfold keyOf at h
  simp only [A.hu] at h
  split at h
  · rename_i hc
    rw [Bool.and_eq_true] at hc
    obtain ⟨_, hf⟩ := hc
    cases v with
    | agg cs =>
      simp only [Value.formed, A.hu, A.size, beq_iff_eq] at hf
      obtain ⟨l⟩ := cs
      match l, hf with
      | [c0, c1], _ =>
        rw [hm] at h
        unfold Program.keyLits at h
        simp only [A.hu, Value.cells] at h
        rw [if_pos (by rw [A.size]; rfl), show List.range 2 = [0, 1] from rfl, List.mapM_cons, List.mapM_cons, List.mapM_nil] at h
        simp only [A.one, Nat.zero_mul, Nat.one_mul, List.drop_zero, List.drop_succ_cons, List.take_succ_cons, List.take_zero] at h
        cases h0 : P.keyLits (m + 1) e [c0] with
        | none => rw [h0] at h; simp at h
        | some l0 =>
          cases h1 : P.keyLits (m + 1) e [c1] with
          | none => rw [h0, h1] at h; simp at h
          | some l1 =>
            rw [h0, h1] at h
            obtain ⟨a, rfl, wa, rfl⟩ := int_cell he h0
            obtain ⟨b, rfl, wb, rfl⟩ := int_cell he h1
            simp at h
            exact ⟨a, b, rfl, wa, wb, h.symm⟩
    | _ => simp [Value.formed, A.hu] at hf
  · cases h
theorem wfI64 {a : Int} (h : (Lit.int .i64 a).wf = true) : -9223372036854775808 ≤ a ∧ a ≤ 9223372036854775807 := by
  have h2 : (decide (IntKind.i64.min ≤ a) && decide (a ≤ IntKind.i64.max)) = true := h
  rw [Bool.and_eq_true, decide_eq_true_iff, decide_eq_true_iff] at h2
  exact h2
set_option maxRecDepth 100000 in
theorem kP_inv {v : Value} {kl : Lit} (h : keyOf Tryz.prog 54 v = some kl) : ∃ p, v = prV p ∧ kl = kP p ∧ okP p := by
  obtain ⟨a, b, rfl, wa, wb, rfl⟩ := pair_inv pairArr Tryz.underlying3 ⟨Tryz.prog.types.size - 1, by kernel_rfl⟩ h
  exact ⟨(a, b), rfl, rfl, wfI64 wa, wfI64 wb⟩
theorem rangesP_below {W W' : World} {R : Value → Option (DU × List MemPlace)} {b r n : Nat} {D : DU} {left : Lit → Bool} {cnt : Nat} (h : W.ranges Tryz.prog 54 R b r n D left cnt) (hb : Below W.heap.size W W') : W'.ranges Tryz.prog 54 R b r n D left cnt := by
  have h1 := h.owns.lt
  have h2 := h.lt
  obtain ⟨es, clock, since, seen, c0, e1, F, hs, hD, e2, hrest⟩ := h
  exact ⟨es, clock, since, seen, c0, (hb.block b h1).trans e1, F, hs, hD, (hb.block r h2).trans e2, hrest⟩
end Go.Proofs.YtojnagonhihknaaGreatDoor
set_option linter.unusedVariables false
set_option linter.unusedSimpArgs false
namespace Go.Proofs.YtojnagonhihknaaGreatDoor
open Go.ChangeShapes Go.WideShapes Go.ChangeAt Go.RowKit Go.Shelf Go.Sort Go.Lib

theorem evs_one {l : Ed} : ∀ u ∈ evs l, u.oneCell' = true := by
  intro u hu
  obtain ⟨x, _, hx⟩ := List.mem_flatMap.1 hu
  simp only [List.mem_cons, List.not_mem_nil, or_false] at hx
  rcases hx with rfl | rfl <;> rfl
theorem evs_inv {l : Ed} {t : Nat} {u : Value} (h : (evs l)[t]? = some u) : ∃ e, l[t / 2]? = some e ∧ ((t % 2 = 0 ∧ u = .int .i64 e.1) ∨ (t % 2 = 1 ∧ u = .int .i64 e.2)) := by
  have hlt := (List.getElem?_eq_some_iff.1 h).1
  rw [evs_len] at hlt
  have hj : t / 2 < l.length := by omega
  refine ⟨l[t / 2], List.getElem?_eq_getElem hj, ?_⟩
  obtain ⟨h0, h1⟩ := evs_at (List.getElem?_eq_getElem hj)
  rcases Nat.mod_two_eq_zero_or_one t with e | e
  · rw [show t / 2 * 2 = t by omega, h] at h0
    exact .inl ⟨e, Option.some.inj h0⟩
  · rw [show t / 2 * 2 + 1 = t by omega, h] at h1
    exact .inr ⟨e, Option.some.inj h1⟩
theorem RE.src {w : World} {b o c : Nat} {es : Ed} (h : ∀ (j : Nat) e, es[j]? = some e → w.cell? ⟨b, o + j * 2, none⟩ = some (.int .i64 e.1) ∧ w.cell? ⟨b, o + j * 2 + 1, none⟩ = some (.int .i64 e.2)) : Src Tryz.prog 2 28 (.slice (some ⟨b, o, none⟩) es.length c) es.length (evs es) w :=
  Src.ofSlice _ Tryz.underlying28 ⟨b, o, none⟩ es.length c (evs es) (evs_len es) (fun t u hu => by
    obtain ⟨e, he, hx⟩ := evs_inv hu
    obtain ⟨c0, c1⟩ := h _ e he
    rw [Addr.add_lit]
    rcases hx with ⟨hm, rfl⟩ | ⟨hm, rfl⟩
    · rw [show o + t = o + t / 2 * 2 by omega]; exact c0
    · rw [show o + t = o + t / 2 * 2 + 1 by omega]; exact c1) evs_one
set_option maxHeartbeats 1000000 in
set_option maxRecDepth 100000 in
theorem gclone_any (l : Ed) (v : Value) (w : World) (hr : RE w v l) (hl : l.length ≤ 1000000) :
    Calls Tryz.prog 59 #[v] w fun e w' => ∃ v', e = .returned v' ∧ Row 2 w.heap.size w' v' l.length (evs l) ∧ Below w.heap.size w w' := by
  have q22 : ∀ (w : World) (a : Option Addr) (n c n' c' : Nat), (binOp .eql 28 (.slice a n c) (.slice none n' c')).run Tryz.prog w = .ok (.bool a.isNone) w := fun w a n c n' c' => Lib.run_eql_slice_nil w _ _ a n c n' c' Tryz.underlying28
  obtain ⟨L, hL⟩ : ∃ L, L = l.length := ⟨_, rfl⟩
  have HB0 := Lib.hid ((Below.refl w.heap.size w).alloc (Nat.le_refl _) (.cells #[] 54))
  have hr0 : Row 2 w.heap.size (w.alloc (.cells #[] 54)) (.slice (some ⟨w.heap.size, 0, none⟩) 0 0) 0 [] := row_new (Nat.le_refl _) rfl (Nat.le_refl _) (by unfold maxLen; omega) (by simp) (.inl rfl) (fun j u hu => by simp at hu)
  have HR0 := Lib.hid hr0
  have key : ∀ (a : Addr) c, v = .slice (some a) L c → Src Tryz.prog 2 28 v L (evs l) (w.alloc (.cells #[] 54)) → Calls Tryz.prog 59 #[v] w fun e w' => ∃ v', e = .returned v' ∧ Row 2 w.heap.size w' v' L (evs l) ∧ Below w.heap.size w w' := by
    intro a c hv hs
    subst hv
    have HSRC := Lib.hid hs
    have hL9 : L ≤ 1000000 := by omega
    clear hs hr hr0 hL hl
    go_enter Tryz.func59, Tryz.ntmps59
    go_wp2_with (at_builtin; refine wpList_append_row rfl (.tmp 5) (.tmp 6) 28 28 rfl 2 54 (.agg #[.int .i64 0, .int .i64 0]) 16 Tryz.underlying28 infoP2 rfl w.heap.size (.slice (some ⟨w.heap.size, 0, none⟩) 0 0) 0 [] (by simp [Act.eval]) HR0.out (.slice (some a) L c) (by simp [Act.eval]) L (evs l) HSRC.out HB0.out.size (by omega) (by decide) ?_; intro v6 w6 hr6 ho6 hw6; rw [Nat.zero_add, List.nil_append] at hr6; obtain ⟨a6, c6, hv6⟩ := hr6.form; subst hv6; have HR6 := Lib.hid hr6; have HO6 := Lib.hid ho6; clear hr6 ho6 hw6)
    go_ret
    have hz : ∀ b, (Value.slice (some ⟨w.heap.size, 0, none⟩) 0 0).ownBlock = some b → w.heap.size ≤ b := fun b hb => by
      have : w.heap.size = b := by simpa [Value.ownBlock] using hb
      omega
    exact ⟨_, rfl, HR6.out, HB0.out.trans (HO6.out.below (B := w.heap.size) hz HB0.out.size)⟩
  rw [← hL]
  rcases hr with ⟨rfl, a, c, rfl⟩ | ⟨hn, b, o, c, rfl, hc, hm, hb, hx⟩
  · have hL0 : L = 0 := hL
    clear hL
    subst hL0
    cases a with
    | none =>
      clear key HR0 HB0 hr0
      go_enter Tryz.func59, Tryz.ntmps59
      go_wp2_with fail
      go_ret
      exact ⟨_, rfl, Row.nil _ _ _, Below.refl _ _⟩
    | some a =>
      exact key a c rfl (Src.ofSlice _ Tryz.underlying28 a 0 c _ rfl (fun j u hu => by simp [evs] at hu) evs_one)
  · refine key ⟨b, o, none⟩ c (by rw [hL]) ?_
    rw [hL]
    exact RE.src fun j e he => ⟨(HB0.out.cell (p := ⟨b, o + j * 2, none⟩) hb).trans (hx j e he).1, (HB0.out.cell (p := ⟨b, o + j * 2 + 1, none⟩) hb).trans (hx j e he).2⟩
set_option maxHeartbeats 2000000 in
set_option maxRecDepth 100000 in
theorem gscmp_any (x y : Int × Int) (b1 b2 c1 c2 : Nat) (w : World) (x0 : w.cell? ⟨b1, 0, none⟩ = some (.int .i64 x.1)) (x1 : w.cell? ⟨b1, 1, none⟩ = some (.int .i64 x.2)) (y0 : w.cell? ⟨b2, 0, none⟩ = some (.int .i64 y.1)) (y1 : w.cell? ⟨b2, 1, none⟩ = some (.int .i64 y.2)) :
    Calls Tryz.prog 62 #[.slice (some ⟨b1, 0, none⟩) 2 c1, .slice (some ⟨b2, 0, none⟩) 2 c2] w fun e w' => e = .returned (.int .i64 (cmpP x y)) ∧ w' = w := by
  obtain ⟨x1', x2'⟩ := x
  obtain ⟨y1', y2'⟩ := y
  simp only at x0 x1 y0 y1
  have H1 := Lib.hid (compare_any x1' y1' w)
  have H2 := Lib.hid (compare_any x2' y2' w)
  unfold cmpP
  simp only
  obtain ⟨a, ha⟩ : ∃ a, a = cmpI x1' y1' := ⟨_, rfl⟩
  obtain ⟨b, hb⟩ : ∃ b, b = cmpI x2' y2' := ⟨_, rfl⟩
  rw [← ha] at H1 ⊢
  rw [← hb] at H2 ⊢
  clear ha hb
  go_enter Tryz.func62, Tryz.ntmps62
  go_wp2_with fail
  go_loopw [11, 5, 6, 7, 8] (fun iv _ _ _ _ wr => ∃ k : Nat, k ≤ 2 ∧ iv = .int .i64 (k : Nat) ∧ wr = w ∧ (1 ≤ k → a = 0) ∧ (2 ≤ k → b = 0)) (fun iv _ _ _ _ _ => 2 - (intOf iv).toNat)
  case atStart => exact ⟨0, by omega, rfl, rfl, by omega, by omega⟩
  case round =>
    obtain ⟨k, hk, rfl, rfl, hk1, hk2⟩ := hrel
    match k, hk, hk1, hk2 with
    | 0, _, _, _ =>
      go_wp2_with fail
      refine H1.out.mono ?_
      rintro e w2 ⟨rfl, rfl⟩
      by_cases h0 : a = 0
      · subst h0
        go_wp2_with fail
        exact ⟨⟨1, by omega, by first | rfl | trivial | go_num, by first | rfl | trivial, by first | trivial | (intros; first | rfl | trivial | omega), by first | trivial | (intros; first | rfl | trivial | omega)⟩, by simp [intOf]⟩
      · have h0b : (a != 0) = true := by simpa using h0
        go_wp2_with fail
        go_ret
        exact ⟨by first | rfl | simp [h0], rfl⟩
    | 1, _, hk1, _ =>
      obtain rfl := hk1 (by omega)
      go_wp2_with fail
      refine H2.out.mono ?_
      rintro e w2 ⟨rfl, rfl⟩
      by_cases h0 : b = 0
      · subst h0
        go_wp2_with fail
        exact ⟨⟨2, by omega, by first | rfl | trivial | go_num, by first | rfl | trivial, by first | trivial | (intros; first | rfl | trivial | omega), by first | trivial | (intros; first | rfl | trivial | omega)⟩, by simp [intOf]⟩
      · have h0b : (b != 0) = true := by simpa using h0
        go_wp2_with fail
        go_ret
        exact ⟨by first | rfl | simp, rfl⟩
    | 2, _, hk1, hk2 =>
      obtain rfl := hk1 (by omega)
      obtain rfl := hk2 (by omega)
      go_wp2_with fail
      go_ret
      exact ⟨by first | rfl | simp, rfl⟩
set_option maxHeartbeats 2000000 in
set_option maxRecDepth 100000 in
theorem gcmpE_any (x y : Int × Int) (W : World) : Calls Tryz.prog 61 #[.agg #[.int .i64 x.1, .int .i64 x.2], .agg #[.int .i64 y.1, .int .i64 y.2]] W fun e w' => e = .returned (.int .i64 (cmpP x y)) ∧ ∃ q os', w' = Go.Sort.grow (W.drewN q) os' := by
  obtain ⟨x1, x2⟩ := x
  obtain ⟨y1, y2⟩ := y
  obtain ⟨W2, hW2⟩ : ∃ W2, W2 = (W.alloc (.cells #[.int .i64 x1, .int .i64 x2] 54)).alloc (.cells #[.int .i64 y1, .int .i64 y2] 54) := ⟨_, rfl⟩
  obtain ⟨s, hs⟩ : ∃ s, s = W.heap.size := ⟨_, rfl⟩
  obtain ⟨q1, q2, qb, qs⟩ := boxA2 (Below.refl _ ((W.alloc (.cells #[.int .i64 x1, .int .i64 x2] 54)).alloc (.cells #[.int .i64 y1, .int .i64 y2] 54)))
  rw [← hW2, ← hs] at q1 q2
  obtain ⟨c, hc⟩ : ∃ c, c = cmpP (x1, x2) (y1, y2) := ⟨_, rfl⟩
  have hcmp : ∀ q, Calls Tryz.prog 62 #[.slice (some ⟨s, 0, none⟩) 2 2, .slice (some ⟨s + 1, 0, none⟩) 2 2] (W2.drewN q) fun e w' => e = .returned (.int .i64 c) ∧ w' = W2.drewN q := fun q => by
    rw [hc]
    exact gscmp_any (x1, x2) (y1, y2) s (s + 1) 2 2 (W2.drewN q) (q1 0) (q1 1) (q2 0) (q2 1)
  have HC := Lib.hid (hcmp 1)
  have HW2 := Lib.hid hW2
  have HS := Lib.hid hs
  rw [← hc]
  clear hcmp hc q1 q2 qb qs hW2 hs
  go_enter Tryz.func61, Tryz.ntmps61
  go_wp2_with fail
  rw [← HS.out, ← HW2.out]
  go_region_law (first
    | (go_simp; with_reducible refine (HC.out).mono ?_; rintro e w7 ⟨rfl, rfl⟩)
    | (go_simp; refine (HC.out).mono ?_; rintro e w7 ⟨rfl, rfl⟩))
  all_goals
    go_wp2_with fail
    go_ret
    refine ⟨rfl, 1, #[.cells #[.int .i64 x1, .int .i64 x2] 54] ++ #[.cells #[.int .i64 y1, .int .i64 y2] 54], ?_⟩
    rw [HW2.out, Go.Sort.alloc_eq_grow, Go.Sort.alloc_eq_grow, Go.Sort.grow_grow]
    first | rfl | (rw [Array.append_assoc]; rfl) | (rw [← Array.append_assoc]; rfl)
theorem gsortP_any {S n b cap : Nat} (L : Ed) (w : World) (h : Row 2 S w (.slice (some ⟨b, 0, none⟩) n cap) n (evs L)) (hl : L.length = n) (hn : n ≤ 1000000) :
    Calls Tryz.prog 60 #[.slice (some ⟨b, 0, none⟩) n cap, .func (.func 61) #[] #[]] w fun e w' => e = .returned (.tuple #[]) ∧ ∃ M : Ed, M.Perm L ∧ M.Pairwise (fun x y => ¬ ltP y x) ∧ PA w' b M ∧ Off (fun i => i = b) w w' := by
  obtain ⟨h1, h2⟩ := h.lt b rfl
  have hP := PA.ofRow h
  have eg : ∀ args w, (callFunc 61 args).run Tryz.prog w = .ok (.enter 61 args) w := enters_of Tryz.func61 (by kernel_rfl) rfl
  have hc := Tryz.slices_SortFunc_total 2 (fun w => Tryz.isAgg54 w) (fun w => Tryz.sizeOf54 w) encP (fun _ => rfl) (fun x v hv => by simp [encP] at hv; rcases hv with rfl | rfl <;> rfl) cmpP swoP 61 #[] b 0 cap L.toArray w eg
    (fun _ _ _ _ x y => gcmpE_any x y _) hP.holds h2 (by simp; omega) totP
  have hs : L.toArray.size = n := by simpa using hl
  rw [hs] at hc
  refine hc.mono ?_
  rintro e w' ⟨rfl, nn, os, rfl⟩
  have hp : (L.mergeSort fun x y => !(ltOf cmpP) y x).Perm L := List.mergeSort_perm _ _
  refine ⟨rfl, L.mergeSort fun x y => !(ltOf cmpP) y x, hp, sortP_pairwise L, PA.ofHolds ?_, offP_sorted _⟩
  have := holdsK_sortWorldK_c (enc := encP) (k := 2) (w := w) (blk := b) (off := 0) L.toArray (L.mergeSort fun x y => !(ltOf cmpP) y x).toArray nn os hP.holds h2 (by simp [hp.length_eq])
  exact this
theorem gsortP_none (p : Option Addr) (cap : Nat) (w : World) : Calls Tryz.prog 60 #[.slice p 0 cap, .func (.func 61) #[] #[]] w fun e w' => e = .returned (.tuple #[]) ∧ w' = w :=
  Tryz.slices_SortFunc_none (α := Int × Int) p cap _ w
set_option maxRecDepth 100000 in
theorem gcompact_none (p : Option Addr) (cap : Nat) (w : World) : Calls Tryz.prog 63 #[.slice p 0 cap] w fun e w' => e = .returned (.slice p 0 cap) ∧ w' = w := by
  go_enter Tryz.func63, Tryz.ntmps63
  go_wp2_with fail
  go_ret
  exact ⟨rfl, rfl⟩
end Go.Proofs.YtojnagonhihknaaGreatDoor
