/- A drawing region whose last operation waits for all others: what S says need not hold behind that one, so that S may name the very cell that it stores into. Takes in a drawing region, with all that is closed in them paid by default. slices.Compact of pairs, walked. -/
import Derived.Deep.RegionHeld3
import Derived.Laws.StructEq
import Derived.Test.YtojnagonhihknaaGreatDoorU19
set_option linter.unusedVariables false
namespace Go.Proofs.YtojnagonhihknaaGreatDoor
open Go

section
variable {P : Program} {ops : Array Oper} {Q : Exit → Act → World → Prop} {md : Region.Mode} {S : World → Prop} {L : Nat}

def wpTil (P : Program) (md : Region.Mode) (ops : Array Oper) (Q : Exit → Act → World → Prop) (S : World → Prop) (L : Nat) : Nat → Array Bool → Act → World → Prop
  | 0, listed, a, w => Region.ready md ops listed = [] ∧ Q .normal a w
  | f + 1, listed, a, w =>
    (Region.ready md ops listed = [] → Q .normal a w) ∧
    ∀ i ∈ Region.ready md ops listed, wpOp P ops Q i (fun a' w' => (i ≠ L → S w') ∧ wpTil P md ops Q S L f (listed.setIfInBounds i true) a' w') a w

theorem any_of_til : ∀ (f : Nat) (listed : Array Bool) (a : Act) (w : World), wpTil P md ops Q S L f listed a w → wpAny P md ops Q f listed a w
  | 0, _, _, _, h => h
  | f + 1, _, _, _, h => ⟨h.1, fun i hi => wpOp_mono (fun a' w' k => any_of_til f _ a' w' k.2) (h.2 i hi)⟩

def waitsFor (md : Region.Mode) (ops : Array Oper) (L i : Nat) : Bool := match ops[L]? with | some o => o.after.any (fun e => Region.binds md e && e.on == i) | none => false

theorem til_first {i : Nat} {oi : Oper} {v : Value} (hi : ops[i]? = some oi) (hsel : ∀ (j : Nat) (o : Oper) cs b, ops[j]? = some o → o.op ≠ .select cs b)
    (hQ : ∀ c a w, Q (.panic c) (a.put oi.dst v) w → Q (.panic c) a w) (hL : waitsFor md ops L i = true) :
    ∀ (f : Nat) (listed : Array Bool) (a : Act) (w : World),
      (∀ j oj, ops[j]? = some oj → j ≠ i → listed.getD j true = false → (∀ e ∈ oj.after, Region.binds md e = true → e.on ≠ i) → oi.apart ops oj = true) →
      i ∈ Region.ready md ops listed → YieldsIf P ops S oi v a → S w →
      wpTil P md ops Q S L f (listed.setIfInBounds i true) (a.put oi.dst v) w → wpTil P md ops Q S L (f + 1) listed a w := by
  intro f
  induction f with
  | zero =>
    intro listed a w _ hr hy hS H
    refine ⟨fun h => (by rw [h] at hr; cases hr), fun j hj => ?_⟩
    by_cases hji : j = i
    · subst hji; exact hy.wpOp hi hS ⟨fun _ => hS, H⟩
    · have k := ready_mono hj hji
      rw [H.1] at k
      cases k
  | succ f ih =>
    intro listed a w hfree hr hy hS H
    refine ⟨fun h => (by rw [h] at hr; cases hr), fun j hj => ?_⟩
    by_cases hji : j = i
    · subst hji; exact hy.wpOp hi hS ⟨fun _ => hS, H⟩
    · have h1 := H.2 j (ready_mono hj hji)
      obtain ⟨hjun, oj, hoj, hall⟩ := mem_ready.1 hj
      have hnot : ∀ e ∈ oj.after, Region.binds md e = true → e.on ≠ i := fun e he hb heq => by
        have g1 := hall e he hb
        have g0 := (mem_ready.1 hr).1
        rw [heq] at g1
        rcases Nat.lt_or_ge i listed.size with k | k
        · simp [k] at g0 g1; rw [g0] at g1; cases g1
        · simp [Array.getElem?_eq_none k] at g1
      have hjL : j ≠ L := fun e => by
        subst e
        unfold waitsFor at hL
        rw [hoj] at hL
        obtain ⟨x, hx, hb⟩ := Array.any_eq_true'.1 hL
        simp only [Bool.and_eq_true, beq_iff_eq] at hb
        exact hnot x hx hb.1 hb.2
      have h2 := wpOp_putIf hoj (hfree j oj hoj hji hjun hnot) (fun cs b => hsel i oi cs b hi) (fun cs b => hsel j oj cs b hoj) hQ hy h1
      have hfree' : ∀ k ok, ops[k]? = some ok → k ≠ i → (listed.setIfInBounds j true).getD k true = false →
          (∀ e ∈ ok.after, Region.binds md e = true → e.on ≠ i) → oi.apart ops ok = true := fun k ok hk hki hun hno => by
        refine hfree k ok hk hki ?_ hno
        by_cases hjk : j = k
        · subst hjk; exact hjun
        · rw [getD_set_ne true hjk] at hun; exact hun
      refine wpOp_mono (fun a' w' h3 => ⟨h3.2.1, ih (listed.setIfInBounds j true) a' w' hfree' (ready_mono hr (Ne.symm hji)) h3.1 (h3.2.1 hjL) ?_⟩) h2
      rw [Array.setIfInBounds_comm _ _ hji]
      exact h3.2.2

theorem til_take {i : Nat} {oi : Oper} {v : Value} {f : Nat} {listed : Array Bool} {a : Act} {w : World} (hi : ops[i]? = some oi)
    (hs : Region.noSelect ops = true) (hf : Region.free md ops listed i = true) (hr : (Region.ready md ops listed).contains i = true) (hL : waitsFor md ops L i = true)
    (hQ : ∀ c a w, Q (.panic c) (a.put oi.dst v) w → Q (.panic c) a w) (hy : YieldsIf P ops S oi v a) (hS : S w)
    (h : wpTil P md ops Q S L f (listed.setIfInBounds i true) (a.put oi.dst v) w) : wpTil P md ops Q S L (f + 1) listed a w :=
  til_first hi (Region.noSelect_spec hs) hQ hL f listed a w (Region.free_spec hi hf) (by simpa using hr) hy hS h

theorem til_one {i : Nat} {o : Oper} {f : Nat} {listed : Array Bool} {a : Act} {w : World} (hr : Region.ready md ops listed = [i]) (ho : ops[i]? = some o)
    (h : ∀ K' : Act → World → Prop, Shut (∀ a w, S w → (S w → wpTil P md ops Q S L f (listed.setIfInBounds i true) a w) → K' a w) → if Region.wanted o (yielded ops a.tmps) = true then Oper.wp P o a w K' Q else K' (a.put o.dst undef) w) :
    wpTil P md ops Q S L (f + 1) listed a w :=
  ⟨fun h0 => (by rw [hr] at h0; cases h0), fun j hj => by
    rw [hr] at hj
    rcases List.mem_cons.1 hj with rfl | hj
    · exact wpOp_step ho (fun K' hK => h K' (fun a w hS hW => hK a w ⟨fun _ => hS, hW hS⟩))
    · cases hj⟩

theorem til_last {o : Oper} {f : Nat} {listed : Array Bool} {a : Act} {w : World} (hr : Region.ready md ops listed = [L]) (ho : ops[L]? = some o) (hend : Region.ready md ops (listed.setIfInBounds L true) = [])
    (h : ∀ K' : Act → World → Prop, Shut (∀ a w, Q .normal a w → K' a w) → if Region.wanted o (yielded ops a.tmps) = true then Oper.wp P o a w K' Q else K' (a.put o.dst undef) w) :
    wpTil P md ops Q S L (f + 1) listed a w :=
  ⟨fun h0 => (by rw [hr] at h0; cases h0), fun j hj => by
    rw [hr] at hj
    rcases List.mem_cons.1 hj with rfl | hj
    · refine wpOp_step ho (fun K' hK => h K' (fun a w hq => hK a w ⟨fun k => absurd rfl k, ?_⟩))
      cases f with
      | zero => exact ⟨hend, hq⟩
      | succ f => exact ⟨fun _ => hq, by rw [hend]; simp⟩
    · cases hj⟩

theorem wp_region_til (L : Nat) {id : Nat} {a : Act} {w : World} (hm : P.follows .mixedOrders = true) (hS : S w.drew)
    (h : S w.drew → wpTil P .any ops Q S L ops.size (Array.replicate ops.size false) a w.drew) : (Code.region id ops true).wp P Q a w :=
  wp_region_any hm (any_of_til _ _ _ _ (h hS))

def tkOk (md : Region.Mode) (ops : Array Oper) (listed : Array Bool) (L i : Nat) : Bool := Region.noSelect ops && Region.free md ops listed i && (Region.ready md ops listed).contains i && waitsFor md ops L i
theorem til_t (i : Nat) (oi : Oper) {v : Value} {f : Nat} {listed : Array Bool} {a : Act} {w : World} (hi : ops[i]? = some oi) (hk : tkOk md ops listed L i = true)
    (hw : Region.wanted oi (yielded ops a.tmps) = true) (hQ : ∀ c a w, Q (.panic c) (a.put oi.dst v) w → Q (.panic c) a w) (hS : S w) (hy : ∀ w, S w → (execOp a.eval oi).run P w = .ok (.value v) w)
    (h : wpTil P md ops Q S L f (listed.setIfInBounds i true) (a.put oi.dst v) w) : wpTil P md ops Q S L (f + 1) listed a w := by
  unfold tkOk at hk
  simp only [Bool.and_eq_true] at hk
  exact til_take hi hk.1.1.1 hk.1.1.2 hk.1.2 hk.2 hQ (.inl ⟨hw, hy⟩) hS h
theorem til_s (i : Nat) (oi : Oper) {f : Nat} {listed : Array Bool} {a : Act} {w : World} (hi : ops[i]? = some oi) (hk : tkOk md ops listed L i = true)
    (hw : Region.wanted oi (yielded ops a.tmps) = false) (hQ : ∀ c a w, Q (.panic c) (a.put oi.dst undef) w → Q (.panic c) a w) (hS : S w)
    (h : wpTil P md ops Q S L f (listed.setIfInBounds i true) (a.put oi.dst undef) w) : wpTil P md ops Q S L (f + 1) listed a w := by
  unfold tkOk at hk
  simp only [Bool.and_eq_true] at hk
  exact til_take hi hk.1.1.1 hk.1.1.2 hk.1.2 hk.2 hQ (.inr ⟨hw, rfl⟩) hS h
end
end Go.Proofs.YtojnagonhihknaaGreatDoor
set_option linter.unusedVariables false
namespace Go.Proofs.YtojnagonhihknaaGreatDoor
open Go

section
variable {P : Program} {ops : Array Oper} {Q : Exit → Act → World → Prop} {md : Region.Mode} {S : World → Prop} {L : Nat}
def hkOk (md : Region.Mode) (ops : Array Oper) (listed : Array Bool) (i : Nat) : Bool := Region.noSelect ops && Region.free md ops listed i && (Region.ready md ops listed).contains i
theorem tkH (i : Nat) (oi : Oper) {v : Value} {f : Nat} {listed : Array Bool} {a : Act} {w : World}
    (h : wpAnyH P md ops Q S f (listed.setIfInBounds i true) (a.put oi.dst v) w) (hi : ops[i]? = some oi := by rfl) (hk : hkOk md ops listed i = true := by kernel_rfl)
    (hw : Region.wanted oi (yielded ops a.tmps) = true := by kernel_rfl) (hQ : ∀ c a w, Q (.panic c) (a.put oi.dst v) w → Q (.panic c) a w := by exact fun _ _ _ h => h) (hS : S w := by assumption)
    (hy : ∀ w, S w → (execOp a.eval oi).run P w = .ok (.value v) w := by (intro w hSw; (try dsimp only at hSw); go_simp; try with_reducible rfl)) : wpAnyH P md ops Q S (f + 1) listed a w := by
  unfold hkOk at hk
  simp only [Bool.and_eq_true] at hk
  exact wpAnyH_take hi hk.1.1 hk.1.2 hk.2 hQ (.inl ⟨hw, hy⟩) hS h
theorem tkS (i : Nat) (oi : Oper) {f : Nat} {listed : Array Bool} {a : Act} {w : World}
    (h : wpAnyH P md ops Q S f (listed.setIfInBounds i true) (a.put oi.dst undef) w) (hi : ops[i]? = some oi := by rfl) (hk : hkOk md ops listed i = true := by kernel_rfl)
    (hw : Region.wanted oi (yielded ops a.tmps) = false := by kernel_rfl) (hQ : ∀ c a w, Q (.panic c) (a.put oi.dst undef) w → Q (.panic c) a w := by exact fun _ _ _ h => h) (hS : S w := by assumption) : wpAnyH P md ops Q S (f + 1) listed a w := by
  unfold hkOk at hk
  simp only [Bool.and_eq_true] at hk
  exact wpAnyH_take hi hk.1.1 hk.1.2 hk.2 hQ (.inr ⟨hw, rfl⟩) hS h
theorem tkT (i : Nat) (oi : Oper) {v : Value} {f : Nat} {listed : Array Bool} {a : Act} {w : World}
    (h : wpTil P md ops Q S L f (listed.setIfInBounds i true) (a.put oi.dst v) w) (hi : ops[i]? = some oi := by rfl) (hk : tkOk md ops listed L i = true := by kernel_rfl)
    (hw : Region.wanted oi (yielded ops a.tmps) = true := by kernel_rfl) (hQ : ∀ c a w, Q (.panic c) (a.put oi.dst v) w → Q (.panic c) a w := by exact fun _ _ _ h => h) (hS : S w := by assumption)
    (hy : ∀ w, S w → (execOp a.eval oi).run P w = .ok (.value v) w := by (intro w hSw; (try dsimp only at hSw); go_simp; try with_reducible rfl)) : wpTil P md ops Q S L (f + 1) listed a w :=
  til_t i oi hi hk hw hQ hS hy h
end
end Go.Proofs.YtojnagonhihknaaGreatDoor
set_option linter.unusedVariables false
set_option linter.unusedSimpArgs false
namespace Go.Proofs.YtojnagonhihknaaGreatDoor
open Go.ChangeShapes Go.WideShapes Go.ChangeAt Go.RowKit

theorem eqPr (a b c d : Int) (w : World) : (Op.equalIn 10000 54 (.agg #[.int .i64 a, .int .i64 b]) (.agg #[.int .i64 c, .int .i64 d])).run Tryz.prog w = .ok (a == c && b == d) w := by
  have u3 := Tryz.underlying3
  have a3 := Tryz.isAgg3
  have z3 := Tryz.sizeOf3
  rw [show (10000 : Nat) = 9999 + 1 from rfl, Op.equalIn]
  simp only [Sem.run_bind, run_underlying Tryz.underlying54, Result.andThen_ok]
  simp only [Std.Legacy.Range.forIn_eq_forIn_range', Std.Legacy.Range.size, Nat.sub_zero, Nat.add_sub_cancel, Nat.div_one, List.range'_succ, List.range'_zero, List.forIn_cons, List.forIn_nil]
  go_simp
  by_cases h1 : a = c <;> by_cases h2 : b = d <;> simp [h1, h2]
theorem eqlPr (a b c d : Int) (w : World) : (binOp .eql 54 (.agg #[.int .i64 a, .int .i64 b]) (.agg #[.int .i64 c, .int .i64 d])).run Tryz.prog w = .ok (.bool (a == c && b == d)) w := by
  rw [run_eql_struct, eqPr]
  rfl
theorem neqPr (a b c d : Int) (w : World) : (binOp .neq 54 (.agg #[.int .i64 a, .int .i64 b]) (.agg #[.int .i64 c, .int .i64 d])).run Tryz.prog w = .ok (.bool (!(a == c && b == d))) w := by
  rw [run_neq_struct, eqPr]
  rfl
theorem PA.re {w : World} {b n cap k : Nat} {L : Ed} (h : PA w b L) (hl : L.length = n) (hb : b < w.heap.size) (hk : k ≤ n) (hc : n ≤ cap) (hm : cap ≤ maxLen) : RE w (.slice (some ⟨b, 0, none⟩) k cap) (L.take k) := by
  have hlk : (L.take k).length = k := by rw [List.length_take]; omega
  rcases Nat.eq_zero_or_pos k with h0 | hp
  · subst h0
    exact .inl ⟨by simp, _, _, rfl⟩
  · refine .inr ⟨fun e => by rw [e] at hlk; simp at hlk; omega, b, 0, cap, by rw [hlk], by rw [hlk]; omega, hm, hb, fun j e he => ?_⟩
    have hj := (List.getElem?_eq_some_iff.1 he).1
    rw [hlk] at hj
    rw [List.getElem?_take_of_lt hj] at he
    obtain ⟨⟨c0, _⟩, c1, _⟩ := h j e he
    rw [Nat.zero_add]
    exact ⟨c0, c1⟩
theorem PA.off {w w' : World} {b : Nat} {L : Ed} {Z : Nat → Prop} (h : PA w b L) (hb : b < w.heap.size) (ho : Off Z w w') (hz : ¬ Z b) : PA w' b L := fun j e he => by
  obtain ⟨⟨c0, f0⟩, c1, f1⟩ := h j e he
  exact ⟨⟨(ho.cell (p := ⟨b, j * 2, none⟩) hb hz).trans c0, (ho.frozen (p := ⟨b, j * 2, none⟩) hb hz).trans f0⟩, (ho.cell (p := ⟨b, j * 2 + 1, none⟩) hb hz).trans c1, (ho.frozen (p := ⟨b, j * 2 + 1, none⟩) hb hz).trans f1⟩
theorem PA.drewN {w : World} {b d : Nat} {L : Ed} (h : PA w b L) : PA (w.drewN d) b L := h
theorem PA.set {w : World} {b k : Nat} {L : Ed} (h : PA w b L) (hk : k < L.length) (x : Int × Int) : PA ((w.setCell ⟨b, k * 2, none⟩ (.int .i64 x.1)).setCell ⟨b, k * 2 + 1, none⟩ (.int .i64 x.2)) b (L.set k x) := fun j e he => by
  have fr : ∀ o, ((w.setCell ⟨b, k * 2, none⟩ (.int .i64 x.1)).setCell ⟨b, k * 2 + 1, none⟩ (.int .i64 x.2)).frozen? ⟨b, o, none⟩ = w.frozen? ⟨b, o, none⟩ := fun o => by rw [World.frozen?_setCell, World.frozen?_setCell]
  obtain ⟨⟨q0, _⟩, q1, _⟩ := h k _ (List.getElem?_eq_getElem hk)
  have w1 : (w.setCell ⟨b, k * 2, none⟩ (.int .i64 x.1)).cell? ⟨b, k * 2 + 1, none⟩ = some (.int .i64 L[k].2) := by rw [World.cell?_setCell_other _ _ _ _ (fun e => by injection e with _ e; omega)]; exact q1
  by_cases ej : k = j
  · subst ej
    rw [List.getElem?_set_self hk] at he
    obtain rfl := Option.some.inj he
    obtain ⟨⟨_, f0⟩, _, f1⟩ := h k _ (List.getElem?_eq_getElem hk)
    refine ⟨⟨?_, by rw [fr]; exact f0⟩, ?_, by rw [fr]; exact f1⟩
    · rw [World.cell?_setCell_other _ _ _ _ (fun e => by injection e with _ e; omega), World.cell?_setCell_same _ _ _ q0]
    · rw [World.cell?_setCell_same _ _ _ w1]
  · rw [List.getElem?_set_ne ej] at he
    obtain ⟨⟨c0, f0⟩, c1, f1⟩ := h j e he
    refine ⟨⟨?_, by rw [fr]; exact f0⟩, ?_, by rw [fr]; exact f1⟩
    · rw [World.cell?_setCell_other _ _ _ _ (fun e => by injection e with _ e; omega), World.cell?_setCell_other _ _ _ _ (fun e => by injection e with _ e; omega)]; exact c0
    · rw [World.cell?_setCell_other _ _ _ _ (fun e => by injection e with _ e; omega), World.cell?_setCell_other _ _ _ _ (fun e => by injection e with _ e; omega)]; exact c1

theorem Off.cellsP {Z : Nat → Prop} {a : World} {b : Nat} (hb : Z b) : ∀ (vs : List Value) (o : Nat) (w : World), Off Z a w → Off Z a (w.setCells b o vs)
  | [], _, _, h => h
  | v :: r, o, w, h => Off.cellsP hb r (o + 1) _ (h.setCell (p := ⟨b, o, none⟩) (.inr hb) v)

set_option maxHeartbeats 4000000 in
set_option maxRecDepth 100000 in
theorem compactP_any {b n cap : Nat} (L : Ed) (w : World) (hP : PA w b L) (hl : L.length = n) (hb : b < w.heap.size) (hc : n ≤ cap) (hm : cap ≤ maxLen) (hn : n ≤ 1000000) :
    Calls Tryz.prog 63 #[.slice (some ⟨b, 0, none⟩) n cap] w fun e w' => ∃ q, e = .returned (.slice (some ⟨b, 0, none⟩) q cap) ∧ RE w' (.slice (some ⟨b, 0, none⟩) q cap) (cpT L n) ∧ Off (fun i => i = b) w w' := by
  have HP := Lib.hid hP
  have HL := Lib.hid hl
  have HRE := Lib.hid (fun (w' : World) (M : Ed) (k : Nat) (h : PA w' b M) (h1 : M.length = n) (h2 : b < w'.heap.size) (h3 : k ≤ n) => PA.re (cap := cap) h h1 h2 h3 hc hm)
  unfold maxLen at hm
  by_cases h2 : n < 2
  · have hcp : cpT L n = L.take n := by
      have : n = 0 ∨ n = 1 := by omega
      rcases this with e | e
      · rw [e]; simp [cpT]
      · rw [e]
        obtain ⟨x, hx⟩ : ∃ x, L[0]? = some x := ⟨L[0]'(by omega), List.getElem?_eq_getElem _⟩
        rw [cpT_one hx, List.take_add_one, hx]
        simp
    have hre := HRE.out w L n hP hl hb (Nat.le_refl _)
    rw [← hcp] at hre
    have HR := Lib.hid hre
    clear hP hl hcp hre
    go_enter Tryz.func63, Tryz.ntmps63
    go_wp2_with fail
    go_ret
    exact ⟨_, rfl, HR.out, Off.refl _ _⟩
  have h1 : Hid (cpT L 1 = L.take 1) := Lib.hid (by
    obtain ⟨x, hx⟩ : ∃ x, L[0]? = some x := ⟨L[0]'(by omega), List.getElem?_eq_getElem _⟩
    rw [cpT_one hx, List.take_add_one, hx]
    simp)
  clear hP hl
  go_enter Tryz.func63, Tryz.ntmps63
  go_wp2_with fail
  go_loopw [3] (fun kv wr => ∃ k d : Nat, kv = .int .i64 (k : Nat) ∧ 1 ≤ k ∧ k ≤ n ∧ Hid (cpT L k = L.take k) ∧ wr = w.drewN d) (fun kv _ => n - (intOf kv).toNat)
  case atStart => exact ⟨1, 0, rfl, Nat.le_refl _, by omega, h1, rfl⟩
  case round =>
    clear h1
    obtain ⟨k, d, rfl, hk1, hkn, HC, rfl⟩ := hrel
    by_cases hlt : k < n
    · obtain ⟨m, hmk⟩ : ∃ m, k = m + 1 := ⟨k - 1, by omega⟩
      have hsub : (k : Int) - 1 = (m : Int) := by omega
      have hmn : m < n := by omega
      have hmI : (m : Int) < (n : Int) := by omega
      have hwr : IntKind.i64.wrap (m : Int) = (m : Int) := by rw [IntKind.wrap_i64]; omega
      have HMK := Lib.hid hmk
      clear hmk
      obtain ⟨x, hx⟩ : ∃ x, L[k]? = some x := ⟨L[k]'(by rw [HL.out]; exact hlt), List.getElem?_eq_getElem _⟩
      obtain ⟨y, hy⟩ : ∃ y, L[m]? = some y := ⟨L[m]'(by rw [HL.out]; omega), List.getElem?_eq_getElem _⟩
      obtain ⟨⟨c0, _⟩, c1, _⟩ := HP.out k x hx
      obtain ⟨⟨e0, _⟩, e1, _⟩ := HP.out m y hy
      have HX := Lib.hid hx
      have HY := Lib.hid hy
      obtain ⟨x1, x2⟩ := x
      obtain ⟨y1, y2⟩ := y
      simp only at c0 c1 e0 e1
      clear hx hy
      by_cases hxy : x1 = y1 ∧ x2 = y2
      · obtain ⟨rfl, rfl⟩ := hxy
        have HS9 : Hid (cpT L (k + 1) = L.take k) := Lib.hid (by rw [cpT_same HX.out hk1 (by rw [HMK.out, Nat.add_sub_cancel]; exact HY.out)]; exact HC.out)
        obtain ⟨R, hR⟩ : ∃ R, n - k = R := ⟨_, rfl⟩
        obtain ⟨CR, hCR⟩ : ∃ CR, cap - k = CR := ⟨_, rfl⟩
        have hR1 : 1 ≤ R := by omega
        have hRC : R ≤ CR := by omega
        have hkR : k + R = n := by omega
        have hck : ¬ cap = k := by omega
        have HKR := Lib.hid hkR
        have hq : ∀ w, (binOp .eql 54 (.agg #[.int .i64 x1, .int .i64 x2]) (.agg #[.int .i64 x1, .int .i64 x2])).run Tryz.prog w = .ok (.bool true) w := fun w => by rw [eqlPr]; simp
        clear hkR
        have hbz : b < w.heap.size := hb
        clear hwr hsub hmI c0 c1 e0 e1
        have c0 := (HP.out k _ HX.out).1.1
        have c1 := (HP.out k _ HX.out).2.1
        have e0 := (HP.out m _ HY.out).1.1
        have e1 := (HP.out m _ HY.out).2.1
        simp only at c0 c1 e0 e1
        have hsub : (k : Int) - 1 = (m : Int) := by have := HMK.out; omega
        have hmI : (m : Int) < (n : Int) := by omega
        have hwr : IntKind.i64.wrap (m : Int) = (m : Int) := by rw [IntKind.wrap_i64]; omega
        go_wp2_with fail
        go_quiet (fail)
        clear hq c0 c1 e0 e1 hsub hmI hwr
        go_wp2_with fail
        obtain ⟨K0, hK0⟩ : ∃ K0, K0 = k := ⟨_, rfl⟩
        have HK0 := Lib.hid hK0
        go_loopw [3, 5] (fun kv jv wr => ∃ (q j : Nat) (M : Ed), kv = .int .i64 (q : Nat) ∧ jv = .int .i64 (j : Nat) ∧ 1 ≤ j ∧ j ≤ R ∧ q + 1 ≤ K0 + j ∧ Hid (q = (cpT L (K0 + j)).length) ∧ Hid (PA wr b M) ∧ Hid (M.length = n) ∧ Hid (M.take q = cpT L (K0 + j)) ∧ Hid (∀ i, K0 + j ≤ i + 1 → M[i]? = L[i]?) ∧ Hid (Off (fun i => i = b) w wr)) (fun _ jv _ => R - (intOf jv).toNat)
        case atStart =>
          clear hK0
          exact ⟨k, 1, L, rfl, rfl, Nat.le_refl _, hR1, by have := HK0.out; omega, Lib.hid (by rw [HK0.out, HS9.out, List.length_take]; have := HL.out; omega), Lib.hid HP.out.drewN, HL, Lib.hid (by rw [HK0.out]; exact HS9.out.symm), Lib.hid (fun _ _ => rfl), Lib.hid (Off.refl _ _).drewN⟩
        case round =>
          clear hK0
          obtain ⟨q, j, M, rfl, rfl, hj1, hjR, hqj, HQ, HM, HMl, HMt, HMr, HO⟩ := hrel
          by_cases hlj : j < R
          · obtain ⟨t, htj⟩ : ∃ t, j = t + 1 := ⟨j - 1, by omega⟩
            have hkj : K0 + j < n := by have := HKR.out; have := HK0.out; omega
            obtain ⟨y, hy⟩ : ∃ y, L[K0 + j]? = some y := ⟨L[K0 + j]'(by rw [HL.out]; exact hkj), List.getElem?_eq_getElem _⟩
            obtain ⟨z, hz⟩ : ∃ z, L[K0 + t]? = some z := ⟨L[K0 + t]'(by rw [HL.out]; omega), List.getElem?_eq_getElem _⟩
            obtain ⟨⟨c0, _⟩, c1, _⟩ := HM.out (K0 + j) y (by rw [HMr.out (K0 + j) (by omega)]; exact hy)
            obtain ⟨⟨e0, _⟩, e1, _⟩ := HM.out (K0 + t) z (by rw [HMr.out (K0 + t) (by omega)]; exact hz)
            have ej : (K0 + j) * 2 = k * 2 + j * 2 := by rw [HK0.out]; omega
            have et : (K0 + t) * 2 = k * 2 + t * 2 := by rw [HK0.out]; omega
            rw [ej] at c0 c1
            rw [et] at e0 e1
            clear ej et
            have hbz2 : b < wr.heap.size := Nat.lt_of_lt_of_le hbz HO.out.size
            have HY2 := Lib.hid hy
            have HZ2 := Lib.hid (show L[K0 + j - 1]? = some z by rw [show K0 + j - 1 = K0 + t by omega]; exact hz)
            have hsub : (j : Int) - 1 = (t : Int) := by omega
            have htR : (t : Int) < (R : Int) := by omega
            have hwr : IntKind.i64.wrap (t : Int) = (t : Int) := by rw [IntKind.wrap_i64]; omega
            have HTJ := Lib.hid htj
            have HKJ := Lib.hid hkj
            clear htj hy hz hkj
            obtain ⟨y1, y2⟩ := y
            obtain ⟨z1, z2⟩ := z
            simp only at c0 c1 e0 e1
            by_cases hyz : y1 = z1 ∧ y2 = z2
            · obtain ⟨rfl, rfl⟩ := hyz
              have hnq : ∀ w, (binOp .neq 54 (.agg #[.int .i64 y1, .int .i64 y2]) (.agg #[.int .i64 y1, .int .i64 y2])).run Tryz.prog w = .ok (.bool false) w := fun w => by rw [neqPr]; simp
              have HS := Lib.hid (cpT_same HY2.out (by omega) HZ2.out)
              go_wp2_with fail
              go_region_law (fail)
              all_goals
                clear hnq c0 c1 e0 e1 hsub htR hwr
                go_wp2_with fail
                exact ⟨⟨q, j + 1, M, rfl, by go_num, by omega, by omega, by omega, Lib.hid (by rw [← Nat.add_assoc, HS.out]; exact HQ.out), Lib.hid HM.out, HMl, Lib.hid (by rw [← Nat.add_assoc, HS.out]; exact HMt.out), Lib.hid (fun i hi => HMr.out i (by omega)), Lib.hid HO.out.drew⟩, by simp [intOf]; omega⟩
            · have hnq : ∀ w, (binOp .neq 54 (.agg #[.int .i64 y1, .int .i64 y2]) (.agg #[.int .i64 z1, .int .i64 z2])).run Tryz.prog w = .ok (.bool true) w := fun w => by
                rw [neqPr]
                by_cases h1 : y1 = z1 <;> by_cases h2 : y2 = z2 <;> simp [h1, h2] <;> exact hyz ⟨h1, h2⟩
              have HS := Lib.hid (cpT_new HY2.out HZ2.out (fun e => hyz (by injection e with e1 e2; exact ⟨e1.symm, e2.symm⟩)))
              obtain ⟨o, ho⟩ : ∃ o, M[q]? = some o := ⟨M[q]'(by rw [HMl.out]; have := HKJ.out; omega), List.getElem?_eq_getElem _⟩
              obtain ⟨⟨o0, f0⟩, o1, f1⟩ := HM.out q o ho
              have hqn : q < n := by have := HKJ.out; omega
              clear ho
              go_wp2_with fail
              go_region_law (fail)
              all_goals
                clear hnq e0 e1 hsub htR hwr
                go_wp2_with fail
                exact ⟨⟨q + 1, j + 1, M.set q (y1, y2), by go_num, by go_num, by omega, by omega, by omega, Lib.hid (by rw [← Nat.add_assoc, HS.out, List.length_append, ← HQ.out]; rfl), Lib.hid (PA.set HM.out (by rw [HMl.out]; exact hqn) (y1, y2)), Lib.hid (by rw [List.length_set]; exact HMl.out), Lib.hid (by rw [← Nat.add_assoc, HS.out, List.take_add_one, List.getElem?_set_self (by rw [HMl.out]; exact hqn), List.take_set_of_le (Nat.le_refl _), HMt.out]; rfl), Lib.hid (fun i hi => by rw [List.getElem?_set_ne (by omega)]; exact HMr.out i (by omega)), Lib.hid ((HO.out.setCell (p := ⟨b, q * 2, none⟩) (.inr rfl) _).setCell (p := ⟨b, q * 2 + 1, none⟩) (.inr rfl) _).drew⟩, by simp [intOf]; omega⟩
          · have hjn : K0 + j = n := by have := HKR.out; have := HK0.out; omega
            have HMn : Hid (M.take q = cpT L n) := Lib.hid (by rw [← hjn]; exact HMt.out)
            have hqn : q < n := by omega
            have hbz2 : b < wr.heap.size := Nat.lt_of_lt_of_le hbz HO.out.size
            have hsz : ∀ jj, jj < (n - q) * 2 → (wr.cell? ⟨b, q * 2 + jj, none⟩).isSome = true ∧ wr.frozen? ⟨b, q * 2 + jj, none⟩ = false := fun jj hj => by
              obtain ⟨x, hx⟩ : ∃ x, M[q + jj / 2]? = some x := ⟨M[q + jj / 2]'(by rw [HMl.out]; omega), List.getElem?_eq_getElem _⟩
              obtain ⟨⟨c0, f0⟩, c1, f1⟩ := HM.out _ x hx
              rcases Nat.mod_two_eq_zero_or_one jj with e | e
              · rw [show q * 2 + jj = (q + jj / 2) * 2 by omega]; exact ⟨by rw [c0]; rfl, f0⟩
              · rw [show q * 2 + jj = (q + jj / 2) * 2 + 1 by omega]; exact ⟨by rw [c1]; rfl, f1⟩
            have hcl : ∀ ty, (Builtin.clear_ #[28] ty #[.slice (Option.some ⟨b, q * 2, none⟩) (n - q) (cap - q)]).run Tryz.prog wr = .ok (.tuple #[]) (wr.setCells b (q * 2) (List.replicate ((n - q) * 2) (.int .i64 0))) :=
              fun ty => run_clear_pairs wr _ 54 ty Tryz.underlying28 (fun _ => rfl) b (q * 2) _ _ (by omega) (fun t ht => (hsz t ht).1) (fun t ht => (hsz t ht).2)
            have HRW := Lib.hid (show RE (wr.setCells b (q * 2) (List.replicate ((n - q) * 2) (.int .i64 0))) (.slice (some ⟨b, 0, none⟩) q cap) ((M.take q).take q) from PA.re (n := q) (fun i e he => by
              have hiq : i < q := by have := (List.getElem?_eq_some_iff.1 he).1; rw [List.length_take] at this; omega
              rw [List.getElem?_take_of_lt hiq] at he
              obtain ⟨⟨c0, f0⟩, c1, f1⟩ := HM.out i e he
              refine ⟨⟨?_, by rw [World.frozen?_setCells]; exact f0⟩, ?_, by rw [World.frozen?_setCells]; exact f1⟩
              · rw [World.cell?_setCells_out b _ (q * 2) wr ⟨b, i * 2, none⟩ (fun _ _ => .inl (by show i * 2 < q * 2; omega))]; exact c0
              · rw [World.cell?_setCells_out b _ (q * 2) wr ⟨b, i * 2 + 1, none⟩ (fun _ _ => .inl (by show i * 2 + 1 < q * 2; omega))]; exact c1) (by rw [List.length_take, HMl.out]; omega) (by rw [(heap_setCells _ _ _ _).1]; exact hbz2) (Nat.le_refl _) (by omega) hm)
            have HOW := Lib.hid (Off.cellsP (b := b) (Z := fun i => i = b) rfl (List.replicate ((n - q) * 2) (.int .i64 0)) (q * 2) wr HO.out)
            clear hsz hjn
            go_wp2_with fail
            go_ret
            refine ⟨_, rfl, ?_, HOW.out⟩
            have h := HRW.out
            rw [List.take_take, Nat.min_self, HMn.out] at h
            exact h
      · have HS9 : Hid (cpT L (k + 1) = L.take (k + 1)) := Lib.hid (by
          rw [cpT_new HX.out (by rw [HMK.out, Nat.add_sub_cancel]; exact HY.out) (fun e => hxy (by injection e with e1 e2; exact ⟨e1.symm, e2.symm⟩)), HC.out, List.take_add_one, HX.out]
          rfl)
        have hq : ∀ w, (binOp .eql 54 (.agg #[.int .i64 x1, .int .i64 x2]) (.agg #[.int .i64 y1, .int .i64 y2])).run Tryz.prog w = .ok (.bool false) w := fun w => by
          rw [eqlPr]
          by_cases h1 : x1 = y1 <;> by_cases h2 : x2 = y2 <;> simp [h1, h2] <;> exact hxy ⟨h1, h2⟩
        go_wp2_with fail
        go_region_law (fail)
        all_goals
          go_wp2_with fail
          exact ⟨⟨k + 1, d + 1, by go_num, by omega, by omega, HS9, rfl⟩, by simp [intOf]; omega⟩
    · have hkk : n = k := by omega
      have HR := Lib.hid (HRE.out (w.drewN d) L n HP.out.drewN HL.out hb (Nat.le_refl _))
      have HC9 := Lib.hid (show cpT L n = L.take n by rw [hkk]; exact HC.out)
      subst hkk
      go_wp2_with fail
      go_ret
      exact ⟨_, rfl, by rw [HC9.out]; exact HR.out, (Off.refl _ _).drewN⟩
end Go.Proofs.YtojnagonhihknaaGreatDoor
