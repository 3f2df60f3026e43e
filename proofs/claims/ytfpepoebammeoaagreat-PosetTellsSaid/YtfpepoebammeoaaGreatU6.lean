/- A drawing region whose last operation waits for all others: what S says need not hold behind that one, so that S may name the very cell that it stores into. A drawing region without calls of Go functions, inside a fence: what the plain walk says of it holds there, too. Takes in a drawing region, with all that is closed in them paid by default. The contract of the hunt's enter. -/
import Derived.Deep.RegionHeld3
import Derived.OrdersIn
import Derived.Laws.Small
import Derived.Test.YtfpepoebammeoaaGreatU4
set_option linter.unusedVariables false
namespace Go.Proofs.YtfpepoebammeoaaGreat
open Go

section
variable {P : Program} {ops : Array Oper} {Q : Exit → Act → World → Prop} {md : Region.Mode} {S : World → Prop} {L : Nat}

def wpTil (P : Program) (md : Region.Mode) (ops : Array Oper) (Q : Exit → Act → World → Prop) (S : World → Prop) (L : Nat) : Nat → Array Bool → Act → World → Prop
  | 0, listed, a, w => Region.ready md ops listed = [] ∧ Q .normal a w
  | f + 1, listed, a, w =>
    (Region.ready md ops listed = [] → Q .normal a w) ∧
    ∀ i ∈ Region.ready md ops listed, wpOp P ops Q i (fun a' w' => (i ≠ L → S w') ∧ wpTil P md ops Q S L f (listed.setIfInBounds i true) a' w') a w

theorem any_of_til : ∀ (f : Nat) (listed : Array Bool) (a : Act) (w : World), wpTil P md ops Q S L f listed a w → wpAny P md ops Q f listed a w
  | 0, _, _, _, h => h
  | f + 1, _, _, _, h => ⟨h.1, fun i hi => wpOp_mono (fun a' w' k => any_of_til f _ a' w' k.2) (h.2 i hi)⟩

def waitsFor (md : Region.Mode) (ops : Array Oper) (L i : Nat) : Bool := match ops[L]? with | some o => o.after.any (fun e => Region.binds md e && e.on == i) | none => false

theorem til_first {i : Nat} {oi : Oper} {v : Value} (hi : ops[i]? = some oi) (hsel : ∀ (j : Nat) (o : Oper) cs b, ops[j]? = some o → o.op ≠ .select cs b)
    (hQ : ∀ c a w, Q (.panic c) (a.put oi.dst v) w → Q (.panic c) a w) (hL : waitsFor md ops L i = true) :
    ∀ (f : Nat) (listed : Array Bool) (a : Act) (w : World),
      (∀ j oj, ops[j]? = some oj → j ≠ i → listed.getD j true = false → (∀ e ∈ oj.after, Region.binds md e = true → e.on ≠ i) → oi.apart ops oj = true) →
      i ∈ Region.ready md ops listed → YieldsIf P ops S oi v a → S w →
      wpTil P md ops Q S L f (listed.setIfInBounds i true) (a.put oi.dst v) w → wpTil P md ops Q S L (f + 1) listed a w := by
  intro f
  induction f with
  | zero =>
    intro listed a w _ hr hy hS H
    refine ⟨fun h => (by rw [h] at hr; cases hr), fun j hj => ?_⟩
    by_cases hji : j = i
    · subst hji; exact hy.wpOp hi hS ⟨fun _ => hS, H⟩
    · have k := ready_mono hj hji
      rw [H.1] at k
      cases k
  | succ f ih =>
    intro listed a w hfree hr hy hS H
    refine ⟨fun h => (by rw [h] at hr; cases hr), fun j hj => ?_⟩
    by_cases hji : j = i
    · subst hji; exact hy.wpOp hi hS ⟨fun _ => hS, H⟩
    · have h1 := H.2 j (ready_mono hj hji)
      obtain ⟨hjun, oj, hoj, hall⟩ := mem_ready.1 hj
      have hnot : ∀ e ∈ oj.after, Region.binds md e = true → e.on ≠ i := fun e he hb heq => by
        have g1 := hall e he hb
        have g0 := (mem_ready.1 hr).1
        rw [heq] at g1
        rcases Nat.lt_or_ge i listed.size with k | k
        · simp [k] at g0 g1; rw [g0] at g1; cases g1
        · simp [Array.getElem?_eq_none k] at g1
      have hjL : j ≠ L := fun e => by
        subst e
        unfold waitsFor at hL
        rw [hoj] at hL
        obtain ⟨x, hx, hb⟩ := Array.any_eq_true'.1 hL
        simp only [Bool.and_eq_true, beq_iff_eq] at hb
        exact hnot x hx hb.1 hb.2
      have h2 := wpOp_putIf hoj (hfree j oj hoj hji hjun hnot) (fun cs b => hsel i oi cs b hi) (fun cs b => hsel j oj cs b hoj) hQ hy h1
      have hfree' : ∀ k ok, ops[k]? = some ok → k ≠ i → (listed.setIfInBounds j true).getD k true = false →
          (∀ e ∈ ok.after, Region.binds md e = true → e.on ≠ i) → oi.apart ops ok = true := fun k ok hk hki hun hno => by
        refine hfree k ok hk hki ?_ hno
        by_cases hjk : j = k
        · subst hjk; exact hjun
        · rw [getD_set_ne true hjk] at hun; exact hun
      refine wpOp_mono (fun a' w' h3 => ⟨h3.2.1, ih (listed.setIfInBounds j true) a' w' hfree' (ready_mono hr (Ne.symm hji)) h3.1 (h3.2.1 hjL) ?_⟩) h2
      rw [Array.setIfInBounds_comm _ _ hji]
      exact h3.2.2

theorem til_take {i : Nat} {oi : Oper} {v : Value} {f : Nat} {listed : Array Bool} {a : Act} {w : World} (hi : ops[i]? = some oi)
    (hs : Region.noSelect ops = true) (hf : Region.free md ops listed i = true) (hr : (Region.ready md ops listed).contains i = true) (hL : waitsFor md ops L i = true)
    (hQ : ∀ c a w, Q (.panic c) (a.put oi.dst v) w → Q (.panic c) a w) (hy : YieldsIf P ops S oi v a) (hS : S w)
    (h : wpTil P md ops Q S L f (listed.setIfInBounds i true) (a.put oi.dst v) w) : wpTil P md ops Q S L (f + 1) listed a w :=
  til_first hi (Region.noSelect_spec hs) hQ hL f listed a w (Region.free_spec hi hf) (by simpa using hr) hy hS h

theorem til_one {i : Nat} {o : Oper} {f : Nat} {listed : Array Bool} {a : Act} {w : World} (hr : Region.ready md ops listed = [i]) (ho : ops[i]? = some o)
    (h : ∀ K' : Act → World → Prop, Shut (∀ a w, S w → (S w → wpTil P md ops Q S L f (listed.setIfInBounds i true) a w) → K' a w) → if Region.wanted o (yielded ops a.tmps) = true then Oper.wp P o a w K' Q else K' (a.put o.dst undef) w) :
    wpTil P md ops Q S L (f + 1) listed a w :=
  ⟨fun h0 => (by rw [hr] at h0; cases h0), fun j hj => by
    rw [hr] at hj
    rcases List.mem_cons.1 hj with rfl | hj
    · exact wpOp_step ho (fun K' hK => h K' (fun a w hS hW => hK a w ⟨fun _ => hS, hW hS⟩))
    · cases hj⟩

theorem til_last {o : Oper} {f : Nat} {listed : Array Bool} {a : Act} {w : World} (hr : Region.ready md ops listed = [L]) (ho : ops[L]? = some o) (hend : Region.ready md ops (listed.setIfInBounds L true) = [])
    (h : ∀ K' : Act → World → Prop, Shut (∀ a w, Q .normal a w → K' a w) → if Region.wanted o (yielded ops a.tmps) = true then Oper.wp P o a w K' Q else K' (a.put o.dst undef) w) :
    wpTil P md ops Q S L (f + 1) listed a w :=
  ⟨fun h0 => (by rw [hr] at h0; cases h0), fun j hj => by
    rw [hr] at hj
    rcases List.mem_cons.1 hj with rfl | hj
    · refine wpOp_step ho (fun K' hK => h K' (fun a w hq => hK a w ⟨fun k => absurd rfl k, ?_⟩))
      cases f with
      | zero => exact ⟨hend, hq⟩
      | succ f => exact ⟨fun _ => hq, by rw [hend]; simp⟩
    · cases hj⟩

theorem wp_region_til (L : Nat) {id : Nat} {a : Act} {w : World} (hm : P.follows .mixedOrders = true) (hS : S w.drew)
    (h : S w.drew → wpTil P .any ops Q S L ops.size (Array.replicate ops.size false) a w.drew) : (Code.region id ops true).wp P Q a w :=
  wp_region_any hm (any_of_til _ _ _ _ (h hS))

def tkOk (md : Region.Mode) (ops : Array Oper) (listed : Array Bool) (L i : Nat) : Bool := Region.noSelect ops && Region.free md ops listed i && (Region.ready md ops listed).contains i && waitsFor md ops L i
theorem til_t (i : Nat) (oi : Oper) {v : Value} {f : Nat} {listed : Array Bool} {a : Act} {w : World} (hi : ops[i]? = some oi) (hk : tkOk md ops listed L i = true)
    (hw : Region.wanted oi (yielded ops a.tmps) = true) (hQ : ∀ c a w, Q (.panic c) (a.put oi.dst v) w → Q (.panic c) a w) (hS : S w) (hy : ∀ w, S w → (execOp a.eval oi).run P w = .ok (.value v) w)
    (h : wpTil P md ops Q S L f (listed.setIfInBounds i true) (a.put oi.dst v) w) : wpTil P md ops Q S L (f + 1) listed a w := by
  unfold tkOk at hk
  simp only [Bool.and_eq_true] at hk
  exact til_take hi hk.1.1.1 hk.1.1.2 hk.1.2 hk.2 hQ (.inl ⟨hw, hy⟩) hS h
theorem til_s (i : Nat) (oi : Oper) {f : Nat} {listed : Array Bool} {a : Act} {w : World} (hi : ops[i]? = some oi) (hk : tkOk md ops listed L i = true)
    (hw : Region.wanted oi (yielded ops a.tmps) = false) (hQ : ∀ c a w, Q (.panic c) (a.put oi.dst undef) w → Q (.panic c) a w) (hS : S w)
    (h : wpTil P md ops Q S L f (listed.setIfInBounds i true) (a.put oi.dst undef) w) : wpTil P md ops Q S L (f + 1) listed a w := by
  unfold tkOk at hk
  simp only [Bool.and_eq_true] at hk
  exact til_take hi hk.1.1.1 hk.1.1.2 hk.1.2 hk.2 hQ (.inr ⟨hw, rfl⟩) hS h
end
end Go.Proofs.YtfpepoebammeoaaGreat
set_option linter.unusedVariables false
namespace Go.Proofs.YtfpepoebammeoaaGreat
open Go

section
variable {F : Fence} {n : Nat} {P : Program} {ops : Array Oper} {Q : Exit → Act → World → Prop} {md : Region.Mode} {S : World → Prop} {L : Nat}
def plainOp (o : Oper) : Bool := match o.op with
  | .move _ | .assign _ | .pick _ _ _ | .alloc _ | .load _ _ | .store _ _ _ | .binOp _ _ _ _ _ | .unOp _ _ _ | .fieldAddr _ _ _ | .indexAddr _ _ _ => true
  | .call c => match c.callee with | .builtin .max => true | .builtin .min => true | _ => false
  | _ => false
def normQ (Q : Exit → Act → World → Prop) : Exit → Act → World → Prop := fun e a w => match e with | .normal => Q .normal a w | _ => False
theorem norm_out (Q : Exit → Act → World → Prop) : ¬ LetsOut (normQ Q) := fun ⟨_, _, h⟩ => h
theorem up_value {o : Oper} {a : Act} {K K' : Act → World → Prop} {s : Sem Value} {w : World} (hK : ∀ a w, K a w → K' a w) (h : o.upon P a K (normQ Q) ((do pure (Next.value (← s))).run P w)) : o.uponIn F n P a K' Q ((do pure (Next.value (← s))).run P w) := by
  simp only [Sem.run_bind] at h ⊢
  cases hr : s.run P w with
  | ok x w' => rw [hr] at h; exact hK _ _ h
  | halt x w' =>
    rw [hr] at h
    cases x <;> exact h.elim
theorem up_unit {o : Oper} {a : Act} {K K' : Act → World → Prop} {s : Sem Unit} {w : World} (hK : ∀ a w, K a w → K' a w) (h : o.upon P a K (normQ Q) ((do s; pure Next.skip).run P w)) : o.uponIn F n P a K' Q ((do s; pure Next.skip).run P w) := by
  simp only [Sem.run_bind] at h ⊢
  cases hr : s.run P w with
  | ok x w' => rw [hr] at h; exact hK _ _ h
  | halt x w' =>
    rw [hr] at h
    cases x <;> exact h.elim
theorem plain_wp {o : Oper} {a : Act} {K K' : Act → World → Prop} {w : World} (hp : plainOp o = true) (hK : ∀ a w, K a w → K' a w) (h : o.wp P a w K (normQ Q)) : o.wpIn F n P a w K' Q := by
  unfold Oper.wp at h
  unfold Oper.wpIn
  obtain ⟨dst, op, type, pos, after, guard⟩ := o
  have hs : ({ dst, op, type, pos, after, guard } : Oper).semAt F.round a.eval = execOp a.eval { dst, op, type, pos, after, guard } := Oper.semAt_eq _ _ _ fun c e => by
    simp only at e
    rw [e] at hp
    simp [plainOp] at hp
  rw [hs]
  cases op with
  | move x => exact ⟨fun f hf => by simp [Oper.about] at hf, hK _ _ h⟩
  | assign x => exact ⟨fun f hf => by simp [Oper.about] at hf, hK _ _ h⟩
  | pick c x y =>
    refine ⟨fun f hf => by simp [Oper.about] at hf, ?_⟩
    simp only [execOp] at h ⊢
    simp only [Sem.run_bind] at h ⊢
    cases hr : (asBool (a.eval c)).run P w with
    | ok x w' => rw [hr] at h; exact hK _ _ h
    | halt x w' =>
      rw [hr] at h
      cases x <;> exact h.elim
  | alloc t => exact ⟨fun f hf => by simp [Oper.about] at hf, up_value hK h⟩
  | load t x => exact ⟨fun f hf => by simp [Oper.about] at hf, up_value hK h⟩
  | store t x y => exact ⟨fun f hf => by simp [Oper.about] at hf, up_unit hK h⟩
  | binOp b t x y u => exact ⟨fun f hf => by simp [Oper.about] at hf, up_value hK h⟩
  | unOp b t x => exact ⟨fun f hf => by simp [Oper.about] at hf, up_value hK h⟩
  | fieldAddr s x f => exact ⟨fun f hf => by simp [Oper.about] at hf, up_value hK h⟩
  | indexAddr s x f => exact ⟨fun f hf => by simp [Oper.about] at hf, up_value hK h⟩
  | call c =>
    obtain ⟨callee, args, argTypes⟩ := c
    cases callee with
    | builtin b =>
      cases b with
      | max =>
        refine ⟨fun f hf => by simp [Oper.about, resolve, Target.leads] at hf, ?_⟩
        simp only [execOp, resolve, Sem.run_bind] at h ⊢
        exact up_value hK h
      | min =>
        refine ⟨fun f hf => by simp [Oper.about, resolve, Target.leads] at hf, ?_⟩
        simp only [execOp, resolve, Sem.run_bind] at h ⊢
        exact up_value hK h
      | _ => simp [plainOp] at hp
    | _ => simp [plainOp] at hp
  | _ => simp [plainOp] at hp
theorem plain_about {o : Oper} (hp : plainOp o = true) (w : World) (ρ : Operand → Value) : o.about P w ρ = none := by
  obtain ⟨dst, op, type, pos, after, guard⟩ := o
  cases op with
  | call c =>
    obtain ⟨callee, args, argTypes⟩ := c
    cases callee with
    | builtin b => simp [Oper.about, resolve, Target.leads]
    | _ => simp [plainOp] at hp
  | _ => simp [Oper.about]
theorem anyIn_of_til (hp : ∀ (i : Nat) o, ops[i]? = some o → plainOp o = true) : ∀ (f : Nat) (listed : Array Bool) (a : Act) (w : World), wpTil P md ops (normQ Q) S L f listed a w → wpAnyIn F n P md ops Q f listed a w
  | 0, _, _, _, h => h
  | f + 1, listed, a, w, h => by
    refine ⟨fun e => h.1 e, fun i hi => ?_⟩
    have h2 := h.2 i hi
    unfold wpOp at h2
    unfold wpOpIn
    cases ho : ops[i]? with
    | none =>
      rw [ho] at h2
      exact anyIn_of_til hp f _ _ _ h2.2
    | some o =>
      rw [ho] at h2
      simp only at h2 ⊢
      split at h2
      · rename_i hw
        rw [if_pos hw]
        rcases h2 with h2 | h2
        · exact plain_wp (hp i o ho) (fun a w k => anyIn_of_til hp f _ a w k.2) h2
        · exact absurd h2.2 (norm_out Q)
      · rename_i hw
        rw [if_neg hw]
        refine ⟨fun f hf => ?_, anyIn_of_til hp f _ _ _ h2.2⟩
        rw [plain_about (hp i o ho)] at hf
        cases hf
def plainOps (ops : Array Oper) : Bool := ops.all plainOp
theorem wpIn_region_til (L : Nat) {id : Nat} {a : Act} {w : World} (hm : P.follows .mixedOrders = true) (hp : plainOps ops = true) (hS : S w.drew)
    (h : S w.drew → wpTil P .any ops (normQ Q) S L ops.size (Array.replicate ops.size false) a w.drew) : (Code.region id ops true).wpIn F n P Q a w :=
  wpIn_region_any hm (anyIn_of_til (fun i o ho => by
    unfold plainOps at hp
    rw [Array.all_eq_true'] at hp
    exact hp o (Array.mem_of_getElem? ho)) _ _ _ _ (h hS))
theorem wpIn_max2 {o : Oper} {a : Act} {K : Act → World → Prop} {w : World} {x y : Operand} {t u : TypeId} {p q : Int} (hop : o.op = .call { callee := .builtin .max, args := #[x, y], argTypes := #[t, u] }) (hx : a.eval x = .int .i64 p) (hy : a.eval y = .int .i64 q) (hK : K (a.put o.dst (.int .i64 (max p q))) w) : o.wpIn F n P a w K Q := by
  refine plain_wp (by unfold plainOp; rw [hop]) (fun _ _ h => h) ?_
  unfold Oper.wp
  have h9 : (Builtin.max_ #[t, u] o.type #[.int .i64 p, .int .i64 q]).run P w = .ok (.int .i64 (max p q)) w := by
    rw [run_max_int2]
    congr 2
    split <;> omega
  simp [execOp, hop, resolve, invoke, builtin, hx, hy, h9, Result.andThen]
  exact hK
end
end Go.Proofs.YtfpepoebammeoaaGreat
set_option linter.unusedVariables false
namespace Go.Proofs.YtfpepoebammeoaaGreat
open Go

section
variable {P : Program} {ops : Array Oper} {Q : Exit → Act → World → Prop} {md : Region.Mode} {S : World → Prop} {L : Nat}
def hkOk (md : Region.Mode) (ops : Array Oper) (listed : Array Bool) (i : Nat) : Bool := Region.noSelect ops && Region.free md ops listed i && (Region.ready md ops listed).contains i
theorem tkH (i : Nat) (oi : Oper) {v : Value} {f : Nat} {listed : Array Bool} {a : Act} {w : World}
    (h : wpAnyH P md ops Q S f (listed.setIfInBounds i true) (a.put oi.dst v) w) (hi : ops[i]? = some oi := by rfl) (hk : hkOk md ops listed i = true := by kernel_rfl)
    (hw : Region.wanted oi (yielded ops a.tmps) = true := by kernel_rfl) (hQ : ∀ c a w, Q (.panic c) (a.put oi.dst v) w → Q (.panic c) a w := by exact fun _ _ _ h => h) (hS : S w := by assumption)
    (hy : ∀ w, S w → (execOp a.eval oi).run P w = .ok (.value v) w := by (intro w hSw; (try dsimp only at hSw); go_simp; try with_reducible rfl)) : wpAnyH P md ops Q S (f + 1) listed a w := by
  unfold hkOk at hk
  simp only [Bool.and_eq_true] at hk
  exact wpAnyH_take hi hk.1.1 hk.1.2 hk.2 hQ (.inl ⟨hw, hy⟩) hS h
theorem tkS (i : Nat) (oi : Oper) {f : Nat} {listed : Array Bool} {a : Act} {w : World}
    (h : wpAnyH P md ops Q S f (listed.setIfInBounds i true) (a.put oi.dst undef) w) (hi : ops[i]? = some oi := by rfl) (hk : hkOk md ops listed i = true := by kernel_rfl)
    (hw : Region.wanted oi (yielded ops a.tmps) = false := by kernel_rfl) (hQ : ∀ c a w, Q (.panic c) (a.put oi.dst undef) w → Q (.panic c) a w := by exact fun _ _ _ h => h) (hS : S w := by assumption) : wpAnyH P md ops Q S (f + 1) listed a w := by
  unfold hkOk at hk
  simp only [Bool.and_eq_true] at hk
  exact wpAnyH_take hi hk.1.1 hk.1.2 hk.2 hQ (.inr ⟨hw, rfl⟩) hS h
theorem tkT (i : Nat) (oi : Oper) {v : Value} {f : Nat} {listed : Array Bool} {a : Act} {w : World}
    (h : wpTil P md ops Q S L f (listed.setIfInBounds i true) (a.put oi.dst v) w) (hi : ops[i]? = some oi := by rfl) (hk : tkOk md ops listed L i = true := by kernel_rfl)
    (hw : Region.wanted oi (yielded ops a.tmps) = true := by kernel_rfl) (hQ : ∀ c a w, Q (.panic c) (a.put oi.dst v) w → Q (.panic c) a w := by exact fun _ _ _ h => h) (hS : S w := by assumption)
    (hy : ∀ w, S w → (execOp a.eval oi).run P w = .ok (.value v) w := by (intro w hSw; (try dsimp only at hSw); go_simp; try with_reducible rfl)) : wpTil P md ops Q S L (f + 1) listed a w :=
  til_t i oi hi hk hw hQ hS hy h
end
end Go.Proofs.YtfpepoebammeoaaGreat
set_option linter.unusedVariables false
namespace Go.Proofs.YtfpepoebammeoaaGreat
open Go.ChangeShapes Go.WideShapes Go.ChangeAt Go.RowKit

theorem infoIk : (Tryz.prog.info? 3).map (fun i => (i.zero, i.size, i.bytes)) = some (some (.int .i64 0), 1, 8) := by kernel_rfl
theorem infoSt : (Tryz.prog.info? 136).map (fun i => (i.zero, i.size, i.bytes)) = some (some (.agg #[.int .i64 0, .int .i64 0, .slice none 0 0]), 3, 40) := by kernel_rfl
theorem oneIk {k : IntKind} {x : Int} : ∀ u ∈ [Value.int k x], u.oneCell' = true := by
  intro u hu
  rw [List.mem_singleton] at hu
  rw [hu]; rfl
theorem oneSt {j k : IntKind} {x y : Int} {a : Option Addr} {n c : Nat} : ∀ u ∈ [Value.int j x, Value.int k y, Value.slice a n c], u.oneCell' = true := by
  intro u hu
  simp at hu
  rcases hu with rfl | rfl | rfl <;> rfl

set_option maxHeartbeats 2000000 in
set_option maxRecDepth 100000 in
theorem enter_any {w0 : World} {S p bb lb m E : Nat} {fv hv ov wv : Value} {op : List Nat} {bk ls : Nat → Nat} {sv : List (Stp × Value)} {F : Nat → Nat} {H : List Nat} {W : World} (h : HuntM w0 S p bb lb m fv hv ov wv op bk ls sv W) (hweb : WebK w0 fv hv m E F H) (hm : m ≤ 1000000) (hE : E ≤ 1000000) (v : Nat) (hv' : v < m) (hol : op.length ≤ 1000000) (hsl : sv.length ≤ 1000000) :
    Calls Tryz.prog 101 #[.pointer (some ⟨p, 0, none⟩), .int .i64 (v : Nat)] W fun e W' => e = .returned (.tuple #[]) ∧ ∃ ov' wv' bv, HuntM w0 S p bb lb m fv hv ov' wv' (op ++ [v]) (upd bk v (op.length + 1)) ls ((⟨v, op.length + 1, adjK m F H v⟩, bv) :: sv) W' := by
  obtain ⟨n, hn⟩ : ∃ n, n = op.length := ⟨_, rfl⟩
  obtain ⟨N, hN⟩ : ∃ N, N = n + 1 := ⟨_, rfl⟩
  obtain ⟨k, hk⟩ : ∃ k, k = sv.length := ⟨_, rfl⟩
  obtain ⟨oa, oc, rfl⟩ := h.ro.form
  obtain ⟨wa, wc, rfl⟩ := h.rw.form
  rw [← hn] at h hol ⊢
  rw [← hN]
  rw [← hk] at h hsl
  have HH := Lib.hid h
  have HN := Lib.hid hN
  have HNN := Lib.hid hn
  have HK := Lib.hid hk
  have hc2 := h.c2
  have hf2 := h.fr 2 (by decide)
  have hpl := h.pl
  have hro := h.ro
  rw [← hn] at hro
  have HSB : Hid (∀ W', Below W.heap.size W W' → Below w0.heap.size w0 W') := Lib.hid fun W' hb => (h.below hb).bl
  have hsrc : Src Tryz.prog 1 23 (.slice (some ⟨W.heap.size, 0, none⟩) 1 1) 1 [.int .i64 (v : Nat)] (W.alloc (.cells #[.int .i64 (v : Nat)] 3)) := src_new Tryz.underlying23 [.int .i64 (v : Nat)] 1 3 1 rfl oneIk
  have HSRC := Lib.hid hsrc
  have HRA := Lib.hid (hro.alloc (.cells #[.int .i64 (v : Nat)] 3))
  have hszw : S ≤ (W.alloc (.cells #[.int .i64 (v : Nat)] 3)).heap.size := by have := h.sz; simp; omega
  have hK6 : ∀ v6 w6, Row 1 S w6 v6 N (iv (nl op) ++ [.int .i64 (v : Nat)]) → Off (fun i => (Value.slice oa n oc).ownBlock = some i) (W.alloc (.cells #[.int .i64 (v : Nat)] 3)) w6 → (v6.ownBlock = (Value.slice oa n oc).ownBlock ∨ v6.ownBlock = some (W.alloc (.cells #[.int .i64 (v : Nat)] 3)).heap.size) →
      HuntM w0 S p bb lb m fv hv v6 (.slice wa k wc) (op ++ [v]) bk ls sv (w6.setCell ⟨p, 2, none⟩ v6) ∧ w6.cell? ⟨p, 2, none⟩ = some (.slice oa n oc) ∧ w6.frozen? ⟨p, 2, none⟩ = false := fun v6 w6 hr6 ho6 hw6 => by
    have ho : Off (fun i => (Value.slice oa n oc).ownBlock = some i) W w6 := ((Off.refl _ W).alloc _).trans ho6
    have hz : ¬ (Value.slice oa n oc).ownBlock = some p := fun e => by have := (h.ownO e).1; omega
    refine ⟨h.putO ho ?_ (hw6.imp id fun e => ⟨_, e, by simp⟩), (ho.cell (p := ⟨p, 2, none⟩) hpl hz).trans hc2, (ho.frozen (p := ⟨p, 2, none⟩) hpl hz).trans hf2⟩
    have e1 : (op ++ [v]).length = N := by rw [List.length_append, List.length_singleton, ← HNN.out, HN.out]
    have e2 : iv (nl (op ++ [v])) = iv (nl op) ++ [.int .i64 (v : Nat)] := by simp [iv, nl]
    rw [e1, e2]
    exact hr6
  have HK6 := Lib.hid hK6
  have HWB := Lib.hid hweb
  have hn1 : N ≤ 1000001 := by omega
  clear h hN hn hk hro hsrc hK6 hweb hf2
  go_enter Tryz.func101, Tryz.ntmps101
  go_wp2_with (at_builtin; refine wpList_append_row rfl (.tmp 8) (.tmp 10) 23 23 rfl 1 3 (.int .i64 0) 8 Tryz.underlying23 infoIk rfl S (.slice oa n oc) n (iv (nl op)) (by simp [Act.eval]) HRA.out (.slice (some ⟨W.heap.size, 0, none⟩) 1 1) (by simp [Act.eval]) 1 [.int .i64 (v : Nat)] HSRC.out hszw (by omega) (by decide) ?_; intro v6 w6 hr6 ho6 hw6; rw [← HN.out] at hr6; obtain ⟨h6, k6, f6⟩ := HK6.out v6 w6 hr6 ho6 hw6; obtain ⟨a6, c6, hv6⟩ := hr6.form; subst hv6; have H6 := Lib.hid h6; clear hr6 ho6 hw6 h6)
  obtain ⟨w7, hw7⟩ : ∃ w7, w7 = w6.setCell ⟨p, 2, none⟩ (.slice a6 N c6) := ⟨_, rfl⟩
  rw [← hw7] at H6 ⊢
  have g2 := H6.out.c2
  have g3 := H6.out.c3
  obtain ⟨gb, gf, _⟩ := H6.out.rb.cellF (bkv_at bk hv')
  have H8 := Lib.hid (H6.out.putB (x := N) hv')
  clear hw7 k6 f6 hc2
  go_region
  go_wp2_with fail
  obtain ⟨w8, hw8⟩ : ∃ w8, w8 = (w7.setCell ⟨bb, v, none⟩ (.int .i64 (N : Nat))).drew := ⟨_, rfl⟩
  rw [← hw8]
  have h8 : HuntM w0 S p bb lb m fv hv (.slice a6 N c6) (.slice wa k wc) (op ++ [v]) (upd bk v N) ls sv w8 := by rw [hw8]; exact H8.out.below (Below.refl _ _).drew
  have HE8 := Lib.hid h8
  have hs8 : ∀ X, Off (fun i => (Value.slice wa k wc).ownBlock = some i) w8 X → (X.cell? ⟨p, 0, none⟩ = some fv ∧ X.cell? ⟨p, 1, none⟩ = some hv ∧ X.cell? ⟨p, 2, none⟩ = some (.slice a6 N c6) ∧ X.cell? ⟨p, 4, none⟩ = some (.slice wa k wc) ∧ X.frozen? ⟨p, 4, none⟩ = false) := fun X ho => by
    have hp := h8.pl
    have hz : ¬ (Value.slice wa k wc).ownBlock = some p := fun e => by have := (h8.ownW e).1; omega
    exact ⟨(ho.cell (p := ⟨p, 0, none⟩) hp hz).trans h8.c0, (ho.cell (p := ⟨p, 1, none⟩) hp hz).trans h8.c1, (ho.cell (p := ⟨p, 2, none⟩) hp hz).trans h8.c2, (ho.cell (p := ⟨p, 4, none⟩) hp hz).trans h8.c4, (ho.frozen (p := ⟨p, 4, none⟩) hp hz).trans (h8.fr 4 (by decide))⟩
  have HS8 := Lib.hid hs8
  have HRW : Hid (Row 3 S w8 (.slice wa k wc) k (stV sv)) := Lib.hid (by have := h8.rw; rw [← HK.out] at this; exact this)
  have HSZ : Hid (S ≤ w8.heap.size) := Lib.hid h8.sz
  have HBH : Hid (Calls Tryz.prog 76 #[.agg #[fv, hv], .int .i64 (v : Nat)] w8.drew fun e w' => ∃ bv, e = .returned bv ∧ RI w0 bv (nl (adjK m F H v)) ∧ Below w8.drew.heap.size w8.drew w') := Lib.hid (behind_any fv hv m E F H w0 w8.drew HWB.out h8.bl.drew hm hE v hv')
  have HBF : Hid (∀ bv, RI w0 bv (nl (adjK m F H v)) → ∃ sa sn sc, bv = .slice sa sn sc) := Lib.hid (fun bv hbv => by obtain ⟨a, c, e⟩ := hbv.form; exact ⟨a, _, c, e⟩)
  clear hw8 h8 hs8 H8 g2 g3 gb gf
  refine wp_region_til (S := (fun W => W.cell? ⟨p, 0, none⟩ = some fv ∧ W.cell? ⟨p, 1, none⟩ = some hv ∧ W.cell? ⟨p, 2, none⟩ = some (.slice a6 N c6) ∧ W.cell? ⟨p, 4, none⟩ = some (.slice wa k wc) ∧ W.frozen? ⟨p, 4, none⟩ = false)) 22 (by kernel_rfl) ?_ (fun hHeld => ?_)
  · exact HS8.out _ (Off.refl _ _).drew
  refine tkT 0 ⟨some 25, .move (.tmp 0), 133, "hunt.go:62", #[], none⟩ ?_
  try simp only [Act.put, List.setIfInBounds_toArray, List.set_cons_zero, List.set_cons_succ]
  refine tkT 1 ⟨some 26, .move (.tmp 0), 133, "hunt.go:62", #[], none⟩ ?_
  try simp only [Act.put, List.setIfInBounds_toArray, List.set_cons_zero, List.set_cons_succ]
  refine tkT 2 ⟨some 27, .nilCheck (.tmp 26), 0, "hunt.go:62", #[⟨1, .data⟩], none⟩ ?_
  try simp only [Act.put, List.setIfInBounds_toArray, List.set_cons_zero, List.set_cons_succ]
  refine tkT 3 ⟨some 28, .fieldAddr 97 (.tmp 27) 3, 0, "hunt.go:62", #[⟨2, .data⟩], none⟩ ?_
  try simp only [Act.put, List.setIfInBounds_toArray, List.set_cons_zero, List.set_cons_succ]
  refine tkT 4 ⟨some 29, .load 95 (.tmp 28), 95, "hunt.go:62", #[⟨3, .data⟩], none⟩ ?_
  try simp only [Act.put, List.setIfInBounds_toArray, List.set_cons_zero, List.set_cons_succ]
  refine tkT 5 ⟨some 30, .move (.tmp 1), 3, "hunt.go:62", #[], none⟩ ?_
  try simp only [Act.put, List.setIfInBounds_toArray, List.set_cons_zero, List.set_cons_succ]
  refine tkT 6 ⟨some 31, .move (.tmp 0), 133, "hunt.go:62", #[], none⟩ ?_
  try simp only [Act.put, List.setIfInBounds_toArray, List.set_cons_zero, List.set_cons_succ]
  refine tkT 7 ⟨some 32, .nilCheck (.tmp 31), 0, "hunt.go:62", #[⟨6, .data⟩], none⟩ ?_
  try simp only [Act.put, List.setIfInBounds_toArray, List.set_cons_zero, List.set_cons_succ]
  refine tkT 8 ⟨some 33, .fieldAddr 97 (.tmp 32) 1, 0, "hunt.go:62", #[⟨7, .data⟩], none⟩ ?_
  try simp only [Act.put, List.setIfInBounds_toArray, List.set_cons_zero, List.set_cons_succ]
  refine tkT 9 ⟨some 34, .load 23 (.tmp 33), 23, "hunt.go:62", #[⟨8, .data⟩], none⟩ ?_
  try simp only [Act.put, List.setIfInBounds_toArray, List.set_cons_zero, List.set_cons_succ]
  refine tkT 10 ⟨some 35, .call { callee := Callee.builtin Builtin.len, args := #[.tmp 34], argTypes := #[23] }, 3, "hunt.go:62", #[⟨9, .data⟩], none⟩ ?_
  try simp only [Act.put, List.setIfInBounds_toArray, List.set_cons_zero, List.set_cons_succ]
  refine tkT 11 ⟨some 36, .move (.tmp 0), 133, "hunt.go:62", #[], none⟩ ?_
  try simp only [Act.put, List.setIfInBounds_toArray, List.set_cons_zero, List.set_cons_succ]
  refine tkT 12 ⟨some 37, .nilCheck (.tmp 36), 0, "hunt.go:62", #[⟨11, .data⟩], none⟩ ?_
  try simp only [Act.put, List.setIfInBounds_toArray, List.set_cons_zero, List.set_cons_succ]
  refine tkT 13 ⟨some 38, .fieldAddr 97 (.tmp 37) 0, 0, "hunt.go:62", #[⟨12, .data⟩], none⟩ ?_
  try simp only [Act.put, List.setIfInBounds_toArray, List.set_cons_zero, List.set_cons_succ]
  refine tkT 14 ⟨some 39, .load 71 (.tmp 38), 71, "hunt.go:62", #[⟨13, .data⟩], none⟩ ?_
  try simp only [Act.put, List.setIfInBounds_toArray, List.set_cons_zero, List.set_cons_succ]
  refine tkT 15 ⟨some 40, .move (.tmp 1), 3, "hunt.go:62", #[], none⟩ ?_
  try simp only [Act.put, List.setIfInBounds_toArray, List.set_cons_zero, List.set_cons_succ]
  refine til_one (i := 16) (o := ⟨some 41, .call { callee := Callee.value (Operand.func 76), args := #[.tmp 39, .tmp 40], argTypes := #[71, 3] }, 23, "hunt.go:62", #[⟨14, .data⟩, ⟨15, .data⟩], none⟩) (by kernel_rfl) rfl (fun KK hK => ?_)
  go_simp
  go_at_call 76
  refine HBH.out.mono ?_
  rintro e wb ⟨bv, rfl, hbv, hbb⟩
  have HBV := Lib.hid hbv
  have hz1 : Off (fun _ => False) w8 wb := (Off.refl _ w8).drew.trans (Off.of_below hbb)
  have HZ1 := Lib.hid hz1
  obtain ⟨sa, sn, sc, rfl⟩ := HBF.out bv hbv
  clear hbv hbb hz1
  refine hK.out _ _ ?_ (fun hHeld => ?_)
  · exact HS8.out _ (HZ1.out.mono fun _ h => h.elim)
  clear hK KK
  try simp only [Act.put, List.setIfInBounds_toArray, List.set_cons_zero, List.set_cons_succ]
  refine tkT 17 ⟨some 42, .build 136 #[(0, .tmp 30), (1, .tmp 35), (2, .tmp 41)], 136, "hunt.go:62", #[⟨5, .data⟩, ⟨10, .data⟩, ⟨16, .data⟩], none⟩ ?_
  try simp only [Act.put, List.setIfInBounds_toArray, List.set_cons_zero, List.set_cons_succ]
  refine til_one (i := 18) (o := ⟨some 43, .buildSlice 95 1 #[(0, .tmp 42)], 95, "hunt.go:62", #[⟨17, .data⟩], none⟩) (by kernel_rfl) rfl (fun KK hK => ?_)
  go_simp
  have HZ2 := Lib.hid (HZ1.out.alloc (.cells #[.int .i64 (v : Nat), .int .i64 (N : Nat), .slice sa sn sc] 136))
  refine hK.out _ _ ?_ (fun hHeld => ?_)
  · exact HS8.out _ (HZ2.out.mono fun _ h => h.elim)
  clear hK KK
  try simp only [Act.put, List.setIfInBounds_toArray, List.set_cons_zero, List.set_cons_succ]
  refine til_one (i := 19) (o := ⟨some 44, .call { callee := Callee.builtin Builtin.append, args := #[.tmp 29, .tmp 43], argTypes := #[95, 95] }, 95, "hunt.go:62", #[⟨4, .data⟩, ⟨18, .data⟩, ⟨16, .chain⟩], none⟩) (by kernel_rfl) rfl (fun KK hK => ?_)
  have hsrc : Src Tryz.prog 3 95 (.slice (some ⟨wb.heap.size, 0, none⟩) 1 1) 1 [.int .i64 (v : Nat), .int .i64 (N : Nat), .slice sa sn sc] (wb.alloc (.cells #[.int .i64 (v : Nat), .int .i64 (N : Nat), .slice sa sn sc] 136)) := src_new Tryz.underlying95 _ 1 136 1 rfl oneSt
  have hrw2 := HRW.out.off HZ2.out (fun _ _ h => h)
  have hszw : S ≤ (wb.alloc (.cells #[.int .i64 (v : Nat), .int .i64 (N : Nat), .slice sa sn sc] 136)).heap.size := Nat.le_trans HSZ.out HZ2.out.size
  refine step_append_row rfl (.tmp 29) (.tmp 43) 95 95 rfl 3 136 (.agg #[.int .i64 0, .int .i64 0, .slice none 0 0]) 40 Tryz.underlying95 infoSt rfl S (.slice wa k wc) k (stV sv) (by simp [Act.eval]) hrw2 (.slice (some ⟨wb.heap.size, 0, none⟩) 1 1) (by simp [Act.eval]) 1 _ hsrc hszw (by omega) (by decide) ?_
  intro v10 w10 hr10 ho10 hw10
  obtain ⟨a10, c10, hv10⟩ := hr10.form
  subst hv10
  have HR10 := Lib.hid hr10
  have HO10 := Lib.hid ((HZ2.out.mono (Z' := fun i => (Value.slice wa k wc).ownBlock = some i) fun _ h => h.elim).trans ho10)
  have HW10 := Lib.hid (hw10.imp id fun h => (⟨_, h, HZ2.out.size⟩ : ∃ i, (Value.slice a10 (k + 1) c10).ownBlock = some i ∧ w8.heap.size ≤ i))
  clear hr10 ho10 hw10 hsrc hrw2 hszw
  refine hK.out _ _ ?_ (fun hHeld => ?_)
  · exact HS8.out _ HO10.out
  clear hK KK
  try simp only [Act.put, List.setIfInBounds_toArray, List.set_cons_zero, List.set_cons_succ]
  refine til_one (i := 20) (o := ⟨some 45, .nilCheck (.tmp 25), 0, "hunt.go:62", #[⟨0, .data⟩, ⟨0, .phase⟩, ⟨1, .phase⟩, ⟨2, .phase⟩, ⟨3, .phase⟩, ⟨4, .phase⟩, ⟨5, .phase⟩, ⟨6, .phase⟩, ⟨7, .phase⟩, ⟨8, .phase⟩, ⟨9, .phase⟩, ⟨10, .phase⟩, ⟨11, .phase⟩, ⟨12, .phase⟩, ⟨13, .phase⟩, ⟨14, .phase⟩, ⟨15, .phase⟩, ⟨16, .phase⟩, ⟨17, .phase⟩, ⟨18, .phase⟩, ⟨19, .phase⟩], none⟩) (by kernel_rfl) rfl (fun KK hK => ?_)
  go_simp
  refine hK.out _ _ ?_ (fun hHeld => ?_)
  · exact HS8.out _ HO10.out
  clear hK KK
  try simp only [Act.put, List.setIfInBounds_toArray, List.set_cons_zero, List.set_cons_succ]
  refine tkT 21 ⟨some 46, .fieldAddr 97 (.tmp 45) 3, 0, "hunt.go:62", #[⟨20, .data⟩, ⟨0, .phase⟩, ⟨1, .phase⟩, ⟨2, .phase⟩, ⟨3, .phase⟩, ⟨4, .phase⟩, ⟨5, .phase⟩, ⟨6, .phase⟩, ⟨7, .phase⟩, ⟨8, .phase⟩, ⟨9, .phase⟩, ⟨10, .phase⟩, ⟨11, .phase⟩, ⟨12, .phase⟩, ⟨13, .phase⟩, ⟨14, .phase⟩, ⟨15, .phase⟩, ⟨16, .phase⟩, ⟨17, .phase⟩, ⟨18, .phase⟩, ⟨19, .phase⟩], none⟩ ?_
  try simp only [Act.put, List.setIfInBounds_toArray, List.set_cons_zero, List.set_cons_succ]
  refine til_last (o := ⟨none, .store 95 (.tmp 46) (.tmp 44), 0, "hunt.go:62", #[⟨21, .data⟩, ⟨19, .data⟩, ⟨19, .chain⟩, ⟨0, .phase⟩, ⟨1, .phase⟩, ⟨2, .phase⟩, ⟨3, .phase⟩, ⟨4, .phase⟩, ⟨5, .phase⟩, ⟨6, .phase⟩, ⟨7, .phase⟩, ⟨8, .phase⟩, ⟨9, .phase⟩, ⟨10, .phase⟩, ⟨11, .phase⟩, ⟨12, .phase⟩, ⟨13, .phase⟩, ⟨14, .phase⟩, ⟨15, .phase⟩, ⟨16, .phase⟩, ⟨17, .phase⟩, ⟨18, .phase⟩, ⟨19, .phase⟩], none⟩) (by kernel_rfl) rfl (by kernel_rfl) (fun KK hK => ?_)
  go_simp
  obtain ⟨_, _, _, q4, qf⟩ := hHeld
  go_simp
  refine hK.out _ _ ?_
  clear hK KK
  try simp only [Act.put, List.setIfInBounds_toArray, List.set_cons_zero, List.set_cons_succ]
  go_wp2_with fail
  go_end0
  refine ⟨rfl, .slice a6 N c6, .slice a10 (k + 1) c10, .slice sa sn sc, ?_⟩
  refine HE8.out.putW HO10.out ?_ HW10.out ?_
  · rw [stV_cons, List.length_cons, ← HK.out]
    exact HR10.out
  · intro s hs
    rcases List.mem_cons.1 hs with rfl | hs
    · exact HBV.out
    · exact HE8.out.left s hs
end Go.Proofs.YtfpepoebammeoaaGreat
