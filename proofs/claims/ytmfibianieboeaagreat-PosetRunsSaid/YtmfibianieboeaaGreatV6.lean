/- A drawing region whose last operation waits for all others: what S says need not hold behind that one, so that S may name the very cell that it stores into. A drawing region without calls of Go functions, inside a fence: what the plain walk says of it holds there, too. -/
import Derived.Deep.RegionHeld3
import Derived.OrdersIn
import Derived.Laws.Small
set_option linter.unusedVariables false
namespace Go.Proofs.YtmfibianieboeaaGreat
open Go

section
variable {P : Program} {ops : Array Oper} {Q : Exit → Act → World → Prop} {md : Region.Mode} {S : World → Prop} {L : Nat}

def wpTil (P : Program) (md : Region.Mode) (ops : Array Oper) (Q : Exit → Act → World → Prop) (S : World → Prop) (L : Nat) : Nat → Array Bool → Act → World → Prop
  | 0, listed, a, w => Region.ready md ops listed = [] ∧ Q .normal a w
  | f + 1, listed, a, w =>
    (Region.ready md ops listed = [] → Q .normal a w) ∧
    ∀ i ∈ Region.ready md ops listed, wpOp P ops Q i (fun a' w' => (i ≠ L → S w') ∧ wpTil P md ops Q S L f (listed.setIfInBounds i true) a' w') a w

theorem any_of_til : ∀ (f : Nat) (listed : Array Bool) (a : Act) (w : World), wpTil P md ops Q S L f listed a w → wpAny P md ops Q f listed a w
  | 0, _, _, _, h => h
  | f + 1, _, _, _, h => ⟨h.1, fun i hi => wpOp_mono (fun a' w' k => any_of_til f _ a' w' k.2) (h.2 i hi)⟩

def waitsFor (md : Region.Mode) (ops : Array Oper) (L i : Nat) : Bool := match ops[L]? with | some o => o.after.any (fun e => Region.binds md e && e.on == i) | none => false

theorem til_first {i : Nat} {oi : Oper} {v : Value} (hi : ops[i]? = some oi) (hsel : ∀ (j : Nat) (o : Oper) cs b, ops[j]? = some o → o.op ≠ .select cs b)
    (hQ : ∀ c a w, Q (.panic c) (a.put oi.dst v) w → Q (.panic c) a w) (hL : waitsFor md ops L i = true) :
    ∀ (f : Nat) (listed : Array Bool) (a : Act) (w : World),
      (∀ j oj, ops[j]? = some oj → j ≠ i → listed.getD j true = false → (∀ e ∈ oj.after, Region.binds md e = true → e.on ≠ i) → oi.apart ops oj = true) →
      i ∈ Region.ready md ops listed → YieldsIf P ops S oi v a → S w →
      wpTil P md ops Q S L f (listed.setIfInBounds i true) (a.put oi.dst v) w → wpTil P md ops Q S L (f + 1) listed a w := by
  intro f
  induction f with
  | zero =>
    intro listed a w _ hr hy hS H
    refine ⟨fun h => (by rw [h] at hr; cases hr), fun j hj => ?_⟩
    by_cases hji : j = i
    · subst hji; exact hy.wpOp hi hS ⟨fun _ => hS, H⟩
    · have k := ready_mono hj hji
      rw [H.1] at k
      cases k
  | succ f ih =>
    intro listed a w hfree hr hy hS H
    refine ⟨fun h => (by rw [h] at hr; cases hr), fun j hj => ?_⟩
    by_cases hji : j = i
    · subst hji; exact hy.wpOp hi hS ⟨fun _ => hS, H⟩
    · have h1 := H.2 j (ready_mono hj hji)
      obtain ⟨hjun, oj, hoj, hall⟩ := mem_ready.1 hj
      have hnot : ∀ e ∈ oj.after, Region.binds md e = true → e.on ≠ i := fun e he hb heq => by
        have g1 := hall e he hb
        have g0 := (mem_ready.1 hr).1
        rw [heq] at g1
        rcases Nat.lt_or_ge i listed.size with k | k
        · simp [k] at g0 g1; rw [g0] at g1; cases g1
        · simp [Array.getElem?_eq_none k] at g1
      have hjL : j ≠ L := fun e => by
        subst e
        unfold waitsFor at hL
        rw [hoj] at hL
        obtain ⟨x, hx, hb⟩ := Array.any_eq_true'.1 hL
        simp only [Bool.and_eq_true, beq_iff_eq] at hb
        exact hnot x hx hb.1 hb.2
      have h2 := wpOp_putIf hoj (hfree j oj hoj hji hjun hnot) (fun cs b => hsel i oi cs b hi) (fun cs b => hsel j oj cs b hoj) hQ hy h1
      have hfree' : ∀ k ok, ops[k]? = some ok → k ≠ i → (listed.setIfInBounds j true).getD k true = false →
          (∀ e ∈ ok.after, Region.binds md e = true → e.on ≠ i) → oi.apart ops ok = true := fun k ok hk hki hun hno => by
        refine hfree k ok hk hki ?_ hno
        by_cases hjk : j = k
        · subst hjk; exact hjun
        · rw [getD_set_ne true hjk] at hun; exact hun
      refine wpOp_mono (fun a' w' h3 => ⟨h3.2.1, ih (listed.setIfInBounds j true) a' w' hfree' (ready_mono hr (Ne.symm hji)) h3.1 (h3.2.1 hjL) ?_⟩) h2
      rw [Array.setIfInBounds_comm _ _ hji]
      exact h3.2.2

theorem til_take {i : Nat} {oi : Oper} {v : Value} {f : Nat} {listed : Array Bool} {a : Act} {w : World} (hi : ops[i]? = some oi)
    (hs : Region.noSelect ops = true) (hf : Region.free md ops listed i = true) (hr : (Region.ready md ops listed).contains i = true) (hL : waitsFor md ops L i = true)
    (hQ : ∀ c a w, Q (.panic c) (a.put oi.dst v) w → Q (.panic c) a w) (hy : YieldsIf P ops S oi v a) (hS : S w)
    (h : wpTil P md ops Q S L f (listed.setIfInBounds i true) (a.put oi.dst v) w) : wpTil P md ops Q S L (f + 1) listed a w :=
  til_first hi (Region.noSelect_spec hs) hQ hL f listed a w (Region.free_spec hi hf) (by simpa using hr) hy hS h

theorem til_one {i : Nat} {o : Oper} {f : Nat} {listed : Array Bool} {a : Act} {w : World} (hr : Region.ready md ops listed = [i]) (ho : ops[i]? = some o)
    (h : ∀ K' : Act → World → Prop, Shut (∀ a w, S w → (S w → wpTil P md ops Q S L f (listed.setIfInBounds i true) a w) → K' a w) → if Region.wanted o (yielded ops a.tmps) = true then Oper.wp P o a w K' Q else K' (a.put o.dst undef) w) :
    wpTil P md ops Q S L (f + 1) listed a w :=
  ⟨fun h0 => (by rw [hr] at h0; cases h0), fun j hj => by
    rw [hr] at hj
    rcases List.mem_cons.1 hj with rfl | hj
    · exact wpOp_step ho (fun K' hK => h K' (fun a w hS hW => hK a w ⟨fun _ => hS, hW hS⟩))
    · cases hj⟩

theorem til_last {o : Oper} {f : Nat} {listed : Array Bool} {a : Act} {w : World} (hr : Region.ready md ops listed = [L]) (ho : ops[L]? = some o) (hend : Region.ready md ops (listed.setIfInBounds L true) = [])
    (h : ∀ K' : Act → World → Prop, Shut (∀ a w, Q .normal a w → K' a w) → if Region.wanted o (yielded ops a.tmps) = true then Oper.wp P o a w K' Q else K' (a.put o.dst undef) w) :
    wpTil P md ops Q S L (f + 1) listed a w :=
  ⟨fun h0 => (by rw [hr] at h0; cases h0), fun j hj => by
    rw [hr] at hj
    rcases List.mem_cons.1 hj with rfl | hj
    · refine wpOp_step ho (fun K' hK => h K' (fun a w hq => hK a w ⟨fun k => absurd rfl k, ?_⟩))
      cases f with
      | zero => exact ⟨hend, hq⟩
      | succ f => exact ⟨fun _ => hq, by rw [hend]; simp⟩
    · cases hj⟩

theorem wp_region_til (L : Nat) {id : Nat} {a : Act} {w : World} (hm : P.follows .mixedOrders = true) (hS : S w.drew)
    (h : S w.drew → wpTil P .any ops Q S L ops.size (Array.replicate ops.size false) a w.drew) : (Code.region id ops true).wp P Q a w :=
  wp_region_any hm (any_of_til _ _ _ _ (h hS))

def tkOk (md : Region.Mode) (ops : Array Oper) (listed : Array Bool) (L i : Nat) : Bool := Region.noSelect ops && Region.free md ops listed i && (Region.ready md ops listed).contains i && waitsFor md ops L i
theorem til_t (i : Nat) (oi : Oper) {v : Value} {f : Nat} {listed : Array Bool} {a : Act} {w : World} (hi : ops[i]? = some oi) (hk : tkOk md ops listed L i = true)
    (hw : Region.wanted oi (yielded ops a.tmps) = true) (hQ : ∀ c a w, Q (.panic c) (a.put oi.dst v) w → Q (.panic c) a w) (hS : S w) (hy : ∀ w, S w → (execOp a.eval oi).run P w = .ok (.value v) w)
    (h : wpTil P md ops Q S L f (listed.setIfInBounds i true) (a.put oi.dst v) w) : wpTil P md ops Q S L (f + 1) listed a w := by
  unfold tkOk at hk
  simp only [Bool.and_eq_true] at hk
  exact til_take hi hk.1.1.1 hk.1.1.2 hk.1.2 hk.2 hQ (.inl ⟨hw, hy⟩) hS h
theorem til_s (i : Nat) (oi : Oper) {f : Nat} {listed : Array Bool} {a : Act} {w : World} (hi : ops[i]? = some oi) (hk : tkOk md ops listed L i = true)
    (hw : Region.wanted oi (yielded ops a.tmps) = false) (hQ : ∀ c a w, Q (.panic c) (a.put oi.dst undef) w → Q (.panic c) a w) (hS : S w)
    (h : wpTil P md ops Q S L f (listed.setIfInBounds i true) (a.put oi.dst undef) w) : wpTil P md ops Q S L (f + 1) listed a w := by
  unfold tkOk at hk
  simp only [Bool.and_eq_true] at hk
  exact til_take hi hk.1.1.1 hk.1.1.2 hk.1.2 hk.2 hQ (.inr ⟨hw, rfl⟩) hS h
end
end Go.Proofs.YtmfibianieboeaaGreat
set_option linter.unusedVariables false
namespace Go.Proofs.YtmfibianieboeaaGreat
open Go

section
variable {F : Fence} {n : Nat} {P : Program} {ops : Array Oper} {Q : Exit → Act → World → Prop} {md : Region.Mode} {S : World → Prop} {L : Nat}
def plainOp (o : Oper) : Bool := match o.op with
  | .move _ | .assign _ | .pick _ _ _ | .alloc _ | .load _ _ | .store _ _ _ | .binOp _ _ _ _ _ | .unOp _ _ _ | .fieldAddr _ _ _ | .indexAddr _ _ _ => true
  | .call c => match c.callee with | .builtin .max => true | .builtin .min => true | _ => false
  | _ => false
def normQ (Q : Exit → Act → World → Prop) : Exit → Act → World → Prop := fun e a w => match e with | .normal => Q .normal a w | _ => False
theorem norm_out (Q : Exit → Act → World → Prop) : ¬ LetsOut (normQ Q) := fun ⟨_, _, h⟩ => h
theorem up_value {o : Oper} {a : Act} {K K' : Act → World → Prop} {s : Sem Value} {w : World} (hK : ∀ a w, K a w → K' a w) (h : o.upon P a K (normQ Q) ((do pure (Next.value (← s))).run P w)) : o.uponIn F n P a K' Q ((do pure (Next.value (← s))).run P w) := by
  simp only [Sem.run_bind] at h ⊢
  cases hr : s.run P w with
  | ok x w' => rw [hr] at h; exact hK _ _ h
  | halt x w' =>
    rw [hr] at h
    cases x <;> exact h.elim
theorem up_unit {o : Oper} {a : Act} {K K' : Act → World → Prop} {s : Sem Unit} {w : World} (hK : ∀ a w, K a w → K' a w) (h : o.upon P a K (normQ Q) ((do s; pure Next.skip).run P w)) : o.uponIn F n P a K' Q ((do s; pure Next.skip).run P w) := by
  simp only [Sem.run_bind] at h ⊢
  cases hr : s.run P w with
  | ok x w' => rw [hr] at h; exact hK _ _ h
  | halt x w' =>
    rw [hr] at h
    cases x <;> exact h.elim
theorem plain_wp {o : Oper} {a : Act} {K K' : Act → World → Prop} {w : World} (hp : plainOp o = true) (hK : ∀ a w, K a w → K' a w) (h : o.wp P a w K (normQ Q)) : o.wpIn F n P a w K' Q := by
  unfold Oper.wp at h
  unfold Oper.wpIn
  obtain ⟨dst, op, type, pos, after, guard⟩ := o
  have hs : ({ dst, op, type, pos, after, guard } : Oper).semAt F.round a.eval = execOp a.eval { dst, op, type, pos, after, guard } := Oper.semAt_eq _ _ _ fun c e => by
    simp only at e
    rw [e] at hp
    simp [plainOp] at hp
  rw [hs]
  cases op with
  | move x => exact ⟨fun f hf => by simp [Oper.about] at hf, hK _ _ h⟩
  | assign x => exact ⟨fun f hf => by simp [Oper.about] at hf, hK _ _ h⟩
  | pick c x y =>
    refine ⟨fun f hf => by simp [Oper.about] at hf, ?_⟩
    simp only [execOp] at h ⊢
    simp only [Sem.run_bind] at h ⊢
    cases hr : (asBool (a.eval c)).run P w with
    | ok x w' => rw [hr] at h; exact hK _ _ h
    | halt x w' =>
      rw [hr] at h
      cases x <;> exact h.elim
  | alloc t => exact ⟨fun f hf => by simp [Oper.about] at hf, up_value hK h⟩
  | load t x => exact ⟨fun f hf => by simp [Oper.about] at hf, up_value hK h⟩
  | store t x y => exact ⟨fun f hf => by simp [Oper.about] at hf, up_unit hK h⟩
  | binOp b t x y u => exact ⟨fun f hf => by simp [Oper.about] at hf, up_value hK h⟩
  | unOp b t x => exact ⟨fun f hf => by simp [Oper.about] at hf, up_value hK h⟩
  | fieldAddr s x f => exact ⟨fun f hf => by simp [Oper.about] at hf, up_value hK h⟩
  | indexAddr s x f => exact ⟨fun f hf => by simp [Oper.about] at hf, up_value hK h⟩
  | call c =>
    obtain ⟨callee, args, argTypes⟩ := c
    cases callee with
    | builtin b =>
      cases b with
      | max =>
        refine ⟨fun f hf => by simp [Oper.about, resolve, Target.leads] at hf, ?_⟩
        simp only [execOp, resolve, Sem.run_bind] at h ⊢
        exact up_value hK h
      | min =>
        refine ⟨fun f hf => by simp [Oper.about, resolve, Target.leads] at hf, ?_⟩
        simp only [execOp, resolve, Sem.run_bind] at h ⊢
        exact up_value hK h
      | _ => simp [plainOp] at hp
    | _ => simp [plainOp] at hp
  | _ => simp [plainOp] at hp
theorem plain_about {o : Oper} (hp : plainOp o = true) (w : World) (ρ : Operand → Value) : o.about P w ρ = none := by
  obtain ⟨dst, op, type, pos, after, guard⟩ := o
  cases op with
  | call c =>
    obtain ⟨callee, args, argTypes⟩ := c
    cases callee with
    | builtin b => simp [Oper.about, resolve, Target.leads]
    | _ => simp [plainOp] at hp
  | _ => simp [Oper.about]
theorem anyIn_of_til (hp : ∀ (i : Nat) o, ops[i]? = some o → plainOp o = true) : ∀ (f : Nat) (listed : Array Bool) (a : Act) (w : World), wpTil P md ops (normQ Q) S L f listed a w → wpAnyIn F n P md ops Q f listed a w
  | 0, _, _, _, h => h
  | f + 1, listed, a, w, h => by
    refine ⟨fun e => h.1 e, fun i hi => ?_⟩
    have h2 := h.2 i hi
    unfold wpOp at h2
    unfold wpOpIn
    cases ho : ops[i]? with
    | none =>
      rw [ho] at h2
      exact anyIn_of_til hp f _ _ _ h2.2
    | some o =>
      rw [ho] at h2
      simp only at h2 ⊢
      split at h2
      · rename_i hw
        rw [if_pos hw]
        rcases h2 with h2 | h2
        · exact plain_wp (hp i o ho) (fun a w k => anyIn_of_til hp f _ a w k.2) h2
        · exact absurd h2.2 (norm_out Q)
      · rename_i hw
        rw [if_neg hw]
        refine ⟨fun f hf => ?_, anyIn_of_til hp f _ _ _ h2.2⟩
        rw [plain_about (hp i o ho)] at hf
        cases hf
def plainOps (ops : Array Oper) : Bool := ops.all plainOp
theorem wpIn_region_til (L : Nat) {id : Nat} {a : Act} {w : World} (hm : P.follows .mixedOrders = true) (hp : plainOps ops = true) (hS : S w.drew)
    (h : S w.drew → wpTil P .any ops (normQ Q) S L ops.size (Array.replicate ops.size false) a w.drew) : (Code.region id ops true).wpIn F n P Q a w :=
  wpIn_region_any hm (anyIn_of_til (fun i o ho => by
    unfold plainOps at hp
    rw [Array.all_eq_true'] at hp
    exact hp o (Array.mem_of_getElem? ho)) _ _ _ _ (h hS))
theorem wpIn_max2 {o : Oper} {a : Act} {K : Act → World → Prop} {w : World} {x y : Operand} {t u : TypeId} {p q : Int} (hop : o.op = .call { callee := .builtin .max, args := #[x, y], argTypes := #[t, u] }) (hx : a.eval x = .int .i64 p) (hy : a.eval y = .int .i64 q) (hK : K (a.put o.dst (.int .i64 (max p q))) w) : o.wpIn F n P a w K Q := by
  refine plain_wp (by unfold plainOp; rw [hop]) (fun _ _ h => h) ?_
  unfold Oper.wp
  have h9 : (Builtin.max_ #[t, u] o.type #[.int .i64 p, .int .i64 q]).run P w = .ok (.int .i64 (max p q)) w := by
    rw [run_max_int2]
    congr 2
    split <;> omega
  simp [execOp, hop, resolve, invoke, builtin, hx, hy, h9, Result.andThen]
  exact hK
end
end Go.Proofs.YtmfibianieboeaaGreat
