/- A method of a value, looked up through a pointer to it. -/
import Derived.Test.YteaencgbgfnokaaDoorM8
set_option linter.unusedVariables false
namespace Go.Proofs.YteaencgbgfnokaaDoor
open Go.ChangeShapes Go.WideShapes Go.ChangeAt Go.RowKit

theorem run_method_deref {P : Program} {fuel : Nat} {T E e : TypeId} {p : Addr} {v : Value} {w : World} {name : String} {f : FuncId} (hM : ((P.info? T).bind fun i => i.methods.find? (·.name == name)).map (fun m => (m.path.toList, m.func)) = some ([], some (f, false)))
     (hu : P.underlying T = some (.pointer E)) (hE : P.underlying E = some (.slice e)) (hc : w.cell? p = some v) :
    (Go.method (fuel + 1) T (.pointer (some p)) name).run P w = .ok (f, v) w := by
  obtain ⟨m, hm, he⟩ := Option.map_eq_some_iff.1 hM
  obtain ⟨I, hI, hi⟩ := Option.bind_eq_some_iff.1 hm
  have hp : m.path = #[] := by have := (Prod.mk.inj he).1; simpa using this
  have hf : m.func = some (f, false) := (Prod.mk.inj he).2
  unfold Go.method
  have ht : (typeInfo T).run P w = .ok I w := by simp [typeInfo, Sem.run_bind, hI]
  have hl : (loadVar E p).run P w = .ok v w := by
    have ha : (isAgg E).run P w = .ok false w := by
      unfold isAgg
      rw [Sem.run_bind, run_underlying hE w]
      rfl
    simp [loadVar, Sem.run_bind, ha, hc]
  have hw : ∀ nm, Builtin.ssaWrapNilChk_ #[T] T #[.pointer (some p), strVal "", strVal nm] = pure (.pointer (some p)) := fun _ => rfl
  rw [Sem.run_bind, ht]
  simp only [Result.andThen_ok, hi]
  simp [hp, hf, follow, receiverAt, Sem.run_bind, run_underlying hu, Place.get, hw, asAddr, hl]
end Go.Proofs.YteaencgbgfnokaaDoor
