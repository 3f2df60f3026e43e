/- A method of an embedded value, looked up through a pointer. -/
import Derived.Test.YteaencgbgfnokaaHp
set_option linter.unusedVariables false
namespace Go.Proofs.Yteaencgbgfnokaa
open Go.ChangeShapes Go.WideShapes Go.ChangeAt Go.RowKit

theorem run_method_emb {P : Program} {fuel : Nat} {T E e : TypeId} {p p' : Addr} {v : Value} {w : World} {name : String} {f : FuncId} {pth : List FieldStep} (hM : ((P.info? T).bind fun i => i.methods.find? (·.name == name)).map (fun m => (m.path.toList, m.func)) = some (pth, some (f, false)))
     (hF : (follow pth T (.val (.pointer (some p)))).run P w = .ok (E, .var p') w) (hE : P.underlying E = some (.slice e)) (hc : w.cell? p' = some v) :
    (Go.method (fuel + 1) T (.pointer (some p)) name).run P w = .ok (f, v) w := by
  obtain ⟨m, hm, he⟩ := Option.map_eq_some_iff.1 hM
  obtain ⟨I, hI, hi⟩ := Option.bind_eq_some_iff.1 hm
  have hp : m.path.toList = pth := (Prod.mk.inj he).1
  have hf : m.func = some (f, false) := (Prod.mk.inj he).2
  unfold Go.method
  have ht : (typeInfo T).run P w = .ok I w := by simp [typeInfo, Sem.run_bind, hI]
  have hl : (loadVar E p').run P w = .ok v w := by
    have ha : (isAgg E).run P w = .ok false w := by
      unfold isAgg
      rw [Sem.run_bind, run_underlying hE w]
      rfl
    simp [loadVar, Sem.run_bind, ha, hc]
  rw [Sem.run_bind, ht]
  simp only [Result.andThen_ok, hi]
  rw [Sem.run_bind, hp, hF]
  simp only [Result.andThen_ok, hf]
  have hr : ∀ wr, (receiverAt E (.var p') false wr).run P w = .ok v w := fun wr => by
    unfold receiverAt
    rw [Sem.run_bind, run_underlying hE w]
    exact hl
  rw [Sem.run_bind, hr]
  rfl
end Go.Proofs.Yteaencgbgfnokaa
