/- The contract of the laws' Small. -/
import Derived.Test.YteaencgbgfnokaaDoorM28
set_option linter.unusedVariables false
namespace Go.Proofs.YteaencgbgfnokaaDoor
open Go.ChangeShapes Go.WideShapes Go.ChangeAt Go.RowKit

theorem sum_snoc {S : SetB} {k : Nat} {p : ByteArray × Lb} (h : S[k]? = some p) : ((S.take (k + 1)).map fun p => p.2.length).sum = ((S.take k).map fun p => p.2.length).sum + p.2.length := by
  rw [List.take_add_one, h, List.map_append, List.sum_append]
  simp
theorem sum_room {S : SetB} (hD : ∀ p ∈ S, p.2.length ≤ 140737488355328) : ∀ k, ((S.take k).map fun p => p.2.length).sum ≤ k * 140737488355328 := by
  intro k
  induction k with
  | zero => simp
  | succ k ih =>
    cases h : S[k]? with
    | none =>
      have e : S.take k = S := List.take_of_length_le (List.getElem?_eq_none_iff.1 h)
      have e2 : S.take (k + 1) = S := List.take_of_length_le (by have := List.getElem?_eq_none_iff.1 h; omega)
      rw [e] at ih
      rw [e2, Nat.succ_mul]
      exact Nat.le_trans ih (Nat.le_add_right _ _)
    | some p =>
      rw [sum_snoc h, Nat.succ_mul]
      exact Nat.add_le_add ih (hD p (List.mem_of_getElem? h))
def SmallP (S : SetB) (w : World) (e : Ending) (w' : World) : Prop := ∃ b, e = .returned (.bool b) ∧ (b = true ↔ SmallS S) ∧ Below w.heap.size w w'
set_option maxHeartbeats 600000 in
set_option maxRecDepth 100000 in
theorem small_any (S : SetB) (v : Value) (w : World) (hS : SReads w v S) (hD : ∀ p ∈ S, p.2.length ≤ 140737488355328) (hn9 : S.length ≤ 140737488355328) :
    Calls Tryd.prog 5 #[v] w (SmallP S w) := by
  obtain ⟨sa, sc, rfl, _⟩ := hS.form
  obtain ⟨n, hnn⟩ : ∃ n, n = S.length := ⟨_, rfl⟩
  rw [← hnn] at hS hn9 ⊢
  have HS := Lib.hid hS
  have HN := Lib.hid hnn
  have HD := Lib.hid hD
  have HR := Lib.hid (sum_room hD)
  clear hS hnn hD
  have cells : ∀ k, k < n → ∀ W, Below w.heap.size w W → ∃ sb so nm nt da dl dc oa ol oc, sa = some ⟨sb, so, none⟩ ∧ W.cell? ⟨sb, so + k * 4, none⟩ = some (.string nm) ∧ W.cell? ⟨sb, so + k * 4 + 1, none⟩ = some (.string nt) ∧ W.cell? ⟨sb, so + k * 4 + 2, none⟩ = some (.slice da dl dc) ∧ W.cell? ⟨sb, so + k * 4 + 3, none⟩ = some (.slice oa ol oc) ∧ dl ≤ 140737488355328 ∧ ((S.take (k + 1)).map fun p => p.2.length).sum = ((S.take k).map fun p => p.2.length).sum + dl := fun k hk W hW => by
    obtain ⟨p, hp⟩ : ∃ p, S[k]? = some p := ⟨S[k]'(by rw [← HN.out]; exact hk), by simp⟩
    obtain ⟨sb, so, rfl, hsl, hat⟩ := HS.out.at hp
    obtain ⟨nt, dv, oa, ol, oc, c0, c1, c2, c3, hdr⟩ := hat.below hW hsl
    obtain ⟨da, dc, hdv, _⟩ := hdr.form
    subst hdv
    exact ⟨sb, so, p.1, nt, da, _, dc, oa, ol, oc, rfl, c0, c1, c2, c3, HD.out p (List.mem_of_getElem? hp), sum_snoc hp⟩
  have HC := Lib.hid cells
  clear cells
  by_cases hn : n ≤ 60
  · go_enter Tryd.func5, Tryd.ntmps5
    go_wp2_with fail
    go_loopw [3, 8] (fun tv jv wr => ∃ k t : Nat, jv = .int .i64 (k : Nat) ∧ k ≤ n ∧ tv = .int .i64 (t : Nat) ∧ t ≤ k * 140737488355328 ∧ Hid (t = ((S.take k).map fun p => p.2.length).sum) ∧ Hid (Below w.heap.size w wr)) (fun _ jv _ => n - (intOf jv).toNat)
    case atStart => exact ⟨0, 0, rfl, Nat.zero_le _, rfl, Nat.zero_le _, Lib.hid (by simp), Lib.hid (Below.refl _ _)⟩
    case round =>
      obtain ⟨k, t, rfl, hk, rfl, ht, HT, HB⟩ := hrel
      by_cases hlt : k < n
      · obtain ⟨sb, so, nm, nt, da, dl, dc, oa, ol, oc, rfl, c0, c1, c2, c3, hdl, hsum⟩ := HC.out k hlt wr HB.out
        have HSM := Lib.hid hsum
        have HB2 := Lib.hid (HB.out.alloc HB.out.size (.cells #[.string nm, .string nt, .slice da dl dc, .slice oa ol oc] 44))
        clear hsum
        go_wp2_with fail
        exact ⟨⟨k + 1, t + dl, by go_num, by omega, by go_num, by omega, Lib.hid (by rw [HSM.out, HT.out]), HB2⟩, by simp [intOf]; omega⟩
      · have hke : n = k := by omega
        subst hke
        have hall : S.take n = S := List.take_of_length_le (by rw [← HN.out]; exact Nat.le_refl _)
        have hts : t = (S.map fun p => p.2.length).sum := by rw [HT.out, hall]
        have HTS := Lib.hid hts
        have HN2 : Hid (SmallS S ↔ t ≤ 400) := Lib.hid (by unfold SmallS; rw [← HN.out, ← hts]; exact ⟨fun h => h.2, fun h => ⟨hn, h⟩⟩)
        clear hts hall
        go_wp2_with fail
        go_ret
        exact ⟨_, rfl, by rw [HN2.out, decide_eq_true_iff]; omega, HB.out⟩
  · have HNS : Hid (¬ SmallS S) := Lib.hid (fun h => hn (by rw [HN.out]; exact h.1))
    go_enter Tryd.func5, Tryd.ntmps5
    go_wp2_with fail
    go_loopw [3, 8] (fun tv jv wr => ∃ (k : Nat) (t : Int), jv = .int .i64 (k : Nat) ∧ k ≤ n ∧ tv = .int .i64 t ∧ Hid (Below w.heap.size w wr)) (fun _ jv _ => n - (intOf jv).toNat)
    case atStart => exact ⟨0, 0, rfl, Nat.zero_le _, rfl, Lib.hid (Below.refl _ _)⟩
    case round =>
      obtain ⟨k, t, rfl, hk, rfl, HB⟩ := hrel
      by_cases hlt : k < n
      · obtain ⟨sb, so, nm, nt, da, dl, dc, oa, ol, oc, rfl, c0, c1, c2, c3, hdl, hsum⟩ := HC.out k hlt wr HB.out
        have HB2 := Lib.hid (HB.out.alloc HB.out.size (.cells #[.string nm, .string nt, .slice da dl dc, .slice oa ol oc] 44))
        clear hsum
        go_wp2_with fail
        exact ⟨⟨k + 1, _, by go_num, by omega, rfl, HB2⟩, by simp [intOf]; omega⟩
      · go_wp2_with fail
        go_ret
        exact ⟨false, rfl, ⟨(fun h => by cases h), (fun h => absurd h HNS.out)⟩, HB.out⟩
end Go.Proofs.YteaencgbgfnokaaDoor
