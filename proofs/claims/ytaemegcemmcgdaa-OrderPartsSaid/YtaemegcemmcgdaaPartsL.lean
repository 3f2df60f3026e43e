/- What OrderParts wants beside Missing's contract. -/
import Derived.Test.YtaemegcemmcgdaaMissR
import Derived.Test.YtaemegcemmcgdaaBegL
import Derived.Test.YtaemegcemmcgdaaTurnM
set_option linter.unusedVariables false
namespace Go.Proofs.Ytaemegcemmcgdaa
open Go.ChangeShapes Go.WideShapes Go.ChangeAt Go.RowKit

theorem out_nodup {S : SetB} {out : Lb} (h : LinOk S (out.map bsOf)) : out.Nodup :=
  (List.pairwise_map.1 h.nodup).imp fun h e => h (by rw [e])
theorem amid_true {hs : Lb} {x : ByteArray} (h : x ∈ hs) : amid hs x = true := decide_eq_true ((sortedB_mem hs x).2 h)
theorem amid_false {hs : Lb} {x : ByteArray} (h : x ∉ hs) : amid hs x = false := decide_eq_false (fun k => h ((sortedB_mem hs x).1 k))
/-- What is missing behind the first j. -/
theorem miss_drop {out : Lb} (h : out.Nodup) (j : Nat) : (out.filter fun x => !amid (out.take j) x) = out.drop j := by
  have hd : ((out.take j) ++ (out.drop j)).Nodup := by rw [List.take_append_drop]; exact h
  have hdis := (List.nodup_append.1 hd).2.2
  conv => lhs; arg 2; rw [← List.take_append_drop j out]
  rw [List.filter_append]
  have e1 : (out.take j).filter (fun x => !amid (out.take j) x) = [] := List.filter_eq_nil_iff.2 fun x hx => by rw [amid_true hx]; simp
  have e2 : (out.drop j).filter (fun x => !amid (out.take j) x) = out.drop j := List.filter_eq_self.2 fun x hx => by
    rw [amid_false (fun k => hdis x k x hx rfl)]; rfl
  rw [e1, e2]; rfl
/-- A slice that reads, as the source of an append. -/
theorem src_reads {w : World} {a : Option Addr} {n c : Nat} {xs : Lb} (h : Reads w (.slice a n c) xs) : Src Try.prog 1 25 (.slice a n c) n (xs.map Value.string) w := by
  have h1 : ∀ u ∈ xs.map Value.string, u.oneCell' = true := fun u hu => by
    obtain ⟨x, _, rfl⟩ := List.mem_map.1 hu
    rfl
  rcases h with ⟨rfl, a', c', e⟩ | ⟨hn, b, o, c', e, hc, hm, hb, hx⟩
  · simp only [Value.slice.injEq] at e
    obtain ⟨rfl, rfl, rfl⟩ := e
    cases a with
    | none => exact Src.ofNil w Try.underlying25 _
    | some b => exact Src.ofSlice w Try.underlying25 b 0 c [] rfl (by simp) (by simp)
  · simp only [Value.slice.injEq] at e
    obtain ⟨rfl, rfl, rfl⟩ := e
    refine Src.ofSlice w Try.underlying25 _ xs.length c _ (by simp) (fun j u hj => ?_) h1
    rw [List.getElem?_map] at hj
    obtain ⟨x, hx1, rfl⟩ := Option.map_eq_some_iff.1 hj
    have := hx j x hx1
    rw [show (⟨b, o, none⟩ : Addr).add j = ⟨b, o + j, none⟩ by unfold Addr.add; simp]
    exact this
/-- The rest of a slice that reads. -/
theorem Reads.back {w : World} {b o n c m : Nat} {xs : Lb} (h : Reads w (.slice (Option.some ⟨b, o, none⟩) n c) xs) (hm : m ≤ n) : Reads w (.slice (Option.some ⟨b, o + m, none⟩) (n - m) (c - m)) (xs.drop m) := by
  rcases h with ⟨rfl, a', c', e⟩ | ⟨hn, b', o', c', e, hc, hmx, hb, hx⟩
  · simp only [Value.slice.injEq] at e
    obtain ⟨_, rfl, _⟩ := e
    exact .inl ⟨by simp, some ⟨b, o + m, none⟩, c - m, by simp⟩
  · simp only [Value.slice.injEq, Option.some.injEq, Addr.mk.injEq] at e
    obtain ⟨⟨rfl, rfl, _⟩, rfl, rfl⟩ := e
    by_cases h0 : xs.drop m = []
    · have hl : xs.length - m = 0 := by have := congrArg List.length h0; simpa using this
      rw [h0, hl]; exact .inl ⟨rfl, _, _, rfl⟩
    · refine .inr ⟨h0, b, o + m, c - m, by rw [List.length_drop], by rw [List.length_drop]; omega, by omega, hb, fun j x hj => ?_⟩
      rw [List.getElem?_drop] at hj
      have := hx (m + j) x hj
      rw [show o + m + j = o + (m + j) by omega]; exact this
end Go.Proofs.Ytaemegcemmcgdaa
