/- append of a slice of lines that is read; what Right gives at each hunk. -/
import Derived.Test.YteppgjdkoakpeaaDoorRight
set_option linter.unusedVariables false
namespace Go.Proofs.YteppgjdkoakpeaaDoor
open Go.ChangeShapes Go.WideShapes Go.ChangeAt Go.RowKit

theorem strs_oneCell (ys : Ls) : ∀ u ∈ ys.map Value.string, u.oneCell' = true := by
  intro u hu
  obtain ⟨_, _, rfl⟩ := List.mem_map.1 hu
  rfl

theorem wpList_app_sl {ops : Array Oper} {rest : List Oper} {o : Oper} {a : Act} {Q : Exit → Act → World → Prop} (hgd : o.guard = none) (s x : Operand)
    (ho : o.op = .call { callee := .builtin .append, args := #[s, x], argTypes := #[22, 22] })
    (base : Nat) (wr : World) (v : Value) (n : Nat) (xs : List Value) (hs : a.eval s = v) (hown : wr.ownsRow base 9 1 v n xs) (ao : Option Addr) (m c : Nat) (hx : a.eval x = .slice ao m c) (ys : Ls) (hsl : Sl wr (.slice ao m c) ys)
    (h63 : n + ys.length ≤ 1000000000000) (hbase : base ≤ wr.heap.size)
    (h : ∀ v' w', w'.ownsRow base 9 1 v' (n + ys.length) (xs ++ ys.map .string) → wr.grownBy w' v.ownBlock → Below base wr w' → (v'.ownBlock = v.ownBlock ∨ v'.ownBlock = some wr.heap.size) → wpList Tryd.prog ops Q rest (a.put o.dst v') w') :
    wpList Tryd.prog ops Q (o :: rest) a wr := by
  obtain ⟨i, hi, hz, hsize, hby⟩ := info_parts Tryd.infoStr
  rcases hsl with ⟨e, rfl⟩ | ⟨ad, c', e, h1, h2, h3⟩
  · rw [e] at hx
    refine wpList_plain hgd fun K hK' => ?_
    have hrun := run_append_owned_none (P := Tryd.prog) wr base 22 o.type 9 i 1 Tryd.underlying22 hi v n xs hown
    unfold Oper.wp
    simp [execOp, ho, resolve, invoke, builtin, hs, hx, hrun, Result.andThen]
    exact hK' _ _ (by simpa using h v wr (by simpa using hown) (World.grownBy.refl _ _) (Below.refl _ _) (.inl rfl))
  · simp only [Value.slice.injEq] at e
    obtain ⟨rfl, rfl, rfl⟩ := e
    refine wpList_append_own_at _ hgd s x 22 ho base 9 i (.string ByteArray.empty) 1 16 Tryd.underlying22 hi hz hsize hby rfl (by decide) v n xs hs hown ad ys.length c (ys.map .string) hx (by simp) ?_ (strs_oneCell ys) (by unfold maxLen; omega) (by omega) hbase ?_
    · intro j u hj
      have hne : ys ≠ [] := by rintro rfl; simp at hj
      obtain ⟨b, off, rfl, hc⟩ := h3 hne
      rw [show (⟨b, off, none⟩ : Addr).add j = ⟨b, off + j, none⟩ by unfold Addr.add; split <;> simp_all]
      rw [List.getElem?_map] at hj
      obtain ⟨y, hy, rfl⟩ := Option.map_eq_some_iff.1 hj
      exact hc.2 j y hy
    · intro v' w' h1' h2' h3' h4'
      refine h v' w' h1' h2' ((Below.refl _ _).grown h2' hbase (fun k hk => (hown.lt k hk).1)) ?_
      first | exact h4' | exact h4'.2

theorem sl_sub {w : World} {aa : Option Addr} {al ca : Nat} {A : Ls} (h : Sl w (.slice aa al ca) A) {lo hi : Nat} (h1 : lo ≤ hi) (h2 : hi ≤ al) {ao : Option Addr} {n c : Nat} (e1 : ca = lo → ao = aa) (e2 : ¬ ca = lo → ao = Option.map (fun x => x.add lo) aa) (en : n = hi - lo) (ec : c = ca - lo) :
    Sl w (.slice ao n c) ((A.drop lo).take (hi - lo)) := by
  subst en ec
  rcases h with ⟨e, rfl⟩ | ⟨a, c, e, k1, k2, k3⟩
  · simp only [Value.slice.injEq] at e
    obtain ⟨rfl, rfl, rfl⟩ := e
    have : lo = 0 := by omega
    subst this
    have : hi = 0 := by omega
    subst this
    rw [e1 rfl]
    exact .inl ⟨rfl, rfl⟩
  · simp only [Value.slice.injEq] at e
    obtain ⟨rfl, rfl, rfl⟩ := e
    have hl : ((A.drop lo).take (hi - lo)).length = hi - lo := by rw [List.length_take, List.length_drop]; omega
    by_cases hc : ca = lo
    · rw [e1 hc]
      have he : (A.drop lo).take (hi - lo) = [] := List.length_eq_zero_iff.1 (by omega)
      rw [he]
      exact .inr ⟨a, ca - lo, by rw [show hi - lo = 0 by omega]; rfl, by simp, by omega, fun h => absurd rfl h⟩
    · rw [e2 hc]
      refine .inr ⟨a.add lo, ca - lo, by rw [hl]; rfl, by omega, by omega, fun hn => ?_⟩
      obtain ⟨b, o, rfl, hcc⟩ := k3 (by rintro rfl; simp at hn)
      refine ⟨b, o + lo, by rw [Addr.add_lit], hcc.1, fun j x hx => ?_⟩
      have hj : j < hi - lo := by have := (List.getElem?_eq_some_iff.1 hx).1; omega
      rw [List.getElem?_take_of_lt hj, List.getElem?_drop] at hx
      rw [Nat.add_assoc]
      exact hcc.2 (lo + j) x hx

theorem right_at {n : Int} {hs : List Hk} {m : Nat} {k : Hk} (a : Ls) (hn0 : 0 ≤ n) (hr : rightL hs n = true) (hk : hs[m]? = some k) :
    0 ≤ (pre a (hs.take m)).2 ∧ (pre a (hs.take m)).2 ≤ k.at_ ∧ k.at_ ≤ n ∧ 0 ≤ k.cut ∧ k.at_ + k.cut ≤ n ∧ pre a (hs.take (m + 1)) = appStep a (pre a (hs.take m)) k := by
  have e : hs = hs.take m ++ k :: hs.drop (m + 1) := by
    obtain ⟨hm, e⟩ := List.getElem?_eq_some_iff.1 hk
    rw [← e, List.getElem_cons_drop, List.take_append_drop]
  have hn : pre a (hs.take (m + 1)) = appStep a (pre a (hs.take m)) k := by rw [List.take_add_one, hk, Option.toList_some, pre_snoc]
  unfold rightL at hr
  rw [e, rightFrom_append, Bool.and_eq_true, rightFrom, Bool.and_eq_true] at hr
  have ho := okH_iff.1 hr.2.1
  rcases List.eq_nil_or_concat (hs.take m) with he | ⟨i, q, he⟩
  · rw [he] at ho
    have h2 : (pre a (hs.take m)).2 = 0 := by rw [he]; rfl
    simp only [lastEnd, List.foldl_nil] at ho
    exact ⟨by omega, by omega, by omega, by omega, by omega, hn⟩
  · rw [List.concat_eq_append] at he
    have h2 : (pre a (hs.take m)).2 = hend q := by rw [he, pre_snoc]; rfl
    have h1 := hr.1
    rw [he, rightFrom_append, Bool.and_eq_true, rightFrom, Bool.and_eq_true] at h1
    have hq := okH_iff.1 h1.2.1
    have hl := lastEnd_bounds i (-1) (by omega) (by omega) h1.1
    rw [he, lastEnd_snoc] at ho
    unfold hend at ho h2
    exact ⟨by omega, by omega, by omega, by omega, by omega, hn⟩

def PTame (hs : List Hk) : Prop := hs.length ≤ 10000 ∧ ∀ k ∈ hs, k.put.length ≤ 1000000

theorem take_more {a : Ls} {d t : Nat} {x : ByteArray} (hd : d ≤ t) (hx : a[t]? = some x) : (a.drop d).take (t + 1 - d) = (a.drop d).take (t - d) ++ [x] := by
  rw [show t + 1 - d = t - d + 1 by omega, List.take_add_one, List.getElem?_drop, show d + (t - d) = t by omega, hx]
  rfl
end Go.Proofs.YteppgjdkoakpeaaDoor
