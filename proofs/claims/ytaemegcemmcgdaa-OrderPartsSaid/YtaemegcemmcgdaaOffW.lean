/- append to slices of elements of up to 128 bytes. No function of the program is named here. -/
import Derived.Test.YtaemegcemmcgdaaOff
set_option linter.unusedVariables false
namespace Go.Proofs.Ytaemegcemmcgdaa
open Go.ChangeShapes Go.WideShapes Go.ChangeAt Go.RowKit
section
variable {P : Program}
/-- append, out of whatever source. -/
theorem run_append_rowW {k B : Nat} {w : World} {v : Value} {n : Nat} {cs : List Value} (t tx ty e : TypeId) (z : Value) (bytes : Nat) (ht : P.underlying t = some (.slice e)) (hinfo : (P.info? e).map (fun i => (i.zero, i.size, i.bytes)) = some (some z, k, bytes)) (hzk : z.cells.size = k)
    (h : Row k B w v n cs) (x : Value) (m : Nat) (news : List Value) (hsrc : Src P k tx x m news w) (hB : B ≤ w.heap.size) (hl : n + m ≤ 1099511627776) (hb : bytes ≤ 128) :
    ∃ v' w', (Builtin.append_ #[t, tx] ty #[v, x]).run P w = .ok v' w' ∧ Row k B w' v' (n + m) (cs ++ news) ∧ Off (fun i => v.ownBlock = some i) w w' ∧ (v'.ownBlock = v.ownBlock ∨ v'.ownBlock = some w.heap.size) := by
  obtain ⟨i, hi, hzz⟩ := Option.map_eq_some_iff.1 hinfo
  simp only [Prod.mk.injEq] at hzz
  obtain ⟨hz, hsz, hby⟩ := hzz
  obtain ⟨hlen, h⟩ := h
  have hnl := hsrc.newsLen
  have htot : (cs ++ news).length = (n + m) * k := by rw [List.length_append, hlen, hnl, Nat.add_mul]
  rw [← hsz] at hsrc
  have grow : ∀ (base : Option Addr) (sCap : Nat), (Builtin.firstCells i.size n (.slice base n sCap)).run P w.drew = .ok cs.toArray w.drew → sCap < n + m →
      ∃ v' w', (Builtin.append_ #[t, tx] ty #[.slice base n sCap, x]).run P w = .ok v' w' ∧ Row k B w' v' (n + m) (cs ++ news) ∧ Off (fun i => (Value.slice base n sCap).ownBlock = some i) w w' ∧ (v'.ownBlock = (Value.slice base n sCap).ownBlock ∨ v'.ownBlock = some w.heap.size) := by
    intro base sCap hold hg
    have hfit : Builtin.nextslicecap (n + m) sCap * i.bytes ≤ 281474976710656 := growslice_fits hg (by
      rw [hby]
      have := Nat.mul_le_mul hl hb
      omega)
    have hr := run_append_grow_src (P := P) w t tx ty e i z ht hi hz base n sCap cs hold x m news hsrc hg (by omega) hfit
    have hge := grownCap_ge w (n + m) sCap e
    have hcm : grownCap w (n + m) sCap e ≤ maxLen := grownCap_le_maxLen w _ sCap e (by unfold maxLen; omega)
    refine ⟨_, _, hr, ?_, ?_, .inr rfl⟩
    · refine row_new (w := w.drew) (fr := (0, 0)) hB htot hge hcm ?_ (.inl rfl) (fun j u hu => ?_)
      · rw [Array.size_append, List.size_toArray, htot, size_zeroCells, hzk]
        have := Nat.add_mul (n + m) (grownCap w (n + m) sCap e - (n + m)) k
        rw [Nat.add_sub_cancel' hge] at this
        omega
      · rw [Array.getElem?_append, if_pos (by rw [List.size_toArray]; exact (List.getElem?_eq_some_iff.1 hu).1)]
        simpa using hu
    · exact ((Off.refl _ w).drew).alloc _
  rcases h with ⟨rfl, rfl⟩ | ⟨b, cap, rfl, h2, h3, h4, h5, h6, h7⟩
  · have hcs : cs = [] := List.length_eq_zero_iff.1 (by omega)
    subst hcs
    by_cases hm0 : m = 0
    · subst hm0
      have hnews : news = [] := List.length_eq_zero_iff.1 (by omega)
      subst hnews
      refine ⟨.slice none 0 0, w, ?_, ⟨by simp, .inl ⟨rfl, rfl⟩⟩, Off.refl _ _, .inl rfl⟩
      rcases hsrc.kind with ⟨e', hk⟩ | hk <;> simp [Builtin.append_, run_underlying ht, run_underlying hk, sizeOf, typeInfo, hi, hsrc.len, hsrc.cells]
    · exact grow none 0 (by simpa using run_firstCells_none w.drew i.size 0 0 0) (by omega)
  · by_cases hroom : n + m ≤ cap
    · have hfitk : (n + m) * k ≤ cap * k := Nat.mul_le_mul_right _ hroom
      have hr := run_append_room_src (P := P) w t tx ty e i ht hi b 0 n cap x m news hsrc hroom
        (fun j hj => by rw [hsz, Nat.zero_add]; exact (h6 _ (by rw [hnl] at hj; rw [Nat.add_mul] at hfitk; omega)).1) (fun j hj => by rw [hsz, Nat.zero_add]; exact (h6 _ (by rw [hnl] at hj; rw [Nat.add_mul] at hfitk; omega)).2)
      rw [hsz, Nat.zero_add] at hr
      obtain ⟨g1, g2, g3, g4, g5⟩ := heap_setCells news b (n * k) w
      refine ⟨_, _, hr, ⟨htot, .inr ⟨b, cap, rfl, h2, by rw [g1]; exact h3, hroom, h5, fun j hj => ?_, fun j u hu => ?_⟩⟩, ?_, .inl rfl⟩
      · exact ⟨World.isSome_setCells b news (n * k) w _ (h6 j hj).1, by rw [World.frozen?_setCells]; exact (h6 j hj).2⟩
      · have hjl : j < (cs ++ news).length := (List.getElem?_eq_some_iff.1 hu).1
        rw [htot] at hjl
        by_cases e1 : j < cs.length
        · rw [List.getElem?_append_left e1] at hu
          rw [World.cell?_setCells_out b news (n * k) w ⟨b, j, none⟩ (fun _ _ => .inl (by show j < n * k; omega))]
          exact h7 j u hu
        · rw [List.getElem?_append_right (by omega)] at hu
          have hj2 : j - cs.length < news.length := (List.getElem?_eq_some_iff.1 hu).1
          have hin := World.cell?_setCells_in b news (n * k) w (fun i hi => (h6 _ (by rw [hnl] at hi; rw [Nat.add_mul] at hfitk; omega)).1) (j - cs.length) hj2
          rw [show n * k + (j - cs.length) = j by omega] at hin
          rw [hin, ← hu, List.getElem?_eq_getElem hj2]
      · refine ⟨g3, g4, g5, by rw [g1]; exact Nat.le_refl _, fun i hi hn => g2 i (fun e => hn ?_)⟩
        subst e; rfl
    · refine grow (some ⟨b, 0, none⟩) cap (run_firstCells_some w.drew i.size n ⟨b, 0, none⟩ n cap cs (by rw [hsz]; exact hlen) (fun j u hu => ?_)) (by omega)
      have e2 : (⟨b, 0, none⟩ : Addr).add j = ⟨b, j, none⟩ := by unfold Addr.add; split <;> simp_all
      rw [e2]
      exact h7 j u hu

/-- At the operation. -/
theorem wp_append_rowW {w : World} {o : Oper} {a : Act} {K : Act → World → Prop} {Q : Exit → Act → World → Prop} (s x : Operand) (t tx : TypeId)
    (ho : o.op = .call { callee := .builtin .append, args := #[s, x], argTypes := #[t, tx] }) (k : Nat) (e : TypeId) (z : Value) (bytes : Nat) (ht : P.underlying t = some (.slice e)) (hinfo : (P.info? e).map (fun i => (i.zero, i.size, i.bytes)) = some (some z, k, bytes)) (hzk : z.cells.size = k)
    (B : Nat) (v : Value) (n : Nat) (cs : List Value) (hs : a.eval s = v) (h : Row k B w v n cs) (xv : Value) (hx : a.eval x = xv) (m : Nat) (news : List Value) (hsrc : Src P k tx xv m news w)
    (hB : B ≤ w.heap.size) (hl : n + m ≤ 1099511627776) (hb : bytes ≤ 128)
    (hK : ∀ v' w', Row k B w' v' (n + m) (cs ++ news) → Off (fun i => v.ownBlock = some i) w w' → (v'.ownBlock = v.ownBlock ∨ v'.ownBlock = some w.heap.size) → K (a.put o.dst v') w') : o.wp P a w K Q := by
  obtain ⟨v', w', hr, h2, h3, h4⟩ := run_append_rowW (P := P) t tx o.type e z bytes ht hinfo hzk h xv m news hsrc hB hl hb
  unfold Oper.wp execOp
  simp only [ho, resolve, invoke, builtin, Sem.run_bind, Sem.run_pure, Result.andThen_ok, List.map_toArray, List.map_cons, List.map_nil, hs, hx, hr]
  exact hK v' w' h2 h3 h4

theorem wpList_append_rowW {w : World} {ops : Array Oper} {rest : List Oper} {o : Oper} {a : Act} {Q : Exit → Act → World → Prop} (hgd : o.guard = none) (s x : Operand) (t tx : TypeId)
    (ho : o.op = .call { callee := .builtin .append, args := #[s, x], argTypes := #[t, tx] }) (k : Nat) (e : TypeId) (z : Value) (bytes : Nat) (ht : P.underlying t = some (.slice e)) (hinfo : (P.info? e).map (fun i => (i.zero, i.size, i.bytes)) = some (some z, k, bytes)) (hzk : z.cells.size = k)
    (B : Nat) (v : Value) (n : Nat) (cs : List Value) (hs : a.eval s = v) (h : Row k B w v n cs) (xv : Value) (hx : a.eval x = xv) (m : Nat) (news : List Value) (hsrc : Src P k tx xv m news w)
    (hB : B ≤ w.heap.size) (hl : n + m ≤ 1099511627776) (hb : bytes ≤ 128)
    (hK : ∀ v' w', Row k B w' v' (n + m) (cs ++ news) → Off (fun i => v.ownBlock = some i) w w' → (v'.ownBlock = v.ownBlock ∨ v'.ownBlock = some w.heap.size) → wpList P ops Q rest (a.put o.dst v') w') : wpList P ops Q (o :: rest) a w :=
  wpList_plain hgd fun _ hk => wp_append_rowW s x t tx ho k e z bytes ht hinfo hzk B v n cs hs h xv hx m news hsrc hB hl hb fun v' w' h2 h3 h4 => hk _ _ (hK v' w' h2 h3 h4)

end
end Go.Proofs.Ytaemegcemmcgdaa
