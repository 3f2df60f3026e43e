/- A disk's log and pages: what stands there at each step of a commit. Mathematics alone. -/
import Derived.Test.YthamfbfeokmhgaaGreatDoorU17
import Derived.Test.YthamfbfeokmhgaaGreatDoorU33
set_option linter.unusedVariables false
namespace Go.Proofs.YthamfbfeokmhgaaGreatDoor

def pgS (S : List ByteArray) (j : Nat) : ByteArray := fullB (S.getD (64 + j) ByteArray.empty)
def goodP (N : Nat) (l : Pgs) : Prop := (∀ p ∈ l, p.1 < N ∧ p.2.size ≤ 512) ∧ (l.map Prod.fst).Nodup
def logB : Nat → Pgs → Pnd
  | _, [] => []
  | i, p :: r => (i, p.2) :: logB (i + 1) r
def pagB (l : Pgs) : Pnd := l.map fun p => (64 + p.1, p.2)
def updP (P : Nat → ByteArray) (l : Pgs) : Nat → ByteArray := fun j => match l.find? (fun p => p.1 == j) with | some p => fullB p.2 | none => P j
def sameP (l m : Pgs) : Prop := l.map (fun p => (p.1, fullB p.2)) = m.map (fun p => (p.1, fullB p.2))
def clearB : Pnd := [(0, ByteArray.empty)]
def commitBs (l : Pgs) : List Pnd := [logB 1 l, [(0, headB l)], pagB l, clearB]
def settleBs (l : Pgs) : List Pnd := [pagB l, clearB]
def Clean (S : List ByteArray) (P : Nat → ByteArray) : Prop := S.getD 0 ByteArray.empty = ByteArray.empty ∧ ∀ j, 64 + j < S.length → pgS S j = P j
def LogIs (S : List ByteArray) (l : Pgs) : Prop := ∀ i p, l[i]? = some p → fullB (S.getD (1 + i) ByteArray.empty) = fullB p.2
structure Armed (S : List ByteArray) (l : Pgs) (P : Nat → ByteArray) : Prop where
  good : goodP (S.length - 64) l
  n1 : 1 ≤ l.length
  n2 : l.length ≤ 63
  head : S.getD 0 ByteArray.empty = headB l
  log : LogIs S l
  pages : ∀ j, 64 + j < S.length → P j = updP (pgS S) l j
def StR (S : List ByteArray) (P : Nat → ByteArray) : Prop := Clean S P ∨ ∃ l, Armed S l P

theorem logB_len : ∀ (i : Nat) (l : Pgs), (logB i l).length = l.length
  | i, [] => rfl
  | i, p :: r => by rw [logB, List.length_cons, logB_len (i + 1) r, List.length_cons]
theorem logB_mem : ∀ {i : Nat} {l : Pgs} {q : Nat × ByteArray}, q ∈ logB i l → i ≤ q.1 ∧ q.1 < i + l.length ∧ ∃ p ∈ l, p.2 = q.2
  | i, [], q, h => by cases h
  | i, p :: r, q, h => by
    rw [logB] at h
    rcases List.mem_cons.1 h with rfl | h
    · exact ⟨Nat.le_refl _, by simp, p, by simp, rfl⟩
    · obtain ⟨h1, h2, x, h3, h4⟩ := logB_mem h
      exact ⟨by omega, by simp only [List.length_cons]; omega, x, by simp [h3], h4⟩
theorem logB_at : ∀ {i j : Nat} {l : Pgs} {p : Nat × ByteArray}, l[j]? = some p → (i + j, p.2) ∈ logB i l
  | i, j, [], p, h => by simp at h
  | i, 0, x :: r, p, h => by
    simp at h; subst h
    rw [logB]; simp
  | i, j + 1, x :: r, p, h => by
    have h' : r[j]? = some p := by simpa using h
    have := logB_at (i := i + 1) h'
    rw [logB]
    rw [show i + (j + 1) = i + 1 + j by omega]
    exact List.mem_cons_of_mem _ this
theorem logB_nodup : ∀ (i : Nat) (l : Pgs), ((logB i l).map Prod.fst).Nodup
  | i, [] => by simp [logB]
  | i, p :: r => by
    rw [logB, List.map_cons, List.nodup_cons]
    refine ⟨fun h => ?_, logB_nodup (i + 1) r⟩
    obtain ⟨q, hq, e⟩ := List.mem_map.1 h
    have := (logB_mem hq).1
    simp only at e; omega
theorem getDB_eq {S T : List ByteArray} {i : Nat} (h : S[i]? = T[i]?) : S.getD i ByteArray.empty = T.getD i ByteArray.empty := by
  rw [List.getD_eq_getElem?_getD, List.getD_eq_getElem?_getD, h]
theorem getDB_some {S : List ByteArray} {i : Nat} {d : ByteArray} (h : S[i]? = some d) : S.getD i ByteArray.empty = d := by
  rw [List.getD_eq_getElem?_getD, h]; rfl
theorem updP_mem {P : Nat → ByteArray} {l : Pgs} (hn : (l.map Prod.fst).Nodup) {p : Nat × ByteArray} (h : p ∈ l) : updP P l p.1 = fullB p.2 := by
  unfold updP
  cases e : l.find? (fun q => q.1 == p.1) with
  | none =>
    rw [List.find?_eq_none] at e
    exact absurd (by simp) (e p h)
  | some q =>
    have hq := List.find?_some e
    have hm := List.mem_of_find?_eq_some e
    have e1 : q.1 = p.1 := by simpa using hq
    obtain ⟨a, ha, hb⟩ := List.mem_iff_getElem.1 h
    obtain ⟨c, hc, hd⟩ := List.mem_iff_getElem.1 hm
    have a1 : (l.map Prod.fst)[c]? = some p.1 := by rw [List.getElem?_map, List.getElem?_eq_getElem hc, hd]; simp [e1]
    have a2 : (l.map Prod.fst)[a]? = some p.1 := by rw [List.getElem?_map, List.getElem?_eq_getElem ha, hb]; rfl
    have : c = a := (List.getElem?_inj (by simp; omega) hn).1 (a1.trans a2.symm)
    subst this
    have : q = p := by rw [← hb, ← hd]
    rw [this]
theorem updP_not {P : Nat → ByteArray} {l : Pgs} {j : Nat} (h : ∀ p ∈ l, p.1 ≠ j) : updP P l j = P j := by
  unfold updP
  rw [List.find?_eq_none.2 (fun p hp => by simpa using h p hp)]
theorem page_or (l : Pgs) (j : Nat) : (∃ p ∈ l, p.1 = j) ∨ ∀ p ∈ l, p.1 ≠ j := by
  by_cases h : ∃ p ∈ l, p.1 = j
  · exact .inl h
  · exact .inr fun p hp e => h ⟨p, hp, e⟩
theorem clean_log {S : List ByteArray} {P : Nat → ByteArray} {l : Pgs} (h : Clean S P) (hl : l.length ≤ 63) (kp : Nat → Bool) (b : Pnd) (hb : ∀ q ∈ b, q ∈ logB 1 l) (m : Nat) : Clean (sk kp S b m) P := by
  have ha : ∀ i, (i = 0 ∨ 64 ≤ i) → (sk kp S b m)[i]? = S[i]? := fun i hi => app_miss fun q hq e => by
    have := logB_mem (hb q hq)
    omega
  refine ⟨(getDB_eq (ha 0 (.inl rfl))).trans h.1, fun j hj => ?_⟩
  rw [sk_len] at hj
  unfold pgS
  rw [getDB_eq (ha (64 + j) (.inr (by omega)))]
  exact h.2 j hj
theorem log_all {S : List ByteArray} {l : Pgs} (hl : l.length ≤ 63) (hS : 64 ≤ S.length) : LogIs (appB S (logB 1 l)) l := fun i p hp => by
  have hi : i < l.length := (List.getElem?_eq_some_iff.1 hp).1
  rw [getDB_some (app_at (logB_nodup 1 l) (logB_at hp) (by omega))]
theorem one_write {S : List ByteArray} {x : ByteArray} (kp : Nat → Bool) (k m : Nat) : sk kp S (([(0, x)] : Pnd).take k) m = S ∨ sk kp S (([(0, x)] : Pnd).take k) m = S.set 0 x := by
  cases k with
  | zero =>
    left
    have : ∀ m, sk kp S [] m = S := fun m => by
      induction m with
      | zero => rfl
      | succ m ih => rw [sk]; exact ih
    exact this m
  | succ k =>
    rw [show ([(0, x)] : Pnd).take (k + 1) = [(0, x)] by simp]
    cases m with
    | zero => exact .inl rfl
    | succ m =>
      have h1 : sk kp S [(0, x)] 1 = S ∨ sk kp S [(0, x)] 1 = S.set 0 x := by
        rw [sk_succ (q := (0, x)) rfl]
        split
        · exact .inr rfl
        · exact .inl rfl
      have h2 : ∀ m, sk kp S [(0, x)] (m + 1) = sk kp S [(0, x)] 1 := fun m => by
        induction m with
        | zero => rfl
        | succ m ih => rw [sk]; exact ih
      rw [h2 m]
      exact h1
theorem one_all (S : List ByteArray) (x : ByteArray) : appB S [(0, x)] = S.set 0 x := rfl
theorem set0_at {S : List ByteArray} (x : ByteArray) {i : Nat} (h : i ≠ 0) : (S.set 0 x)[i]? = S[i]? := List.getElem?_set_ne (fun e => h e.symm)
theorem set0_pg {S : List ByteArray} (x : ByteArray) (j : Nat) : pgS (S.set 0 x) j = pgS S j := by
  unfold pgS
  rw [getDB_eq (set0_at x (by omega))]
theorem updP_congr {P Q : Nat → ByteArray} {l : Pgs} {j : Nat} (h : P j = Q j) : updP P l j = updP Q l j := by
  unfold updP
  rw [h]
theorem arm {S : List ByteArray} {P : Nat → ByteArray} {l : Pgs} (h : Clean S P) (hg : goodP (S.length - 64) l) (h1 : 1 ≤ l.length) (h2 : l.length ≤ 63) (hS : 64 ≤ S.length) (hl : LogIs S l) : Armed (S.set 0 (headB l)) l (updP P l) :=
  ⟨by rw [List.length_set]; exact hg, h1, h2, getDB_some (List.getElem?_set_self (by omega)), fun i p hp => by rw [getDB_eq (set0_at _ (by omega))]; exact hl i p hp, fun j hj => by
    rw [List.length_set] at hj
    exact updP_congr (by rw [set0_pg, h.2 j hj])⟩
theorem pagB_mem {l : Pgs} {q : Nat × ByteArray} (h : q ∈ pagB l) : ∃ p ∈ l, q = (64 + p.1, p.2) := by
  obtain ⟨p, hp, e⟩ := List.mem_map.1 h
  exact ⟨p, hp, e.symm⟩
theorem sameP.fst {l m : Pgs} (h : sameP l m) : l.map Prod.fst = m.map Prod.fst := by
  have := congrArg (List.map Prod.fst) h
  simpa [sameP, List.map_map, Function.comp_def] using this
theorem sameP.mem {l m : Pgs} (h : sameP l m) {q : Nat × ByteArray} (hq : q ∈ m) : ∃ p ∈ l, p.1 = q.1 ∧ fullB p.2 = fullB q.2 := by
  have h1 : (q.1, fullB q.2) ∈ l.map (fun p => (p.1, fullB p.2)) := by rw [h]; exact List.mem_map.2 ⟨q, hq, rfl⟩
  obtain ⟨p, hp, e⟩ := List.mem_map.1 h1
  injection e with e1 e2
  exact ⟨p, hp, e1, e2⟩
theorem armed_pages {S : List ByteArray} {P : Nat → ByteArray} {l m : Pgs} (h : Armed S l P) (hm : sameP l m) (kp : Nat → Bool) (b : Pnd) (hb : ∀ q ∈ b, q ∈ pagB m) (k : Nat) : Armed (sk kp S b k) l P := by
  have ha : ∀ i, i < 64 → (sk kp S b k)[i]? = S[i]? := fun i hi => app_miss fun q hq e => by
    obtain ⟨p, _, rfl⟩ := pagB_mem (hb q hq)
    simp only at e; omega
  refine ⟨by rw [sk_len]; exact h.good, h.n1, h.n2, (getDB_eq (ha 0 (by omega))).trans h.head, fun i p hp => ?_, fun j hj => ?_⟩
  · have hi : i < l.length := (List.getElem?_eq_some_iff.1 hp).1
    have := h.n2
    rw [getDB_eq (ha (1 + i) (by omega))]
    exact h.log i p hp
  · rw [sk_len] at hj
    rw [h.pages j hj]
    rcases page_or l j with ⟨p, hp, rfl⟩ | hno
    · rw [updP_mem h.good.2 hp, updP_mem h.good.2 hp]
    · refine updP_congr ?_
      unfold pgS
      rw [getDB_eq (app_miss (i := 64 + j) fun q hq e => ?_)]
      obtain ⟨p, hp, rfl⟩ := pagB_mem (hb q hq)
      obtain ⟨x, hx, e1, _⟩ := hm.mem hp
      simp only at e
      exact hno x hx (by omega)
theorem pages_all {S : List ByteArray} {P : Nat → ByteArray} {l m : Pgs} (h : Armed S l P) (hm : sameP l m) {j : Nat} (hj : 64 + j < S.length) : pgS (appB S (pagB m)) j = P j := by
  have hA := armed_pages h hm allK (pagB m) (fun q hq => hq) (pagB m).length
  have hnd : ((pagB m).map Prod.fst).Nodup := by
    have : (pagB m).map Prod.fst = (m.map Prod.fst).map (64 + ·) := by simp [pagB, List.map_map, Function.comp_def]
    rw [this, ← hm.fst]
    exact List.Pairwise.map _ (fun a b hab => by omega) h.good.2
  rw [h.pages j hj]
  rcases page_or l j with ⟨p, hp, rfl⟩ | hno
  · rw [updP_mem h.good.2 hp]
    obtain ⟨q, hq, e1, e2⟩ := sameP.mem (Eq.symm hm : sameP m l) hp
    unfold pgS
    rw [getDB_some (app_at hnd (List.mem_map.2 ⟨q, hq, by rw [e1]⟩) (by omega)), e2]
  · rw [updP_not hno]
    unfold pgS appB
    rw [getDB_eq (app_miss (i := 64 + j) fun q hq e => ?_)]
    obtain ⟨p, hp, rfl⟩ := pagB_mem hq
    obtain ⟨x, hx, e1, _⟩ := hm.mem hp
    simp only at e
    exact hno x hx (by omega)
theorem clear0 {S : List ByteArray} {P : Nat → ByteArray} (hS : 64 ≤ S.length) (h : ∀ j, 64 + j < S.length → pgS S j = P j) : Clean (S.set 0 ByteArray.empty) P :=
  ⟨getDB_some (List.getElem?_set_self (by omega)), fun j hj => by rw [List.length_set] at hj; rw [set0_pg]; exact h j hj⟩

def Left (n : Nat) (P : Nat → ByteArray) (Q : (Nat → ByteArray) → Prop) (x : Dk × Int) : Prop :=
  x.1.sure.length = n ∧ x.1.pend.length ≤ 63 ∧ ((x.2 = 0 ∧ x.1.off = false ∧ x.1.pend = [] ∧ Clean x.1.sure P) ∨ (x.2 = 20 ∧ x.1.off = true ∧ ∀ kp, ∃ R, Q R ∧ StR (sk kp x.1.sure x.1.pend x.1.pend.length) R))
theorem good_pag {n : Nat} {l m : Pgs} (h : goodP (n - 64) l) (hm : sameP l m) (hs : ∀ p ∈ m, p.2.size ≤ 512) : goodB n (pagB m) := fun q hq => by
  obtain ⟨p, hp, rfl⟩ := pagB_mem hq
  obtain ⟨x, hx, e1, _⟩ := hm.mem hp
  have := (h.1 x hx).1
  exact ⟨by simp only; omega, hs p hp⟩
theorem good_clear {n : Nat} (h : 64 ≤ n) : goodB n clearB := fun q hq => by
  rw [clearB, List.mem_singleton] at hq
  subst hq
  exact ⟨by simp only; omega, Nat.zero_le _⟩
theorem pag_len (l : Pgs) : (pagB l).length = l.length := by simp [pagB]
theorem settle_left {D : Dk} {l m : Pgs} {P : Nat → ByteArray} (ho : D.off = false) (hp : D.pend = []) (hS : 65 ≤ D.sure.length) (h : Armed D.sure l P) (hm : sameP l m) (hs : ∀ p ∈ m, p.2.size ≤ 512) : Left D.sure.length P (· = P) (runD D (settleBs m)) := by
  have hg : ∀ b ∈ settleBs m, goodB D.sure.length b := fun b hb => by
    simp only [settleBs, List.mem_cons, List.not_mem_nil, or_false] at hb
    rcases hb with rfl | rfl
    · exact good_pag h.good hm hs
    · exact good_clear (by omega)
  have hml : m.length = l.length := by
    have := congrArg List.length hm
    simpa [sameP] using this.symm
  have hn2 := h.n2
  by_cases hf : D.fuel < 0 ∨ (costR (settleBs m) : Int) ≤ D.fuel
  · rw [run_on _ D ho hp hg hf]
    refine ⟨appR_len _ _, Nat.zero_le _, .inl ⟨rfl, rfl, rfl, ?_⟩⟩
    show Clean ((appB D.sure (pagB m)).set 0 ByteArray.empty) P
    exact clear0 (by rw [appB_len]; omega) (fun j hj => pages_all h hm (by rwa [appB_len] at hj))
  · obtain ⟨done, b, rest, k, h1, h2, h3, h4⟩ := run_cut _ D ho hp hg (by omega) (by omega)
    rw [h4]
    match done, h1 with
    | [], h1 =>
      simp only [settleBs, List.nil_append, List.cons.injEq] at h1
      obtain ⟨rfl, _⟩ := h1
      refine ⟨rfl, by simp only [List.length_take, pag_len]; omega, .inr ⟨rfl, rfl, fun kp => ⟨P, rfl, .inr ⟨l, ?_⟩⟩⟩⟩
      exact armed_pages h hm kp _ (fun q hq => List.mem_of_mem_take hq) _
    | [x], h1 =>
      simp only [settleBs, List.cons_append, List.nil_append, List.cons.injEq] at h1
      obtain ⟨rfl, rfl, _⟩ := h1
      refine ⟨appR_len _ _, by simp only [List.length_take, clearB, List.length_singleton]; omega, .inr ⟨rfl, rfl, fun kp => ⟨P, rfl, ?_⟩⟩⟩
      show StR (sk kp (appB D.sure (pagB m)) (clearB.take k) (clearB.take k).length) P
      have hA := armed_pages h hm allK (pagB m) (fun q hq => hq) (pagB m).length
      rcases one_write (S := appB D.sure (pagB m)) (x := ByteArray.empty) kp k (clearB.take k).length with e | e
      · unfold clearB at e ⊢
        rw [e]; exact .inr ⟨l, hA⟩
      · unfold clearB at e ⊢
        rw [e]; exact .inl (clear0 (by rw [appB_len]; omega) (fun j hj => pages_all h hm (by rwa [appB_len] at hj)))
    | x :: y :: r, h1 =>
      have := congrArg List.length h1
      simp [settleBs] at this
theorem good_log {n : Nat} {l : Pgs} (h : ∀ p ∈ l, p.2.size ≤ 512) (hl : l.length ≤ 63) (hn : 64 ≤ n) : goodB n (logB 1 l) := fun q hq => by
  obtain ⟨h1, h2, p, hp, e⟩ := logB_mem hq
  exact ⟨by omega, e ▸ h p hp⟩
theorem sameP.rfl (l : Pgs) : sameP l l := Eq.refl _
theorem commit_good {n : Nat} {l : Pgs} (hg : goodP (n - 64) l) (h2 : l.length ≤ 63) (hn : 65 ≤ n) (hh : (headB l).size ≤ 512) : ∀ b ∈ commitBs l, goodB n b := fun b hb => by
  simp only [commitBs, List.mem_cons, List.not_mem_nil, or_false] at hb
  rcases hb with rfl | rfl | rfl | rfl
  · exact good_log (fun p hp => (hg.1 p hp).2) h2 (by omega)
  · intro q hq
    rw [List.mem_singleton] at hq
    subst hq
    exact ⟨by simp only; omega, hh⟩
  · exact good_pag hg (sameP.rfl l) (fun p hp => (hg.1 p hp).2)
  · exact good_clear (by omega)
theorem commit_cost (l : Pgs) : costR (commitBs l) = 2 * l.length + 6 := by
  simp only [commitBs, costR, logB_len, pag_len, clearB, List.length_singleton]; omega
theorem commit_cut {D : Dk} {l : Pgs} {P : Nat → ByteArray} (ho : D.off = false) (hp : D.pend = []) (hS : 65 ≤ D.sure.length) (h : Clean D.sure P) (hg : goodP (D.sure.length - 64) l) (h1 : 1 ≤ l.length) (h2 : l.length ≤ 63) (hh : (headB l).size ≤ 512) (hf0 : 0 ≤ D.fuel) (hf : D.fuel < (2 * l.length + 6 : Nat)) :
    (runD D (commitBs l)).1.sure.length = D.sure.length ∧ (runD D (commitBs l)).1.pend.length ≤ 63 ∧ (runD D (commitBs l)).2 = 20 ∧ (runD D (commitBs l)).1.off = true ∧
    (∀ kp, ∃ R, (R = P ∨ R = updP P l) ∧ StR (sk kp (runD D (commitBs l)).1.sure (runD D (commitBs l)).1.pend (runD D (commitBs l)).1.pend.length) R) ∧
    StR (runD D (commitBs l)).1.sure (if D.fuel < (l.length : Int) + 3 then P else updP P l) := by
  have hgd := commit_good hg h2 hS hh
  obtain ⟨done, b, rest, k, e1, e2, e3, e4⟩ := run_cut _ D ho hp hgd hf0 (by rw [commit_cost]; exact hf)
  rw [e4]
  have hL : Clean (appB D.sure (logB 1 l)) P := clean_log h h2 allK _ (fun q hq => hq) _
  have hLI : LogIs (appB D.sure (logB 1 l)) l := log_all h2 (by omega)
  have hA : Armed ((appB D.sure (logB 1 l)).set 0 (headB l)) l (updP P l) := arm hL (by rw [appB_len]; exact hg) h1 h2 (by rw [appB_len]; omega) hLI
  match done, e1 with
  | [], e1 =>
    simp only [commitBs, List.nil_append, List.cons.injEq] at e1
    obtain ⟨rfl, _⟩ := e1
    rw [logB_len] at e3
    simp only [costR] at e2
    refine ⟨rfl, by simp only [List.length_take, logB_len]; omega, rfl, rfl, fun kp => ⟨P, .inl rfl, .inl (clean_log h h2 kp _ (fun q hq => List.mem_of_mem_take hq) _)⟩, ?_⟩
    rw [if_pos (by omega)]
    exact .inl h
  | [x], e1 =>
    simp only [commitBs, List.cons_append, List.nil_append, List.cons.injEq] at e1
    obtain ⟨rfl, rfl, _⟩ := e1
    simp only [List.length_singleton] at e3
    simp only [costR, logB_len] at e2
    refine ⟨appR_len _ _, by simp only [List.length_take, List.length_singleton]; omega, rfl, rfl, fun kp => ?_, ?_⟩
    · show ∃ R, (R = P ∨ R = updP P l) ∧ StR (sk kp (appB D.sure (logB 1 l)) (([(0, headB l)] : Pnd).take k) (([(0, headB l)] : Pnd).take k).length) R
      rcases one_write (S := appB D.sure (logB 1 l)) (x := headB l) kp k (([(0, headB l)] : Pnd).take k).length with e | e
      · rw [e]; exact ⟨P, .inl rfl, .inl hL⟩
      · rw [e]; exact ⟨updP P l, .inr rfl, .inr ⟨l, hA⟩⟩
    · rw [if_pos (by omega)]
      exact .inl hL
  | [x, y], e1 =>
    simp only [commitBs, List.cons_append, List.nil_append, List.cons.injEq] at e1
    obtain ⟨rfl, rfl, rfl, _⟩ := e1
    rw [pag_len] at e3
    simp only [costR, logB_len, List.length_singleton] at e2
    refine ⟨appR_len _ _, by simp only [List.length_take, pag_len]; omega, rfl, rfl, fun kp => ⟨updP P l, .inr rfl, .inr ⟨l, ?_⟩⟩, ?_⟩
    · exact armed_pages hA (sameP.rfl l) kp _ (fun q hq => List.mem_of_mem_take hq) _
    · rw [if_neg (by omega)]
      exact .inr ⟨l, hA⟩
  | [x, y, z], e1 =>
    simp only [commitBs, List.cons_append, List.nil_append, List.cons.injEq] at e1
    obtain ⟨rfl, rfl, rfl, rfl, _⟩ := e1
    simp only [costR, logB_len, List.length_singleton, pag_len] at e2
    have hA2 := armed_pages hA (sameP.rfl l) allK (pagB l) (fun q hq => hq) (pagB l).length
    have hpg : ∀ j, 64 + j < (appB ((appB D.sure (logB 1 l)).set 0 (headB l)) (pagB l)).length → pgS (appB ((appB D.sure (logB 1 l)).set 0 (headB l)) (pagB l)) j = updP P l j := fun j hj => pages_all hA (sameP.rfl l) (by rwa [appB_len] at hj)
    refine ⟨appR_len _ _, by simp only [List.length_take, clearB, List.length_singleton]; omega, rfl, rfl, fun kp => ⟨updP P l, .inr rfl, ?_⟩, ?_⟩
    · show StR (sk kp (appB ((appB D.sure (logB 1 l)).set 0 (headB l)) (pagB l)) (clearB.take k) (clearB.take k).length) _
      rcases one_write (S := appB ((appB D.sure (logB 1 l)).set 0 (headB l)) (pagB l)) (x := ByteArray.empty) kp k (clearB.take k).length with e | e
      · unfold clearB at e ⊢
        rw [e]; exact .inr ⟨l, hA2⟩
      · unfold clearB at e ⊢
        rw [e]; exact .inl (clear0 (by rw [appB_len, List.length_set, appB_len]; omega) hpg)
    · rw [if_neg (by omega)]
      exact .inr ⟨l, hA2⟩
  | x :: y :: z :: u :: r, e1 =>
    have := congrArg List.length e1
    simp [commitBs] at this
theorem commit_left {D : Dk} {l : Pgs} {P : Nat → ByteArray} (ho : D.off = false) (hp : D.pend = []) (hS : 65 ≤ D.sure.length) (h : Clean D.sure P) (hg : goodP (D.sure.length - 64) l) (h1 : 1 ≤ l.length) (h2 : l.length ≤ 63) (hh : (headB l).size ≤ 512) (hf1 : -1 ≤ D.fuel) : Left D.sure.length (updP P l) (fun R => R = P ∨ R = updP P l) (runD D (commitBs l)) := by
  by_cases hf : D.fuel < 0 ∨ (costR (commitBs l) : Int) ≤ D.fuel
  · rw [run_on _ D ho hp (commit_good hg h2 hS hh) hf]
    refine ⟨appR_len _ _, Nat.zero_le _, .inl ⟨rfl, rfl, rfl, ?_⟩⟩
    have hL : Clean (appB D.sure (logB 1 l)) P := clean_log h h2 allK _ (fun q hq => hq) _
    have hA : Armed ((appB D.sure (logB 1 l)).set 0 (headB l)) l (updP P l) := arm hL (by rw [appB_len]; exact hg) h1 h2 (by rw [appB_len]; omega) (log_all h2 (by omega))
    show Clean ((appB ((appB D.sure (logB 1 l)).set 0 (headB l)) (pagB l)).set 0 ByteArray.empty) _
    exact clear0 (by rw [appB_len, List.length_set, appB_len]; omega) (fun j hj => pages_all hA (sameP.rfl l) (by rwa [appB_len] at hj))
  · rw [commit_cost] at hf
    obtain ⟨a, b, c, d, e, _⟩ := commit_cut ho hp hS h hg h1 h2 hh (by omega) (by omega)
    exact ⟨a, b, .inr ⟨c, d, e⟩⟩
theorem commit_done {D : Dk} {l : Pgs} (ho : D.off = false) (hp : D.pend = []) (hS : 65 ≤ D.sure.length) (hg : goodP (D.sure.length - 64) l) (h2 : l.length ≤ 63) (hh : (headB l).size ≤ 512) (hf : D.fuel < 0 ∨ ((2 * l.length + 6 : Nat) : Int) ≤ D.fuel) : (runD D (commitBs l)).2 = 0 := by
  rw [run_on _ D ho hp (commit_good hg h2 hS hh) (by rw [commit_cost]; exact hf)]
end Go.Proofs.YthamfbfeokmhgaaGreatDoor
