/- Plain mathematics of lines: no program is named here. The contracts of the functions that tell a marker: the program's and the document's. -/
import Derived.Test.YtojnagonhihknaaGreatDoorRows
import Derived.Lib.Split
import Derived.Lib.SplitLaws
import Derived.Lib.Join
import Derived.Test.YtojnagonhihknaaGreatDoorV1
set_option linter.unusedVariables false
namespace Go.Proofs.YtojnagonhihknaaGreatDoor

def spl : List UInt8 → List (List UInt8)
  | [] => [[]]
  | c :: r => if c = 10 then [] :: spl r else
    match spl r with
    | [] => [[c]]
    | x :: t => (c :: x) :: t

theorem spl_nil : spl [] = [[]] := rfl
theorem spl_ten (r : List UInt8) : spl (10 :: r) = [] :: spl r := by simp [spl]
theorem spl_cons {c : UInt8} {r x : List UInt8} {t : List (List UInt8)} (h : c ≠ 10) (e : spl r = x :: t) : spl (c :: r) = (c :: x) :: t := by
  rw [spl, if_neg h, e]
theorem spl_ne (l : List UInt8) : spl l ≠ [] := by
  cases l with
  | nil => simp [spl]
  | cons c r =>
    by_cases h : c = 10
    · subst h; rw [spl_ten]; simp
    · rw [spl, if_neg h]
      split <;> simp
theorem spl_form (l : List UInt8) : ∃ x t, spl l = x :: t := by
  cases h : spl l with
  | nil => exact absurd h (spl_ne l)
  | cons x t => exact ⟨x, t, rfl⟩

theorem spl_length (l : List UInt8) : (spl l).length = l.count 10 + 1 := by
  induction l with
  | nil => rfl
  | cons c r ih =>
    by_cases h : c = 10
    · subst h; rw [spl_ten]; simp [ih]
    · obtain ⟨x, t, e⟩ := spl_form r
      rw [spl_cons h e, List.count_cons_of_ne (by simpa using h), ← ih, e]; rfl

theorem spl_at : ∀ (m : Nat) (l : List UInt8), (∀ j, j < m → l[j]? ≠ some 10) → l[m]? = some 10 → spl l = l.take m :: spl (l.drop (m + 1))
  | 0, l, _, h => by
    cases l with
    | nil => simp at h
    | cons c r =>
      have : c = 10 := by simpa using h
      subst this
      rw [spl_ten]; rfl
  | m + 1, l, hn, h => by
    cases l with
    | nil => simp at h
    | cons c r =>
      have hc : c ≠ 10 := fun e => hn 0 (by omega) (by simp [e])
      have ih := spl_at m r (fun j hj e => hn (j + 1) (by omega) (by simpa using e)) (by simpa using h)
      rw [spl_cons hc ih]
      rfl

theorem spl_none : ∀ (l : List UInt8), (∀ j : Nat, l[j]? ≠ some 10) → spl l = [l]
  | [], _ => rfl
  | c :: r, h => by
    have hc : c ≠ 10 := fun e => h 0 (by simp [e])
    rw [spl_cons hc (spl_none r (fun j e => h (j + 1) (by simpa using e)))]

theorem splitK_spl (s : List UInt8) : Lib.splitK [10] 0 (Lib.count s [10]) s = spl s := by
  induction s with
  | nil => rw [Lib.count_one]; rfl
  | cons b l ih =>
    by_cases h : b = 10
    · subst h
      have hix : Lib.index (10 :: l) [10] = 0 := by rw [Lib.index]; simp [List.isPrefixOf]
      rw [Lib.count_cons_eq, Nat.add_comm, Lib.splitK, hix]
      simp only [Int.toNat_zero, Nat.zero_add, List.length_cons, List.length_nil, List.drop_succ_cons, List.drop_zero, List.take_zero]
      rw [if_neg (by decide), ih, spl_ten]
    · have hp : ([10] : List UInt8).isPrefixOf (b :: l) = false := by simp [List.isPrefixOf, Ne.symm h]
      have hix : Lib.index (b :: l) [10] = if Lib.index l [10] == -1 then -1 else Lib.index l [10] + 1 := by rw [Lib.index, hp]; simp
      rw [Lib.count_cons_ne b 10 l h]
      by_cases hm : Lib.index l [10] = -1
      · rw [Lib.count_miss hm] at ih ⊢
        rw [spl_cons h ih.symm]
        rfl
      · have hge := Lib.index_ge l [10]
        obtain ⟨j, hj⟩ : ∃ j : Nat, Lib.index l [10] = j := ⟨(Lib.index l [10]).toNat, by omega⟩
        rw [Lib.count_hit (by simp) hj] at ih ⊢
        rw [Nat.add_comm 1, Lib.splitK, hj, if_neg (by simp)] at ih
        rw [Nat.add_comm 1, Lib.splitK, hix, if_neg (fun e => hm (beq_iff_eq.1 e)), hj, if_neg (by simp; omega)]
        rw [spl_cons h ih.symm]
        have e : ((j : Int) + 1).toNat = j + 1 := by omega
        rw [e]
        rfl

theorem join_spl (s : List UInt8) : Lib.join (spl s) [10] = s := by
  induction s with
  | nil => exact Lib.join_one _ _
  | cons c r ih =>
    obtain ⟨x, t, e⟩ := spl_form r
    rw [e, Lib.join_cons] at ih
    by_cases h : c = 10
    · subst h
      rw [spl_ten, e, Lib.join_cons, Lib.joinTail, List.map_cons, List.flatten_cons, ← Lib.joinTail]
      simp [← ih]
    · rw [spl_cons h e, Lib.join_cons, List.cons_append, ih]

theorem spl_app_ten (x r : List UInt8) (h : 10 ∉ x) : spl (x ++ 10 :: r) = x :: spl r := by
  induction x with
  | nil => exact spl_ten r
  | cons c x ih =>
    simp only [List.mem_cons, not_or] at h
    rw [List.cons_append, spl_cons (fun e => h.1 e.symm) (ih h.2)]

theorem spl_plain (x : List UInt8) (h : 10 ∉ x) : spl x = [x] :=
  spl_none x fun j e => h (List.mem_of_getElem? e)

theorem spl_join : ∀ (xs : List (List UInt8)), xs ≠ [] → (∀ x ∈ xs, 10 ∉ x) → spl (Lib.join xs [10]) = xs
  | [], h, _ => absurd rfl h
  | [x], _, h => by rw [Lib.join_one]; exact spl_plain x (h x (by simp))
  | x :: y :: t, _, h => by
    have ih := spl_join (y :: t) (by simp) (fun z hz => h z (by simp [hz]))
    rw [Lib.join_cons, Lib.joinTail, List.map_cons, List.flatten_cons, ← Lib.joinTail, List.append_assoc]
    rw [Lib.join_cons] at ih
    show spl (x ++ 10 :: (y ++ _)) = _
    rw [spl_app_ten x _ (h x (by simp)), ih]

theorem spl_append (a b : List UInt8) : ∃ (u v : List (List UInt8)) (p q : List UInt8), spl a = u ++ [p] ∧ spl b = q :: v ∧ spl (a ++ b) = u ++ (p ++ q) :: v := by
  induction a with
  | nil =>
    obtain ⟨q, v, e⟩ := spl_form b
    exact ⟨[], v, [], q, rfl, e, by simpa using e⟩
  | cons c r ih =>
    obtain ⟨u, v, p, q, h1, h2, h3⟩ := ih
    by_cases h : c = 10
    · subst h
      exact ⟨[] :: u, v, p, q, by rw [spl_ten, h1]; rfl, h2, by rw [List.cons_append, spl_ten, h3]; rfl⟩
    · cases u with
      | nil => exact ⟨[], v, c :: p, q, spl_cons h h1, h2, by rw [List.cons_append, spl_cons h h3]; rfl⟩
      | cons x u => exact ⟨(c :: x) :: u, v, p, q, spl_cons h h1, h2, by rw [List.cons_append, spl_cons h h3]; rfl⟩

def mkB (l : List UInt8) : ByteArray := ⟨l.toArray⟩
theorem mkB_data (s : ByteArray) : mkB s.data.toList = s := by cases s; simp [mkB]
theorem data_mkB (l : List UInt8) : (mkB l).data.toList = l := by simp [mkB]
theorem mkB_inj {a b : List UInt8} (h : mkB a = mkB b) : a = b := by rw [← data_mkB a, h, data_mkB]
theorem data_inj {a b : ByteArray} (h : a.data.toList = b.data.toList) : a = b := by rw [← mkB_data a, h, mkB_data]
def bsp (s : ByteArray) : List ByteArray := (spl s.data.toList).map mkB
theorem bsp_ne (s : ByteArray) : bsp s ≠ [] := by simp [bsp, spl_ne]
theorem bsp_length (s : ByteArray) : (bsp s).length = s.data.toList.count 10 + 1 := by simp [bsp, spl_length]
theorem bsp_length_le (s : ByteArray) : (bsp s).length ≤ s.size + 1 := by
  have := List.count_le_length (a := (10 : UInt8)) (l := s.data.toList)
  have e : s.data.toList.length = s.size := Array.length_toList
  rw [bsp_length]; omega
theorem splitB_bsp (s : ByteArray) : Lib.splitB ⟨#[10]⟩ 0 (Lib.countB s ⟨#[10]⟩) s = bsp s := by
  have h := Lib.splitB_data ⟨#[10]⟩ 0 (Lib.countB s ⟨#[10]⟩) s
  rw [show (⟨#[10]⟩ : ByteArray).data.toList = [10] from rfl, show Lib.countB s ⟨#[10]⟩ = Lib.count s.data.toList [10] from rfl, splitK_spl] at h
  unfold bsp
  rw [← h, List.map_map]
  have e : (mkB ∘ fun x : ByteArray => x.data.toList) = id := by funext x; exact mkB_data x
  rw [e, List.map_id]
theorem data_bsp (s : ByteArray) : (bsp s).map (·.data.toList) = spl s.data.toList := by
  unfold bsp
  rw [List.map_map]
  have e : ((fun x : ByteArray => x.data.toList) ∘ mkB) = id := by funext x; exact data_mkB x
  rw [e, List.map_id]
theorem countB_bsp (s : ByteArray) : Lib.countB s ⟨#[10]⟩ + 1 = (bsp s).length := by
  rw [bsp_length]
  show Lib.count s.data.toList [10] + 1 = _
  rw [Lib.count_one]
end Go.Proofs.YtojnagonhihknaaGreatDoor
set_option linter.unusedVariables false
namespace Go.Proofs.YtojnagonhihknaaGreatDoor
open Go.ChangeShapes Go.WideShapes Go.ChangeAt Go.RowKit

theorem byte_at {s : ByteArray} {k : Nat} (h : k < s.size) : s.data.toList[k]? = some s[k] := by
  have e : k < s.data.size := h
  rw [Array.getElem?_toList, Array.getElem?_eq_getElem e]
  rfl

def mk (l : List UInt8) : Bool := decide (7 ≤ l.length) && (l.take 7 == [62, 62, 62, 62, 62, 62, 62] || l.take 7 == [61, 61, 61, 61, 61, 61, 61] || l.take 7 == [60, 60, 60, 60, 60, 60, 60])

theorem ext7 (s : ByteArray) : (s.extract 0 7).toList = s.data.toList.take 7 := by
  rw [ByteArray.toList_eq, Lib.extract_data]; simp

theorem mk_short (l : List UInt8) (h : l.length < 7) : mk l = false := by
  have : ¬ 7 ≤ l.length := by omega
  simp [mk, this]
theorem mk_yes (l : List UInt8) (h : 7 ≤ l.length) (e : (l.take 7 == [62, 62, 62, 62, 62, 62, 62]) = true ∨ (l.take 7 == [61, 61, 61, 61, 61, 61, 61]) = true ∨ (l.take 7 == [60, 60, 60, 60, 60, 60, 60]) = true) : mk l = true := by
  unfold mk
  rcases e with e | e | e <;> simp only [e, h, decide_true, Bool.or_true, Bool.true_or, Bool.true_and]
theorem mk_no (l : List UInt8) (e1 : (l.take 7 == [62, 62, 62, 62, 62, 62, 62]) = false) (e2 : (l.take 7 == [61, 61, 61, 61, 61, 61, 61]) = false) (e3 : (l.take 7 == [60, 60, 60, 60, 60, 60, 60]) = false) : mk l = false := by
  unfold mk
  simp only [e1, e2, e3, Bool.or_false, Bool.and_false]

set_option maxHeartbeats 400000 in
theorem marker_any (s : ByteArray) (w : World) (hs : s.size ≤ 9223372036854775807) :
    Calls Tryz.prog 183 #[.string s] w fun e w' => e = .returned (.bool (mk s.data.toList)) ∧ w' = w := by
  have hl : s.data.toList.length = s.size := Array.length_toList
  have HL := Lib.hid hl
  clear hl
  go_enter Tryz.func183, Tryz.ntmps183
  go_wp2
  all_goals go_ret
  all_goals refine ⟨ret_bool ?_, rfl⟩
  · exact (mk_short _ (by have := HL.out; omega)).symm
  · exact (mk_yes _ (by have := HL.out; omega) (.inl (by rw [← ext7]; assumption))).symm
  · exact (mk_yes _ (by have := HL.out; omega) (.inr (.inl (by rw [← ext7]; assumption)))).symm
  · exact (mk_yes _ (by have := HL.out; omega) (.inr (.inr (by rw [← ext7]; assumption)))).symm
  · exact (mk_no _ (by rw [← ext7]; assumption) (by rw [← ext7]; assumption) (by rw [← ext7]; assumption)).symm
theorem take7_at {l m : List UInt8} (h : l.take 7 = m) (j : Nat) (hj : j < 7) : l[j]? = m[j]? := by
  rw [← h, List.getElem?_take, if_pos hj]

theorem mk_of_all {l : List UInt8} {c : UInt8} (h : 7 ≤ l.length) (hc : c = 62 ∨ c = 61 ∨ c = 60) (ha : ∀ j, j < 7 → l[j]? = some c) : mk l = true := by
  have e : l.take 7 = [c, c, c, c, c, c, c] := by
    apply List.ext_getElem?
    intro j
    rw [List.getElem?_take]
    by_cases hj : j < 7
    · rw [if_pos hj, ha j hj]
      match j, hj with
      | 0, _ | 1, _ | 2, _ | 3, _ | 4, _ | 5, _ | 6, _ => rfl
    · rw [if_neg hj]
      exact (List.getElem?_eq_none (by simp; omega)).symm
  refine mk_yes l h ?_
  rw [e]
  rcases hc with rfl | rfl | rfl
  · exact .inl rfl
  · exact .inr (.inl rfl)
  · exact .inr (.inr rfl)

theorem mk_differ {l : List UInt8} (j : Nat) (hj : j < 7) (hd : l[j]? ≠ l[0]?) : mk l = false := by
  have key : ∀ c : UInt8, (l.take 7 == [c, c, c, c, c, c, c]) = false := by
    intro c
    rw [beq_eq_false_iff_ne]
    intro e
    apply hd
    rw [take7_at e j hj, take7_at e 0 (by omega)]
    match j, hj with
    | 0, _ | 1, _ | 2, _ | 3, _ | 4, _ | 5, _ | 6, _ => rfl
  exact mk_no l (key 62) (key 61) (key 60)

theorem mk_first {l : List UInt8} {c : UInt8} (h0 : l[0]? = some c) (h1 : c ≠ 62) (h2 : c ≠ 61) (h3 : c ≠ 60) : mk l = false := by
  have key : ∀ d : UInt8, c ≠ d → (l.take 7 == [d, d, d, d, d, d, d]) = false := by
    intro d hd
    rw [beq_eq_false_iff_ne]
    intro e
    apply hd
    have := take7_at e 0 (by omega)
    rw [h0] at this
    exact Option.some.inj this
  exact mk_no l (key 62 h1) (key 61 h2) (key 60 h3)

theorem u8_eq {a b : UInt8} (h : a = b) : ((a.toNat : Int) == (b.toNat : Int)) = true := by rw [h]; simp
theorem u8_ne {a b : UInt8} (h : a ≠ b) : ((a.toNat : Int) == (b.toNat : Int)) = false := by
  rw [beq_eq_false_iff_ne]
  intro e
  exact h (UInt8.toNat_inj.1 (by omega))
theorem u8_bne_t {a b : UInt8} (h : a ≠ b) : ((a.toNat : Int) != (b.toNat : Int)) = true := by rw [bne, u8_ne h]; rfl
theorem u8_bne_f {a b : UInt8} (h : a = b) : ((a.toNat : Int) != (b.toNat : Int)) = false := by rw [bne, u8_eq h]; rfl

theorem all_one (s : ByteArray) (h : 0 < s.size) : ∀ j, j < 1 → s.data.toList[j]? = some s[0] := by
  intro j hj
  obtain rfl : j = 0 := by omega
  exact byte_at h

set_option maxHeartbeats 1000000 in
theorem rmarker_loop (s : ByteArray) (w : World) (hs : s.size ≤ 9223372036854775807) (h7 : 7 ≤ s.size) (hc : s[0] = 62 ∨ s[0] = 61 ∨ s[0] = 60) :
    Calls Tryz.prog 127 #[.string s] w fun e w' => e = .returned (.bool (mk s.data.toList)) ∧ Below w.heap.size w w' := by
  have hl : s.data.toList.length = s.size := Array.length_toList
  have HL := Lib.hid hl
  clear hl
  obtain ⟨b1, b2, b3, hb⟩ : ∃ b1 b2 b3, ((s[0].toNat : Int) != 62) = b1 ∧ ((s[0].toNat : Int) != 61) = b2 ∧ ((s[0].toNat : Int) != 60) = b3 := ⟨_, _, _, rfl, rfl, rfl⟩
  obtain ⟨hb1, hb2, hb3⟩ := hb
  have hall : (b1 = false) ∨ (b1 = true ∧ b2 = false) ∨ (b1 = true ∧ b2 = true ∧ b3 = false) := by
    rcases hc with e | e | e <;> rw [e] at hb1 hb2 hb3 <;> subst hb1 hb2 hb3 <;> decide
  have HC := Lib.hid hc
  clear hc
  rcases hall with rfl | ⟨rfl, rfl⟩ | ⟨rfl, rfl, rfl⟩
  all_goals
    go_enter Tryz.func127, Tryz.ntmps127
    go_wp2
    go_loopw [3] (fun i wr => ∃ k : Nat, 1 ≤ k ∧ k ≤ 7 ∧ i = .int .i64 k ∧ Below w.heap.size w wr ∧ Hid (∀ j, j < k → s.data.toList[j]? = some s[0])) (fun i _ => 7 - (intOf i).toNat)
    case atStart => exact ⟨1, by omega, by omega, rfl, Below.refl _ _, Lib.hid (all_one s (by omega))⟩
    case round =>
      obtain ⟨k, hk1, hk7, rfl, hb, HA⟩ := hrel
      by_cases hlt : k < 7
      · have hks : k < s.size := by omega
        by_cases he : s[k] = s[0]
        · have e1 := u8_bne_f he
          have HE := Lib.hid he
          clear he
          go_wp2
          go_quiet (fail)
          go_wp2
          refine ⟨⟨k + 1, by omega, by omega, by go_num, Below.drewN hb, Lib.hid fun j hj => ?_⟩, by simp [intOf]; omega⟩
          by_cases ej : j = k
          · rw [ej, byte_at hks, HE.out]
          · exact HA.out j (by omega)
        · have e1 := u8_bne_t he
          have HE := Lib.hid he
          clear he
          go_wp2
          go_quiet (fail)
          go_wp2
          go_ret
          refine ⟨ret_bool ?_, Below.drewN hb⟩
          refine (mk_differ k hlt ?_).symm
          rw [byte_at hks, byte_at (by omega)]
          exact fun e => HE.out (Option.some.inj e)
      · go_wp2
        go_ret
        refine ⟨ret_bool ?_, hb⟩
        exact (mk_of_all (by rw [HL.out]; omega) HC.out fun j hj => HA.out j (by omega)).symm

set_option maxHeartbeats 400000 in
theorem rmarker_any (s : ByteArray) (w : World) (hs : s.size ≤ 9223372036854775807) :
    Calls Tryz.prog 127 #[.string s] w fun e w' => e = .returned (.bool (mk s.data.toList)) ∧ Below w.heap.size w w' := by
  by_cases h7 : 7 ≤ s.size
  · by_cases hc : s[0] = 62 ∨ s[0] = 61 ∨ s[0] = 60
    · exact rmarker_loop s w hs h7 hc
    · simp only [not_or] at hc
      obtain ⟨c1, c2, c3⟩ := hc
      have hm := mk_first (byte_at (s := s) (k := 0) (by omega)) c1 c2 c3
      rw [hm]
      have e1 : ((s[0].toNat : Int) != 62) = true := u8_bne_t c1
      have e2 : ((s[0].toNat : Int) != 61) = true := u8_bne_t c2
      have e3 : ((s[0].toNat : Int) != 60) = true := u8_bne_t c3
      clear c1 c2 c3 hm
      go_enter Tryz.func127, Tryz.ntmps127
      go_wp2
      go_ret
      exact ⟨rfl, Below.refl _ _⟩
  · have hl : s.data.toList.length = s.size := Array.length_toList
    rw [mk_short _ (by omega)]
    clear hl
    go_enter Tryz.func127, Tryz.ntmps127
    go_wp2
    go_ret
    exact ⟨rfl, Below.refl _ _⟩
end Go.Proofs.YtojnagonhihknaaGreatDoor
