/- Which patches of a set are wrong. Whether a vertex is alive. slices.ContainsFunc over a set of named patches, by wrong. -/
import Derived.Test.YtojnagonhihknaaGreatDoorU10
import Derived.Test.YtojnagonhihknaaGreatDoorU18
import Derived.Test.YtojnagonhihknaaGreatDoorU21
import Derived.Test.YtojnagonhihknaaGreatDoorU27
set_option linter.unusedVariables false
namespace Go.Proofs.YtojnagonhihknaaGreatDoor
open Go.ChangeShapes Go.WideShapes Go.ChangeAt Go.RowKit Go.WideMaps Go.Maps

theorem empty_list : ByteArray.empty.toList = [] := by
  unfold ByteArray.toList ByteArray.toList.loop
  rfl
noncomputable def wrongG (p : ByteArray × Pt) : Bool := decide (p.1 = ByteArray.empty) || !rightP p.2
set_option maxHeartbeats 2000000 in
set_option maxRecDepth 100000 in
theorem gwrong_any (nm : ByteArray) (p : Pt) (dv ov : Value) (w : World) (hp : PReads w p.note dv ov p) (hf : p.fine) (ht : HasTab w) :
    Calls Tryz.prog 24 #[npV nm p.note dv ov] w fun e w' => e = .returned (.bool (wrongG (nm, p))) ∧ Below w.heap.size w w' := by
  have hb1 : ∀ o1, Below w.heap.size w (w.alloc o1) := fun o1 => (Below.refl _ _).alloc (Nat.le_refl _) _
  have cr : ∀ wz, Below w.heap.size w wz → Calls Tryz.prog 45 #[ptV p.note dv ov] wz fun e w' => e = .returned (.bool (rightP p)) ∧ Below wz.heap.size wz w' := fun wz hz => pright_any p dv ov wz (hp.below hz) hf (ht.below hz)
  have CR := Lib.hid cr
  have HB1 := Lib.hid hb1
  clear cr hb1
  by_cases h : nm = ByteArray.empty
  · subst h
    have e : wrongG (ByteArray.empty, p) = true := by unfold wrongG; rw [decide_eq_true rfl]; rfl
    rw [e]
    have he : ByteArray.empty.toList = [] := empty_list
    clear e hp ht
    go_enter Tryz.func24, Tryz.ntmps24
    go_wp2_with fail
    go_ret
    exact ⟨rfl, HB1.out _⟩
  · have e : wrongG (nm, p) = !rightP p := by unfold wrongG; rw [decide_eq_false h]; rfl
    rw [e]
    have he : ¬ nm.toList = [] := fun e => h (ba_eq' (by rw [e, empty_list]; rfl))
    obtain ⟨r, hr⟩ : ∃ r, r = rightP p := ⟨_, rfl⟩
    rw [← hr] at CR ⊢
    clear e hp ht hr
    go_enter Tryz.func24, Tryz.ntmps24
    go_wp2_with (go_at_call 45; (with_reducible refine (CR.out _ (HB1.out _)).mono ?_); rintro e w2 ⟨rfl, hb2⟩)
    go_ret
    exact ⟨congrArg (fun b => Ending.returned (Value.bool (b || !r))) (List.isEmpty_eq_false_iff.2 he), (HB1.out _).trans (hb2.mono (HB1.out _).size)⟩
end Go.Proofs.YtojnagonhihknaaGreatDoor
set_option linter.unusedVariables false
namespace Go.Proofs.YtojnagonhihknaaGreatDoor
open Go.ChangeShapes Go.WideShapes Go.ChangeAt Go.RowKit

def aliveV (vs : List Vx) (i : Int) : Bool := decide (0 ≤ i) && match vs[i.toNat]? with | some x => !decide (x.pn = ByteArray.empty) && decide (x.del ≤ 0) | none => false
set_option maxHeartbeats 2000000 in
set_option maxRecDepth 100000 in
theorem alive_any (vs : List Vx) (v ev : Value) (i : Int) (w : World) (hv : VReads w v vs) :
    Calls Tryz.prog 15 #[.agg #[v, ev], .int .i64 i] w fun e w' => e = .returned (.bool (aliveV vs i)) ∧ Below w.heap.size w w' := by
  have hb1 : ∀ o1, Below w.heap.size w (w.alloc o1) := fun o1 => (Below.refl _ _).alloc (Nat.le_refl _) _
  have HB1 := Lib.hid hb1
  obtain ⟨a, c, rfl, hlen⟩ := hv.form
  obtain ⟨n, hn⟩ : ∃ n, n = vs.length := ⟨_, rfl⟩
  have hz := hv.below (hb1 (.cells #[.slice a vs.length c, ev] 30))
  rw [← hn] at hz hlen ⊢
  clear hv hb1
  by_cases h0 : 0 ≤ i
  · have d0 : decide (0 ≤ i) = true := decide_eq_true h0
    by_cases h1 : i < (n : Int)
    · have d1 : decide (i < (n : Int)) = true := decide_eq_true h1
      obtain ⟨x, hx⟩ : ∃ x, vs[i.toNat]? = some x := ⟨vs[i.toNat]'(by omega), by simp⟩
      obtain ⟨b, o, rfl, hl, hA⟩ := hz.at hx
      have e : aliveV vs i = (!decide (x.pn = ByteArray.empty) && decide (x.del ≤ 0)) := by unfold aliveV; rw [hx, d0]; rfl
      rw [e]
      obtain ⟨j, hj⟩ : ∃ j, j = i.toNat := ⟨_, rfl⟩
      have hi : i = (j : Int) := by omega
      rw [← hj] at hA
      have a0 : (w.alloc (.cells #[.slice (some ⟨b, o, none⟩) n c, ev] 30)).cell? ⟨b, o + j * 8, none⟩ = some (.string x.pn) := hA 0 _ rfl
      have a3 : (w.alloc (.cells #[.slice (some ⟨b, o, none⟩) n c, ev] 30)).cell? ⟨b, o + j * 8 + 3, none⟩ = some (.int .i64 x.del) := hA 3 _ rfl
      subst hi
      have hjn : j < n := by omega
      clear e hA hx hz hn hj
      by_cases hp : x.pn = ByteArray.empty
      · rw [decide_eq_true hp]
        rw [hp] at a0
        have he : ByteArray.empty.toList = [] := empty_list
        go_enter Tryz.func15, Tryz.ntmps15
        go_wp2_with fail
        go_ret
        exact ⟨rfl, HB1.out _⟩
      · rw [decide_eq_false hp]
        have he : ¬ x.pn.toList = [] := fun e => hp (ba_eq' (by rw [e, empty_list]; rfl))
        obtain ⟨d, hd⟩ : ∃ d, d = decide (x.del ≤ 0) := ⟨_, rfl⟩
        rw [← hd]
        go_enter Tryz.func15, Tryz.ntmps15
        go_wp2_with fail
        go_ret
        exact ⟨by simp [hd, he], HB1.out _⟩
    · have d1 : decide (i < (n : Int)) = false := decide_eq_false h1
      have e : aliveV vs i = false := by
        unfold aliveV
        rw [List.getElem?_eq_none (by omega)]
        simp
      rw [e]
      clear e hz hn
      go_enter Tryz.func15, Tryz.ntmps15
      go_wp2_with fail
      go_ret
      exact ⟨by simp, HB1.out _⟩
  · have d0 : decide (0 ≤ i) = false := decide_eq_false h0
    have e : aliveV vs i = false := by unfold aliveV; rw [d0]; rfl
    rw [e]
    clear e hz hn
    go_enter Tryz.func15, Tryz.ntmps15
    go_wp2_with fail
    go_ret
    exact ⟨by simp, HB1.out _⟩
end Go.Proofs.YtojnagonhihknaaGreatDoor
set_option linter.unusedVariables false
namespace Go.Proofs.YtojnagonhihknaaGreatDoor
open Go.ChangeShapes Go.WideShapes Go.ChangeAt Go.RowKit Go.WideMaps Go.Maps

set_option maxHeartbeats 1000000 in
set_option maxRecDepth 100000 in
theorem indexWrong_any (S : SetP) (pred : ByteArray × Pt → Bool) (v : Value) (w : World) (hr : GReads w v S) (hn : S.length ≤ 1000000)
    (C : ∀ p ∈ S, ∀ dv ov wz, Below w.heap.size w wz → PReads wz p.2.note dv ov p.2 → Calls Tryz.prog 24 #[npV p.1 p.2.note dv ov] wz fun e w' => e = .returned (.bool (pred p)) ∧ Below wz.heap.size wz w') :
    Calls Tryz.prog 44 #[v, .func (.func 24) #[] #[]] w fun e w' => (∃ k : Int, e = .returned (.int .i64 k) ∧ ((k = -1 ∧ S.any pred = false) ∨ (0 ≤ k ∧ S.any pred = true))) ∧ Below w.heap.size w w' := by
  obtain ⟨na, nc, rfl, hnl⟩ := hr.form
  obtain ⟨n, hns⟩ : ∃ n, n = S.length := ⟨_, rfl⟩
  rw [← hns] at hr hn ⊢
  have HR := Lib.hid hr
  have HC := Lib.hid C
  have HNS := Lib.hid hns
  have hnn : (n : Int) ≤ 1000000 := by omega
  clear hr C hns hnl
  go_enter Tryz.func44, Tryz.ntmps44
  go_wp2_with fail
  go_loopw [8] (fun jv wr => ∃ i : Nat, jv = .int .i64 (i : Nat) ∧ i ≤ n ∧ Hid ((S.take i).any pred = false) ∧ Hid (Below w.heap.size w wr)) (fun jv _ => n - (intOf jv).toNat)
  case atStart => exact ⟨0, rfl, Nat.zero_le _, Lib.hid (by simp), Lib.hid (Below.refl _ _)⟩
  case round =>
    obtain ⟨i, rfl, hin, HALL, HB⟩ := hrel
    by_cases hlt : i < n
    · obtain ⟨x, hx⟩ : ∃ x, S[i]? = some x := ⟨S[i]'(by rw [← HNS.out]; exact hlt), by simp⟩
      have hrz := HR.out.below HB.out
      obtain ⟨b, o, rfl, hbl, hcl, hcm, dv, ov, h0, h1, h2, h3, h4⟩ := hrz.at hx
      have CI := HC.out x (List.mem_of_getElem? hx) dv ov wr HB.out h4
      clear h4
      have HS1 : Hid ((S.take (i + 1)).any pred = pred x) := Lib.hid (by
        rw [List.take_add_one, hx]
        simp only [Option.toList, List.any_append, HALL.out, Bool.false_or, List.any_cons, List.any_nil, Bool.or_false])
      have HTR : Hid (pred x = true → S.any pred = true) := Lib.hid (fun h => List.any_eq_true.2 ⟨x, List.mem_of_getElem? hx, h⟩)
      obtain ⟨p, hp⟩ : ∃ p, p = pred x := ⟨_, rfl⟩
      rw [← hp] at CI HS1 HTR
      have HCI := Lib.hid CI
      clear hx CI hp hrz
      cases p with
      | false =>
        go_wp2_with fail
        refine HCI.out.mono ?_
        rintro e w5 ⟨rfl, hb5⟩
        have HB5 := Lib.hid (HB.out.trans (hb5.mono HB.out.size))
        clear hb5
        go_wp2_with fail
        exact ⟨⟨i + 1, by go_num, by omega, HS1, HB5⟩, by simp [intOf]; omega⟩
      | true =>
        go_wp2_with fail
        refine HCI.out.mono ?_
        rintro e w5 ⟨rfl, hb5⟩
        have HB5 := Lib.hid (HB.out.trans (hb5.mono HB.out.size))
        clear hb5
        go_wp2_with fail
        go_ret
        exact ⟨⟨_, rfl, .inr ⟨by omega, HTR.out (by trivial)⟩⟩, HB5.out⟩
    · have hie : n = i := by omega
      subst hie
      have hall : S.any pred = false := by
        have h := HALL.out
        rw [HNS.out, List.take_length] at h
        exact h
      go_wp2_with fail
      go_ret
      exact ⟨⟨_, rfl, .inl ⟨rfl, hall⟩⟩, HB.out⟩
set_option maxHeartbeats 1000000 in
set_option maxRecDepth 100000 in
theorem containsWrong_any (S : SetP) (pred : ByteArray × Pt → Bool) (v : Value) (w : World) (hr : GReads w v S) (hn : S.length ≤ 1000000)
    (C : ∀ p ∈ S, ∀ dv ov wz, Below w.heap.size w wz → PReads wz p.2.note dv ov p.2 → Calls Tryz.prog 24 #[npV p.1 p.2.note dv ov] wz fun e w' => e = .returned (.bool (pred p)) ∧ Below wz.heap.size wz w') :
    Calls Tryz.prog 23 #[v, .func (.func 24) #[] #[]] w fun e w' => e = .returned (.bool (S.any pred)) ∧ Below w.heap.size w w' := by
  have HI := Lib.hid (indexWrong_any S pred v w hr hn C)
  obtain ⟨na, nc, rfl, hnl⟩ := hr.form
  obtain ⟨n, hns⟩ : ∃ n, n = S.length := ⟨_, rfl⟩
  rw [← hns] at HI ⊢
  obtain ⟨b, hb⟩ : ∃ b, b = S.any pred := ⟨_, rfl⟩
  rw [← hb] at HI ⊢
  clear hr C hns hnl hn hb
  go_enter Tryz.func23, Tryz.ntmps23
  go_wp2_with fail
  refine HI.out.mono ?_
  rintro e w1 ⟨⟨k, rfl, hk⟩, hb1⟩
  have HB1 := Lib.hid hb1
  clear hb1
  rcases hk with ⟨rfl, rfl⟩ | ⟨hk, rfl⟩
  · go_wp2_with fail
    go_ret
    exact ⟨rfl, HB1.out⟩
  · go_wp2_with fail
    go_ret
    exact ⟨rfl, HB1.out⟩
end Go.Proofs.YtojnagonhihknaaGreatDoor
