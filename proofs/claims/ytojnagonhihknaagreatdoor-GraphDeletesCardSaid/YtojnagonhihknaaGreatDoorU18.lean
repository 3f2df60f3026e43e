/- A sketch's place of a ref. slices.ContainsFunc over a set of named patches, by lacks. slices.ContainsFunc over ops, by the closure of lacks. What refs an op of a graph tells. slices.ContainsFunc over refs, by the inner closure of lacks. -/
import Derived.Test.YtojnagonhihknaaGreatDoorU10
import Derived.Test.YtojnagonhihknaaGreatDoorU17
import Derived.Test.YtojnagonhihknaaGreatDoorU4
set_option linter.unusedVariables false
namespace Go.Proofs.YtojnagonhihknaaGreatDoor
open Go.ChangeShapes Go.WideShapes Go.ChangeAt Go.RowKit Go.WideMaps Go.Maps

theorem below_dn {B q : Nat} {a w : World} (h : Below B a w) : Below B a (w.drewN q) := ⟨h.os, h.tape, h.output, h.size, h.block⟩
abbrev npV (nm t : ByteArray) (dv ov : Value) : Value := .agg #[.string nm, .string t, dv, ov]
def whoR (nm : ByteArray) (deps : Lb) (r : Rf) : ByteArray := if r.at_ = -2 then nm else deps.getD r.at_.toNat ByteArray.empty
def plG (f : ByteArray → Int) (nm : ByteArray) (deps : Lb) (r : Rf) : Int := if r.at_ = -1 then r.n else f (whoR nm deps r) + r.n
structure RefG (ks : Lb) (f : ByteArray → Int) (nm : ByteArray) (deps : Lb) (r : Rf) : Prop where
  at_ : r.at_ = -1 ∨ r.at_ = -2 ∨ (0 ≤ r.at_ ∧ r.at_ < deps.length)
  who : r.at_ ≠ -1 → whoR nm deps r ∈ ks ∧ (whoR nm deps r).size ≤ 140737488355328 ∧ 0 ≤ f (whoR nm deps r) ∧ f (whoR nm deps r) ≤ 1000000000000 ∧ 0 ≤ r.n ∧ r.n ≤ 1000000000000
set_option maxHeartbeats 2000000 in
set_option maxRecDepth 100000 in
theorem gplace_any {ks : Lb} {f m : ByteArray → Int} {sb mb : Nat} (nm t : ByteArray) (deps : Lb) (dv ov : Value) (r : Rf) (w : World) (hc : w.cell? ⟨sb, 0, none⟩ = some (.map (some mb))) (hl : sb < w.heap.size) (hM : MLot w mb ks f m) (hd : Reads w dv deps) (hr : RefG ks f nm deps r) :
    Calls Tryz.prog 58 #[.pointer (some ⟨sb, 0, none⟩), npV nm t dv ov, rfV r] w fun e w' => e = .returned (.int .i64 (plG f nm deps r)) ∧ Below w.heap.size w w' := by
  obtain ⟨x, y⟩ := r
  have hb2 := two_boxes w (.cells #[.string nm, .string t, dv, ov] 49) (.cells #[.int .i64 x, .int .i64 y] 57)
  have hcz := (hb2.cell (p := ⟨sb, 0, none⟩) hl).trans hc
  have hMz := hM.below hb2
  have hdz := hd.below hb2
  obtain ⟨da, dc, hdv, hdl⟩ := hdz.form
  subst hdv
  have HB2 := Lib.hid hb2
  by_cases h1 : x = -1
  · subst h1
    have e : plG f nm deps ⟨-1, y⟩ = y := by unfold plG; rw [if_pos rfl]
    rw [e]
    clear e hcz hMz hdz hd hM hc hr
    go_enter Tryz.func58, Tryz.ntmps58
    go_wp2_with fail
    go_ret
    exact ⟨rfl, HB2.out⟩
  · obtain ⟨hw1, hw2, hw3, hw4, hw5, hw6⟩ := hr.who h1
    have hlk : ∀ mm, (Instr.lookup 71 (.map (some mb)) (.string (whoR nm deps ⟨x, y⟩)) false).run Tryz.prog (((w.alloc (.cells #[.string nm, .string t, .slice da deps.length dc, ov] 49)).alloc (.cells #[.int .i64 x, .int .i64 y] 57)).drewN mm) = .ok (lotV (f (whoR nm deps ⟨x, y⟩)) (m (whoR nm deps ⟨x, y⟩))) (((w.alloc (.cells #[.string nm, .string t, .slice da deps.length dc, ov] 49)).alloc (.cells #[.int .i64 x, .int .i64 y] 57)).drewN mm) := fun mm =>
      (hMz.below (below_dn (Below.refl _ _))).look hw2 hw1
    have e : plG f nm deps ⟨x, y⟩ = f (whoR nm deps ⟨x, y⟩) + y := by unfold plG; rw [if_neg h1]
    have hwd : x ≠ -2 → ∃ j, x = ((j : Nat) : Int) ∧ j < deps.length ∧ deps[j]? = some (whoR nm deps ⟨x, y⟩) := fun h2 => by
      rcases hr.at_ with h | h | ⟨h, h'⟩
      · exact absurd h h1
      · exact absurd h h2
      · simp only at h h'
        have hlt : x.toNat < deps.length := by omega
        refine ⟨x.toNat, (Int.toNat_of_nonneg h).symm, hlt, ?_⟩
        unfold whoR
        rw [if_neg h2, List.getElem?_eq_getElem hlt, List.getD_eq_getElem?_getD, List.getElem?_eq_getElem hlt]
        rfl
    have hwo : x = -2 → whoR nm deps ⟨x, y⟩ = nm := fun h2 => by unfold whoR; rw [if_pos h2]
    obtain ⟨who, hwho⟩ : ∃ z, z = whoR nm deps ⟨x, y⟩ := ⟨_, rfl⟩
    rw [e]
    rw [← hwho] at hw1 hw2 hw3 hw4 hlk hwd hwo ⊢
    obtain ⟨fw, hfw⟩ : ∃ z, z = f who := ⟨_, rfl⟩
    obtain ⟨mw, hmw⟩ : ∃ z, z = m who := ⟨_, rfl⟩
    rw [← hfw] at hw3 hw4 hlk ⊢
    rw [← hmw] at hlk
    simp only at hw5 hw6
    clear e hwho hfw hmw hr hMz hM hc hd
    have e1 := neI h1
    have hfl : ∀ W, (Instr.field 104 (lotV fw mw) 0).run Tryz.prog W = .ok (.int .i64 fw) W := fun W => by kernel_rfl
    by_cases h2 : x = -2
    · subst h2
      obtain rfl := hwo rfl
      clear hwd hwo hdz
      go_enter Tryz.func58, Tryz.ntmps58
      go_wp2_with fail
      go_quiet (fail)
      go_wp2_with fail
      go_ret
      exact ⟨by go_num, HB2.out.trans (below_dn (Below.refl _ _))⟩
    · obtain ⟨j, rfl, hj, hat⟩ := hwd h2
      have e2 := neI h2
      obtain ⟨db, dof, rfl, _, hcs⟩ := hdz.at hat
      have hcell := hcs.2 j who hat
      clear hwd hwo hdz hat
      go_enter Tryz.func58, Tryz.ntmps58
      go_wp2_with fail
      go_quiet (fail)
      go_wp2_with fail
      go_ret
      exact ⟨by go_num, HB2.out.trans (below_dn (Below.refl _ _))⟩
end Go.Proofs.YtojnagonhihknaaGreatDoor
set_option linter.unusedVariables false
namespace Go.Proofs.YtojnagonhihknaaGreatDoor
open Go.ChangeShapes Go.WideShapes Go.ChangeAt Go.RowKit Go.WideMaps Go.Maps

set_option maxHeartbeats 1000000 in
set_option maxRecDepth 100000 in
theorem indexLacks_any (sb : Nat) (S : SetP) (pred : ByteArray × Pt → Bool) (v : Value) (w : World) (hr : GReads w v S) (hn : S.length ≤ 1000000)
    (C : ∀ p ∈ S, ∀ dv ov wz, Below w.heap.size w wz → PReads wz p.2.note dv ov p.2 → Calls Tryz.prog 26 #[.pointer (some ⟨sb, 0, none⟩), npV p.1 p.2.note dv ov] wz fun e w' => e = .returned (.bool (pred p)) ∧ Below wz.heap.size wz w') :
    Calls Tryz.prog 44 #[v, .func (.func 26) #[.pointer (some ⟨sb, 0, none⟩)] #[]] w fun e w' => (∃ k : Int, e = .returned (.int .i64 k) ∧ ((k = -1 ∧ S.any pred = false) ∨ (0 ≤ k ∧ S.any pred = true))) ∧ Below w.heap.size w w' := by
  obtain ⟨na, nc, rfl, hnl⟩ := hr.form
  obtain ⟨n, hns⟩ : ∃ n, n = S.length := ⟨_, rfl⟩
  rw [← hns] at hr hn ⊢
  have HR := Lib.hid hr
  have HC := Lib.hid C
  have HNS := Lib.hid hns
  have hnn : (n : Int) ≤ 1000000 := by omega
  clear hr C hns hnl
  go_enter Tryz.func44, Tryz.ntmps44
  go_wp2_with fail
  go_loopw [8] (fun jv wr => ∃ i : Nat, jv = .int .i64 (i : Nat) ∧ i ≤ n ∧ Hid ((S.take i).any pred = false) ∧ Hid (Below w.heap.size w wr)) (fun jv _ => n - (intOf jv).toNat)
  case atStart => exact ⟨0, rfl, Nat.zero_le _, Lib.hid (by simp), Lib.hid (Below.refl _ _)⟩
  case round =>
    obtain ⟨i, rfl, hin, HALL, HB⟩ := hrel
    by_cases hlt : i < n
    · obtain ⟨x, hx⟩ : ∃ x, S[i]? = some x := ⟨S[i]'(by rw [← HNS.out]; exact hlt), by simp⟩
      have hrz := HR.out.below HB.out
      obtain ⟨b, o, rfl, hbl, hcl, hcm, dv, ov, h0, h1, h2, h3, h4⟩ := hrz.at hx
      have CI := HC.out x (List.mem_of_getElem? hx) dv ov wr HB.out h4
      clear h4
      have HS1 : Hid ((S.take (i + 1)).any pred = pred x) := Lib.hid (by
        rw [List.take_add_one, hx]
        simp only [Option.toList, List.any_append, HALL.out, Bool.false_or, List.any_cons, List.any_nil, Bool.or_false])
      have HTR : Hid (pred x = true → S.any pred = true) := Lib.hid (fun h => List.any_eq_true.2 ⟨x, List.mem_of_getElem? hx, h⟩)
      obtain ⟨p, hp⟩ : ∃ p, p = pred x := ⟨_, rfl⟩
      rw [← hp] at CI HS1 HTR
      have HCI := Lib.hid CI
      clear hx CI hp hrz
      cases p with
      | false =>
        go_wp2_with fail
        refine HCI.out.mono ?_
        rintro e w5 ⟨rfl, hb5⟩
        have HB5 := Lib.hid (HB.out.trans (hb5.mono HB.out.size))
        clear hb5
        go_wp2_with fail
        exact ⟨⟨i + 1, by go_num, by omega, HS1, HB5⟩, by simp [intOf]; omega⟩
      | true =>
        go_wp2_with fail
        refine HCI.out.mono ?_
        rintro e w5 ⟨rfl, hb5⟩
        have HB5 := Lib.hid (HB.out.trans (hb5.mono HB.out.size))
        clear hb5
        go_wp2_with fail
        go_ret
        exact ⟨⟨_, rfl, .inr ⟨by omega, HTR.out (by trivial)⟩⟩, HB5.out⟩
    · have hie : n = i := by omega
      subst hie
      have hall : S.any pred = false := by
        have h := HALL.out
        rw [HNS.out, List.take_length] at h
        exact h
      go_wp2_with fail
      go_ret
      exact ⟨⟨_, rfl, .inl ⟨rfl, hall⟩⟩, HB.out⟩
set_option maxHeartbeats 1000000 in
set_option maxRecDepth 100000 in
theorem containsLacks_any (sb : Nat) (S : SetP) (pred : ByteArray × Pt → Bool) (v : Value) (w : World) (hr : GReads w v S) (hn : S.length ≤ 1000000)
    (C : ∀ p ∈ S, ∀ dv ov wz, Below w.heap.size w wz → PReads wz p.2.note dv ov p.2 → Calls Tryz.prog 26 #[.pointer (some ⟨sb, 0, none⟩), npV p.1 p.2.note dv ov] wz fun e w' => e = .returned (.bool (pred p)) ∧ Below wz.heap.size wz w') :
    Calls Tryz.prog 23 #[v, .func (.func 26) #[.pointer (some ⟨sb, 0, none⟩)] #[]] w fun e w' => e = .returned (.bool (S.any pred)) ∧ Below w.heap.size w w' := by
  have HI := Lib.hid (indexLacks_any sb S pred v w hr hn C)
  obtain ⟨na, nc, rfl, hnl⟩ := hr.form
  obtain ⟨n, hns⟩ : ∃ n, n = S.length := ⟨_, rfl⟩
  rw [← hns] at HI ⊢
  obtain ⟨b, hb⟩ : ∃ b, b = S.any pred := ⟨_, rfl⟩
  rw [← hb] at HI ⊢
  clear hr C hns hnl hn hb
  go_enter Tryz.func23, Tryz.ntmps23
  go_wp2_with fail
  refine HI.out.mono ?_
  rintro e w1 ⟨⟨k, rfl, hk⟩, hb1⟩
  have HB1 := Lib.hid hb1
  clear hb1
  rcases hk with ⟨rfl, rfl⟩ | ⟨hk, rfl⟩
  · go_wp2_with fail
    go_ret
    exact ⟨rfl, HB1.out⟩
  · go_wp2_with fail
    go_ret
    exact ⟨rfl, HB1.out⟩
end Go.Proofs.YtojnagonhihknaaGreatDoor
set_option linter.unusedVariables false
namespace Go.Proofs.YtojnagonhihknaaGreatDoor
open Go.ChangeShapes Go.WideShapes Go.ChangeAt Go.RowKit Go.WideMaps Go.Maps

set_option maxHeartbeats 1000000 in
set_option maxRecDepth 100000 in
theorem indexLacksO_any (qs qp : Nat) (S : List Opp) (pred : Opp → Bool) (v : Value) (w : World) (hr : OReads w v S) (hn : S.length ≤ 1000000)
    (C : ∀ p ∈ S, ∀ lv wz, Below w.heap.size w wz → Reads wz lv p.lines → Calls Tryz.prog 52 #[opV p lv, .pointer (some ⟨qs, 0, none⟩), .pointer (some ⟨qp, 0, none⟩)] wz fun e w' => e = .returned (.bool (pred p)) ∧ Below wz.heap.size wz w') :
    Calls Tryz.prog 86 #[v, .func (.func 52) #[] #[.pointer (some ⟨qs, 0, none⟩), .pointer (some ⟨qp, 0, none⟩)]] w fun e w' => (∃ k : Int, e = .returned (.int .i64 k) ∧ ((k = -1 ∧ S.any pred = false) ∨ (0 ≤ k ∧ S.any pred = true))) ∧ Below w.heap.size w w' := by
  obtain ⟨na, nc, rfl, hnl⟩ := hr.form
  obtain ⟨n, hns⟩ : ∃ n, n = S.length := ⟨_, rfl⟩
  rw [← hns] at hr hn ⊢
  have HR := Lib.hid hr
  have HC := Lib.hid C
  have HNS := Lib.hid hns
  have hnn : (n : Int) ≤ 1000000 := by omega
  clear hr C hns hnl
  go_enter Tryz.func86, Tryz.ntmps86
  go_wp2_with fail
  go_loopw [8] (fun jv wr => ∃ i : Nat, jv = .int .i64 (i : Nat) ∧ i ≤ n ∧ Hid ((S.take i).any pred = false) ∧ Hid (Below w.heap.size w wr)) (fun jv _ => n - (intOf jv).toNat)
  case atStart => exact ⟨0, rfl, Nat.zero_le _, Lib.hid (by simp), Lib.hid (Below.refl _ _)⟩
  case round =>
    obtain ⟨i, rfl, hin, HALL, HB⟩ := hrel
    by_cases hlt : i < n
    · obtain ⟨x, hx⟩ : ∃ x, S[i]? = some x := ⟨S[i]'(by rw [← HNS.out]; exact hlt), by simp⟩
      have hrz := HR.out.below HB.out
      obtain ⟨b, o, rfl, hno, hcl⟩ := hrz.at hx
      obtain ⟨lv, h0, h1, h2, h3, h4, h5, h6⟩ := hcl.2 i x hx
      have CI := HC.out x (List.mem_of_getElem? hx) lv wr HB.out h6
      clear h6 hcl hno
      have HS1 : Hid ((S.take (i + 1)).any pred = pred x) := Lib.hid (by
        rw [List.take_add_one, hx]
        simp only [Option.toList, List.any_append, HALL.out, Bool.false_or, List.any_cons, List.any_nil, Bool.or_false])
      have HTR : Hid (pred x = true → S.any pred = true) := Lib.hid (fun h => List.any_eq_true.2 ⟨x, List.mem_of_getElem? hx, h⟩)
      obtain ⟨p, hp⟩ : ∃ p, p = pred x := ⟨_, rfl⟩
      rw [← hp] at CI HS1 HTR
      have HCI := Lib.hid CI
      clear hx CI hp hrz
      cases p with
      | false =>
        go_wp2_with fail
        refine HCI.out.mono ?_
        rintro e w5 ⟨rfl, hb5⟩
        have HB5 := Lib.hid (HB.out.trans (hb5.mono HB.out.size))
        clear hb5
        go_wp2_with fail
        exact ⟨⟨i + 1, by go_num, by omega, HS1, HB5⟩, by simp [intOf]; omega⟩
      | true =>
        go_wp2_with fail
        refine HCI.out.mono ?_
        rintro e w5 ⟨rfl, hb5⟩
        have HB5 := Lib.hid (HB.out.trans (hb5.mono HB.out.size))
        clear hb5
        go_wp2_with fail
        go_ret
        exact ⟨⟨_, rfl, .inr ⟨by omega, HTR.out (by trivial)⟩⟩, HB5.out⟩
    · have hie : n = i := by omega
      subst hie
      have hall : S.any pred = false := by
        have h := HALL.out
        rw [HNS.out, List.take_length] at h
        exact h
      go_wp2_with fail
      go_ret
      exact ⟨⟨_, rfl, .inl ⟨rfl, hall⟩⟩, HB.out⟩
set_option maxHeartbeats 1000000 in
set_option maxRecDepth 100000 in
theorem containsLacksO_any (qs qp : Nat) (S : List Opp) (pred : Opp → Bool) (v : Value) (w : World) (hr : OReads w v S) (hn : S.length ≤ 1000000)
    (C : ∀ p ∈ S, ∀ lv wz, Below w.heap.size w wz → Reads wz lv p.lines → Calls Tryz.prog 52 #[opV p lv, .pointer (some ⟨qs, 0, none⟩), .pointer (some ⟨qp, 0, none⟩)] wz fun e w' => e = .returned (.bool (pred p)) ∧ Below wz.heap.size wz w') :
    Calls Tryz.prog 51 #[v, .func (.func 52) #[] #[.pointer (some ⟨qs, 0, none⟩), .pointer (some ⟨qp, 0, none⟩)]] w fun e w' => e = .returned (.bool (S.any pred)) ∧ Below w.heap.size w w' := by
  have HI := Lib.hid (indexLacksO_any qs qp S pred v w hr hn C)
  obtain ⟨na, nc, rfl, hnl⟩ := hr.form
  obtain ⟨n, hns⟩ : ∃ n, n = S.length := ⟨_, rfl⟩
  rw [← hns] at HI ⊢
  obtain ⟨b, hb⟩ : ∃ b, b = S.any pred := ⟨_, rfl⟩
  rw [← hb] at HI ⊢
  clear hr C hns hnl hn hb
  go_enter Tryz.func51, Tryz.ntmps51
  go_wp2_with fail
  refine HI.out.mono ?_
  rintro e w1 ⟨⟨k, rfl, hk⟩, hb1⟩
  have HB1 := Lib.hid hb1
  clear hb1
  rcases hk with ⟨rfl, rfl⟩ | ⟨hk, rfl⟩
  · go_wp2_with fail
    go_ret
    exact ⟨rfl, HB1.out⟩
  · go_wp2_with fail
    go_ret
    exact ⟨rfl, HB1.out⟩
end Go.Proofs.YtojnagonhihknaaGreatDoor
set_option linter.unusedVariables false
namespace Go.Proofs.YtojnagonhihknaaGreatDoor
open Go.ChangeShapes Go.WideShapes Go.ChangeAt Go.RowKit Go.WideMaps Go.Maps

def RfReads (w : World) (v : Value) (rs : List Rf) : Prop :=
  ∃ b o c, v = .slice (some ⟨b, o, none⟩) rs.length c ∧ rs.length ≤ c ∧ c ≤ 9223372036854775807 ∧ b < w.heap.size ∧ ∀ j r, rs[j]? = some r → w.cell? ⟨b, o + j * 2, none⟩ = some (.int .i64 r.at_) ∧ w.cell? ⟨b, o + j * 2 + 1, none⟩ = some (.int .i64 r.n)
theorem RfReads.below {w w' : World} {v : Value} {rs : List Rf} (h : RfReads w v rs) (hb : Below w.heap.size w w') : RfReads w' v rs := by
  obtain ⟨b, o, c, h1, h2, h3, h4, h5⟩ := h
  exact ⟨b, o, c, h1, h2, h3, Nat.lt_of_lt_of_le h4 hb.size, fun j r hr => ⟨(hb.cell (p := ⟨b, _, none⟩) h4).trans (h5 j r hr).1, (hb.cell (p := ⟨b, _, none⟩) h4).trans (h5 j r hr).2⟩⟩
theorem RfReads.form {w : World} {v : Value} {rs : List Rf} (h : RfReads w v rs) : ∃ a c, v = .slice a rs.length c ∧ rs.length ≤ 9223372036854775807 := by
  obtain ⟨b, o, c, rfl, h2, h3, _⟩ := h
  exact ⟨_, _, rfl, by omega⟩
theorem RfReads.at {w : World} {a : Option Addr} {n c : Nat} {rs : List Rf} (h : RfReads w (.slice a n c) rs) {j : Nat} {r : Rf} (hr : rs[j]? = some r) : ∃ b o, a = some ⟨b, o, none⟩ ∧ w.cell? ⟨b, o + j * 2, none⟩ = some (.int .i64 r.at_) ∧ w.cell? ⟨b, o + j * 2 + 1, none⟩ = some (.int .i64 r.n) := by
  obtain ⟨b, o, c', e, h2, h3, h4, h5⟩ := h
  simp only [Value.slice.injEq] at e
  obtain ⟨rfl, rfl, rfl⟩ := e
  exact ⟨b, o, rfl, h5 j r hr⟩
def refsG (o : Opp) : List Rf := if o.kind = 4 ∨ o.kind = 5 then [o.a] else [o.a, o.b]
set_option maxHeartbeats 2000000 in
set_option maxRecDepth 100000 in
theorem refs_any (z : Opp) (la : Option Addr) (ln lc : Nat) (w : World) :
    Calls Tryz.prog 54 #[opV z (.slice la ln lc)] w fun e w' => ∃ v, e = .returned v ∧ RfReads w' v (refsG z) ∧ Below w.heap.size w w' := by
  obtain ⟨K, ⟨x, y⟩, ⟨u, v⟩, ls⟩ := z
  have hb2 : ∀ o1 o2, Below w.heap.size w ((w.alloc o1).alloc o2) := fun o1 o2 => two_boxes w o1 o2
  have HB2 := Lib.hid hb2
  have one : ∀ o1, RfReads ((w.alloc o1).alloc (.cells #[.int .i64 x, .int .i64 y] 57)) (.slice (some ⟨w.heap.size + 1, 0, none⟩) 1 1) [⟨x, y⟩] := fun o1 => by
    have e2 : ∀ j, ((w.alloc o1).alloc (.cells #[.int .i64 x, .int .i64 y] 57)).cell? ⟨w.heap.size + 1, j, none⟩ = #[Value.int .i64 x, .int .i64 y][j]? := fun j => World.cell?_alloc_at _ _ _ _ (by simp)
    refine ⟨w.heap.size + 1, 0, 1, rfl, Nat.le_refl _, by decide, by simp, fun j r hr => ?_⟩
    match j, hr with
    | 0, hr =>
      injection hr with hr
      subst hr
      exact ⟨(e2 0).trans rfl, (e2 1).trans rfl⟩
  have two : ∀ o1, RfReads ((w.alloc o1).alloc (.cells #[.int .i64 x, .int .i64 y, .int .i64 u, .int .i64 v] 57)) (.slice (some ⟨w.heap.size + 1, 0, none⟩) 2 2) [⟨x, y⟩, ⟨u, v⟩] := fun o1 => by
    have e2 : ∀ j, ((w.alloc o1).alloc (.cells #[.int .i64 x, .int .i64 y, .int .i64 u, .int .i64 v] 57)).cell? ⟨w.heap.size + 1, j, none⟩ = #[Value.int .i64 x, .int .i64 y, .int .i64 u, .int .i64 v][j]? := fun j => World.cell?_alloc_at _ _ _ _ (by simp)
    refine ⟨w.heap.size + 1, 0, 2, rfl, Nat.le_refl _, by decide, by simp, fun j r hr => ?_⟩
    match j, hr with
    | 0, hr =>
      injection hr with hr
      subst hr
      exact ⟨(e2 0).trans rfl, (e2 1).trans rfl⟩
    | 1, hr =>
      injection hr with hr
      subst hr
      exact ⟨(e2 2).trans rfl, (e2 3).trans rfl⟩
  have ONE := Lib.hid one
  have TWO := Lib.hid two
  clear one two hb2
  by_cases h4 : K = 4
  · subst h4
    have e : refsG ⟨4, ⟨x, y⟩, ⟨u, v⟩, ls⟩ = [⟨x, y⟩] := by unfold refsG; rw [if_pos (.inl rfl)]
    rw [e]
    go_enter Tryz.func54, Tryz.ntmps54
    go_wp2_with fail
    go_ret
    exact ⟨_, rfl, ONE.out _, HB2.out _ _⟩
  by_cases h5 : K = 5
  · subst h5
    have e : refsG ⟨5, ⟨x, y⟩, ⟨u, v⟩, ls⟩ = [⟨x, y⟩] := by unfold refsG; rw [if_pos (.inr rfl)]
    rw [e]
    go_enter Tryz.func54, Tryz.ntmps54
    go_wp2_with fail
    go_ret
    exact ⟨_, rfl, ONE.out _, HB2.out _ _⟩
  have e : refsG ⟨K, ⟨x, y⟩, ⟨u, v⟩, ls⟩ = [⟨x, y⟩, ⟨u, v⟩] := by unfold refsG; rw [if_neg (fun h => h.elim h4 h5)]
  rw [e]
  have n4 := neI h4
  have n5 := neI h5
  go_enter Tryz.func54, Tryz.ntmps54
  go_wp2_with fail
  go_ret
  exact ⟨_, rfl, TWO.out _, HB2.out _ _⟩
end Go.Proofs.YtojnagonhihknaaGreatDoor
set_option linter.unusedVariables false
namespace Go.Proofs.YtojnagonhihknaaGreatDoor
open Go.ChangeShapes Go.WideShapes Go.ChangeAt Go.RowKit Go.WideMaps Go.Maps

set_option maxHeartbeats 1000000 in
set_option maxRecDepth 100000 in
theorem indexLacksR_any (qs qp : Nat) (S : List Rf) (pred : Rf → Bool) (v : Value) (w : World) (hr : RfReads w v S) (hn : S.length ≤ 1000000)
    (C : ∀ p ∈ S, ∀  wz, Below w.heap.size w wz → True → Calls Tryz.prog 55 #[rfV p, .pointer (some ⟨qs, 0, none⟩), .pointer (some ⟨qp, 0, none⟩)] wz fun e w' => e = .returned (.bool (pred p)) ∧ Below wz.heap.size wz w') :
    Calls Tryz.prog 87 #[v, .func (.func 55) #[] #[.pointer (some ⟨qs, 0, none⟩), .pointer (some ⟨qp, 0, none⟩)]] w fun e w' => (∃ k : Int, e = .returned (.int .i64 k) ∧ ((k = -1 ∧ S.any pred = false) ∨ (0 ≤ k ∧ S.any pred = true))) ∧ Below w.heap.size w w' := by
  obtain ⟨na, nc, rfl, hnl⟩ := hr.form
  obtain ⟨n, hns⟩ : ∃ n, n = S.length := ⟨_, rfl⟩
  rw [← hns] at hr hn ⊢
  have HR := Lib.hid hr
  have HC := Lib.hid C
  have HNS := Lib.hid hns
  have hnn : (n : Int) ≤ 1000000 := by omega
  clear hr C hns hnl
  go_enter Tryz.func87, Tryz.ntmps87
  go_wp2_with fail
  go_loopw [8] (fun jv wr => ∃ i : Nat, jv = .int .i64 (i : Nat) ∧ i ≤ n ∧ Hid ((S.take i).any pred = false) ∧ Hid (Below w.heap.size w wr)) (fun jv _ => n - (intOf jv).toNat)
  case atStart => exact ⟨0, rfl, Nat.zero_le _, Lib.hid (by simp), Lib.hid (Below.refl _ _)⟩
  case round =>
    obtain ⟨i, rfl, hin, HALL, HB⟩ := hrel
    by_cases hlt : i < n
    · obtain ⟨x, hx⟩ : ∃ x, S[i]? = some x := ⟨S[i]'(by rw [← HNS.out]; exact hlt), by simp⟩
      have hrz := HR.out.below HB.out
      obtain ⟨b, o, rfl, h0, h1⟩ := hrz.at hx
      have CI := HC.out x (List.mem_of_getElem? hx) wr HB.out trivial
      have HS1 : Hid ((S.take (i + 1)).any pred = pred x) := Lib.hid (by
        rw [List.take_add_one, hx]
        simp only [Option.toList, List.any_append, HALL.out, Bool.false_or, List.any_cons, List.any_nil, Bool.or_false])
      have HTR : Hid (pred x = true → S.any pred = true) := Lib.hid (fun h => List.any_eq_true.2 ⟨x, List.mem_of_getElem? hx, h⟩)
      obtain ⟨p, hp⟩ : ∃ p, p = pred x := ⟨_, rfl⟩
      rw [← hp] at CI HS1 HTR
      have HCI := Lib.hid CI
      clear hx CI hp hrz
      cases p with
      | false =>
        go_wp2_with fail
        refine HCI.out.mono ?_
        rintro e w5 ⟨rfl, hb5⟩
        have HB5 := Lib.hid (HB.out.trans (hb5.mono HB.out.size))
        clear hb5
        go_wp2_with fail
        exact ⟨⟨i + 1, by go_num, by omega, HS1, HB5⟩, by simp [intOf]; omega⟩
      | true =>
        go_wp2_with fail
        refine HCI.out.mono ?_
        rintro e w5 ⟨rfl, hb5⟩
        have HB5 := Lib.hid (HB.out.trans (hb5.mono HB.out.size))
        clear hb5
        go_wp2_with fail
        go_ret
        exact ⟨⟨_, rfl, .inr ⟨by omega, HTR.out (by trivial)⟩⟩, HB5.out⟩
    · have hie : n = i := by omega
      subst hie
      have hall : S.any pred = false := by
        have h := HALL.out
        rw [HNS.out, List.take_length] at h
        exact h
      go_wp2_with fail
      go_ret
      exact ⟨⟨_, rfl, .inl ⟨rfl, hall⟩⟩, HB.out⟩
set_option maxHeartbeats 1000000 in
set_option maxRecDepth 100000 in
theorem containsLacksR_any (qs qp : Nat) (S : List Rf) (pred : Rf → Bool) (v : Value) (w : World) (hr : RfReads w v S) (hn : S.length ≤ 1000000)
    (C : ∀ p ∈ S, ∀  wz, Below w.heap.size w wz → True → Calls Tryz.prog 55 #[rfV p, .pointer (some ⟨qs, 0, none⟩), .pointer (some ⟨qp, 0, none⟩)] wz fun e w' => e = .returned (.bool (pred p)) ∧ Below wz.heap.size wz w') :
    Calls Tryz.prog 53 #[v, .func (.func 55) #[] #[.pointer (some ⟨qs, 0, none⟩), .pointer (some ⟨qp, 0, none⟩)]] w fun e w' => e = .returned (.bool (S.any pred)) ∧ Below w.heap.size w w' := by
  have HI := Lib.hid (indexLacksR_any qs qp S pred v w hr hn C)
  obtain ⟨na, nc, rfl, hnl⟩ := hr.form
  obtain ⟨n, hns⟩ : ∃ n, n = S.length := ⟨_, rfl⟩
  rw [← hns] at HI ⊢
  obtain ⟨b, hb⟩ : ∃ b, b = S.any pred := ⟨_, rfl⟩
  rw [← hb] at HI ⊢
  clear hr C hns hnl hn hb
  go_enter Tryz.func53, Tryz.ntmps53
  go_wp2_with fail
  refine HI.out.mono ?_
  rintro e w1 ⟨⟨k, rfl, hk⟩, hb1⟩
  have HB1 := Lib.hid hb1
  clear hb1
  rcases hk with ⟨rfl, rfl⟩ | ⟨hk, rfl⟩
  · go_wp2_with fail
    go_ret
    exact ⟨rfl, HB1.out⟩
  · go_wp2_with fail
    go_ret
    exact ⟨rfl, HB1.out⟩
end Go.Proofs.YtojnagonhihknaaGreatDoor
