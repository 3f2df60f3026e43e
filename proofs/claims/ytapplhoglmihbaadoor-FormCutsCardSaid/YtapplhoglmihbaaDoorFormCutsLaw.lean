/- The statement FormCuts: whichever form, cut and more: the law's function answers true. -/
import Derived.Test.YtapplhoglmihbaaDoorFormApartLaw
set_option linter.unusedVariables false
namespace Go.Proofs.YtapplhoglmihbaaDoor
open Go.ChangeShapes Go.WideShapes Go.ChangeAt Go.RowKit

theorem cut_none {T : Tm} (hT : T.ok = true) {k : Nat} (hk : k < T.bytes.length) (T' : Tm) : ¬ IsF 0 (T.bytes.take k) T' [] := by
  rintro ⟨ok', _, e⟩
  have h := (Tm.unique T T' [] (T.bytes.drop k) hT ok' (by rw [List.append_nil] at e ⊢; rw [← e]; exact (List.take_append_drop k _).symm)).2
  have h2 := congrArg List.length h
  simp only [List.length_nil, List.length_drop] at h2
  omega
theorem more_none {T : Tm} (hT : T.ok = true) {m : List UInt8} (hm : m ≠ []) (T' : Tm) : ¬ IsF 0 (T.bytes ++ m) T' [] := by
  rintro ⟨ok', _, e⟩
  exact hm (Tm.unique T T' m [] hT ok' e).2
theorem tx_list (l : List UInt8) : (tx l).data.toList = l := by simp
theorem tx_size (l : List UInt8) : (tx l).size = l.length := by rw [← ba_len, tx_list]
theorem box_al {w wz : World} {o o2 : Obj} (h : Below (w.heap.size + 1) (w.alloc o) wz) : Below (w.heap.size + 1) (w.alloc o) (wz.alloc o2) :=
  h.alloc (by have := h.size; simp at this; omega) _
theorem ba_app (x y : ByteArray) : (x ++ y).data.toList = x.data.toList ++ y.data.toList := by simp [ByteArray.data_append]

/-- What Read leaves of a text that is no form. -/
theorem read_none (s : ByteArray) (w : World) (hs : s.size ≤ 140737488355328) (hn : ∀ T, ¬ IsF 0 s.data.toList T []) :
    Calls Tryd.prog 13 #[.string s] w fun e w' => (∃ k : Int, e = .returned (.tuple #[fz, errV k]) ∧ (k = 5 ∨ k = 2 ∧ 65536 < s.size)) ∧ Below w.heap.size w w' :=
  (read_any s w hs).mono fun e w' ⟨hb, hc⟩ => ⟨by
    rcases hc with ⟨h1, h2⟩ | ⟨_, _, h2⟩ | ⟨_, l, t, xs, a, c, _, h, _⟩
    · exact ⟨2, h2, .inr ⟨rfl, h1⟩⟩
    · exact ⟨5, h2, .inl rfl⟩
    · exact absurd h (hn _), hb⟩

set_option maxHeartbeats 4000000 in
set_option maxRecDepth 100000 in
theorem cutslaw (l : Bool) (t : ByteArray) (ys : List Tm) (a : Option Addr) (c : Nat) (cut : Int) (more : ByteArray) (w : World) (hG : SlG w (.slice a ys.length c) ys) (hts : t.size ≤ 140737488355328) (ht : HasTab w) (hg : HasErr w)
    (hm : more.size ≤ 140737488355328) :
    Calls Tryd.prog 7 #[fv l t (.slice a ys.length c), .int .i64 cut, .string more] w fun e w' => e = .returned (.bool true) ∧ Below w.heap.size w w' := by
  obtain ⟨T, hT⟩ : ∃ T, T = Tm.mk l t ys := ⟨_, rfl⟩
  have hsm := fun wz hb => small_of l t ys w wz a c hG hts hb
  have hwr := fun wz hb => write_of l t ys w wz a c hG hts hb ht
  rw [← hT] at hsm hwr
  obtain ⟨n, hn⟩ : ∃ n, n = ys.length := ⟨_, rfl⟩
  rw [← hn] at hsm hwr ⊢
  have haw : Calls Tryd.prog 8 #[] (w.alloc (.cells #[.bool l, .string t, .slice a n c] 24)) fun e w' => e = .returned (.bool true) ∧ Below (w.heap.size + 1) (w.alloc (.cells #[.bool l, .string t, .slice a n c] 24)) w' :=
    (awake_any _ (ht.below ((Below.refl _ _).alloc (Nat.le_refl _) _))).mono fun e w' ⟨he, hb⟩ => ⟨he, hb.mono (by simp)⟩
  have hup : ∀ wz, Below (w.heap.size + 1) (w.alloc (.cells #[.bool l, .string t, .slice a n c] 24)) wz → Below w.heap.size w wz := fun wz h =>
    ((Below.refl _ _).alloc (Nat.le_refl _) _).trans (h.mono (by omega))
  have hcode := fun k wz (hz : Below w.heap.size w wz) => code_errno k wz (hg.below hz)
  have HAW := Lib.hid haw
  have HUP := Lib.hid hup
  have HSM := Lib.hid hsm
  have HWR := Lib.hid hwr
  have HCO := Lib.hid hcode
  clear haw hup hsm hwr hcode hG ht hg hT hn
  go_enter Tryd.func7, Tryd.ntmps7
  go_wp2_with fail
  refine HAW.out.mono ?_
  rintro e w1 ⟨rfl, hb1⟩
  obtain ⟨k1, k2, k3, kl⟩ := box3 hb1
  have HB1 := Lib.hid hb1
  clear hb1
  go_wp2_with fail
  refine (HSM.out _ (HUP.out _ HB1.out)).mono ?_
  rintro e w2 ⟨r, rfl, hb2, him⟩
  have HB2 := Lib.hid (box_step HB1.out hb2)
  clear hb2 k1 k2 k3 kl
  obtain ⟨k1, k2, k3, kl⟩ := box3 HB2.out
  cases r with
  | false =>
    go_wp2_with fail
    go_ret
    exact ⟨rfl, HUP.out _ HB2.out⟩
  | true =>
    have HI := Lib.hid (him rfl)
    clear him
    by_cases hm0 : more.size = 0
    · have e0 : more = ⟨#[]⟩ := size0 hm0
      subst e0
      clear hm0
      go_wp2_with fail
      go_ret
      exact ⟨rfl, HUP.out _ HB2.out⟩
    · have e2 : (more.toList == []) = false := by
        rw [ByteArray.toList_eq]
        rw [beq_eq_false_iff_ne]
        intro e
        have := congrArg List.length e
        rw [ba_len] at this
        exact hm0 this
      have hmne : more.data.toList ≠ [] := fun e => by
        have := congrArg List.length e
        rw [ba_len] at this
        exact hm0 this
      have HMN := Lib.hid hmne
      clear hmne hm0
      by_cases hmk : 1000 < more.size
      · have hmk' : (1000 : Int) < more.size := by omega
        go_wp2_with fail
        go_ret
        exact ⟨rfl, HUP.out _ HB2.out⟩
      · have hmk' : ¬ (1000 : Int) < more.size := by omega
        go_wp2_with fail
        refine (HWR.out _ (HUP.out _ HB2.out) HI.out).mono ?_
        rintro e w3 ⟨hb3, hcase⟩
        have HB3 := Lib.hid (box_step HB2.out hb3)
        clear hb3 k1 k2 k3 kl
        rcases hcase with ⟨hcan, rfl⟩ | ⟨-, q, -, rfl⟩
        · obtain ⟨X, hX⟩ : ∃ X, X = tx T.bytes := ⟨_, rfl⟩
          rw [← hX]
          have hxl : X.size = T.bytes.length := by rw [hX, tx_size]
          have hx6 : X.size ≤ 65536 := by
            have := hcan.2.2
            simp at this
            omega
          have hxd : X.data.toList = T.bytes := by rw [hX, tx_list]
          have hr1 : ∀ k : Nat, k < X.size → ∀ wz, Calls Tryd.prog 13 #[.string (X.extract 0 k)] wz fun e w' => (∃ k : Int, e = .returned (.tuple #[fz, errV k]) ∧ k = 5) ∧ Below wz.heap.size wz w' := fun k hk wz => by
            have hsz : (X.extract 0 k).size ≤ 65536 := by rw [ByteArray.size_extract]; omega
            refine (read_none (X.extract 0 k) wz (by omega) fun T' => ?_).mono fun e w' ⟨⟨j, he, hj⟩, hb⟩ => ⟨⟨j, he, ?_⟩, hb⟩
            · rw [extract_list, hxd, List.drop_zero, Nat.sub_zero]
              exact cut_none hcan.1 (by omega) T'
            · rcases hj with h | ⟨_, h⟩
              · exact h
              · omega
          have hr2 : ∀ wz, Calls Tryd.prog 13 #[.string (X ++ more)] wz fun e w' => (∃ k : Int, e = .returned (.tuple #[fz, errV k]) ∧ (k = 5 ∨ k = 2 ∧ 65536 < X.size + more.size)) ∧ Below wz.heap.size wz w' := fun wz => by
            have hsz : (X ++ more).size = X.size + more.size := by simp
            refine (read_none (X ++ more) wz (by omega) fun T' => ?_).mono fun e w' ⟨⟨j, he, hj⟩, hb⟩ => ⟨⟨j, he, by rw [← hsz]; exact hj⟩, hb⟩
            rw [ba_app, hxd]
            exact more_none hcan.1 HMN.out T'
          have HR1 := Lib.hid hr1
          have HR2 := Lib.hid hr2
          clear hr1 hr2 hX hxl hxd hcan HWR HSM HI HAW
          by_cases hc0 : cut < 0
          · go_wp2_with fail
            go_ret
            exact ⟨rfl, HUP.out _ HB3.out⟩
          · obtain ⟨k, rfl⟩ : ∃ k : Nat, cut = k := ⟨cut.toNat, by omega⟩
            by_cases hck : k < X.size
            · have hck' : (k : Int) < X.size := by omega
              go_wp2_with fail
              refine (HR1.out k hck _).mono ?_
              rintro e w4 ⟨⟨_, rfl, rfl⟩, hb4⟩
              have HB4 := Lib.hid (box_al (o2 := .cells #[.bool false, .string ⟨#[]⟩, .slice none 0 0] 24) (box_step HB3.out hb4))
              clear hb4
              go_wp2_with fail
              refine (HR2.out _).mono ?_
              rintro e w5 ⟨⟨j, rfl, hj⟩, hb5⟩
              have HB5 := Lib.hid (box_al (o2 := .cells #[.bool false, .string ⟨#[]⟩, .slice none 0 0] 24) (box_step HB4.out hb5))
              clear hb5
              go_wp2_with fail
              refine (HCO.out _ _ (HUP.out _ HB5.out)).mono ?_
              rintro e w6 ⟨rfl, hb6⟩
              have HB6 := Lib.hid (box_step HB5.out hb6)
              clear hb6
              go_wp2_with fail
              refine (HCO.out _ _ (HUP.out _ HB6.out)).mono ?_
              rintro e w7 ⟨rfl, hb7⟩
              have HB7 := Lib.hid (box_step HB6.out hb7)
              clear hb7
              rcases hj with rfl | ⟨rfl, hj⟩
              · go_wp2_with fail
                go_ret
                exact ⟨rfl, HUP.out _ HB7.out⟩
              · have hj' : (65536 : Int) < X.size + more.size := by omega
                go_wp2_with fail
                go_ret
                exact ⟨rfl, HUP.out _ HB7.out⟩
            · have hck' : ¬ (k : Int) < X.size := by omega
              go_wp2_with fail
              go_ret
              exact ⟨rfl, HUP.out _ HB3.out⟩
        · cases q
          all_goals go_wp2_with fail
          all_goals go_ret
          all_goals exact ⟨rfl, HUP.out _ HB3.out⟩
end Go.Proofs.YtapplhoglmihbaaDoor
