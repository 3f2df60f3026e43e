/- The document's disk: its calls. -/
import Derived.Test.YtbicecbcloellaaDoorSecQ
import Derived.Test.YtbicecbcloellaaDoorSecR
import Derived.Deep.OwnRows
set_option linter.unusedVariables false
set_option linter.unusedSimpArgs false
namespace Go.Proofs.YtbicecbcloellaaDoor
open Go.ChangeShapes Go.WideShapes Go.ChangeAt Go.RowKit Go.WideMaps Go.Maps

theorem infoBy : (Tryd.prog.info? 5).map (fun i => (i.zero, i.size, i.bytes)) = some (some (.int .u8 0), 1, 1) := by kernel_rfl
set_option maxRecDepth 100000 in
theorem rfull_any (s : ByteArray) (w : World) (hs : s.size ≤ 512) : Calls Tryd.prog 30 #[.string s] w fun e w' => e = .returned (.string (fullB s)) ∧ Below w.heap.size w w' := by
  obtain ⟨c, hc⟩ : ∃ c, c = 512 - s.size := ⟨_, rfl⟩
  have hwr : IntKind.i64.wrap (512 - (s.size : Int)) = (c : Int) := by rw [IntKind.wrap_i64]; omega
  have mk1 := run_make_row' (P := Tryd.prog) 89 5 (.int .u8 0) 1 Tryd.underlying89 infoBy rfl .i64 .i64 c (by omega) (by omega)
  obtain ⟨zb, hzb⟩ : ∃ zb : ByteArray, zb = ⟨(List.replicate c (0 : UInt8)).toArray⟩ := ⟨_, rfl⟩
  have hcv : (convert 89 9 (.slice (some ⟨w.heap.size, 0, none⟩) c c)).run Tryd.prog (w.alloc (.cells (madeCells #[.int .u8 0] c) 5)) = .ok (.string zb) (w.alloc (.cells (madeCells #[.int .u8 0] c) 5)) := by
    have h := run_convert_bytes_back (P := Tryd.prog) (w.alloc (.cells (madeCells #[.int .u8 0] c) 5)) 89 9 5 ⟨w.heap.size, 0, none⟩ c (List.replicate c (0 : UInt8)) Tryd.underlying89 Tryd.underlying5 Tryd.underlying9 (fun j hj => by
      have hj2 : j < c := by simpa using hj
      rw [Addr.add_lit, World.cell?_alloc_at _ _ _ _ rfl]
      simp [madeCells, hj2, Nat.mod_one])
    rw [List.length_replicate] at h
    rw [h, hzb]
  have hzs : zb.size ≤ 512 := by
    rw [hzb]
    show (List.replicate c (0 : UInt8)).toArray.size ≤ 512
    simp; omega
  have hcat : ¬ 9223372036854775807 < s.size + zb.size := by omega
  have HAP := Lib.hid (show s ++ zb = fullB s by rw [hzb, hc]; exact app_full s)
  have hc9 : c ≤ 512 := by omega
  clear hc hzb
  go_enter Tryd.func30, Tryd.ntmps30
  go_wp2_with fail
  go_ret
  exact ⟨by rw [HAP.out]; rfl, (Below.refl _ _).alloc (Nat.le_refl _) _⟩
section
variable {Z : Nat → Prop} {q mb n k : Nat} {v : Value} {S : List ByteArray} {Q : Pnd} {f : Int} {o : Bool}
theorem rstep_any (w : World) (h : RS Z w q mb n k v S Q f o) (hf1 : -1 ≤ f) (hf2 : f ≤ 9223372036854775807) : Calls Tryd.prog 29 #[.pointer (some ⟨q, 0, none⟩)] w fun e w' =>
    e = .returned (.bool (!decide (f = 0))) ∧ RS Z w' q mb n k v S Q (stepF f) (if f = 0 then true else o) ∧ Off Z w w' := by
  have c1 := h.c1
  have c2 := h.c2
  have f1 := h.fz 1 (by omega)
  have f2 := h.fz 2 (by omega)
  by_cases h0 : f = 0
  · subst h0
    rw [if_pos rfl]
    have HP := Lib.hid (h.setOff true)
    have HO := Lib.hid ((Off.refl Z w).setCell (p := ⟨q, 2, none⟩) (.inr h.zq) (.bool true))
    clear h
    go_enter Tryd.func29, Tryd.ntmps29
    go_wp2_with fail
    go_ret
    exact ⟨rfl, HP.out, HO.out⟩
  · rw [if_neg h0, decide_eq_false h0]
    have h0b : (f == (0 : Int)) = false := by rw [beq_eq_false_iff_ne]; exact h0
    by_cases h1 : 0 < f
    · have he : stepF f = f - 1 := by unfold stepF; rw [if_pos h1]
      rw [he]
      have HP := Lib.hid (h.setLeft (f - 1))
      have HO := Lib.hid ((Off.refl Z w).setCell (p := ⟨q, 1, none⟩) (.inr h.zq) (.int .i64 (f - 1)))
      clear h
      go_enter Tryd.func29, Tryd.ntmps29
      go_wp2_with fail
      go_ret
      exact ⟨rfl, HP.out, HO.out⟩
    · have he : stepF f = f := by unfold stepF; rw [if_neg h1]
      rw [he]
      have HP := Lib.hid h
      clear h
      go_enter Tryd.func29, Tryd.ntmps29
      go_wp2_with fail
      go_ret
      exact ⟨rfl, HP.out, Off.refl _ _⟩
end
theorem shown_nth {D : Dk} {j i : Nat} {x : Nat × ByteArray} (hx : D.pend[j]? = some x) (hi : i < D.sure.length) : (sk allK D.sure D.pend (j + 1)).getD i ByteArray.empty = if x.1 = i then x.2 else (sk allK D.sure D.pend j).getD i ByteArray.empty := by
  rw [sk_succ hx, if_pos rfl]
  by_cases e : x.1 = i
  · rw [if_pos e, List.getD_eq_getElem?_getD, e, List.getElem?_set_self (by rw [sk_len]; exact hi)]; rfl
  · rw [if_neg e, List.getD_eq_getElem?_getD, List.getElem?_set_ne e, ← List.getD_eq_getElem?_getD]
set_option maxHeartbeats 1000000 in
set_option maxRecDepth 100000 in
theorem rread_any {Z : Nat → Prop} {q k : Nat} {D : Dk} (i : Int) (w : World) (h : RX Z w q k D) (hok : D.Ok) (hl : D.pend.length ≤ 1000000) : Calls Tryd.prog 20 #[.pointer (some ⟨q, 0, none⟩), .int .i64 i] w fun e w' => e = .returned (.tuple #[.string (readD D i).1, .int .i64 (readD D i).2]) ∧ Below w.heap.size w w' := by
  obtain ⟨mb, v, h⟩ := h
  have c0 := h.c0
  have c2 := h.c2
  by_cases ho : D.off = true
  · have e : readD D i = (⟨#[]⟩, 20) := by unfold readD; rw [if_pos ho]
    rw [e]
    rw [ho] at c2
    clear h ho e hok
    go_enter Tryd.func20, Tryd.ntmps20
    go_wp2_with fail
    go_ret2
    exact ⟨rfl, Below.refl _ _⟩
  have hof : D.off = false := by simpa using ho
  rw [hof] at c2
  obtain ⟨n, hn⟩ : ∃ n, n = D.sure.length := ⟨_, rfl⟩
  rw [← hn] at c0
  by_cases hi : i < 0 ∨ (n : Int) ≤ i
  · have e : readD D i = (⟨#[]⟩, 1) := by unfold readD; rw [if_neg ho, if_pos (by rw [← hn]; exact hi)]
    rw [e]
    clear h ho e hok hn hof
    by_cases h0 : i < 0
    · go_enter Tryd.func20, Tryd.ntmps20
      go_wp2_with fail
      go_ret2
      exact ⟨rfl, Below.refl _ _⟩
    · have h1 : (n : Int) ≤ i := by omega
      have h1d : decide ((n : Int) ≤ i) = true := decide_eq_true h1
      clear hi
      go_enter Tryd.func20, Tryd.ntmps20
      go_wp2_with fail
      go_ret2
      exact ⟨rfl, Below.refl _ _⟩
  have e : readD D i = (fullB (D.shown.getD i.toNat ByteArray.empty), 0) := by unfold readD; rw [if_neg ho, if_neg (by rw [← hn]; exact hi)]
  rw [e]
  obtain ⟨t, rfl⟩ : ∃ t : Nat, i = (t : Int) := ⟨i.toNat, by omega⟩
  rw [Int.toNat_natCast]
  have htn : t < n := by omega
  have h0 : ¬ (t : Int) < 0 := by omega
  have h1 : ¬ (n : Int) ≤ (t : Int) := by omega
  have h1d : decide ((n : Int) ≤ (t : Int)) = false := decide_eq_false h1
  have hn9 : n ≤ 4096 := by rw [hn]; exact hok.n2
  obtain ⟨s, ok, hlk, hor⟩ := h.mp.look (i := t) (by omega) (by omega)
  have c3 := h.c3
  have c4 := h.c4
  have H0 := Lib.hid h
  obtain ⟨m, hm⟩ : ∃ m, m = D.pend.length := ⟨_, rfl⟩
  rw [← hm] at hl
  obtain ⟨va, vc, hv⟩ := h.rp.form
  rw [← hm] at hv
  subst hv
  have HM := Lib.hid hm
  have HN := Lib.hid hn
  have HOK := Lib.hid hok
  have HOR := Lib.hid hor
  have hlk0 := hlk 0
  have hlk1 : (Instr.lookup 43 (.map (some mb)) (.int .i64 (t : Int)) true).run Tryd.prog w = .ok (.tuple #[.string s, .bool ok]) w := hlk0
  have HF := Lib.hid (fun W => rfull_any ⟨#[]⟩ W (by show 0 ≤ 512; omega))
  have HLAST : Hid (∀ (e : ByteArray), e = fullB ((sk allK D.sure D.pend m).getD t ByteArray.empty) → e = fullB (D.shown.getD t ByteArray.empty)) := Lib.hid (fun e h => by rw [h, hm]; rfl)
  clear h ho e hof hi hok hn hm hor hlk0 hlk
  cases ok with
  | true =>
    have HS0 : Hid (s = fullB ((sk allK D.sure D.pend 0).getD t ByteArray.empty)) := Lib.hid (by
      rcases HOR.out with ⟨_, h⟩ | ⟨h, _⟩
      · exact h
      · cases h)
    go_enter Tryd.func20, Tryd.ntmps20
    go_wp2_with fail
    clear hlk1 c4
    go_loopw [6, 8] (fun xv jv wr => ∃ (j : Nat) (x : ByteArray), xv = .string x ∧ jv = .int .i64 (j : Nat) ∧ j ≤ m ∧ Hid (x = fullB ((sk allK D.sure D.pend j).getD t ByteArray.empty)) ∧ Hid (Below w.heap.size w wr)) (fun _ jv _ => m - (intOf jv).toNat)
    case atStart => exact ⟨0, s, rfl, rfl, Nat.zero_le _, HS0, Lib.hid (Below.refl _ _)⟩
    case round =>
      obtain ⟨j, x, rfl, rfl, hjm, HX, HB⟩ := hrel
      have hr := H0.out.below HB.out
      have c4 := hr.c4
      by_cases hlt : j < m
      · obtain ⟨y, hy⟩ : ∃ y, D.pend[j]? = some y := ⟨D.pend[j]'(by rw [← HM.out]; exact hlt), by simp⟩
        obtain ⟨vb, vc', hv, hvc1, hvc2, _, _, _, d0, d1⟩ := hr.atPend hy
        rw [← HM.out] at hv hvc1
        injection hv with hv1 _ hv3
        subst hv1; subst hv3
        have hsn := shown_nth (i := t) hy (by rw [← HN.out]; exact htn)
        obtain ⟨ya, ys⟩ := y
        simp only at d0 d1 hsn
        have HSN := Lib.hid hsn
        unfold maxLen at hvc2
        clear hy hsn hr
        by_cases e : ya = t
        · have hyt : ((ya : Int) == (t : Int)) = true := by rw [beq_iff_eq]; omega
          have HE := Lib.hid e
          clear e
          go_wp2_with fail
          exact ⟨⟨j + 1, _, rfl, by go_num, by omega, Lib.hid (by rw [HSN.out, if_pos HE.out]), HB⟩, by simp [intOf]; omega⟩
        · have hyt : ((ya : Int) == (t : Int)) = false := by rw [beq_eq_false_iff_ne]; omega
          have HE := Lib.hid e
          clear e
          go_wp2_with fail
          exact ⟨⟨j + 1, _, rfl, by go_num, by omega, Lib.hid (by rw [HSN.out, if_neg HE.out]; exact HX.out), HB⟩, by simp [intOf]; omega⟩
      · have hjj : m = j := by omega
        subst hjj
        clear hr
        go_wp2_with fail
        go_ret2
        exact ⟨by rw [← HLAST.out x HX.out]; rfl, HB.out⟩
  | false =>
    have HS0 : Hid (fullB ⟨#[]⟩ = fullB ((sk allK D.sure D.pend 0).getD t ByteArray.empty)) := Lib.hid (by
      rcases HOR.out with ⟨h, _⟩ | ⟨_, h⟩
      · cases h
      · rw [show sk allK D.sure D.pend 0 = D.sure from rfl, h]; rfl)
    go_enter Tryd.func20, Tryd.ntmps20
    go_wp2_with fail
    refine (HF.out _).mono ?_
    rintro e w3 ⟨rfl, hb3⟩
    have HB3 := Lib.hid hb3
    clear hb3
    go_wp2_with fail
    clear hlk1 c4
    go_loopw [6, 8] (fun xv jv wr => ∃ (j : Nat) (x : ByteArray), xv = .string x ∧ jv = .int .i64 (j : Nat) ∧ j ≤ m ∧ Hid (x = fullB ((sk allK D.sure D.pend j).getD t ByteArray.empty)) ∧ Hid (Below w.heap.size w wr)) (fun _ jv _ => m - (intOf jv).toNat)
    case atStart => exact ⟨0, _, rfl, rfl, Nat.zero_le _, HS0, HB3⟩
    case round =>
      obtain ⟨j, x, rfl, rfl, hjm, HX, HB⟩ := hrel
      have hr := H0.out.below HB.out
      have c4 := hr.c4
      by_cases hlt : j < m
      · obtain ⟨y, hy⟩ : ∃ y, D.pend[j]? = some y := ⟨D.pend[j]'(by rw [← HM.out]; exact hlt), by simp⟩
        obtain ⟨vb, vc', hv, hvc1, hvc2, _, _, _, d0, d1⟩ := hr.atPend hy
        rw [← HM.out] at hv hvc1
        injection hv with hv1 _ hv3
        subst hv1; subst hv3
        have hsn := shown_nth (i := t) hy (by rw [← HN.out]; exact htn)
        obtain ⟨ya, ys⟩ := y
        simp only at d0 d1 hsn
        have HSN := Lib.hid hsn
        unfold maxLen at hvc2
        clear hy hsn hr
        by_cases e : ya = t
        · have hyt : ((ya : Int) == (t : Int)) = true := by rw [beq_iff_eq]; omega
          have HE := Lib.hid e
          clear e
          go_wp2_with fail
          exact ⟨⟨j + 1, _, rfl, by go_num, by omega, Lib.hid (by rw [HSN.out, if_pos HE.out]), HB⟩, by simp [intOf]; omega⟩
        · have hyt : ((ya : Int) == (t : Int)) = false := by rw [beq_eq_false_iff_ne]; omega
          have HE := Lib.hid e
          clear e
          go_wp2_with fail
          exact ⟨⟨j + 1, _, rfl, by go_num, by omega, Lib.hid (by rw [HSN.out, if_neg HE.out]; exact HX.out), HB⟩, by simp [intOf]; omega⟩
      · have hjj : m = j := by omega
        subst hjj
        clear hr
        go_wp2_with fail
        go_ret2
        exact ⟨by rw [← HLAST.out x HX.out]; rfl, HB.out⟩
end Go.Proofs.YtbicecbcloellaaDoor
