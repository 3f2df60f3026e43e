/- The document's disk: New, Flush and Fall. -/
import Derived.Test.YtbicecbcloellaaDoorSecQX
import Derived.Test.YtbicecbcloellaaDoorSecB
set_option linter.unusedVariables false
set_option linter.unusedSimpArgs false
namespace Go.Proofs.YtbicecbcloellaaDoor
open Go.ChangeShapes Go.WideShapes Go.ChangeAt Go.RowKit Go.WideMaps Go.Maps

theorem rnew_bad (n : Int) (w : World) (h : n < 1 ∨ 4096 < n) : Calls Tryd.prog 7 #[.int .i64 n] w fun e w' => e = .returned (.tuple #[.pointer none, .int .i64 1]) ∧ w' = w := by
  by_cases h1 : n < 1
  · go_enter Tryd.func7, Tryd.ntmps7
    go_wp2_with fail
    go_ret2
    exact ⟨rfl, rfl⟩
  · have hb2 : decide ((4096 : Int) < n) = true := decide_eq_true (by omega)
    have hb1 : decide (n < 1) = false := decide_eq_false (by omega)
    go_enter Tryd.func7, Tryd.ntmps7
    go_wp2_with fail
    go_ret2
    exact ⟨rfl, rfl⟩
theorem new_rx {w : World} {n : Nat} : RX (fun i => w.heap.size ≤ i ∧ i < w.heap.size + 2) ((w.alloc (.map #[] 0)).alloc (.cells #[.int .i64 (n : Int), .int .i64 (-1), .bool false, .map (some w.heap.size), .slice none 0 0] 46)) (w.heap.size + 1) 0 (newD n) := by
  have s1 : (w.alloc (.map #[] 0)).heap.size = w.heap.size + 1 := by simp
  have hl : (newD n).sure.length = n := by show (List.replicate _ _).length = n; simp
  have hc : ∀ j u, (#[Value.int .i64 (n : Int), .int .i64 (-1), .bool false, .map (some w.heap.size), .slice none 0 0] : Array Value)[j]? = some u → ((w.alloc (.map #[] 0)).alloc (.cells #[.int .i64 (n : Int), .int .i64 (-1), .bool false, .map (some w.heap.size), .slice none 0 0] 46)).cell? ⟨w.heap.size + 1, j, none⟩ = some u := fun j u h => by
    rw [show (⟨w.heap.size + 1, j, none⟩ : Addr) = ⟨(w.alloc (.map #[] 0)).heap.size, j, none⟩ by rw [s1], World.cell?_alloc_at _ _ _ _ rfl]
    exact h
  refine ⟨w.heap.size, .slice none 0 0, fun i hi => by simp; omega, ⟨by omega, by omega⟩, ⟨by omega, by omega⟩, fun b hb => (by cases hb), by omega, fun b hb => (by cases hb), by rw [hl]; exact hc 0 _ rfl, hc 1 _ rfl, hc 2 _ rfl, hc 3 _ rfl, hc 4 _ rfl, fun j hj => ?_, ?_, Row.nil _ _ _⟩
  · rw [show (⟨w.heap.size + 1, j, none⟩ : Addr) = ⟨(w.alloc (.map #[] 0)).heap.size, j, none⟩ by rw [s1]]
    exact World.frozen?_alloc_at _ _ _ _ rfl
  · rw [hl]
    exact (MSur.made w n).off (Z := fun _ => False) (Off.of_below ((Below.refl _ _).alloc (Nat.le_refl _) _)) (fun h => h)
def RNewP (n : Nat) (w : World) (e : Ending) (w' : World) : Prop := ∃ q, e = .returned (.tuple #[.pointer (some ⟨q, 0, none⟩), .int .i64 0]) ∧ (∃ Z, RX Z w' q 0 (newD n) ∧ ∀ i, Z i → w.heap.size ≤ i) ∧ Below w.heap.size w w'
theorem rnew_ok (n : Nat) (w : World) (h1 : 1 ≤ n) (h2 : n ≤ 4096) : Calls Tryd.prog 7 #[.int .i64 (n : Int)] w fun e w' => RNewP n w e w' := by
  have hb1 : decide ((n : Int) < 1) = false := decide_eq_false (by omega)
  have hb2 : decide ((4096 : Int) < (n : Int)) = false := decide_eq_false (by omega)
  have HX := Lib.hid (new_rx (w := w) (n := n))
  have hmm := @run_makeMap Tryd.prog
  go_enter Tryd.func7, Tryd.ntmps7
  go_wp2_with fail
  go_ret2
  exact ⟨_, rfl, ⟨_, HX.out, fun i hi => hi.1⟩, ((Below.refl _ _).alloc (Nat.le_refl _) _).alloc (by simp) _⟩
theorem MSur.more {W : World} {b k k' n : Nat} {S : List ByteArray} (h : MSur W b k n S) (hk : k ≤ k') : MSur W b k' n S := by
  obtain ⟨D, h1, h2⟩ := h
  exact ⟨D, h1.mono hk, h2⟩
theorem RS.more {Z : Nat → Prop} {w : World} {q mb n k k' : Nat} {v : Value} {S : List ByteArray} {Q : Pnd} {f : Int} {o : Bool} (h : RS Z w q mb n k v S Q f o) (hk : k ≤ k') : RS Z w q mb n k' v S Q f o :=
  ⟨h.zlt, h.zq, h.zm, h.zv, h.qm, h.pw, h.c0, h.c1, h.c2, h.c3, h.c4, h.fz, h.mp.more hk, h.rp⟩
set_option maxHeartbeats 4000000 in
set_option maxRecDepth 100000 in
theorem rflush_any {Z : Nat → Prop} {q k : Nat} {D : Dk} (w : World) (h : RX Z w q k D) (hok : D.Ok) (hl : D.pend.length ≤ 1000000) (hk : k ≤ 100000000) : Calls Tryd.prog 16 #[.pointer (some ⟨q, 0, none⟩)] w fun e w' => e = .returned (.int .i64 (flushD D).2) ∧ ∃ k', RPost Z w q k' (flushD D).1 w' ∧ k' ≤ k + D.pend.length := by
  obtain ⟨mb, v, h⟩ := h
  have c2 := h.c2
  by_cases ho : D.off = true
  · have e : flushD D = (D, 20) := by unfold flushD; rw [if_pos ho]
    rw [e]
    rw [ho] at c2
    have H := Lib.hid (show RPost Z w q k D w from ⟨Z, ⟨mb, v, h⟩, Off.refl _ _, fun i hi => .inl hi⟩)
    clear h ho e hok
    go_enter Tryd.func16, Tryd.ntmps16
    go_wp2_with fail
    go_ret
    exact ⟨rfl, k, H.out, Nat.le_add_right _ _⟩
  have hof : D.off = false := by simpa using ho
  rw [hof] at c2
  have ST := Lib.hid (rstep_any w h hok.f1 hok.f2)
  by_cases hf : D.fuel = 0
  · have e : flushD D = ({ D with off := true }, 20) := by unfold flushD; rw [if_neg ho, if_pos hf]
    rw [e]
    have hs : stepF D.fuel = D.fuel := by unfold stepF; rw [if_neg (by omega)]
    rw [if_pos hf, decide_eq_true hf, hs, Bool.not_true] at ST
    clear h ho e hof hok hf hs
    go_enter Tryd.func16, Tryd.ntmps16
    go_wp2_with fail
    refine ST.out.mono ?_
    rintro e w3 ⟨rfl, hd, ho⟩
    have H := Lib.hid (show RPost Z w q k { D with off := true } w3 from ⟨Z, ⟨mb, v, hd⟩, ho, fun i hi => .inl hi⟩)
    clear hd ho
    go_wp2_with fail
    go_ret
    exact ⟨rfl, k, H.out, Nat.le_add_right _ _⟩
  have e : flushD D = ({ sure := D.shown, pend := [], fuel := stepF D.fuel, off := D.off }, 0) := by unfold flushD; rw [if_neg ho, if_neg hf]
  rw [e]
  rw [if_neg hf, decide_eq_false hf, Bool.not_false] at ST
  obtain ⟨n, hn⟩ : ∃ n, n = D.sure.length := ⟨_, rfl⟩
  obtain ⟨m, hm⟩ : ∃ m, m = D.pend.length := ⟨_, rfl⟩
  obtain ⟨f0, hf0⟩ : ∃ f0, f0 = stepF D.fuel := ⟨_, rfl⟩
  obtain ⟨o0, ho0⟩ : ∃ o0, o0 = D.off := ⟨_, rfl⟩
  rw [← hm] at hl
  have hn9 : n ≤ 4096 := by rw [hn]; exact hok.n2
  obtain ⟨va, vc, hv⟩ := h.rp.form
  rw [← hm] at hv
  subst hv
  rw [← hn, ← hf0, ← ho0] at ST
  have HM := Lib.hid hm
  have HN := Lib.hid hn
  have HOK := Lib.hid hok
  have HFO := Lib.hid (And.intro hf0 ho0)
  clear h ho e hof hok hf hn hm hf0 ho0
  go_enter Tryd.func16, Tryd.ntmps16
  go_wp2_with fail
  refine ST.out.mono ?_
  rintro e w3 ⟨rfl, hd, ho⟩
  have H0 : Hid (RS Z w3 q mb n (k + 0) (.slice va m vc) (sk allK D.sure D.pend 0) D.pend f0 o0) := Lib.hid hd
  have HO0 := Lib.hid ho
  clear hd ho
  go_wp2_with fail
  go_loopw [3] (fun jv wr => ∃ j : Nat, jv = .int .i64 (j : Nat) ∧ j ≤ m ∧ Hid (RS Z wr q mb n (k + j) (.slice va m vc) (sk allK D.sure D.pend j) D.pend f0 o0) ∧ Hid (Off Z w wr)) (fun jv _ => m - (intOf jv).toNat)
  case atStart => exact ⟨0, rfl, Nat.zero_le _, H0, HO0⟩
  case round =>
    obtain ⟨j, rfl, hjm, HR, HO⟩ := hrel
    have c4 := HR.out.c4
    by_cases hlt : j < m
    · obtain ⟨y, hy⟩ : ∃ y, D.pend[j]? = some y := ⟨D.pend[j]'(by rw [← HM.out]; exact hlt), by simp⟩
      obtain ⟨vb, vc', hv, hvc1, hvc2, _, _, _, d0, d1⟩ := HR.out.atPend hy
      rw [← HM.out] at hv hvc1
      injection hv with hv1 _ hv3
      subst hv1; subst hv3
      have hyn := (HOK.out.pl y (List.mem_of_getElem? hy)).1
      rw [← HN.out] at hyn
      have c3 := HR.out.c3
      have hsk := sk_succ (kp := allK) (S := D.sure) hy
      obtain ⟨ya, ys⟩ := y
      simp only at d0 d1 hyn hsk
      have HSK := Lib.hid hsk
      have hrd : RS Z wr.drew q mb n (k + j) (.slice (some ⟨vb, 0, none⟩) m vc) (sk allK D.sure D.pend j) D.pend f0 o0 := HR.out.below (Below.refl _ _).drew
      obtain ⟨W', hrun, hm9, ho9⟩ := hrd.mp.put (i := ya) hyn (by rw [sk_len, ← HN.out]) hn9 (by omega) ys
      have HR9 := Lib.hid (hrd.sure hm9 ho9)
      have HO9 := Lib.hid ((HO.out.drew).trans (ho9.mono (fun i hi => hi ▸ hrd.zm)))
      unfold maxLen at hvc2
      clear hy hsk hrd hm9 ho9
      go_wp2_with fail
      go_region
      go_wp2_with fail
      have hs : sk allK D.sure D.pend (j + 1) = (sk allK D.sure D.pend j).set ya ys := by simpa using HSK.out
      exact ⟨⟨j + 1, by go_num, by omega, Lib.hid (by rw [hs]; exact HR9.out), HO9⟩, by simp [intOf]; omega⟩
    · have hjj : m = j := by omega
      subst hjj
      have f4 := HR.out.fz 4 (by omega)
      have HE := Lib.hid HR.out.nilWait
      have HO9 := Lib.hid (HO.out.setCell (p := ⟨q, 4, none⟩) (.inr HR.out.zq) (.slice none 0 0))
      go_wp2_with fail
      go_ret
      refine ⟨rfl, k + m, ⟨Z, ⟨mb, .slice none 0 0, ?_⟩, HO9.out, fun i hi => .inl hi⟩, by rw [HM.out]; exact Nat.le_refl _⟩
      have h := HE.out
      rw [HM.out] at h
      show RS Z _ q mb D.shown.length (k + m) (.slice none 0 0) D.shown [] (stepF D.fuel) D.off
      rw [D.shown_len, ← HN.out, ← HFO.out.1, ← HFO.out.2, HM.out]
      exact h
set_option maxHeartbeats 4000000 in
set_option maxRecDepth 100000 in
theorem rfall_any {Z : Nat → Prop} {q k : Nat} {D : Dk} (ks : List Bool) (kv : Value) (w : World) (h : RX Z w q k D) (hok : D.Ok) (hl : D.pend.length ≤ 1000000) (hk9 : k ≤ 100000000) (hk : RB w kv ks) (hz : ks ≠ [] → ∀ b o n c, kv = .slice (some ⟨b, o, none⟩) n c → ¬ Z b) : Calls Tryd.prog 19 #[.pointer (some ⟨q, 0, none⟩), kv] w fun e w' => e = .returned (.tuple #[]) ∧ ∃ k', RPost Z w q k' (fallD (fun j => ks.getD j false) D) w' ∧ k' ≤ k + D.pend.length := by
  obtain ⟨mb, v, h⟩ := h
  obtain ⟨ka, kc, rfl⟩ := hk.form
  obtain ⟨n, hn⟩ : ∃ n, n = D.sure.length := ⟨_, rfl⟩
  obtain ⟨m, hm⟩ : ∃ m, m = D.pend.length := ⟨_, rfl⟩
  obtain ⟨f0, hf0⟩ : ∃ f0, f0 = D.fuel := ⟨_, rfl⟩
  obtain ⟨o0, ho0⟩ : ∃ o0, o0 = D.off := ⟨_, rfl⟩
  obtain ⟨z, hzz⟩ : ∃ z, z = ks.length := ⟨_, rfl⟩
  obtain ⟨kp, hkp⟩ : ∃ kp : Nat → Bool, kp = fun j => ks.getD j false := ⟨_, rfl⟩
  rw [← hm] at hl
  have hn9 : n ≤ 4096 := by rw [hn]; exact hok.n2
  obtain ⟨va, vc, hv⟩ := h.rp.form
  rw [← hm] at hv
  subst hv
  rw [← hn, ← hf0, ← ho0] at h
  rw [← hkp]
  rw [← hzz] at hk hz ⊢
  have HK := Lib.hid hk
  have HZ := Lib.hid hz
  have HZZ := Lib.hid hzz
  have HKP := Lib.hid hkp
  have HM := Lib.hid hm
  have HN := Lib.hid hn
  have HOK := Lib.hid hok
  have H0 : Hid (RS Z w q mb n (k + 0) (.slice va m vc) (sk kp D.sure D.pend 0) D.pend f0 o0) := Lib.hid h
  have HO0 := Lib.hid (Off.refl Z w)
  clear h hok hn hm hf0 ho0 hk hz hzz hkp
  go_enter Tryd.func19, Tryd.ntmps19
  go_wp2_with fail
  go_loopw [4] (fun jv wr => ∃ j : Nat, jv = .int .i64 (j : Nat) ∧ j ≤ m ∧ Hid (RS Z wr q mb n (k + j) (.slice va m vc) (sk kp D.sure D.pend j) D.pend f0 o0) ∧ Hid (Off Z w wr)) (fun jv _ => m - (intOf jv).toNat)
  case atStart => exact ⟨0, rfl, Nat.zero_le _, H0, HO0⟩
  case round =>
    obtain ⟨j, rfl, hjm, HR, HO⟩ := hrel
    have c4 := HR.out.c4
    by_cases hlt : j < m
    · obtain ⟨y, hy⟩ : ∃ y, D.pend[j]? = some y := ⟨D.pend[j]'(by rw [← HM.out]; exact hlt), by simp⟩
      obtain ⟨vb, vc', hv, hvc1, hvc2, _, _, _, d0, d1⟩ := HR.out.atPend hy
      rw [← HM.out] at hv hvc1
      injection hv with hv1 _ hv3
      subst hv1; subst hv3
      have hyn := (HOK.out.pl y (List.mem_of_getElem? hy)).1
      rw [← HN.out] at hyn
      have c3 := HR.out.c3
      have hsk := sk_succ (kp := kp) (S := D.sure) hy
      obtain ⟨ya, ys⟩ := y
      simp only at d0 d1 hyn hsk
      have HSK := Lib.hid hsk
      have hrd : RS Z wr.drew q mb n (k + j) (.slice (some ⟨vb, 0, none⟩) m vc) (sk kp D.sure D.pend j) D.pend f0 o0 := HR.out.below (Below.refl _ _).drew
      by_cases hjz : j < z
      · obtain ⟨b, hb⟩ : ∃ b, ks[j]? = some b := ⟨ks[j]'(by rw [← HZZ.out]; exact hjz), by simp⟩
        have hkb : kp j = b := by rw [HKP.out]; show ks.getD j false = b; rw [List.getD_eq_getElem?_getD, hb]; rfl
        obtain ⟨kb, ko, rfl, hkl, hkc1, hkc2, kx⟩ := (HK.out.off HO.out HZ.out).at hb
        have HKB := Lib.hid hkb
        have hjzI : decide ((j : Int) < (z : Int)) = true := decide_eq_true (by omega)
        unfold maxLen at hkc2
        clear hb hkb
        cases b with
        | true =>
          obtain ⟨W', hrun, hm9, ho9⟩ := hrd.mp.put (i := ya) hyn (by rw [sk_len, ← HN.out]) hn9 (by omega) ys
          have HR9 := Lib.hid (hrd.sure hm9 ho9)
          have HO9 := Lib.hid ((HO.out.drew).trans (ho9.mono (fun i hi => hi ▸ hrd.zm)))
          unfold maxLen at hvc2
          clear hy hsk hrd hm9 ho9
          go_wp2_with fail
          go_region
          go_wp2_with fail
          have hs : sk kp D.sure D.pend (j + 1) = (sk kp D.sure D.pend j).set ya ys := by rw [HSK.out, if_pos HKB.out]
          exact ⟨⟨j + 1, by go_num, by omega, Lib.hid (by rw [hs]; exact HR9.out), HO9⟩, by simp [intOf]; omega⟩
        | false =>
          have hs : sk kp D.sure D.pend (j + 1) = sk kp D.sure D.pend j := by rw [HSK.out, if_neg (by rw [HKB.out]; simp)]
          have HR8 := Lib.hid (show RS Z wr q mb n (k + (j + 1)) (.slice (some ⟨vb, 0, none⟩) m vc) (sk kp D.sure D.pend (j + 1)) D.pend f0 o0 by rw [hs]; exact HR.out.more (by omega))
          unfold maxLen at hvc2
          clear hy hsk hrd hs
          go_wp2_with fail
          exact ⟨⟨j + 1, by go_num, by omega, HR8, HO⟩, by simp [intOf]; omega⟩
      · have hkb : kp j = false := by rw [HKP.out]; show ks.getD j false = false; rw [List.getD_eq_getElem?_getD, List.getElem?_eq_none (by rw [← HZZ.out]; omega)]; rfl
        have hjzI : decide ((j : Int) < (z : Int)) = false := decide_eq_false (by omega)
        have hs : sk kp D.sure D.pend (j + 1) = sk kp D.sure D.pend j := by rw [HSK.out, if_neg (by rw [hkb]; simp)]
        have HR8 := Lib.hid (show RS Z wr q mb n (k + (j + 1)) (.slice (some ⟨vb, 0, none⟩) m vc) (sk kp D.sure D.pend (j + 1)) D.pend f0 o0 by rw [hs]; exact HR.out.more (by omega))
        unfold maxLen at hvc2
        clear hy hsk hrd hs hkb
        go_wp2_with fail
        exact ⟨⟨j + 1, by go_num, by omega, HR8, HO⟩, by simp [intOf]; omega⟩
    · have hjj : m = j := by omega
      subst hjj
      have h1 := HR.out.nilWait
      have h2 := h1.setOff false
      have h3 := h2.setLeft (-1)
      have f4 := HR.out.fz 4 (by omega)
      have f2 := HR.out.fz 2 (by omega)
      have f1 := HR.out.fz 1 (by omega)
      have c1 := HR.out.c1
      have c2 := HR.out.c2
      have HE := Lib.hid h3
      have HO9 := Lib.hid (((HO.out.setCell (p := ⟨q, 4, none⟩) (.inr HR.out.zq) (.slice none 0 0)).setCell (p := ⟨q, 2, none⟩) (.inr HR.out.zq) (.bool false)).setCell (p := ⟨q, 1, none⟩) (.inr HR.out.zq) (.int .i64 (-1)))
      clear h1 h2 h3
      go_wp2_with fail
      go_end0
      refine ⟨rfl, k + m, ⟨Z, ⟨mb, .slice none 0 0, ?_⟩, HO9.out, fun i hi => .inl hi⟩, by rw [HM.out]; exact Nat.le_refl _⟩
      have h := HE.out
      rw [HM.out] at h
      show RS Z _ q mb (sk kp D.sure D.pend D.pend.length).length (k + m) (.slice none 0 0) (sk kp D.sure D.pend D.pend.length) [] (-1) false
      rw [sk_len, ← HN.out, HM.out]
      exact h
end Go.Proofs.YtbicecbcloellaaDoor
