/- The document's pages: Commit. -/
import Derived.Test.YthamfbfeokmhgaaGreatDoorU36
import Derived.Test.YthamfbfeokmhgaaGreatDoorU37
set_option linter.unusedVariables false
set_option linter.unusedSimpArgs false
namespace Go.Proofs.YthamfbfeokmhgaaGreatDoor
open Go.ChangeShapes Go.WideShapes Go.ChangeAt Go.RowKit Go.WideMaps Go.Maps

def setP (S : List ByteArray) (l : Pgs) : List ByteArray := l.foldl (fun S p => S.set p.1 p.2) S
theorem setP_len (S : List ByteArray) (l : Pgs) : (setP S l).length = S.length := by
  unfold setP
  induction l generalizing S with
  | nil => rfl
  | cons p r ih => rw [List.foldl_cons, ih, List.length_set]
theorem setP_snoc (S : List ByteArray) (l : Pgs) (p : Nat × ByteArray) : setP S (l ++ [p]) = (setP S l).set p.1 p.2 := by simp [setP]
def rcode (n : Nat) (r : RawP) : Int := if okR n r then (if 63 < r.length then 2 else 0) else 1
def RcP (a mb k n : Nat) (S : List ByteArray) (r : RawP) (w : World) (e : Ending) (w' : World) : Prop :=
  e = .returned (.int .i64 (rcode n r)) ∧ Off (fun i => i = mb) w w' ∧ ((rcode n r ≠ 0 ∧ PR w' a mb k n S) ∨ (rcode n r = 0 ∧ ∃ l, r = ofP l ∧ goodP n l ∧ PR w' a mb (k + 63) n (setP S l)))
theorem PR.more {w : World} {a mb k k' n : Nat} {S : List ByteArray} (h : PR w a mb k n S) (hk : k ≤ k') : PR w a mb k' n S := by
  obtain ⟨D, h1, h2⟩ := h.mp
  exact ⟨h.alt, h.len, h.c0, h.c1, ⟨D, h1.mono hk, h2⟩, h.ne⟩
set_option maxHeartbeats 4000000 in
set_option maxRecDepth 100000 in
theorem r13commit_any {a mb k n : Nat} {S : List ByteArray} (v : Value) (r : RawP) (w : World) (h : PR w a mb k n S) (hn : n ≤ 4000) (hk : k ≤ 1000000) (hl : PgR w v r) (hvz : ∀ b o m c, v = .slice (some ⟨b, o, none⟩) m c → r ≠ [] → b ≠ mb) (hr9 : r.length ≤ 1000000) : Calls Tryz.prog 13 #[.pointer (some ⟨a, 0, none⟩), v] w (RcP a mb k n S r w) := by
  have c0 := h.c0
  have c1 := h.c1
  obtain ⟨va, vc, rfl⟩ := hl.form
  obtain ⟨m, hm⟩ : ∃ m, m = r.length := ⟨_, rfl⟩
  rw [← hm] at hl hvz hr9 ⊢
  have HM := Lib.hid hm
  have HL := Lib.hid hl
  have HPR := Lib.hid h
  have HVZ := Lib.hid hvz
  have HBAD : Hid (¬ okR n r → RcP a mb k n S r w (.returned (.int .i64 1)) w) := Lib.hid (fun hno => by
    have e : rcode n r = 1 := by unfold rcode; rw [if_neg hno]
    exact ⟨by rw [e], Off.refl _ _, .inl ⟨by rw [e]; decide, h⟩⟩)
  have HBIG : Hid (okR n r → 63 < r.length → RcP a mb k n S r w (.returned (.int .i64 2)) w) := Lib.hid (fun h1 h2 => by
    have e : rcode n r = 2 := by unfold rcode; rw [if_pos h1, if_pos h2]
    exact ⟨by rw [e], Off.refl _ _, .inl ⟨by rw [e]; decide, h⟩⟩)
  have HALT := Lib.hid h.alt
  clear hl hm h hvz
  go_enter Tryz.func13, Tryz.ntmps13
  go_wp2_with fail
  go_loopw [5] (fun jv wr => ∃ j : Nat, jv = .int .i64 (j : Nat) ∧ j ≤ m ∧ Hid (okR n (r.take j)) ∧ wr.heap = w.heap ∧ Hid (Below w.heap.size w wr)) (fun jv _ => m - (intOf jv).toNat)
  case atStart => exact ⟨0, rfl, Nat.zero_le _, Lib.hid (by simpa using okR_nil n), rfl, Lib.hid (Below.refl _ _)⟩
  case round =>
    obtain ⟨j, rfl, hjm, HK, hwh, HB⟩ := hrel
    have d0 := (HB.out.cell (p := ⟨a, 0, none⟩) HALT.out).trans c0
    by_cases hlt : j < m
    · obtain ⟨x, hx⟩ : ∃ x, r[j]? = some x := ⟨r[j]'(by rw [← HM.out]; exact hlt), by simp⟩
      obtain ⟨b, o, rfl, hbl, hmc, hcm, e0, e1⟩ := (HL.out.below HB.out).at hx
      unfold maxLen at hcm
      have hjI : (j : Int) < (m : Int) := by omega
      have HX := Lib.hid hx
      obtain ⟨i, s⟩ := x
      simp only at e0 e1
      clear hx hbl
      have HBE : Hid (∀ W : World, W.heap = w.heap → Below w.heap.size w W → ¬ okR n r → RcP a mb k n S r w (.returned (.int .i64 1)) W) := Lib.hid (fun W hW hB hno => by
        have e : rcode n r = 1 := by unfold rcode; rw [if_neg hno]
        exact ⟨by rw [e], Off.of_below hB, .inl ⟨by rw [e]; decide, HPR.out.below hB⟩⟩)
      by_cases hin : 0 ≤ i ∧ i < (n : Int)
      · obtain ⟨hi0, hin⟩ := hin
        obtain ⟨q, hq⟩ : ∃ q : Nat, i = (q : Int) := ⟨i.toNat, by omega⟩
        have hi0' : ¬ i < 0 := by omega
        have hin' : ¬ (n : Int) ≤ i := by omega
        have HQE := Lib.hid hq
        clear hq
        by_cases hs : 512 < s.size
        · have hsI : (512 : Int) < (s.size : Int) := by omega
          have HNO := Lib.hid (okR_no (N := n) HX.out (.inr hs))
          go_wp2_with fail
          go_quiet (fail)
          go_wp2_with fail
          go_ret
          exact HBE.out _ hwh (Below.drewN HB.out) HNO.out
        · have hsI : ¬ (512 : Int) < (s.size : Int) := by omega
          have HS := Lib.hid (Nat.le_of_not_lt hs)
          clear hs
          go_wp2_with fail
          go_quiet (fail)
          go_wp2_with fail
          have hB2 : Below w.heap.size w (wr.drewN nq) := Below.drewN HB.out
          have hwh2 : (wr.drewN nq).heap = w.heap := hwh
          generalize wr.drewN nq = wz at *
          have HB2 := Lib.hid hB2
          clear hB2
          go_loopw [6] (fun kv wk => ∃ g : Nat, kv = .int .i64 (g : Nat) ∧ g ≤ j ∧ Hid (∀ y ∈ r.take g, y.1 ≠ i) ∧ wk.heap = w.heap ∧ Hid (Below w.heap.size w wk)) (fun kv _ => j - (intOf kv).toNat)
          case atStart => exact ⟨0, rfl, Nat.zero_le _, Lib.hid (by simp), hwh2, HB2⟩
          case round =>
            obtain ⟨g, rfl, hgj, HNE, hwk, HBK⟩ := hrel
            by_cases hgl : g < j
            · obtain ⟨y, hy⟩ : ∃ y, r[g]? = some y := ⟨r[g]'(by rw [← HM.out]; omega), by simp⟩
              obtain ⟨b1, o1, hba, hbl1, _, _, f0, f1⟩ := (HL.out.below HBK.out).at hy
              injection hba with hba
              injection hba with hba1 hba2
              subst hba1; subst hba2
              obtain ⟨b2, o2, hbb, _, _, _, g0, g1⟩ := (HL.out.below HBK.out).at HX.out
              injection hbb with hbb
              injection hbb with hbb1 hbb2
              subst hbb1; subst hbb2
              have hgI : (g : Int) < (j : Int) := by omega
              have hgmI : (g : Int) < (m : Int) := by omega
              obtain ⟨y1, y2⟩ := y
              simp only at f0 f1 g0 g1
              have HY := Lib.hid hy
              clear hy hbl1
              by_cases heq : y1 = i
              · have HNO : Hid (¬ okR n r) := Lib.hid (okR_twice HX.out ⟨(y1, y2), by
                  rw [List.mem_iff_getElem?]
                  exact ⟨g, by rw [List.getElem?_take, if_pos (by omega)]; exact HY.out⟩, heq⟩)
                subst heq
                clear HQE
                go_wp2_with fail
                go_quiet (fail)
                go_wp2_with fail
                go_ret
                exact HBE.out _ hwk (Below.drewN HBK.out) HNO.out
              · have heqB : (y1 == i) = false := by rw [beq_eq_false_iff_ne]; exact heq
                have HQ := Lib.hid heq
                have HTG : Hid (r.take (g + 1) = r.take g ++ [(y1, y2)]) := Lib.hid (by rw [List.take_add_one, HY.out]; rfl)
                clear heq
                go_wp2_with fail
                go_quiet (fail)
                go_wp2_with fail
                exact ⟨⟨g + 1, by go_num, by omega, Lib.hid (by
                  rw [HTG.out]
                  intro z hz
                  rcases List.mem_append.1 hz with hz | hz
                  · exact HNE.out z hz
                  · rw [List.mem_singleton] at hz; subst hz; exact HQ.out), hwk, Lib.hid (Below.drewN HBK.out)⟩, by simp [intOf]; omega⟩
            · have hgg : g = j := by omega
              have hne := HNE.out
              rw [hgg] at hne
              have HTK : Hid (r.take (j + 1) = r.take j ++ [((q : Int), s)]) := Lib.hid (by rw [List.take_add_one, HX.out, HQE.out]; rfl)
              have hok : okR n (r.take (j + 1)) := by
                rw [HTK.out]
                refine okR_step HK.out (by have := HQE.out; omega) HS.out (decide_eq_false ?_)
                rintro ⟨y, hy, e⟩
                exact hne y hy (e.trans HQE.out.symm)
              have HOK := Lib.hid hok
              have hltI : ¬ (g : Int) < (j : Int) := by omega
              clear hgg hne hok
              go_wp2_with fail
              exact ⟨⟨j + 1, by go_num, by omega, HOK, hwk, HBK⟩, by simp [intOf]; omega⟩
      · have HNO := Lib.hid (okR_no (N := n) HX.out (.inl hin))
        have hq : i < 0 ∨ (n : Int) ≤ i := by omega
        rcases hq with hq | hq
        · clear hin
          go_wp2_with fail
          go_quiet (fail)
          go_wp2_with fail
          go_ret
          exact HBE.out _ hwh (Below.drewN HB.out) HNO.out
        · have hq0 : ¬ i < 0 := by omega
          clear hin
          go_wp2_with fail
          go_quiet (fail)
          go_wp2_with fail
          go_ret
          exact HBE.out _ hwh (Below.drewN HB.out) HNO.out
    · have hjj : m = j := by omega
      subst hjj
      have hok := HK.out
      rw [List.take_of_length_le (by rw [← HM.out]; exact Nat.le_refl _)] at hok
      by_cases hm63 : 63 < m
      · have h63 : (63 : Int) < (m : Int) := by omega
        have e : rcode n r = 2 := by unfold rcode; rw [if_pos hok, if_pos (by rw [← HM.out]; exact hm63)]
        have HF : Hid (RcP a mb k n S r w (.returned (.int .i64 2)) wr) := Lib.hid ⟨by rw [e], Off.of_below HB.out, .inl ⟨by rw [e]; decide, HPR.out.below HB.out⟩⟩
        have hltI : ¬ (m : Int) < (m : Int) := by omega
        clear hok e
        go_wp2_with fail
        go_ret
        exact HF.out
      · have h63 : ¬ (63 : Int) < (m : Int) := by omega
        obtain ⟨l, hrl, hgd⟩ := okR_of hok
        have e : rcode n r = 0 := by unfold rcode; rw [if_pos hok, if_neg (by rw [← HM.out]; exact hm63)]
        have hll : l.length = m := by rw [HM.out, hrl, ofP_len]
        have HE := Lib.hid e
        have HRL := Lib.hid hrl
        have HGD := Lib.hid hgd
        have HLL := Lib.hid hll
        have hltI : ¬ (m : Int) < (m : Int) := by omega
        have hm1 : m ≤ 63 := by omega
        have HP1 := Lib.hid (HPR.out.below HB.out)
        have HB1 := HB
        clear hok e hrl hgd hll hm63
        go_wp2_with fail
        go_loopw [7] (fun jv wk => ∃ j : Nat, jv = .int .i64 (j : Nat) ∧ j ≤ m ∧ Hid (PR wk a mb (k + j) n (setP S (l.take j))) ∧ Hid (Off (fun i => i = mb) w wk)) (fun jv _ => m - (intOf jv).toNat)
        case atStart => exact ⟨0, rfl, Nat.zero_le _, Lib.hid (by simpa [setP] using HP1.out), Lib.hid (Off.of_below HB1.out)⟩
        case round =>
          obtain ⟨j, rfl, hjm2, HPK, HOK⟩ := hrel
          have k1 := HPK.out.c1
          by_cases hlt2 : j < m
          · obtain ⟨x, hx⟩ : ∃ x, l[j]? = some x := ⟨l[j]'(by rw [HLL.out]; exact hlt2), by simp⟩
            have hxr : r[j]? = some ((x.1 : Int), x.2) := by rw [HRL.out]; exact ofP_at hx
            have hrne : r ≠ [] := fun e => by rw [e] at hxr; simp at hxr
            obtain ⟨b, o, hba, hbl, hmc, hcm, e0, e1⟩ := (HL.out.off HOK.out (fun b o m' c' e hz => HVZ.out b o m' c' e hrne hz)).at hxr
            subst hba
            unfold maxLen at hcm
            have hxg := HGD.out.1 x (List.mem_of_getElem? hx)
            have HTK : Hid (l.take (j + 1) = l.take j ++ [x]) := Lib.hid (by rw [List.take_add_one, hx]; rfl)
            obtain ⟨i, s⟩ := x
            simp only at e0 e1 hxg
            have hjI : (j : Int) < (m : Int) := by omega
            have hjI2 : ¬ (m : Int) < (j : Int) := by omega
            have HFU := Lib.hid (fun W => rfull_any s W hxg.2)
            have hi : i < n := hxg.1
            have HPUT : Hid (∀ W, Below wr.heap.size wr W → ∃ W', (Instr.mapUpdate 67 (.map (some mb)) (.int .i64 (i : Int)) (.string (fullB s))).run Tryz.prog W = .ok () W' ∧ PR W' a mb (k + (j + 1)) n (setP S (l.take (j + 1))) ∧ Off (fun i => i = mb) w W') := Lib.hid (fun W hW => by
              have hp := HPK.out.below hW
              obtain ⟨W', h1, h2, h3⟩ := hp.mp.put (i := i) hi hp.len (by omega) (by omega) s
              refine ⟨W', h1, ?_, (HOK.out.trans (Off.of_below hW)).trans h3⟩
              rw [HTK.out, setP_snoc]
              exact ⟨Nat.lt_of_lt_of_le hp.alt h3.size, by rw [List.length_set]; exact hp.len, (h3.cell (p := ⟨a, 0, none⟩) hp.alt hp.ne).trans hp.c0, (h3.cell (p := ⟨a, 1, none⟩) hp.alt hp.ne).trans hp.c1, h2, hp.ne⟩)
            obtain ⟨fs, hfs⟩ : ∃ fs, fs = fullB s := ⟨_, rfl⟩
            rw [← hfs] at HFU HPUT
            have HE0 := Lib.hid (fun (W : World) (hW : Below wr.heap.size wr W) => (hW.cell (p := ⟨b, o + j * 2, none⟩) hbl).trans e0)
            have HK1 := Lib.hid (fun (W : World) (hW : Below wr.heap.size wr W) => (hW.cell (p := ⟨a, 1, none⟩) HPK.out.alt).trans k1)
            clear hx hxr hbl hxg hfs
            go_wp2_with fail
            go_region_law (go_simp; refine (HFU.out _).mono ?_; rintro e w5 ⟨rfl, hb5⟩; have hB5 : Below wr.heap.size wr w5 := (by refine Below.trans (b := _) ?_ hb5; (repeat refine Below.drew ?_); exact Below.refl _ _); have u0 := HE0.out w5 hB5; have u1 := HK1.out w5 hB5; obtain ⟨w6, hrun, hp6, ho6⟩ := HPUT.out w5 hB5; clear hB5; have HP6 := Lib.hid hp6; have HO6 := Lib.hid ho6; clear hb5 hp6 ho6)
            all_goals
              go_wp2_with fail
              exact ⟨⟨j + 1, by go_num, by omega, HP6, HO6⟩, by simp [intOf]; omega⟩
          · have hjj : m = j := by omega
            have hfin : RcP a mb k n S r w (.returned (.int .i64 0)) wr := by
              refine ⟨by rw [HE.out], HOK.out, .inr ⟨HE.out, l, HRL.out, HGD.out, ?_⟩⟩
              have := HPK.out
              rw [List.take_of_length_le (by rw [HLL.out]; omega)] at this
              exact this.more (by omega)
            have HF := Lib.hid hfin
            have hltJ : ¬ (j : Int) < (m : Int) := by omega
            clear hfin hjj
            go_wp2_with fail
            go_ret
            exact HF.out
end Go.Proofs.YthamfbfeokmhgaaGreatDoor
