/- The contract of the document's product of numbers of base 65536. -/
import Derived.Test.YtnlmklbehldfcaaDoorRootM
set_option linter.unusedVariables false
namespace Go.Proofs.YtnlmklbehldfcaaDoor
open Go.ChangeShapes Go.WideShapes Go.ChangeAt Go.RowKit

theorem Tryd.infoU64 : (Tryd.prog.info? 41).map (fun i => (i.zero, i.size, i.bytes)) = some (some (.int .u64 0), 1, 8) := by kernel_rfl
def uvs (l : List Nat) : List Value := l.map fun (x : Nat) => Value.int .u64 (x : Int)
theorem uvs_len (l : List Nat) : (uvs l).length = l.length := by simp [uvs]
theorem uvs_at {l : List Nat} {i x : Nat} (h : l[i]? = some x) : (uvs l)[i]? = some (.int .u64 (x : Int)) := by simp [uvs, h]
theorem uvs_set (l : List Nat) (i x : Nat) : uvs (l.set i x) = (uvs l).set i (.int .u64 (x : Int)) := by simp [uvs, List.map_set]
def Dig (l : List Nat) : Prop := ∀ x ∈ l, x < 65536
theorem Dig.set {l : List Nat} (h : Dig l) (i x : Nat) (hx : x < 65536) : Dig (l.set i x) := by
  intro y hy
  rcases List.mem_or_eq_of_mem_set hy with h' | rfl
  · exact h y h'
  · exact hx
theorem Dig.at {l : List Nat} (h : Dig l) {i x : Nat} (hx : l[i]? = some x) : x < 65536 := h x (List.mem_of_getElem? hx)

/-- An argument of numbers: its cells. -/
theorem arr_u {B : Nat} {w : World} {v : Value} {l : List Nat} (h : Arr B w v (uvs l)) (hl : 0 < l.length) : ∃ b cap, v = .slice (some ⟨b, 0, none⟩) l.length cap ∧ B ≤ b ∧ l.length ≤ cap ∧ cap ≤ maxLen ∧ b < w.heap.size ∧ ∀ (i x : Nat), l[i]? = some x → w.cell? ⟨b, i, none⟩ = some (.int .u64 (x : Int)) := by
  obtain ⟨b, cap, h1, h2, h3, h4, h5, h6, h7⟩ := h.pos (by intro e; have := uvs_len l; rw [e] at this; simp at this; omega)
  rw [uvs_len] at h1 h4
  exact ⟨b, cap, h1, h2, h4, h5, h3, fun i x hx => h7 i _ (uvs_at hx)⟩
theorem repl_at (n i : Nat) (h : i < n) : (List.replicate n 0)[i]? = some 0 := by rw [List.getElem?_replicate, if_pos h]
theorem val_zero (n : Nat) : val (List.replicate n 0) = 0 := by
  induction n with
  | zero => rfl
  | succ n ih => rw [List.replicate_succ, val, ih]

set_option maxHeartbeats 4000000 in
set_option maxRecDepth 100000 in
theorem times_any (A B : List Nat) (va vb : Value) (ba bb : Nat) (w : World) (hA : Arr ba w va (uvs A)) (hB : Arr bb w vb (uvs B)) (dA : Dig A) (dB : Dig B) (la : 0 < A.length ∧ A.length ≤ 10) (lb : 0 < B.length ∧ B.length ≤ 10) :
    Calls Tryd.prog 43 #[va, vb] w fun e w' => ∃ v C, e = .returned v ∧ Arr w.heap.size w' v (uvs C) ∧ C.length = A.length + B.length ∧ Dig C ∧ val C = val A * val B ∧ Below w.heap.size w w' := by
  obtain ⟨xa, ca, rfl, -, hca, hma, hxa, hcA⟩ := arr_u hA la.1
  obtain ⟨xb, cb, rfl, -, hcb, hmb, hxb, hcB⟩ := arr_u hB lb.1
  obtain ⟨nA, hnA⟩ : ∃ n, n = A.length := ⟨_, rfl⟩
  obtain ⟨nB, hnB⟩ : ∃ n, n = B.length := ⟨_, rfl⟩
  rw [← hnA] at la hca ⊢
  rw [← hnB] at lb hcb ⊢
  obtain ⟨la1, la2⟩ := la
  obtain ⟨lb1, lb2⟩ := lb
  have hmk := run_make_row' (P := Tryd.prog) 86 41 (.int .u64 0) 8 Tryd.underlying86 Tryd.infoU64 rfl .i64 .i64 (nA + nB) (by omega) (by omega) w
  rw [show ((nA + nB : Nat) : Int) = (nA : Int) + (nB : Int) by omega] at hmk
  have HCA := Lib.hid hcA
  have HCB := Lib.hid hcB
  have HNA := Lib.hid hnA
  have HNB := Lib.hid hnB
  have HDA := Lib.hid dA
  have HDB := Lib.hid dB
  have HXA := Lib.hid hxa
  have HXB := Lib.hid hxb
  clear hcA hcB hnA hnB hA hB dA dB
  go_enter Tryd.func43, Tryd.ntmps43
  go_wp2
  go_loopw [6] (fun iv wr => ∃ (i : Nat) (O : List Nat), i ≤ nA ∧ iv = .int .i64 i ∧ O.length = nA + nB ∧ Hid (Dig O) ∧ Hid (val O = val (A.take i) * val B) ∧ Hid (∀ k, i + nB ≤ k → k < nA + nB → O[k]? = some 0) ∧ Arr w.heap.size wr (.slice (some ⟨w.heap.size, 0, none⟩) (nA + nB) (nA + nB)) (uvs O) ∧ Below w.heap.size w wr) (fun iv _ => nA - (intOf iv).toNat)
  case atStart =>
    refine ⟨0, List.replicate (nA + nB) 0, Nat.zero_le _, rfl, by simp, Lib.hid ?_, Lib.hid ?_, Lib.hid (fun k _ hk => repl_at _ _ hk), ?_, (Below.refl _ _).alloc (Nat.le_refl _) _⟩
    · intro x hx
      rw [List.eq_of_mem_replicate hx]; omega
    · rw [val_zero]; simp [val]
    · have := arr_new (B := w.heap.size) (w := w) (e := 41) (cs := uvs (List.replicate (nA + nB) 0)) (cap := nA + nB) (xs := madeCells #[.int .u64 0] (nA + nB)) (fr := (0, 0)) (Nat.le_refl _) (by rw [uvs_len]; simp) (by unfold maxLen; omega) (size_madeCells _ _) (.inl rfl) (fun j u hu => by
        have hj : j < nA + nB := by
          have := (List.getElem?_eq_some_iff.1 hu).1
          rw [uvs_len, List.length_replicate] at this
          exact this
        rw [uvs_at (repl_at _ _ hj)] at hu
        rw [← Option.some.inj hu]
        simp [madeCells, hj, Nat.mod_one])
      rw [uvs_len, List.length_replicate] at this
      exact this
  case round =>
    obtain ⟨i, O, hi, rfl, hOl, HD, HV, HZ, harr, hbel⟩ := hrel
    by_cases hlt : i < nA
    · obtain ⟨a, ha⟩ : ∃ a, A[i]? = some a := ⟨A[i]'(by rw [← HNA.out]; exact hlt), List.getElem?_eq_getElem _⟩
      have ha6 := HDA.out.at ha
      have HAi := Lib.hid ha
      have HARR := Lib.hid harr
      have HBEL := Lib.hid hbel
      clear harr hbel ha
      obtain ⟨V, hV⟩ : ∃ V, V = val O := ⟨_, rfl⟩
      have HVV := Lib.hid hV
      clear hV
      go_wp2
      go_loopw [7, 8, 9] (fun cv jv xv wr => ∃ (j c : Nat) (O' : List Nat) (y : Value), j ≤ nB ∧ jv = .int .i64 j ∧ cv = .int .u64 c ∧ xv = y ∧ c < 65536 ∧ O'.length = nA + nB ∧ Hid (Dig O') ∧ Hid (val O' + 65536 ^ (i + j) * c = V + a * (65536 ^ i * val (B.take j))) ∧ Hid (∀ k, i + nB ≤ k → k < nA + nB → O'[k]? = some 0) ∧ Arr w.heap.size wr (.slice (some ⟨w.heap.size, 0, none⟩) (nA + nB) (nA + nB)) (uvs O') ∧ Below w.heap.size w wr) (fun _ jv _ _ => nB - (intOf jv).toNat)
      case atStart => exact ⟨0, 0, O, _, Nat.zero_le _, rfl, rfl, rfl, by omega, hOl, HD, Lib.hid (by rw [HVV.out]; simp [val]), HZ, HARR.out, HBEL.out⟩
      case round =>
        obtain ⟨j, c, O', y, hj, rfl, rfl, rfl, hc, hOl', HD', HV', HZ', harr, hbel⟩ := hrel
        have hsz := hbel.size
        obtain ⟨_, cap', hs, _, _, _, _, hth, hcl⟩ := harr.pos (by intro e; have := uvs_len O'; rw [e] at this; simp at this; omega)
        obtain ⟨rfl, rfl⟩ := (by injection hs with e1 e2 e3; injection e1 with e1; injection e1 with e1; exact ⟨e1, e3⟩ : w.heap.size = _ ∧ nA + nB = cap')
        by_cases hjl : j < nB
        · obtain ⟨o, ho⟩ : ∃ o, O'[i + j]? = some o := ⟨O'[i + j]'(by omega), List.getElem?_eq_getElem _⟩
          obtain ⟨b, hb⟩ : ∃ b, B[j]? = some b := ⟨B[j]'(by rw [← HNB.out]; exact hjl), List.getElem?_eq_getElem _⟩
          have ho6 := HD'.out.at ho
          have hb6 := HDB.out.at hb
          have cO := hcl (i + j) _ (uvs_at ho)
          have fO := (hth (i + j) (by omega)).2
          have cA : wr.cell? ⟨xa, i, none⟩ = some (.int .u64 (a : Int)) := (hbel.cell (p := ⟨xa, i, none⟩) HXA.out).trans (HCA.out i a HAi.out)
          have cB : wr.cell? ⟨xb, j, none⟩ = some (.int .u64 (b : Int)) := (hbel.cell (p := ⟨xb, j, none⟩) HXB.out).trans (HCB.out j b hb)
          have hab : a * b ≤ 65535 * 65535 := Nat.mul_le_mul (by omega) (by omega)
          obtain ⟨ab, habe⟩ : ∃ ab, ab = a * b := ⟨_, rfl⟩
          rw [← habe] at hab
          have habi : (a : Int) * (b : Int) = (ab : Int) := by rw [habe]; simp
          have hst := times_step HV'.out ho hb (rfl : o + a * b + c = _)
          rw [← habe] at hst
          have h00 : (0 : Int) ≤ i := by omega
          have h01 : (i : Int) < nA := by omega
          have h02 : (0 : Int) ≤ j := by omega
          have h03 : (j : Int) < nB := by omega
          have h04 : (i : Int) + j < nA + nB := by omega
          have HO := Lib.hid ho
          have HST := Lib.hid hst
          have HARR' := Lib.hid harr
          have HBEL' := Lib.hid hbel
          have HAB := Lib.hid habe
          clear ho hb hst harr hbel hcl hth hs habe hj hi
          obtain ⟨w0, rfl⟩ : ∃ w0, w0 = wr := ⟨wr, rfl⟩
          go_wp2
          go_quiet (fail)
          generalize hwz : w0.drewN nq = wz
          have HWZ := Lib.hid hwz
          have cO' : wz.cell? ⟨w.heap.size, i + j, none⟩ = some (.int .u64 (o : Int)) := by rw [← hwz]; exact cO
          have fO' : wz.frozen? ⟨w.heap.size, i + j, none⟩ = false := by rw [← hwz]; exact fO
          clear hwz cO fO cA cB
          go_wp2
          have hx6 : (o + ab + c) / 65536 < 65536 := by omega
          have hr6 : (o + ab + c) % 65536 < 65536 := by omega
          have hv : ((o : Int) + (ab : Int) + (c : Int)) % 65536 = (((o + ab + c) % 65536 : Nat) : Int) := by omega
          have hq : ((o : Int) + (ab : Int) + (c : Int)) / 65536 = (((o + ab + c) / 65536 : Nat) : Int) := by omega
          rw [hv, hq]
          refine ⟨⟨j + 1, (o + ab + c) / 65536, O'.set (i + j) ((o + ab + c) % 65536), _, hjl, by go_num, rfl, rfl, hx6, by rw [List.length_set]; exact hOl', Lib.hid (HD'.out.set _ _ hr6), Lib.hid HST.out, Lib.hid (fun k h1 h2 => by rw [List.getElem?_set_ne (by omega)]; exact HZ'.out k h1 h2), ?_, ?_⟩, by simp [intOf]; omega⟩
          · rw [uvs_set]
            exact Arr.set (by rw [← HWZ.out]; exact HARR'.out) (by rw [uvs_len]; omega) _
          · exact Below.setCell (by rw [← HWZ.out]; exact Below.drewN HBEL'.out) (p := ⟨w.heap.size, i + j, none⟩) (Nat.le_refl _) _
        · have hje : j = nB := by omega
          have ho := HZ'.out (i + nB) (Nat.le_refl _) (by omega)
          have cO := hcl (i + nB) _ (uvs_at ho)
          have fO := (hth (i + nB) (by omega)).2
          have hsv := val_set O' (i + nB) c 0 ho
          have hfull : B.take nB = B := by rw [HNB.out, List.take_length]
          have hval : val (O'.set (i + nB) c) = val (A.take (i + 1)) * val B := by
            have h2 := HV'.out
            rw [hje, hfull, HVV.out, HV.out] at h2
            rw [val_take HAi.out, Nat.add_mul]
            have e1 : 65536 ^ i * a * val B = a * (65536 ^ i * val B) := by rw [Nat.mul_comm (65536 ^ i) a, Nat.mul_assoc]
            rw [e1]
            omega
          have HVAL := Lib.hid hval
          have HARR' := Lib.hid harr
          have HBEL' := Lib.hid hbel
          have HO := Lib.hid ho
          have h00 : (0 : Int) ≤ i := by omega
          have h01 : (i : Int) < nA := by omega
          have h04 : (i : Int) + nB < nA + nB := by omega
          subst hje
          clear harr hbel hcl hth hs ho hsv hfull hval
          go_wp2
          trace_state
          refine ⟨⟨i + 1, O'.set (i + j) c, hlt, by go_num, by rw [List.length_set]; exact hOl', Lib.hid (HD'.out.set _ _ hc), Lib.hid HVAL.out, Lib.hid (fun k h1 h2 => by rw [List.getElem?_set_ne (by omega)]; exact HZ'.out k (by omega) h2), ?_, ?_⟩, by simp [intOf]; omega⟩
          · rw [uvs_set]
            exact Arr.set HARR'.out (by rw [uvs_len]; omega) _
          · exact Below.setCell HBEL'.out (p := ⟨w.heap.size, i + j, none⟩) (Nat.le_refl _) _
    · have hie : i = nA := by omega
      have hfull : A.take i = A := by rw [hie, HNA.out, List.take_length]
      rw [hfull] at HV
      clear hfull hie
      have HARR := Lib.hid harr
      have HBEL := Lib.hid hbel
      clear harr hbel
      go_wp2
      go_ret
      exact ⟨_, O, rfl, HARR.out, by rw [hOl], HD.out, HV.out, HBEL.out⟩
end Go.Proofs.YtnlmklbehldfcaaDoor
