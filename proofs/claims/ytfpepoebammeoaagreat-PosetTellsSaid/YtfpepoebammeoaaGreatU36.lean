/- slices.Repeat of one reach: a row of equal pairs. -/
import Derived.Laws.CopyOwn
import Derived.Laws.IdiomCopy
import Derived.Test.YtfpepoebammeoaaGreatShelfC
import Derived.Test.YtfpepoebammeoaaGreatU35
set_option linter.unusedVariables false
set_option linter.unusedSimpArgs false
namespace Go.Proofs.YtfpepoebammeoaaGreat
open Go.ChangeShapes Go.WideShapes Go.ChangeAt Go.RowKit

def rcv (f g : Nat → Int) (m : Nat) : List Value := (List.range m).flatMap fun i => [.int .i64 (f i), .int .i64 (g i)]
theorem rcv_succ (f g : Nat → Int) (m : Nat) : rcv f g (m + 1) = rcv f g m ++ [.int .i64 (f m), .int .i64 (g m)] := by simp [rcv, List.range_succ]
theorem rcv_len (f g : Nat → Int) : ∀ m, (rcv f g m).length = m * 2
  | 0 => rfl
  | m + 1 => by rw [rcv_succ, List.length_append, rcv_len f g m]; simp; omega
theorem rcv_at (f g : Nat → Int) : ∀ {m i : Nat}, i < m → (rcv f g m)[i * 2]? = some (.int .i64 (f i)) ∧ (rcv f g m)[i * 2 + 1]? = some (.int .i64 (g i))
  | 0, i, h => by omega
  | m + 1, i, h => by
    rw [rcv_succ]
    rcases Nat.lt_or_ge i m with c | c
    · rw [List.getElem?_append_left (by rw [rcv_len]; omega), List.getElem?_append_left (by rw [rcv_len]; omega)]
      exact rcv_at f g c
    · obtain rfl : i = m := by omega
      rw [List.getElem?_append_right (by rw [rcv_len]; omega), List.getElem?_append_right (by rw [rcv_len]; omega), rcv_len, Nat.sub_self, show i * 2 + 1 - i * 2 = 1 by omega]
      exact ⟨rfl, rfl⟩
theorem rcv_ext {f g f' g' : Nat → Int} : ∀ {m : Nat}, (∀ i, i < m → f i = f' i ∧ g i = g' i) → rcv f g m = rcv f' g' m
  | 0, _ => rfl
  | m + 1, h => by
    rw [rcv_succ, rcv_succ, rcv_ext (m := m) (fun i hi => h i (by omega)), (h m (by omega)).1, (h m (by omega)).2]
theorem list_ext2 {l l' : List Value} {m : Nat} (h1 : l.length = m * 2) (h2 : l'.length = m * 2) (h : ∀ i, i < m → l[i * 2]? = l'[i * 2]? ∧ l[i * 2 + 1]? = l'[i * 2 + 1]?) : l = l' := by
  apply List.ext_getElem?
  intro j
  rcases Nat.lt_or_ge j (m * 2) with c | c
  · have hj : j = j / 2 * 2 ∨ j = j / 2 * 2 + 1 := by omega
    rcases hj with e | e
    · rw [e]; exact (h (j / 2) (by omega)).1
    · rw [e]; exact (h (j / 2) (by omega)).2
  · rw [List.getElem?_eq_none (by omega), List.getElem?_eq_none (by omega)]
theorem rcv_set1 {f g : Nat → Int} {m i : Nat} (h : i < m) (x : Int) : (rcv f g m).set (i * 2) (.int .i64 x) = rcv (updI f i x) g m := by
  refine list_ext2 (m := m) (by rw [List.length_set, rcv_len]) (rcv_len _ _ _) fun k hk => ?_
  obtain ⟨a, b⟩ := rcv_at f g hk
  obtain ⟨a', b'⟩ := rcv_at (updI f i x) g hk
  rw [a', b']
  by_cases e : k = i
  · subst e
    rw [List.getElem?_set_self (by rw [rcv_len]; omega), List.getElem?_set_ne (by omega), b]
    simp [updI]
  · rw [List.getElem?_set_ne (by omega), List.getElem?_set_ne (by omega), a, b]
    simp [updI, e]
theorem rcv_set2 {f g : Nat → Int} {m i : Nat} (h : i < m) (x : Int) : (rcv f g m).set (i * 2 + 1) (.int .i64 x) = rcv f (updI g i x) m := by
  refine list_ext2 (m := m) (by rw [List.length_set, rcv_len]) (rcv_len _ _ _) fun k hk => ?_
  obtain ⟨a, b⟩ := rcv_at f g hk
  obtain ⟨a', b'⟩ := rcv_at f (updI g i x) hk
  rw [a', b']
  by_cases e : k = i
  · subst e
    rw [List.getElem?_set_self (by rw [rcv_len]; omega), List.getElem?_set_ne (by omega), a]
    simp [updI]
  · rw [List.getElem?_set_ne (by omega), List.getElem?_set_ne (by omega), a, b]
    simp [updI, e]
theorem infoR : (Tryz.prog.info? 92).map (fun i => (i.zero, i.size, i.bytes)) = some (some (.agg #[.int .i64 0, .int .i64 0]), 2, 16) := by kernel_rfl
theorem sizeR : (Tryz.prog.info? 92).map (·.size) = some 2 := by kernel_rfl
theorem make_reach (n : Nat) (hn : n ≤ 1000000) (w : World) :
    (Instr.makeSlice 86 (.int .i64 (n : Int)) (.int .i64 (n : Int))).run Tryz.prog w = .ok (.slice (some ⟨w.heap.size, 0, none⟩) n n) (w.alloc (.cells (madeCells #[.int .i64 0, .int .i64 0] (n * 2)) 92)) := by
  obtain ⟨i, hi, hz, hsize, hby⟩ := info_parts infoR
  have hr := run_make (P := Tryz.prog) w 86 92 i _ Tryz.underlying86 hi hz .i64 .i64 n n (by omega) (Int.le_refl _) (by rw [hby]; omega) (by omega)
  simp only [Int.toNat_natCast, hsize] at hr
  exact hr
theorem made_reach {w : World} {n B : Nat} (hn : n ≤ 1000000) (hB : B ≤ w.heap.size) (t : TypeId) : Row 2 B (w.alloc (.cells (madeCells #[.int .i64 0, .int .i64 0] (n * 2)) t)) (.slice (some ⟨w.heap.size, 0, none⟩) n n) n (rcv (fun _ => 0) (fun _ => 0) n) :=
  row_new hB (rcv_len _ _ _) (Nat.le_refl _) (by unfold maxLen; omega) (by rw [size_madeCells]; exact Nat.le_refl _) (.inl rfl) (fun j u hu => by
    have hj : j < n * 2 := by have := (List.getElem?_eq_some_iff.1 hu).1; rw [rcv_len] at this; exact this
    have hc : j = j / 2 * 2 ∨ j = j / 2 * 2 + 1 := by omega
    have hu0 : u = .int .i64 0 := by
      rcases hc with e | e
      · rw [e, (rcv_at _ _ (show j / 2 < n by omega)).1] at hu; exact (Option.some.inj hu).symm
      · rw [e, (rcv_at _ _ (show j / 2 < n by omega)).2] at hu; exact (Option.some.inj hu).symm
    subst hu0
    have hm : j % 2 = 0 ∨ j % 2 = 1 := by omega
    rcases hm with e | e <;> simp [madeCells, hj, e])
theorem run_copy_two {P : Program} (w : World) (dT sT ty elem : TypeId) (b o dLen dCap : Nat) (a : Addr) (sLen sCap : Nat) (cs : List Value) (n : Nat)
    (hu : P.underlying dT = some (.slice elem)) (hs : (P.info? elem).map (·.size) = some 2) (hn : n = Nat.min sLen dLen) (hcs : cs.length = n * 2)
    (hsrc : ∀ j v, cs[j]? = some v → w.cell? (a.add j) = some v) (hc : ∀ j, j < cs.length → (w.cell? ⟨b, o + j, none⟩).isSome = true) (hf : ∀ j, j < cs.length → w.frozen? ⟨b, o + j, none⟩ = false) (h1 : ∀ v ∈ cs, v.oneCell' = true) :
    (Builtin.copy_ #[dT, sT] ty #[.slice (some ⟨b, o, none⟩) dLen dCap, .slice (some a) sLen sCap]).run P w = .ok (goInt n) (w.setCells b o cs) := by
  have hl := run_loadCells_list (P := P) w a cs hsrc
  have hst := run_storeCells_cells (P := P) b o cs 0 w (by simpa using hc) (by simpa using hf) h1
  cases hq : P.info? elem with
  | none => simp [hq] at hs
  | some i =>
    have hi : i.size = 2 := by simpa [hq] using hs
    have hm : Nat.min sLen dLen * 2 = cs.length := by rw [hcs, hn]
    simp [Builtin.copy_, run_underlying hu, Builtin.lenOf, Builtin.firstCells, sizeOf, typeInfo, hq, hi, hm, hl, hst, hn]
def putAll : List Value → Nat → List Value → List Value
  | cs, _, [] => cs
  | cs, o, v :: r => putAll (cs.set o v) (o + 1) r
theorem putAll_len : ∀ (vs cs : List Value) (o : Nat), (putAll cs o vs).length = cs.length
  | [], cs, o => rfl
  | v :: r, cs, o => by rw [putAll, putAll_len r]; simp
theorem putAll_at : ∀ (vs cs : List Value) (o j : Nat), o + vs.length ≤ cs.length → (putAll cs o vs)[j]? = if o ≤ j ∧ j < o + vs.length then vs[j - o]? else cs[j]?
  | [], cs, o, j, _ => by
    rw [putAll, if_neg]
    intro h
    simp only [List.length_nil] at h
    omega
  | v :: r, cs, o, j, h => by
    simp only [List.length_cons] at h
    rw [putAll, putAll_at r _ (o + 1) j (by simp; omega), List.length_cons]
    by_cases e : j = o
    · subst e
      rw [if_neg (by omega), if_pos (by omega), List.getElem?_set_self (by omega), Nat.sub_self]
      rfl
    · by_cases c : o + 1 ≤ j ∧ j < o + 1 + r.length
      · rw [if_pos c, if_pos (by omega), show j - o = (j - (o + 1)) + 1 by omega, List.getElem?_cons_succ]
      · rw [if_neg c, if_neg (by omega), List.getElem?_set_ne (by omega)]
theorem Row.putAll {k B n b cap : Nat} : ∀ {vs cs : List Value} {o : Nat} {w : World}, Row k B w (.slice (some ⟨b, 0, none⟩) n cap) n cs → o + vs.length ≤ cs.length → Row k B (w.setCells b o vs) (.slice (some ⟨b, 0, none⟩) n cap) n (YtfpepoebammeoaaGreat.putAll cs o vs)
  | [], _, _, _, h, _ => h
  | v :: r, cs, o, w, h, hl => by
    simp only [List.length_cons] at hl
    exact Row.putAll (vs := r) (h.put (j := o) (by omega) v) (by simp; omega)
theorem Below.setCells2 {B b : Nat} {a : World} (hb : B ≤ b) : ∀ (vs : List Value) (o : Nat) (w : World), Below B a w → Below B a (w.setCells b o vs)
  | [], _, _, h => h
  | v :: r, o, w, h => Below.setCells2 hb r (o + 1) _ (h.setCell (p := ⟨b, o, none⟩) hb v)
def upC (x : Int) (c i : Nat) : Int := if i < c then x else 0
theorem upC_put (x y : Int) {c n m : Nat} (h : c + n ≤ m) : putAll (rcv (upC x c) (upC y c) m) (c * 2) (rcv (fun _ => x) (fun _ => y) n) = rcv (upC x (c + n)) (upC y (c + n)) m := by
  have hlen : c * 2 + (rcv (fun _ => x) (fun _ => y) n).length ≤ (rcv (upC x c) (upC y c) m).length := by rw [rcv_len, rcv_len]; omega
  refine list_ext2 (m := m) (by rw [putAll_len, rcv_len]) (rcv_len _ _ _) fun i hi => ?_
  obtain ⟨a, b⟩ := rcv_at (upC x c) (upC y c) hi
  obtain ⟨a', b'⟩ := rcv_at (upC x (c + n)) (upC y (c + n)) hi
  rw [putAll_at _ _ _ _ hlen, putAll_at _ _ _ _ hlen, a, b, a', b', rcv_len]
  by_cases e : c ≤ i ∧ i < c + n
  · obtain ⟨p, q⟩ := rcv_at (fun _ => x) (fun _ => y) (show i - c < n by omega)
    rw [if_pos (by omega), if_pos (by omega), show i * 2 - c * 2 = (i - c) * 2 by omega, show i * 2 + 1 - c * 2 = (i - c) * 2 + 1 by omega, p, q]
    unfold upC
    rw [if_pos (by omega), if_pos (by omega)]
    exact ⟨rfl, rfl⟩
  · rw [if_neg (by omega), if_neg (by omega)]
    unfold upC
    by_cases h1 : i < c
    · rw [if_pos h1, if_pos h1, if_pos (by omega), if_pos (by omega)]
      exact ⟨rfl, rfl⟩
    · rw [if_neg h1, if_neg h1, if_neg (by omega), if_neg (by omega)]
      exact ⟨rfl, rfl⟩
theorem rcv_one (f g : Nat → Int) (n : Nat) : ∀ v ∈ rcv f g n, v.oneCell' = true := fun v hv => by
  obtain ⟨i, _, hi⟩ := List.mem_flatMap.1 hv
  simp only [List.mem_cons, List.not_mem_nil, or_false] at hi
  rcases hi with rfl | rfl <;> rfl
set_option maxHeartbeats 2000000 in
set_option maxRecDepth 100000 in
theorem repeat_any (xb : Nat) (x y : Int) (sz : Nat) (w : World) (h0 : w.cell? ⟨xb, 0, none⟩ = some (.int .i64 x)) (h1 : w.cell? ⟨xb, 1, none⟩ = some (.int .i64 y)) (hs : sz ≤ 1000000) :
    Calls Tryz.prog 91 #[.slice (some ⟨xb, 0, none⟩) 1 1, .int .i64 (sz : Int)] w fun e w' => e = .returned (.slice (some ⟨w.heap.size, 0, none⟩) sz sz) ∧ Row 2 w.heap.size w' (.slice (some ⟨w.heap.size, 0, none⟩) sz sz) sz (rcv (fun _ => x) (fun _ => y) sz) ∧ Below w.heap.size w w' := by
  have hxw : xb < w.heap.size := cell_lt h0
  have hMUL := Tryz.bits_Mul 1 sz (by omega) (by omega) w
  have e1 : 1 * sz / 18446744073709551616 = 0 := by omega
  have e2 : 1 * sz % 18446744073709551616 = sz := by omega
  rw [e1, e2] at hMUL
  have HMUL := Lib.hid hMUL
  have mk1 := make_reach sz hs w
  obtain ⟨S, hS⟩ : ∃ S, S = w.heap.size := ⟨_, rfl⟩
  obtain ⟨wm, hwm⟩ : ∃ wm, wm = w.alloc (.cells (madeCells #[.int .i64 0, .int .i64 0] (sz * 2)) 92) := ⟨_, rfl⟩
  have hbm : Below w.heap.size w wm := by rw [hwm]; exact (Below.refl _ _).alloc (Nat.le_refl _) _
  have hrow : Row 2 S wm (.slice (some ⟨S, 0, none⟩) sz sz) sz (rcv (upC x 0) (upC y 0) sz) := by
    rw [hwm, hS, rcv_ext (f' := fun _ => 0) (g' := fun _ => 0) (fun i _ => by simp [upC])]
    exact made_reach hs (Nat.le_refl _) _
  rw [← hwm, ← hS] at mk1
  have hcp := fun (W : World) (c n : Nat) (hr : Row 2 S W (.slice (some ⟨S, 0, none⟩) sz sz) sz (rcv (upC x c) (upC y c) sz)) (a : Addr) (dLen dCap sLen sCap : Nat) (hn : n = Nat.min sLen dLen) (hcn : c + n ≤ sz) (hsrc : ∀ j v, (rcv (fun _ => x) (fun _ => y) n)[j]? = some v → W.cell? (a.add j) = some v) (ty : TypeId) =>
    run_copy_two (P := Tryz.prog) W 86 86 ty 92 S (c * 2) dLen dCap a sLen sCap (rcv (fun _ => x) (fun _ => y) n) n Tryz.underlying86 sizeR hn (rcv_len _ _ _) hsrc
      (fun j hj => by
        rw [rcv_len] at hj
        have hlt : c * 2 + j < (rcv (upC x c) (upC y c) sz).length := by rw [rcv_len]; omega
        rw [(hr.cellK (List.getElem?_eq_getElem hlt)).1]; rfl)
      (fun j hj => by
        rw [rcv_len] at hj
        have hlt : c * 2 + j < (rcv (upC x c) (upC y c) sz).length := by rw [rcv_len]; omega
        exact (hr.cellK (List.getElem?_eq_getElem hlt)).2.1) (rcv_one _ _ _)
  have HCP := Lib.hid hcp
  have HROW := Lib.hid hrow
  have HBM := Lib.hid hbm
  have HWM := Lib.hid hwm
  have c0 := (hbm.cell (p := ⟨xb, 0, none⟩) hxw).trans h0
  have c1 := (hbm.cell (p := ⟨xb, 1, none⟩) hxw).trans h1
  have HS := Lib.hid hS
  rw [← hS]
  clear hMUL e1 e2 hcp hrow hbm hwm hS h0 h1
  rcases Nat.eq_zero_or_pos sz with hz | hz
  · subst hz
    have mk0 : (Instr.makeSlice 86 (.int .i64 0) (.int .i64 0)).run Tryz.prog w = .ok (.slice (some ⟨S, 0, none⟩) 0 0) wm := mk1
    have hc : ∀ ty, (Builtin.copy_ #[86, 86] ty #[.slice (some ⟨S, 0, none⟩) 0 0, .slice (some ⟨xb, 0, none⟩) 1 1]).run Tryz.prog wm = .ok (.int .i64 0) wm := fun ty => HCP.out wm 0 0 HROW.out ⟨xb, 0, none⟩ 0 0 1 1 rfl (by omega) (fun j v hv => by simp [rcv] at hv) ty
    clear mk1
    go_enter Tryz.func91, Tryz.ntmps91
    go_wp2_with fail
    refine HMUL.out.mono ?_
    rintro e w2 ⟨rfl, hw2⟩
    obtain rfl := hw2.symm
    go_wp2_with fail
    go_loopw [8] (fun jv wr => jv = .int .i64 0 ∧ Hid (wr = wm)) (fun _ _ => 0)
    case atStart => exact ⟨rfl, Lib.hid rfl⟩
    case round =>
      obtain ⟨rfl, HE⟩ := hrel
      have hwr := HE.out
      subst hwr
      go_wp2_with fail
      go_ret
      refine ⟨rfl, ?_, ?_⟩
      · have h := HROW.out
        rw [rcv_ext (f' := fun _ => x) (g' := fun _ => y) (fun i hi => by omega)] at h
        exact h
      · rw [HS.out]
        exact HBM.out
  · have hm1 : Nat.min 1 sz = 1 := Nat.min_eq_left hz
    obtain ⟨w5, hw5⟩ : ∃ w5, w5 = wm.setCells S 0 (rcv (fun _ => x) (fun _ => y) 1) := ⟨_, rfl⟩
    have hc : ∀ ty, (Builtin.copy_ #[86, 86] ty #[.slice (some ⟨S, 0, none⟩) sz sz, .slice (some ⟨xb, 0, none⟩) 1 1]).run Tryz.prog wm = .ok (.int .i64 1) w5 := fun ty => by
      rw [hw5]
      exact HCP.out wm 0 1 HROW.out ⟨xb, 0, none⟩ sz sz 1 1 hm1.symm (by omega) (fun j v hv => by
        have hj : j < 2 := by have := (List.getElem?_eq_some_iff.1 hv).1; rw [rcv_len] at this; omega
        have hj2 : j = 0 ∨ j = 1 := by omega
        rcases hj2 with rfl | rfl
        · simp [rcv] at hv; rw [← hv]; exact c0
        · simp [rcv] at hv; rw [← hv]; exact c1) ty
    have HR5 := Lib.hid (show Row 2 S w5 (.slice (some ⟨S, 0, none⟩) sz sz) sz (rcv (upC x 1) (upC y 1) sz) by
      have h := Row.putAll (vs := rcv (fun _ => x) (fun _ => y) 1) (o := 0) HROW.out (by rw [rcv_len, rcv_len]; omega)
      have e := upC_put x y (c := 0) (n := 1) (m := sz) (by omega)
      rw [Nat.zero_mul] at e
      rw [e] at h
      rw [hw5]
      exact h)
    have HB5 := Lib.hid (show Below w.heap.size w w5 by
      rw [hw5]
      exact Below.setCells2 (by rw [HS.out]; exact Nat.le_refl _) _ _ _ HBM.out)
    clear hw5 hm1 c0 c1
    go_enter Tryz.func91, Tryz.ntmps91
    go_wp2_with fail
    refine HMUL.out.mono ?_
    rintro e w2 ⟨rfl, hw2⟩
    obtain rfl := hw2.symm
    go_wp2_with fail
    clear mk1 hc
    go_loopw [8] (fun jv wr => ∃ c : Nat, jv = .int .i64 (c : Nat) ∧ 1 ≤ c ∧ c ≤ sz ∧ Hid (Row 2 S wr (.slice (some ⟨S, 0, none⟩) sz sz) sz (rcv (upC x c) (upC y c) sz)) ∧ Hid (Below w.heap.size w wr)) (fun jv _ => sz - (intOf jv).toNat)
    case atStart => exact ⟨1, rfl, Nat.le_refl _, hz, HR5, HB5⟩
    case round =>
      obtain ⟨c, rfl, hc1, hcs, HO, HB⟩ := hrel
      by_cases hlt : c < sz
      · obtain ⟨n, hn⟩ : ∃ n, n = Nat.min c (sz - c) := ⟨_, rfl⟩
        have hnc : n ≤ c ∧ n ≤ sz - c ∧ 1 ≤ n := by
          have e : Nat.min c (sz - c) = min c (sz - c) := rfl
          rw [e] at hn
          omega
        obtain ⟨hn1, hn2, hn3⟩ := hnc
        obtain ⟨w7, hw7⟩ : ∃ w7, w7 = wr.drew.setCells S (c * 2) (rcv (fun _ => x) (fun _ => y) n) := ⟨_, rfl⟩
        have hc9 : ∀ ty, (Builtin.copy_ #[86, 86] ty #[.slice (some ⟨S, c * 2, none⟩) (sz - c) (sz - c), .slice (some ⟨S, 0, none⟩) c sz]).run Tryz.prog wr.drew = .ok (.int .i64 (n : Int)) w7 := fun ty => by
          rw [hw7]
          exact HCP.out wr.drew c n HO.out.drew ⟨S, 0, none⟩ (sz - c) (sz - c) c sz hn (by omega) (fun j v hv => by
            have hj : j < n * 2 := by have := (List.getElem?_eq_some_iff.1 hv).1; rw [rcv_len] at this; exact this
            have e : (rcv (upC x c) (upC y c) sz)[j]? = some v := by
              rw [← hv]
              have hc2 : j = j / 2 * 2 ∨ j = j / 2 * 2 + 1 := by omega
              rcases hc2 with e | e
              · rw [e, (rcv_at _ _ (show j / 2 < n by omega)).1, (rcv_at _ _ (show j / 2 < sz by omega)).1]
                unfold upC; rw [if_pos (by omega)]
              · rw [e, (rcv_at _ _ (show j / 2 < n by omega)).2, (rcv_at _ _ (show j / 2 < sz by omega)).2]
                unfold upC; rw [if_pos (by omega)]
            have := (HO.out.cellK e).1
            have e9 : (⟨S, 0, none⟩ : Addr).add j = ⟨S, j, none⟩ := by unfold Addr.add; split <;> simp_all
            rw [e9]
            exact this) ty
        have HR7 := Lib.hid (show Row 2 S w7 (.slice (some ⟨S, 0, none⟩) sz sz) sz (rcv (upC x (c + n)) (upC y (c + n)) sz) by
          have h := Row.putAll (vs := rcv (fun _ => x) (fun _ => y) n) (o := c * 2) HO.out.drew (by rw [rcv_len, rcv_len]; omega)
          rw [upC_put x y (c := c) (n := n) (m := sz) (by omega)] at h
          rw [hw7]
          exact h)
        have HB7 := Lib.hid (show Below w.heap.size w w7 by
          rw [hw7]
          exact Below.setCells2 (by rw [HS.out]; exact Nat.le_refl _) _ _ _ HB.out.drew)
        have hcne : ¬ sz = c := by omega
        obtain ⟨g, hg⟩ : ∃ g, g = c + n := ⟨_, rfl⟩
        have hg1 : 1 ≤ g := by omega
        have hg2 : g ≤ sz := by omega
        have hg3 : c < g := by omega
        have hsum : IntKind.i64.wrap ((c : Int) + (n : Int)) = (g : Int) := by rw [IntKind.wrap_i64]; omega
        rw [← hg] at HR7
        clear hw7 hn hg
        go_wp2_with fail
        go_region_law (fail)
        unfold Exit.inBlock
        dsimp only
        go_simp
        go_wp2_with fail
        clear hsum
        exact ⟨⟨g, rfl, hg1, hg2, HR7, HB7⟩, by simp [intOf]; omega⟩
      · have hce : sz = c := by omega
        subst hce
        go_wp2_with fail
        go_ret
        refine ⟨rfl, ?_, by rw [HS.out]; exact HB.out⟩
        have h := HO.out
        rw [rcv_ext (f' := fun _ => x) (g' := fun _ => y) (fun i hi => by unfold upC; rw [if_pos hi, if_pos hi]; exact ⟨rfl, rfl⟩)] at h
        exact h
end Go.Proofs.YtfpepoebammeoaaGreat
