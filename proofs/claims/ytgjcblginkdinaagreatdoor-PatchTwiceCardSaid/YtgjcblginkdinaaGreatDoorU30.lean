/- The contract of named. The contract of needs. -/
import Derived.Sort.OwnSorted
import Derived.Lib.RowBridge
import Derived.Test.YtgjcblginkdinaaGreatDoorShelf
import Derived.Test.YtgjcblginkdinaaGreatDoorU29
set_option linter.unusedVariables false
namespace Go.Proofs.YtgjcblginkdinaaGreatDoor
open Go.ChangeShapes Go.WideShapes Go.ChangeAt Go.RowKit

def namedR (z : Opp) : List Rf := if z.kind = 2 ∨ z.kind = 3 then [z.a, z.b] else if z.kind = 4 ∨ z.kind = 5 then [z.a] else []
def RReads (B : Nat) (w : World) (v : Value) (rs : List Rf) : Prop := ∃ a c, v = .slice a rs.length c ∧ ∀ j r, rs[j]? = some r → ∃ b, a = some ⟨b, 0, none⟩ ∧ B ≤ b ∧ b < w.heap.size ∧ w.cell? ⟨b, j * 2, none⟩ = some (.int .i64 r.at_) ∧ w.cell? ⟨b, j * 2 + 1, none⟩ = some (.int .i64 r.n)
theorem RReads.mono {B B' : Nat} {w : World} {v : Value} {rs : List Rf} (h : RReads B w v rs) (hb : B' ≤ B) : RReads B' w v rs := by
  obtain ⟨a, c, hv, hr⟩ := h
  refine ⟨a, c, hv, fun j r hj => ?_⟩
  obtain ⟨b, ha, h1, h2⟩ := hr j r hj
  exact ⟨b, ha, Nat.le_trans hb h1, h2⟩
theorem rreads_new {w : World} (rs : List Rf) (hne : rs ≠ []) (t : TypeId) (n c : Nat) (hn : n = rs.length) : RReads w.heap.size (w.alloc (.cells (rs.flatMap fun r => [.int .i64 r.at_, .int .i64 r.n]).toArray t)) (.slice (some ⟨w.heap.size, 0, none⟩) n c) rs := by
  subst hn
  refine ⟨_, _, rfl, fun j r hj => ⟨w.heap.size, rfl, Nat.le_refl _, by simp, ?_, ?_⟩⟩
  all_goals rw [World.cell?_alloc_at _ _ _ _ rfl]
  all_goals simp only [List.getElem?_toArray]
  all_goals clear hne
  all_goals induction rs generalizing j with
  | nil => simp at hj
  | cons x xs ih => cases j with
    | zero => simp at hj; subst hj; simp
    | succ j =>
      have := ih j (by simpa using hj)
      simp only [List.flatMap_cons, List.cons_append, List.nil_append]
      rw [show (j + 1) * 2 = j * 2 + 1 + 1 by omega]
      simpa using this

set_option maxHeartbeats 2000000 in
theorem pnamed_any (z : Opp) (la : Option Addr) (ln lc : Nat) (w : World) :
    Calls Tryz.prog 90 #[opV z (.slice la ln lc)] w fun e w' => (∃ v, e = .returned v ∧ RReads w.heap.size w' v (namedR z)) ∧ Below w.heap.size w w' := by
  have hb1 : ∀ o1, Below w.heap.size w (w.alloc o1) := fun o1 => (Below.refl _ _).alloc (Nat.le_refl _) _
  have hb2 : ∀ o1 o2, Below w.heap.size w ((w.alloc o1).alloc o2) := fun o1 o2 => ((Below.refl _ _).alloc (Nat.le_refl _) _).alloc (by simp) _
  have hn2 : ∀ (W : World) x y u v, RReads W.heap.size (W.alloc (.cells #[.int .i64 x, .int .i64 y, .int .i64 u, .int .i64 v] 54)) (.slice (some ⟨W.heap.size, 0, none⟩) 2 2) [⟨x, y⟩, ⟨u, v⟩] := fun W x y u v => rreads_new [⟨x, y⟩, ⟨u, v⟩] (by simp) _ 2 2 rfl
  have hn1 : ∀ (W : World) x y, RReads W.heap.size (W.alloc (.cells #[.int .i64 x, .int .i64 y] 54)) (.slice (some ⟨W.heap.size, 0, none⟩) 1 1) [⟨x, y⟩] := fun W x y => rreads_new [⟨x, y⟩] (by simp) _ 1 1 rfl
  have hn0 : ∀ (W : World), RReads w.heap.size W (.slice none 0 0) [] := fun W => ⟨none, 0, rfl, fun j r h => by simp at h⟩
  have HB1 := Lib.hid hb1
  have HB2 := Lib.hid hb2
  have HN2 := Lib.hid hn2
  have HN1 := Lib.hid hn1
  have HN0 := Lib.hid hn0
  clear hb1 hb2 hn2 hn1 hn0
  obtain ⟨K, ⟨x, y⟩, ⟨u, v⟩, ls⟩ := z
  unfold namedR
  simp only
  by_cases k2 : K = 2
  · subst k2
    rw [if_pos (.inl rfl)]
    go_enter Tryz.func90, Tryz.ntmps90
    go_wp2_with fail
    go_ret
    have h := HN2.out (w.alloc (.cells #[.int .i64 2, .int .i64 x, .int .i64 y, .int .i64 u, .int .i64 v, .slice la ln lc] 56)) x y u v
    rw [World.size_alloc] at h
    exact ⟨⟨_, rfl, h.mono (Nat.le_succ _)⟩, HB2.out _ _⟩
  by_cases k3 : K = 3
  · subst k3
    rw [if_pos (.inr rfl)]
    go_enter Tryz.func90, Tryz.ntmps90
    go_wp2_with fail
    go_ret
    have h := HN2.out (w.alloc (.cells #[.int .i64 3, .int .i64 x, .int .i64 y, .int .i64 u, .int .i64 v, .slice la ln lc] 56)) x y u v
    rw [World.size_alloc] at h
    exact ⟨⟨_, rfl, h.mono (Nat.le_succ _)⟩, HB2.out _ _⟩
  rw [if_neg (by omega)]
  have n2 := neI k2
  have n3 := neI k3
  by_cases k4 : K = 4
  · subst k4
    rw [if_pos (.inl rfl)]
    clear k2 k3 n2 n3
    go_enter Tryz.func90, Tryz.ntmps90
    go_wp2_with fail
    go_ret
    have h := HN1.out (w.alloc (.cells #[.int .i64 4, .int .i64 x, .int .i64 y, .int .i64 u, .int .i64 v, .slice la ln lc] 56)) x y
    rw [World.size_alloc] at h
    exact ⟨⟨_, rfl, h.mono (Nat.le_succ _)⟩, HB2.out _ _⟩
  by_cases k5 : K = 5
  · subst k5
    rw [if_pos (.inr rfl)]
    clear k2 k3 n2 n3 k4
    go_enter Tryz.func90, Tryz.ntmps90
    go_wp2_with fail
    go_ret
    have h := HN1.out (w.alloc (.cells #[.int .i64 5, .int .i64 x, .int .i64 y, .int .i64 u, .int .i64 v, .slice la ln lc] 56)) x y
    rw [World.size_alloc] at h
    exact ⟨⟨_, rfl, h.mono (Nat.le_succ _)⟩, HB2.out _ _⟩
  rw [if_neg (by omega)]
  have n4 := neI k4
  have n5 := neI k5
  clear k2 k3 k4 k5
  go_enter Tryz.func90, Tryz.ntmps90
  go_wp2_with fail
  go_ret
  exact ⟨⟨_, rfl, HN0.out _⟩, HB1.out _⟩
end Go.Proofs.YtgjcblginkdinaaGreatDoor
set_option linter.unusedVariables false
namespace Go.Proofs.YtgjcblginkdinaaGreatDoor
open Go.ChangeShapes Go.WideShapes Go.ChangeAt Go.RowKit

def takeD (deps : Lb) (r : Rf) : Lb := if 0 ≤ r.at_ then [deps.getD r.at_.toNat ByteArray.empty] else []
def needRs (deps : Lb) (z : Opp) : Lb := (namedR z).flatMap (takeD deps)
def needRaw (p : Pt) (nm : ByteArray) : Lb := nm :: p.ops.flatMap (needRs p.deps)
noncomputable def needsL (p : Pt) (nm : ByteArray) : Lb := (Lib.compact (((needRaw p nm).map fun s => s.data.toList).mergeSort fun x y => decide (x ≤ y))).map tx

theorem named_len (z : Opp) : (namedR z).length ≤ 2 := by
  unfold namedR; split
  · simp
  · split <;> simp
theorem takeD_len (deps : Lb) (r : Rf) : (takeD deps r).length ≤ 1 := by unfold takeD; split <;> simp
theorem needRs_len (deps : Lb) (z : Opp) : (needRs deps z).length ≤ 2 := by
  unfold needRs namedR
  split
  · simp only [List.flatMap_cons, List.flatMap_nil, List.append_nil, List.length_append]
    have := takeD_len deps z.a; have := takeD_len deps z.b; omega
  · split
    · simp only [List.flatMap_cons, List.flatMap_nil, List.append_nil]
      have := takeD_len deps z.a; omega
    · simp
theorem needOps_len (deps : Lb) (l : List Opp) : (l.flatMap (needRs deps)).length ≤ 2 * l.length := by
  induction l with
  | nil => simp
  | cons z r ih =>
    simp only [List.flatMap_cons, List.length_append, List.length_cons]
    have := needRs_len deps z; omega

theorem Holds_of_row {B : Nat} {w : World} {b cap : Nat} {xs : Lb} (h : ∀ j, j < cap * 1 → (w.cell? ⟨b, j, none⟩).isSome = true ∧ w.frozen? ⟨b, j, none⟩ = false) (hc : xs.length ≤ cap) (hx : ∀ j u, (xs.map Value.string)[j]? = some u → w.cell? ⟨b, j, none⟩ = some u) :
    Go.Sort.Holds encStr w b 0 ((xs.map fun s => s.data.toList).toArray) := by
  intro j hj
  rw [List.size_toArray, List.length_map] at hj
  rw [Nat.zero_add]
  refine ⟨?_, (h j (by omega)).2⟩
  rw [hx j (.string xs[j]) (by rw [List.getElem?_map, List.getElem?_eq_getElem hj]; rfl)]
  rw [getElem!_pos _ j (by simpa using hj)]
  simp only [List.getElem_toArray, List.getElem_map]

theorem off_sorted {w : World} {g n : Nat} {os : Array Obj} (d : Array (List UInt8)) : Off (fun i => i = g) w (Go.Sort.grow (Go.Sort.putRow encStr (Go.Sort.ahead w n) g 0 d) os) := by
  have h := Go.grownBy_sorted (w := w) (g := g) (n := n) (os := os) d
  exact ⟨h.os, h.tape, h.output, h.size, fun i hi hn => h.block i hi (fun e => hn (by injection e with e))⟩

theorem holds_sorted {w : World} {b n : Nat} {os : Array Obj} {ss ts : List (List UInt8)} (h : Go.Sort.Holds encStr w b 0 ss.toArray) (hb : b < w.heap.size) (hl : ts.length = ss.length) :
    Go.Sort.Holds encStr (Go.Sort.grow (Go.Sort.putRow encStr (Go.Sort.ahead w n) b 0 ts.toArray) os) b 0 ts.toArray :=
  Go.Sort.holds_grow _ _ _ _ _ _ (by simpa using hb) (Go.Sort.holds_putRow _ _ _ _ _ _ (Go.Sort.holds_ahead _ _ n _ _ _ h) (by simp [hl]))
theorem reads_compact {w : World} {b q cap : Nat} {zs : List (List UInt8)} (h : Go.Sort.Holds encStr w b 0 zs.toArray) (hb : b < w.heap.size) (hc : zs.length ≤ cap) (hm : cap ≤ 9223372036854775807) :
    Reads (Go.Sort.putRow encStr (Go.Sort.ahead w q) b 0 (Lib.compact zs ++ List.replicate (zs.length - (Lib.compact zs).length) []).toArray) (.slice (some ⟨b, 0, none⟩) (Lib.compact zs).length cap) ((Lib.compact zs).map tx) := by
  have hle := Lib.compact_length_le zs
  by_cases e : Lib.compact zs = []
  · rw [e]; exact .inl ⟨rfl, _, _, rfl⟩
  · refine .inr ⟨by simpa using e, b, 0, cap, by rw [List.length_map], by rw [List.length_map]; omega, hm, by simpa using hb, fun j x hx => ?_⟩
    rw [List.getElem?_map] at hx
    obtain ⟨y, hy, rfl⟩ := Option.map_eq_some_iff.1 hx
    have hj := (List.getElem?_eq_some_iff.1 hy).1
    rw [Go.Sort.cell?_putRow encStr (Go.Sort.ahead w q) b 0 zs.toArray _ (Go.Sort.holds_ahead _ _ q _ _ _ h) (by simp; omega) j (by simp; omega)]
    rw [getElem!_pos _ j (by simp; omega)]
    simp only [List.getElem_toArray]
    rw [List.getElem_append_left hj, (List.getElem?_eq_some_iff.1 hy).2]

theorem infoS' : (Tryz.prog.info? 9).map (fun i => (i.zero, i.size, i.bytes)) = some (some (.string ByteArray.empty), 1, 16) := by kernel_rfl

set_option maxHeartbeats 4000000 in
set_option maxRecDepth 100000 in
theorem pneeds_any (p : Pt) (dv ov : Value) (nm : ByteArray) (w : World) (hp : PReads w p.note dv ov p) (hok : ∀ z ∈ p.ops, ∀ r ∈ namedR z, r.okR p.deps.length) (hn400 : p.ops.length ≤ 1000000) :
    Calls Tryz.prog 51 #[ptV p.note dv ov, .string nm] w fun e w' => (∃ v, e = .returned v ∧ Reads w' v (needsL p nm) ∧ ∀ g, v.ownBlock = some g → w.heap.size < g) ∧ Below w.heap.size w w' := by
  obtain ⟨oa, oc, hov, hon⟩ := hp.ops.form
  subst hov
  have hord := hp.ops
  have hdrd := hp.deps
  obtain ⟨t, htt⟩ : ∃ t, t = p.note := ⟨_, rfl⟩
  obtain ⟨n, hnn⟩ : ∃ n, n = p.ops.length := ⟨_, rfl⟩
  obtain ⟨da, dc, hdv, hdn⟩ := hp.deps.form
  subst hdv
  obtain ⟨m, hm⟩ : ∃ m, m = p.deps.length := ⟨_, rfl⟩
  have hb1 : ∀ o1, Below w.heap.size w (w.alloc o1) := fun o1 => (Below.refl _ _).alloc (Nat.le_refl _) _
  have hb2 : ∀ o1 o2, Below w.heap.size w ((w.alloc o1).alloc o2) := fun o1 o2 => ((Below.refl _ _).alloc (Nat.le_refl _) _).alloc (by simp) _
  have hrow0 : ∀ o1 t1, Row 1 (w.heap.size + 1) ((w.alloc o1).alloc (.cells #[.string nm] t1)) (.slice (some ⟨w.heap.size + 1, 0, none⟩) 1 1) 1 [.string nm] := fun o1 t1 => by
    have := row_new (k := 1) (B := w.heap.size + 1) (w := w.alloc o1) (e := t1) (n := 1) (cs := [.string nm]) (cap := 1) (xs := #[.string nm]) (fr := (0, 0)) (by simp) rfl (Nat.le_refl _) (by decide) (by simp) (.inl rfl) (fun j u hu => by simpa using hu)
    rw [World.size_alloc] at this
    exact this
  rw [← htt, ← hm]
  rw [← hm] at hok hdrd hdn
  rw [← hnn] at hord hon hn400 ⊢
  have HN := Lib.hid hnn
  have HM := Lib.hid hm
  have HO := Lib.hid hord
  have HD := Lib.hid hdrd
  have HB1 := Lib.hid hb1
  have HB2 := Lib.hid hb2
  have HOK := Lib.hid hok
  have HR0 := Lib.hid hrow0
  clear hnn hord hdrd hb1 hb2 htt hp hm hok hrow0
  go_enter Tryz.func51, Tryz.ntmps51
  go_wp2_with fail
  have hs0 : Row 1 (w.heap.size + 1) ((w.alloc (.cells #[.string t, .slice da m dc, .slice oa n oc] 25)).alloc (.cells #[.string nm] 9)) (.slice (some ⟨w.heap.size + 1, 0, none⟩) 1 1) 1 [.string nm] := HR0.out _ _
  have HS0 := Lib.hid hs0
  clear hs0 HR0
  go_loopw [5, 15] (fun v i wr => ∃ (k L : Nat) (xs : Lb), k ≤ n ∧ i = .int .i64 (k : Nat) ∧ L ≤ 1 + 2 * k ∧ Hid (xs = nm :: (p.ops.take k).flatMap (needRs p.deps)) ∧ Hid (L = xs.length) ∧ Hid (Row 1 (w.heap.size + 1) wr v L (xs.map .string)) ∧ Hid (Below w.heap.size w wr) ∧ wr.cell? ⟨w.heap.size, 1, none⟩ = some (.slice da m dc)) (fun _ i _ => n - (intOf i).toNat)
  case atStart => exact ⟨0, 1, [nm], Nat.zero_le _, rfl, by omega, Lib.hid (by simp), Lib.hid rfl, Lib.hid HS0.out, Lib.hid (HB2.out _ _), by simp⟩
  case round =>
    obtain ⟨wo, rfl⟩ : ∃ w0, w0 = wr := ⟨wr, rfl⟩
    obtain ⟨k, L, xs, hk, rfl, hL, HXS, HLL, HW, HB, hdep⟩ := hrel
    obtain ⟨va, vc, hv, _, _⟩ := HW.out.form'
    subst hv
    by_cases hlt : k < n
    · obtain ⟨z, hz⟩ : ∃ x, p.ops[k]? = some x := ⟨p.ops[k]'(by rw [← HN.out]; exact hlt), by simp⟩
      obtain ⟨b, o, rfl, hnl, hcl⟩ := HO.out.at hz
      clear hnl
      obtain ⟨lv, d0, d1, d2, d3, d4, d5, d6⟩ := (hcl.below HB.out).2 k z hz
      obtain ⟨la, lc, hlv, hln⟩ := d6.form
      subst hlv
      obtain ⟨N, hN⟩ : ∃ N, N = z.lines.length := ⟨_, rfl⟩
      rw [← hN] at d5
      have hcn : ∀ wz, Calls Tryz.prog 90 #[opV z (.slice la N lc)] wz fun e w' => (∃ v, e = .returned v ∧ RReads wz.heap.size w' v (namedR z)) ∧ Below wz.heap.size wz w' := fun wz => pnamed_any z la N lc wz
      have hzok := HOK.out z (List.mem_of_getElem? hz)
      have hsnoc : (p.ops.take (k + 1)).flatMap (needRs p.deps) = (p.ops.take k).flatMap (needRs p.deps) ++ needRs p.deps z := by rw [take_snoc hz]; simp
      have HZO := Lib.hid hzok
      have HSN := Lib.hid hsnoc
      have HCN := Lib.hid hcn
      obtain ⟨rs, hrs⟩ : ∃ rs, rs = namedR z := ⟨_, rfl⟩
      have hrl : rs.length ≤ 2 := by rw [hrs]; exact named_len z
      have HRS := Lib.hid hrs
      have hdlt : w.heap.size < wo.heap.size := cell_lt hdep
      clear hz hcl d6 hln hN hzok hsnoc hcn
      rw [← hrs] at HCN
      clear hrs
      go_wp2_with fail
      refine (HCN.out _).mono ?_
      rintro e w1 ⟨⟨v, rfl, hrr⟩, hb⟩
      obtain ⟨_, qb, _⟩ := boxA1 hb
      obtain ⟨ra, rc, hv, hra⟩ := hrr
      subst hv
      obtain ⟨rn, hrn⟩ : ∃ N, N = rs.length := ⟨_, rfl⟩
      rw [← hrn] at hrl ⊢
      have HRN := Lib.hid hrn
      have hdep1 : w1.cell? ⟨w.heap.size, 1, none⟩ = some (.slice da m dc) := (qb.cell (p := ⟨w.heap.size, 1, none⟩) hdlt).trans hdep
      have hrow1 := HW.out.below qb
      have hB1 := HB.out.trans (qb.mono HB.out.size)
      have HRA := Lib.hid hra
      have HW1 := Lib.hid hrow1
      have HBB := Lib.hid hB1
      clear hb qb hra hrow1 hB1 hrn
      go_wp2_with fail
      go_loopw [5, 22] (fun v i wi => ∃ (j M : Nat) (ys : Lb), j ≤ rn ∧ i = .int .i64 (j : Nat) ∧ M ≤ L + j ∧ Hid (ys = xs ++ (rs.take j).flatMap (takeD p.deps)) ∧ Hid (M = ys.length) ∧ Hid (Row 1 (w.heap.size + 1) wi v M (ys.map .string)) ∧ Hid (Below w.heap.size w wi) ∧
        Hid (Off (fun q => (Value.slice va L vc).ownBlock = some q) w1 wi) ∧ Hid (∀ g, v.ownBlock = some g → (Value.slice va L vc).ownBlock = some g ∨ w1.heap.size ≤ g) ∧ wi.cell? ⟨w.heap.size, 1, none⟩ = some (.slice da m dc)) (fun _ i _ => rn - (intOf i).toNat)
      case atStart => exact ⟨0, L, xs, Nat.zero_le _, rfl, by omega, Lib.hid (by simp), Lib.hid HLL.out, Lib.hid HW1.out, Lib.hid HBB.out, Lib.hid (Off.refl _ _), Lib.hid (fun g hg => .inl hg), hdep1⟩
      case round =>
        obtain ⟨j, M, ys, hj, rfl, hM, HYS, HML, HWI, HBI, HOI, HOWN, hdepi⟩ := hrel
        obtain ⟨ya, yc, hv, _, _⟩ := HWI.out.form'
        subst hv
        by_cases hlt2 : j < rn
        · obtain ⟨r, hr⟩ : ∃ x, rs[j]? = some x := ⟨rs[j]'(by rw [← HRN.out]; exact hlt2), by simp⟩
          obtain ⟨rb, rfl, hrb1, hrb2, c0, c1⟩ := HRA.out j r hr
          have hrne : ¬ (Value.slice va L vc).ownBlock = some rb := fun e => by have := (HW.out.lt rb e).2; simp at hrb1; omega
          have c0' := (HOI.out.cell (p := ⟨rb, j * 2, none⟩) hrb2 hrne).trans c0
          have c1' := (HOI.out.cell (p := ⟨rb, j * 2 + 1, none⟩) hrb2 hrne).trans c1
          have hrok : r.okR m := HZO.out r (by rw [← HRS.out]; exact List.mem_of_getElem? hr)
          have hsn : (rs.take (j + 1)).flatMap (takeD p.deps) = (rs.take j).flatMap (takeD p.deps) ++ takeD p.deps r := by rw [take_snoc hr]; simp
          have hsz1 := HOI.out.size
          have HSN2 := Lib.hid hsn
          clear hr c0 c1 hrne hsn
          obtain ⟨x, y⟩ := r
          by_cases hx0 : 0 ≤ x
          · obtain ⟨q, rfl⟩ : ∃ q : Nat, x = (q : Nat) := ⟨x.toNat, (Int.toNat_of_nonneg hx0).symm⟩
            have hq : q < m := by
              rcases hrok with h | h | h
              · simp only at h; omega
              · simp only at h; omega
              · exact Int.ofNat_lt.1 h.2
            obtain ⟨d, hdq⟩ : ∃ d, p.deps[q]? = some d := ⟨p.deps[q]'(by rw [← HM.out]; exact hq), by simp⟩
            obtain ⟨db, do_, rfl, hnl, hdb, hdx⟩ := HD.out.at hdq
            clear hnl
            have hcd : wr.cell? ⟨db, do_ + q, none⟩ = some (.string d) := (HBI.out.cell (p := ⟨db, do_ + q, none⟩) hdb).trans (hdx q d hdq)
            have htk : takeD p.deps ⟨(q : Int), y⟩ = [d] := by
              unfold takeD; rw [if_pos hx0, Int.toNat_natCast, List.getD_eq_getElem?_getD, hdq]; rfl
            have HTK := Lib.hid htk
            have hlw := cell_lt hdepi
            have hal : ∀ o1 q1 q2 v, wr.cell? ⟨q1, q2, none⟩ = some v → (wr.alloc o1).cell? ⟨q1, q2, none⟩ = some v := fun o1 q1 q2 v hv => (((Below.refl _ wr).alloc (Nat.le_refl _) o1).cell (p := ⟨q1, q2, none⟩) (cell_lt hv)).trans hv
            have hdepa := hal (.cells #[.int .i64 q, .int .i64 y] 54) _ _ _ hdepi
            have hcda := hal (.cells #[.int .i64 q, .int .i64 y] 54) _ _ _ hcd
            have hsrc : Src Tryz.prog 1 22 (.slice (some ⟨wr.heap.size + 1, 0, none⟩) 1 1) 1 [.string d] ((wr.alloc (.cells #[.int .i64 q, .int .i64 y] 54)).alloc (.cells #[.string d] 9)) := by
              have := src_new (P := Tryz.prog) (w := wr.alloc (.cells #[.int .i64 q, .int .i64 y] 54)) (k := 1) Tryz.underlying22 [.string d] 1 9 1 rfl (by intro u hu; simp only [List.mem_cons, List.not_mem_nil, or_false] at hu; subst hu; rfl)
              rw [World.size_alloc] at this
              exact this
            have hra2 : Row 1 (w.heap.size + 1) ((wr.alloc (.cells #[.int .i64 q, .int .i64 y] 54)).alloc (.cells #[.string d] 9)) (.slice ya M yc) M (ys.map .string) := (HWI.out.alloc _).alloc _
            have HSRC := Lib.hid hsrc
            have HRA2 := Lib.hid hra2
            have hszw : w.heap.size + 1 ≤ ((wr.alloc (.cells #[.int .i64 q, .int .i64 y] 54)).alloc (.cells #[.string d] 9)).heap.size := by simp; omega
            clear hdq hdx htk hrok hal hsrc hra2
            go_wp2_with (at_builtin; refine wpList_append_row rfl (.tmp 29) (.tmp 36) 22 22 rfl 1 9 (.string ByteArray.empty) 16 Tryz.underlying22 infoS' rfl (w.heap.size + 1) (.slice ya M yc) M (ys.map .string) (by simp [Act.eval]) HRA2.out (.slice (some ⟨wr.heap.size + 1, 0, none⟩) 1 1) (by simp [Act.eval]) 1 [.string d] HSRC.out hszw (by omega) (by decide) ?_; intro v6 w6 hr6 ho6 hw6; obtain ⟨a6, c6, hv6⟩ := hr6.form; subst hv6; have HR6 := Lib.hid hr6; have HO6 := Lib.hid ho6; have HW6 := Lib.hid hw6; clear hr6 ho6 hw6)
            have hoa : Off (fun i => (Value.slice ya M yc).ownBlock = some i) wr w6 := (((Off.refl _ wr).alloc _).alloc _).trans HO6.out
            have hof : Off (fun q => (Value.slice va L vc).ownBlock = some q) w1 w6 := HOI.out.trans' hoa (fun i hi hi2 => (HOWN.out i hi2).resolve_right (by omega))
            have hbl : Below w.heap.size w w6 := HBI.out.trans (hoa.below (fun i hi => by have := (HWI.out.lt i hi).1; omega) HBI.out.size)
            have hceld : w6.cell? ⟨w.heap.size, 1, none⟩ = some (.slice (some ⟨db, do_, none⟩) m dc) := (hoa.cell (p := ⟨w.heap.size, 1, none⟩) hlw (fun e => by have := (HWI.out.lt w.heap.size e).1; omega)).trans hdepi
            have how : ∀ g, (Value.slice a6 (M + 1) c6).ownBlock = some g → (Value.slice va L vc).ownBlock = some g ∨ w1.heap.size ≤ g := fun g hg => by
              rcases HW6.out with h | h
              · rw [h] at hg; exact HOWN.out g hg
              · rw [h] at hg; injection hg with hg; right; subst hg; simp; omega
            exact ⟨⟨j + 1, M + 1, ys ++ [d], by omega, by go_num, by omega, Lib.hid (by rw [HSN2.out, HTK.out, HYS.out, List.append_assoc]), Lib.hid (by rw [HML.out]; simp), Lib.hid (by rw [List.map_append]; exact HR6.out), Lib.hid hbl, Lib.hid hof, Lib.hid how, hceld⟩, by simp [intOf]; omega⟩
          · have htk : takeD p.deps ⟨x, y⟩ = [] := by unfold takeD; rw [if_neg hx0]
            have hneg : x < 0 := by omega
            have HTK := Lib.hid htk
            have hlw := cell_lt hdepi
            have hda : ∀ o1, (wr.alloc o1).cell? ⟨w.heap.size, 1, none⟩ = some (.slice da m dc) := fun o1 => (((Below.refl _ wr).alloc (Nat.le_refl _) o1).cell (p := ⟨w.heap.size, 1, none⟩) hlw).trans hdepi
            have HDA := Lib.hid hda
            clear htk hrok hda
            go_wp2_with fail
            have hoa : ∀ o1 (Z : Nat → Prop), Off Z wr (wr.alloc o1) := fun o1 Z => (Off.refl _ wr).alloc _
            exact ⟨⟨j + 1, M, ys, by omega, by go_num, by omega, Lib.hid (by rw [HSN2.out, HTK.out, List.append_nil]; exact HYS.out), HML, Lib.hid (HWI.out.alloc _), Lib.hid (HBI.out.alloc HBI.out.size _), Lib.hid (HOI.out.trans (hoa _ _)), HOWN, HDA.out _⟩, by simp [intOf]; omega⟩
        · have hje : rn ≤ j := by omega
          have hfin : ys = nm :: (p.ops.take (k + 1)).flatMap (needRs p.deps) := by
            have h := HYS.out
            rw [List.take_of_length_le (by rw [← HRN.out]; exact hje)] at h
            rw [h, HXS.out, HSN.out, HRS.out]
            simp [needRs]
          have HF := Lib.hid hfin
          clear hfin
          go_wp2_with fail
          exact ⟨⟨k + 1, M, ys, by omega, by go_num, by omega, HF, HML, HWI, HBI, hdepi⟩, by simp [intOf]; omega⟩
    · have hke : n ≤ k := by omega
      have hxs : xs = needRaw p nm := by
        have h := HXS.out
        rw [List.take_of_length_le (by rw [← HN.out]; exact hke)] at h
        exact h
      have hLp : 0 < L := by rw [HLL.out, hxs]; simp [needRaw]
      obtain ⟨b, cap, hv, hb1, hb2, hcap, hmx, hfz, hcx⟩ := HW.out.pos hLp
      injection hv with hv1 _ hv2
      subst hv1; subst hv2
      have hcap9 : vc ≤ 9223372036854775807 := by unfold maxLen at hmx; omega
      have hHo := Holds_of_row (B := 0) hfz (by rw [← HLL.out]; exact hcap) hcx
      obtain ⟨ss, hss⟩ : ∃ ss, ss = xs.map fun s => s.data.toList := ⟨_, rfl⟩
      have hsl : ss.length = L := by rw [hss, List.length_map, HLL.out]
      obtain ⟨zs, hzs⟩ : ∃ zs, zs = ss.mergeSort fun x y => decide (x ≤ y) := ⟨_, rfl⟩
      have hzl : zs.length = L := by rw [hzs, List.length_mergeSort, hsl]
      have hned : needsL p nm = (Lib.compact zs).map tx := by rw [hzs, hss, hxs]; rfl
      have hsort := Tryz.slices_Sort_string b 0 vc ss wo (by rw [hss]; exact hHo) hb2 (by omega)
      rw [hsl, ← hzs] at hsort
      have hcomp : ∀ nn os, Calls Tryz.prog 92 #[.slice (some ⟨b, 0, none⟩) L vc] (Go.Sort.grow (Go.Sort.putRow encStr (Go.Sort.ahead wo nn) b 0 zs.toArray) os) fun e w' => (∃ v, e = .returned v ∧ Reads w' v (needsL p nm) ∧ ∀ g, v.ownBlock = some g → w.heap.size < g) ∧ Below w.heap.size wo w' := fun nn os => by
        have hH2 := holds_sorted (n := nn) (os := os) (by rw [hss]; exact hHo : Go.Sort.Holds encStr wo b 0 ss.toArray) hb2 (by rw [hzl, hsl])
        have hb3 : b < (Go.Sort.grow (Go.Sort.putRow encStr (Go.Sort.ahead wo nn) b 0 zs.toArray) os).heap.size := Nat.lt_of_lt_of_le hb2 (off_sorted (n := nn) (os := os) zs.toArray).size
        have h := Tryz.slices_Compact_string b 0 vc zs _ hH2 (by omega) (by omega)
        rw [hzl] at h
        refine h.mono ?_
        rintro e w2 ⟨rfl, q, rfl⟩
        refine ⟨⟨_, rfl, ?_, fun g hg => by have hg : b = g := Option.some.inj hg; omega⟩, ?_⟩
        · rw [hned]
          have := reads_compact (q := q) hH2 hb3 (by omega) hcap9
          rw [hzl] at this
          exact this
        · have h1 := off_sorted (w := wo) (g := b) (n := nn) (os := os) zs.toArray
          have h2 := off_sorted (w := Go.Sort.grow (Go.Sort.putRow encStr (Go.Sort.ahead wo nn) b 0 zs.toArray) os) (g := b) (n := q) (os := #[]) (Lib.compact zs ++ List.replicate (L - (Lib.compact zs).length) []).toArray
          rw [Go.Sort.grow_empty] at h2
          exact (h1.trans h2).below (fun i hi => by omega) HB.out.size
      have HSO := Lib.hid hsort
      have HCO := Lib.hid hcomp
      clear hsort hcomp hHo hcx hfz hss hzs hned hzl hsl hxs
      go_wp2_with fail
      refine HSO.out.mono ?_
      rintro e w1 ⟨rfl, nn, os, rfl⟩
      go_wp2_with fail
      refine (HCO.out nn os).mono ?_
      rintro e w2 ⟨⟨v, rfl, hrd, how⟩, hbb⟩
      obtain ⟨a2, c2, hv2, _⟩ := hrd.form
      subst hv2
      go_wp2_with fail
      go_ret
      exact ⟨⟨_, rfl, hrd, how⟩, HB.out.trans hbb⟩
end Go.Proofs.YtgjcblginkdinaaGreatDoor
