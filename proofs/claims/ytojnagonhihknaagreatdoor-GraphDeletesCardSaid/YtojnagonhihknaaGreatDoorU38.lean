/- The contract of weave. -/
import Derived.StillTailTactics
import Derived.Deep.RegionLaw
import Derived.Deep.OwnRows
import Derived.Test.YtojnagonhihknaaGreatDoorShelf
import Derived.Test.YtojnagonhihknaaGreatDoorShelfB
import Derived.Test.YtojnagonhihknaaGreatDoorU16
import Derived.Test.YtojnagonhihknaaGreatDoorU36
import Derived.Test.YtojnagonhihknaaGreatDoorU37
set_option linter.unusedVariables false
namespace Go.Proofs.YtojnagonhihknaaGreatDoor
open Go.ChangeShapes Go.WideShapes Go.ChangeAt Go.RowKit

noncomputable def nsB (S : SetB) : List Bs := Lib.compact ((S.map fun p => bsOf p.1).mergeSort fun x y => decide (x ≤ y))
noncomputable def nsOf (S : SetB) : Lb := (nsB S).map tx
theorem nsOf_bs (S : SetB) : (nsOf S).map bsOf = nsB S := by
  unfold nsOf
  rw [List.map_map]
  have : (bsOf ∘ tx) = id := by funext l; exact tx_list l
  rw [this, List.map_id]
theorem nsB_spec (S : SetB) : Asc (nsB S) ∧ ∀ x, x ∈ nsB S ↔ x ∈ S.map fun p => bsOf p.1 := by
  obtain ⟨h1, h2⟩ := compact_sorted _ (sort_pairwise (S.map fun p => bsOf p.1))
  refine ⟨h1, fun x => ?_⟩
  unfold nsB
  rw [h2, List.mem_mergeSort]
theorem nsB_len (S : SetB) : (nsB S).length ≤ S.length := by
  have := Lib.compact_length_le ((S.map fun p => bsOf p.1).mergeSort fun x y => decide (x ≤ y))
  rw [List.length_mergeSort, List.length_map] at this
  exact this
theorem nsOf_len (S : SetB) : (nsOf S).length = (nsB S).length := by simp [nsOf]
theorem Row.some {B n : Nat} {w : World} {v : Value} {cs : List Value} (h : Row 1 B w v n cs) (hp : v.ownBlock ≠ none) : ∃ b cap, v = .slice (some ⟨b, 0, none⟩) n cap ∧ B ≤ b ∧ b < w.heap.size ∧ n ≤ cap ∧ cap ≤ maxLen ∧
    (∀ j, j < cap * 1 → (w.cell? ⟨b, j, none⟩).isSome = true ∧ w.frozen? ⟨b, j, none⟩ = false) ∧ ∀ j u, cs[j]? = some u → w.cell? ⟨b, j, none⟩ = some u := by
  obtain ⟨h0, ⟨rfl, rfl⟩ | h⟩ := h
  · exact absurd rfl hp
  · exact h
theorem make_names (n : Nat) (hn : n ≤ 1000000) (w : World) : ∃ o : Obj, (Instr.makeSlice 44 (.int .i64 0) (.int .i64 (n : Nat))).run Tryz.prog w = .ok (.slice (some ⟨w.heap.size, 0, none⟩) 0 n) (w.alloc o) ∧ ∀ B, B ≤ w.heap.size → Row 1 B (w.alloc o) (.slice (some ⟨w.heap.size, 0, none⟩) 0 n) 0 [] := by
  obtain ⟨i, hi, hzz⟩ := Option.map_eq_some_iff.1 infoS6
  simp only [Prod.mk.injEq] at hzz
  obtain ⟨hz, hsz, hby⟩ := hzz
  have hr := run_make (P := Tryz.prog) w 44 9 i _ Tryz.underlying44 hi hz .i64 .i64 0 n (Int.le_refl _) (by omega) (by rw [hby]; omega) (by omega)
  simp only [Int.toNat_natCast, hsz, Int.toNat_zero] at hr
  refine ⟨_, hr, fun B hB => ?_⟩
  refine row_new (fr := (0, 0)) hB (by simp) (Nat.zero_le _) (by unfold maxLen; omega) ?_ (.inl rfl) (fun j u hu => by simp at hu)
  simp [madeCells, Value.cells]
theorem weaveC {R gb m : Nat} {nv gv : Value} {ns : Lb} {w w1 w3 w4 W : World} (hw1 : Below w.heap.size w w1) (hR : R = w.heap.size + 1) (hs1 : w1.heap.size = w.heap.size + 1) (hb3 : Below R w1 w3) (hrd : Reads w3 nv ns) (hgb : gb = w3.heap.size) (h34 : Below w3.heap.size w3 w4) (h0 : w4.cell? ⟨gb + 1, 0, none⟩ = some nv) (h1 : w4.cell? ⟨gb + 1, 1, none⟩ = some gv) (hsz : w4.heap.size = gb + 2) (ho : Off (fun i => i = gb ∨ gb + 2 ≤ i) w4 W) :
    W.cell? ⟨gb + 1, 0, none⟩ = some nv ∧ W.cell? ⟨gb + 1, 1, none⟩ = some gv ∧ Reads W nv ns ∧ Below w.heap.size w W ∧ Below R w1 W ∧ gb + 2 ≤ W.heap.size := by
  have hb3s := hb3.size
  have hz : ¬ (gb + 1 = gb ∨ gb + 2 ≤ gb + 1) := by omega
  have h3W : Below w3.heap.size w3 W := h34.trans (ho.below (B := w3.heap.size) (fun i hi => by omega) h34.size)
  have hRW : Below R w1 W := hb3.trans (h3W.mono (by omega))
  have hos := ho.size
  exact ⟨(ho.cell (p := ⟨gb + 1, 0, none⟩) (by show gb + 1 < _; omega) hz).trans h0, (ho.cell (p := ⟨gb + 1, 1, none⟩) (by show gb + 1 < _; omega) hz).trans h1, hrd.below h3W, hw1.trans (hRW.mono (by omega)), hRW, by omega⟩
theorem mem_sum {S : SetB} {p : ByteArray × Lb} (h : p ∈ S) : p.2.length ≤ (S.map fun p => p.2.length).sum := by
  induction S with
  | nil => cases h
  | cons x S ih =>
    rw [List.map_cons, List.sum_cons]
    rcases List.mem_cons.1 h with rfl | h
    · omega
    · have := ih h; omega
theorem take_sum (S : SetB) : ∀ k, ((S.take k).map fun p => p.2.length).sum ≤ (S.map fun p => p.2.length).sum := by
  induction S with
  | nil => intro k; simp
  | cons x S ih =>
    intro k
    cases k with
    | zero => simp
    | succ k =>
      have := ih k
      simp only [List.take_succ_cons, List.map_cons, List.sum_cons]
      omega
theorem s6_snoc {S : SetB} {k : Nat} {p : ByteArray × Lb} (h : S[k]? = some p) : s6 (S.take (k + 1)) = s6 (S.take k) ++ [(bsOf p.1, p.2.map bsOf)] := by
  rw [List.take_add_one, h]
  simp [s6]
theorem Reads.setOther {w : World} {v : Value} {xs : Lb} (h : Reads w v xs) {p : Addr} (hp : ∀ g, v.ownBlock = some g → g ≠ p.block) (u : Value) : Reads (w.setCell p u) v xs := by
  rcases h with h | ⟨hn, b, o, c, hv, hc, hm, hl, hx⟩
  · exact .inl h
  · refine .inr ⟨hn, b, o, c, hv, hc, hm, by simpa [World.setCell] using hl, fun j x hj => ?_⟩
    have hb : b ≠ p.block := hp b (by rw [hv]; rfl)
    rw [World.cell?_setCell_other _ _ _ _ (fun e => hb (by rw [e]))]
    exact hx j x hj
def namesS (S : SetB) : Lb := S.map (·.1)

set_option maxHeartbeats 2000000 in
set_option maxRecDepth 100000 in
theorem weave_any (S : SetB) (v : Value) (w : World) (hS : SReads w v S) (hn : S.length ≤ 61) (hM : (S.map fun p => p.2.length).sum ≤ 401) :
    Calls Tryz.prog 79 #[v] w fun e w' => ∃ nv gv, e = .returned (.agg #[nv, gv]) ∧ Web w' nv gv (nsOf S) (gridB (nsB S) (s6 S)) ∧ Below w.heap.size w w' := by
  obtain ⟨sa, sc, rfl, _⟩ := hS.form
  obtain ⟨n, hnn⟩ : ∃ n, n = S.length := ⟨_, rfl⟩
  rw [← hnn] at hS hn ⊢
  obtain ⟨w1, hw1⟩ : ∃ w1, w1 = w.alloc (.cells #[.slice none 0 0, .slice none 0 0] 148) := ⟨_, rfl⟩
  have hs1 : w1.heap.size = w.heap.size + 1 := by rw [hw1]; simp
  obtain ⟨o1, hmk, hmr⟩ := make_names n (by omega) w1
  have hb1 : Below w.heap.size w w1 := by rw [hw1]; exact (Below.refl _ _).alloc (Nat.le_refl _) _
  have hrow0 := hmr (w.heap.size + 1) (by omega)
  rw [hs1] at hrow0
  have hba : Below (w.heap.size + 1) w1 (w1.alloc o1) := (Below.refl _ _).alloc (by omega) _
  have HS := Lib.hid hS
  have HN := Lib.hid hnn
  have HM := Lib.hid hM
  have HROW0 := Lib.hid hrow0
  have HBA := Lib.hid hba
  have HB1 := Lib.hid hb1
  have HS1 := Lib.hid hs1
  have HW1 := Lib.hid hw1
  rw [hw1] at hmk
  clear hS hnn hM hrow0 hba hb1 hs1 hmr
  go_enter Tryz.func79, Tryz.ntmps79
  go_wp2_with fail
  go_loopw [3, 17] (fun nv jv wr => ∃ i : Nat, jv = .int .i64 (i : Nat) ∧ i ≤ n ∧ Hid (Row 1 (w.heap.size + 1) wr nv i (((namesS S).take i).map .string)) ∧ Hid (nv.ownBlock ≠ none) ∧ Hid (Below (w.heap.size + 1) w1 wr)) (fun _ jv _ => n - (intOf jv).toNat)
  case atStart =>
    rw [← HW1.out]
    exact ⟨0, rfl, Nat.zero_le _, HROW0, Lib.hid (by simp [Value.ownBlock]), HBA⟩
  case round =>
    obtain ⟨i, rfl, hin, HR, HO, HB⟩ := hrel
    obtain ⟨nb, nc, rfl, hnb1, hnb2, hnc, hncm, hncf, hncx⟩ := HR.out.some HO.out
    have hbw : Below w.heap.size w wr := HB1.out.trans (HB.out.mono (by omega))
    have HBW := Lib.hid hbw
    by_cases hlt : i < n
    · obtain ⟨p, hp⟩ : ∃ p, S[i]? = some p := ⟨S[i]'(by rw [← HN.out]; exact hlt), by simp⟩
      obtain ⟨sb, so, rfl, hsl, hat⟩ := HS.out.at hp
      obtain ⟨nm, deps⟩ := p
      obtain ⟨nt, dv, oa, ol, oc, c0, c1, c2, c3, hdr⟩ := hat.below hbw hsl
      obtain ⟨da, dc, hdv, _⟩ := hdr.form
      obtain ⟨dl, hdl⟩ : ∃ dl, dl = deps.length := ⟨_, rfl⟩
      simp only [← hdl] at hdv
      subst hdv
      simp only at c0
      clear hdr hdl
      have hsn : (namesS S).take (i + 1) = (namesS S).take i ++ [nm] := by
        rw [List.take_add_one]
        congr 1
        simp [namesS, hp]
      have HSN := Lib.hid hsn
      have hra : Row 1 (w.heap.size + 1) ((wr.alloc (.cells #[.string nm, .string nt, (.slice da dl dc), (.slice oa ol oc)] 49)).alloc (.cells #[.string nm] 9)) (.slice (some ⟨nb, 0, none⟩) i nc) i (((namesS S).take i).map .string) := (HR.out.alloc _).alloc _
      have HRA := Lib.hid hra
      have hsrc : Src Tryz.prog 1 44 (.slice (some ⟨wr.heap.size + 1, 0, none⟩) 1 1) 1 [.string nm] ((wr.alloc (.cells #[.string nm, .string nt, (.slice da dl dc), (.slice oa ol oc)] 49)).alloc (.cells #[.string nm] 9)) := by
        have := src_new (P := Tryz.prog) (w := wr.alloc (.cells #[.string nm, .string nt, (.slice da dl dc), (.slice oa ol oc)] 49)) (k := 1) Tryz.underlying44 [.string nm] 1 9 1 rfl oneS6
        rw [World.size_alloc] at this
        exact this
      have HSRC := Lib.hid hsrc
      have hbs := HB.out.size
      have hs1 := HS1.out
      have hszw : w.heap.size + 1 ≤ ((wr.alloc (.cells #[.string nm, .string nt, (.slice da dl dc), (.slice oa ol oc)] 49)).alloc (.cells #[.string nm] 9)).heap.size := by simp; omega
      clear hbw hat hp hsn hra hsrc hncf hncx
      go_wp2_with (at_builtin; refine wpList_append_row rfl (.tmp 21) (.tmp 24) 44 44 rfl 1 9 (.string ByteArray.empty) 16 Tryz.underlying44 infoS6 rfl (w.heap.size + 1) (.slice (some ⟨nb, 0, none⟩) i nc) i (((namesS S).take i).map .string) (by simp [Act.eval]) HRA.out (.slice (some ⟨wr.heap.size + 1, 0, none⟩) 1 1) (by simp [Act.eval]) 1 [.string nm] HSRC.out hszw (by omega) (by decide) ?_; intro v6 w6 hr6 ho6 hw6; obtain ⟨a6, c6, hv6⟩ := hr6.form; subst hv6; have HR6 := Lib.hid hr6; have HO6 := Lib.hid ho6; have HW6 := Lib.hid hw6; clear hr6 ho6 hw6)
      have hoa : Off (fun k => (Value.slice (some ⟨nb, 0, none⟩) i nc).ownBlock = some k) wr w6 := (((Off.refl _ wr).alloc _).alloc _).trans HO6.out
      have hb6 := HB.out.trans (hoa.below (B := w.heap.size + 1) (fun k hk => by have hk : nb = k := Option.some.inj hk; omega) (by omega))
      have hr6 : Row 1 (w.heap.size + 1) w6 (.slice a6 (i + 1) c6) (i + 1) (((namesS S).take (i + 1)).map .string) := by
        rw [HSN.out, List.map_append]
        exact HR6.out
      have ho6 : (Value.slice a6 (i + 1) c6).ownBlock ≠ none := by
        rcases HW6.out with h | h
        · rw [h]; exact Option.some_ne_none _
        · rw [h]; exact Option.some_ne_none _
      exact ⟨⟨i + 1, by go_num, by omega, Lib.hid hr6, Lib.hid ho6, Lib.hid hb6⟩, by simp [intOf]; omega⟩
    · have hie : n = i := by omega
      subst hie
      have hall : (namesS S).take n = namesS S := List.take_of_length_le (by simp [namesS, ← HN.out])
      have hnl : (namesS S).length = n := by simp [namesS, ← HN.out]
      rw [hall] at hncx
      have hHo := Holds_of_row (B := 0) hncf (by rw [hnl]; exact hnc) hncx
      have hcap9 : nc ≤ 9223372036854775807 := by unfold maxLen at hncm; omega
      obtain ⟨ss, hss⟩ : ∃ ss, ss = (namesS S).map fun s => s.data.toList := ⟨_, rfl⟩
      have hsl : ss.length = n := by rw [hss, List.length_map, hnl]
      obtain ⟨zs, hzs⟩ : ∃ zs, zs = ss.mergeSort fun x y => decide (x ≤ y) := ⟨_, rfl⟩
      have hzl : zs.length = n := by rw [hzs, List.length_mergeSort, hsl]
      have hned : nsOf S = (Lib.compact zs).map tx := by
        rw [hzs, hss]
        unfold nsOf nsB namesS
        rw [List.map_map]
        rfl
      have hsort := Tryz.slices_Sort_string nb 0 nc ss wr (by rw [hss]; exact hHo) hnb2 (by omega)
      rw [hsl, ← hzs] at hsort
      have hbs := HB.out.size
      have hs1 := HS1.out
      have hcomp : ∀ nn os, Calls Tryz.prog 106 #[.slice (some ⟨nb, 0, none⟩) n nc] (Go.Sort.grow (Go.Sort.putRow encStr (Go.Sort.ahead wr nn) nb 0 zs.toArray) os) fun e w' => (∃ v, e = .returned v ∧ Reads w' v (nsOf S) ∧ ∀ g, v.ownBlock = some g → w.heap.size < g) ∧ Below (w.heap.size + 1) w1 w' := fun nn os => by
        have hH2 := holds_sorted (n := nn) (os := os) (by rw [hss]; exact hHo : Go.Sort.Holds encStr wr nb 0 ss.toArray) hnb2 (by rw [hzl, hsl])
        have hb3 : nb < (Go.Sort.grow (Go.Sort.putRow encStr (Go.Sort.ahead wr nn) nb 0 zs.toArray) os).heap.size := Nat.lt_of_lt_of_le hnb2 (off_sorted (n := nn) (os := os) zs.toArray).size
        have h := Tryz.slices_Compact_string nb 0 nc zs _ hH2 (by omega) (by omega)
        rw [hzl] at h
        refine h.mono ?_
        rintro e w2 ⟨rfl, q, rfl⟩
        refine ⟨⟨_, rfl, ?_, fun g hg => by have hg : nb = g := Option.some.inj hg; omega⟩, ?_⟩
        · rw [hned]
          have := reads_compact (q := q) hH2 hb3 (by omega) hcap9
          rw [hzl] at this
          exact this
        · have h1 := off_sorted (w := wr) (g := nb) (n := nn) (os := os) zs.toArray
          have h2 := off_sorted (w := Go.Sort.grow (Go.Sort.putRow encStr (Go.Sort.ahead wr nn) nb 0 zs.toArray) os) (g := nb) (n := q) (os := #[]) (Lib.compact zs ++ List.replicate (n - (Lib.compact zs).length) []).toArray
          rw [Go.Sort.grow_empty] at h2
          exact HB.out.trans ((h1.trans h2).below (B := w.heap.size + 1) (fun i hi => by omega) (by omega))
      have HSO := Lib.hid hsort
      have HCO := Lib.hid hcomp
      clear hsort hcomp hHo hncx hncf hss hzs hned hzl hsl hall hnl
      go_wp2_with fail
      refine HSO.out.mono ?_
      rintro e w3 ⟨rfl, nn, os, rfl⟩
      go_wp2_with fail
      refine (HCO.out nn os).mono ?_
      rintro e w3 ⟨⟨v, rfl, hrd, hown⟩, hb3⟩
      obtain ⟨a2, c2, hv2, _⟩ := hrd.form
      obtain ⟨m, hm⟩ : ∃ m, m = (nsOf S).length := ⟨_, rfl⟩
      rw [← hm] at hv2
      subst hv2
      have mk2 := run_make_row' (P := Tryz.prog) 146 55 (.slice none 0 0) 24 Tryz.underlying146 infoL6 rfl .i64 .i64 m (by have := nsB_len S; rw [← nsOf_len, ← hm, ← HN.out] at this; omega) (by have := nsB_len S; rw [← nsOf_len, ← hm, ← HN.out] at this; omega)
      have hmn : m ≤ n := by have := nsB_len S; rw [← nsOf_len, ← hm, ← HN.out] at this; exact this
      obtain ⟨w4, hw4⟩ : ∃ w4, w4 = (w3.alloc (.cells (madeCells #[.slice none 0 0] m) 55)).alloc (.cells #[.slice a2 m c2, .slice (some ⟨w3.heap.size, 0, none⟩) m m] 148) := ⟨_, rfl⟩
      have hs4 : w4.heap.size = w3.heap.size + 2 := by rw [hw4]; simp
      have hb34 : Below w3.heap.size w3 w4 := by rw [hw4]; exact ((Below.refl _ _).alloc (Nat.le_refl _) _).alloc (by simp) _
      have e0 : w4.cell? ⟨w3.heap.size + 1, 0, none⟩ = some (.slice a2 m c2) := by rw [hw4, World.cell?_alloc_at _ _ _ _ (by simp)]; rfl
      have e1 : w4.cell? ⟨w3.heap.size + 1, 1, none⟩ = some (.slice (some ⟨w3.heap.size, 0, none⟩) m m) := by rw [hw4, World.cell?_alloc_at _ _ _ _ (by simp)]; rfl
      have hg4 : Grid w3.heap.size (w3.heap.size + 2) w4 (List.replicate m []) := by
        have hg3 : Grid w3.heap.size (w3.heap.size + 2) (w3.alloc (.cells (madeCells #[.slice none 0 0] m) 55)) (List.replicate m []) := grid_new (by simp) (by omega) made_nil
        have := hg3.below ((Below.refl _ _).alloc (Nat.le_refl _) (.cells #[.slice a2 m c2, .slice (some ⟨w3.heap.size, 0, none⟩) m m] 148))
        rw [← hw4] at this
        exact this
      have WC : ∀ W, Off (fun i => i = w3.heap.size ∨ w3.heap.size + 2 ≤ i) w4 W → W.cell? ⟨w3.heap.size + 1, 0, none⟩ = some (.slice a2 m c2) ∧ W.cell? ⟨w3.heap.size + 1, 1, none⟩ = some (.slice (some ⟨w3.heap.size, 0, none⟩) m m) ∧ Reads W (.slice a2 m c2) (nsOf S) ∧ Below w.heap.size w W ∧ Below (w.heap.size + 1) w1 W ∧ w3.heap.size + 2 ≤ W.heap.size := fun W ho => weaveC (m := m) HB1.out rfl hs1 hb3 hrd rfl hb34 e0 e1 hs4 ho
      have HWC := Lib.hid WC
      have HOWN := Lib.hid hown
      have HG4 := Lib.hid hg4
      have HM2 := Lib.hid hm
      have HASC := Lib.hid (by rw [nsOf_bs]; exact (nsB_spec S).1 : Asc ((nsOf S).map bsOf))
      have hb3s := hb3.size
      have HW4 := Lib.hid hw4
      have HR0 : Hid (w1.cell? ⟨w.heap.size, 0, none⟩ = some (.slice none 0 0) ∧ w1.cell? ⟨w.heap.size, 1, none⟩ = some (.slice none 0 0)) := Lib.hid (by rw [HW1.out]; exact ⟨by rw [World.cell?_alloc_at _ _ _ _ rfl]; rfl, by rw [World.cell?_alloc_at _ _ _ _ rfl]; rfl⟩)
      clear WC hown hg4 hm hrd hb34 e0 e1 hs4 hb3 hw4
      go_wp2_with fail
      rw [← HW4.out]
      go_loopw [38] (fun jv wr => ∃ k : Nat, jv = .int .i64 (k : Nat) ∧ k ≤ n ∧ Hid (Grid w3.heap.size (w3.heap.size + 2) wr (gridB (nsB S) (s6 (S.take k)))) ∧ Hid (Off (fun i => i = w3.heap.size ∨ w3.heap.size + 2 ≤ i) w4 wr)) (fun jv _ => n - (intOf jv).toNat)
      case atStart => exact ⟨0, rfl, Nat.zero_le _, Lib.hid (by rw [List.take_zero]; show Grid _ _ _ (gridB (nsB S) []); rw [gridB_nil, ← nsOf_len, ← HM2.out]; exact HG4.out), Lib.hid (Off.refl _ _)⟩
      case round =>
        obtain ⟨k, rfl, hkn, HGK, HOK⟩ := hrel
        obtain ⟨b0, b1, hrn, hbw, hbR, hszk⟩ := HWC.out wr HOK.out
        by_cases hlt2 : k < n
        · obtain ⟨p, hp⟩ : ∃ p, S[k]? = some p := ⟨S[k]'(by rw [← HN.out]; exact hlt2), by simp⟩
          obtain ⟨sb, so, rfl, hsl, hat⟩ := HS.out.at hp
          have hs6 := s6_snoc hp
          have hmemp : p ∈ S := List.mem_of_getElem? hp
          have hdl : p.2.length ≤ 401 := Nat.le_trans (mem_sum hmemp) HM.out
          obtain ⟨nm, deps⟩ := p
          obtain ⟨nt, dv, oa, ol, oc, c0, c1, c2', c3, hdr⟩ := hat
          obtain ⟨da, dc, hdv, _⟩ := hdr.form
          simp only at c0 hdv hdl hs6 hdr
          obtain ⟨dl, hdle⟩ : ∃ dl, dl = deps.length := ⟨_, rfl⟩
          rw [← hdle] at hdv hdl
          subst hdv
          have d0 := (hbw.cell (p := ⟨sb, so + k * 4, none⟩) hsl).trans c0
          have d1 := (hbw.cell (p := ⟨sb, so + k * 4 + 1, none⟩) hsl).trans c1
          have d2 := (hbw.cell (p := ⟨sb, so + k * 4 + 2, none⟩) hsl).trans c2'
          have d3 := (hbw.cell (p := ⟨sb, so + k * 4 + 3, none⟩) hsl).trans c3
          obtain ⟨pa, hpa, hpl, hpe⟩ := place_in (ns := nsB S) (x := bsOf nm) ((nsB_spec S).2 _ |>.2 (List.mem_map.2 ⟨_, hmemp, rfl⟩))
          have hpam : pa < m := by rw [HM2.out, nsOf_len]; exact hpa
          have PC : ∀ (x : ByteArray) (W : World), Off (fun i => i = w3.heap.size ∨ w3.heap.size + 2 ≤ i) w4 W → Calls Tryz.prog 107 #[.agg #[.slice a2 m c2, .slice (some ⟨w3.heap.size, 0, none⟩) m m], .string x] W fun e w' => e = .returned (.int .i64 (placeB (nsB S) (bsOf x))) ∧ Below W.heap.size W w' := fun x W ho => by
            have h := place_any (nsOf S) (.slice a2 m c2) (.slice (some ⟨w3.heap.size, 0, none⟩) m m) x W (HWC.out W ho).2.2.1 HASC.out (by rw [← HM2.out]; omega)
            rw [nsOf_bs] at h
            exact h
          have HPC := Lib.hid PC
          have hoa : Off (fun i => i = w3.heap.size ∨ w3.heap.size + 2 ≤ i) w4 (wr.alloc (.cells #[.string nm, .string nt, .slice da dl dc, .slice oa ol oc] 49)) := HOK.out.alloc _
          have PN := PC nm _ hoa
          rw [hpl] at PN
          have HPN := Lib.hid PN
          have HOA := Lib.hid hoa
          have HS6 := Lib.hid hs6
          have HPL := Lib.hid hpl
          have HDR := Lib.hid hdr
          have HDL := Lib.hid hdle
          have HPA := Lib.hid hpa
          have hgka := HGK.out.below ((Below.refl _ wr).alloc (Nat.le_refl _) (.cells #[.string nm, .string nt, .slice da dl dc, .slice oa ol oc] 49))
          have HGKA := Lib.hid hgka
          have hal : ∀ o1 q1 q2 v, wr.cell? ⟨q1, q2, none⟩ = some v → (wr.alloc o1).cell? ⟨q1, q2, none⟩ = some v := fun o1 q1 q2 v hv => (((Below.refl _ wr).alloc (Nat.le_refl _) o1).cell (p := ⟨q1, q2, none⟩) (cell_lt hv)).trans hv
          have b0a := hal (.cells #[.string nm, .string nt, .slice da dl dc, .slice oa ol oc] 49) _ _ _ b0
          have b1a := hal (.cells #[.string nm, .string nt, .slice da dl dc, .slice oa ol oc] 49) _ _ _ b1
          clear PC PN hoa hs6 hpe hpl hdr hdle hpa hgka hal hmemp hp c0 c1 c2' c3 hrn hbw hbR
          go_wp2_with fail
          refine HPN.out.mono ?_
          rintro e w5 ⟨rfl, hb5⟩
          have x2 : w5.cell? ⟨wr.heap.size, 2, none⟩ = some (.slice da dl dc) := (hb5.cell (p := ⟨wr.heap.size, 2, none⟩) (by simp)).trans (by rw [World.cell?_alloc_at _ _ _ _ rfl]; rfl)
          have HO5 := Lib.hid (HOA.out.trans (Off.of_below hb5))
          have HG5 := Lib.hid (HGKA.out.below hb5)
          clear hb5
          go_wp2_with fail
          obtain ⟨w0, hw0⟩ : ∃ w0, w0 = wr := ⟨wr, rfl⟩
          clear hw0
          go_loopw [50] (fun jv wi => ∃ j : Nat, jv = .int .i64 (j : Nat) ∧ j ≤ dl ∧ Hid (Grid w3.heap.size (w3.heap.size + 2) wi (gridM (nsB S) (s6 (S.take k)) pa (deps.map bsOf) j)) ∧ Hid (Off (fun i => i = w3.heap.size ∨ w3.heap.size + 2 ≤ i) w4 wi)) (fun jv _ => dl - (intOf jv).toNat)
          case atStart => exact ⟨0, rfl, Nat.zero_le _, Lib.hid (by rw [gridM_zero HPA.out]; exact HG5.out), HO5⟩
          case round =>
            obtain ⟨j, rfl, hjd, HGJ, HOJ⟩ := hrel
            obtain ⟨b0', b1', hrn', hbw', hbR', hszj⟩ := HWC.out wr HOJ.out
            by_cases hlt3 : j < dl
            · obtain ⟨d, hd⟩ : ∃ d, deps[j]? = some d := ⟨deps[j]'(by rw [← HDL.out]; exact hlt3), by simp⟩
              obtain ⟨db, do_, rfl, hnl, hcl⟩ := (HDR.out.below hbw').at hd
              have hcd := hcl.2 j d hd
              obtain ⟨gv, hgv, hgf, hgr⟩ := HGJ.out.each pa _ (gridM_at HPA.out)
              obtain ⟨gl, hgl⟩ : ∃ gl, gl = needB (nsB S) (s6 (S.take k)) (pa : Int) ++ ((deps.map bsOf).take j).map (placeB (nsB S)) := ⟨_, rfl⟩
              rw [← hgl] at hgr
              obtain ⟨q, hq⟩ : ∃ q, q = gl.length := ⟨_, rfl⟩
              have hq1 : q ≤ 100000 := by
                have h1 := needB_sum (nsB S) (pa : Int) (s6 (S.take k))
                have h2 : ((s6 (S.take k)).map fun p => p.2.length).sum ≤ 401 := by
                  have e : (s6 (S.take k)).map (fun p => p.2.length) = (S.take k).map fun p => p.2.length := by
                    unfold s6
                    rw [List.map_map]
                    exact List.map_congr_left fun p _ => by simp
                  rw [e]
                  exact Nat.le_trans (take_sum S k) HM.out
                have h3 : (((deps.map bsOf).take j).map (placeB (nsB S))).length ≤ dl := by rw [List.length_map, List.length_take, List.length_map, ← HDL.out]; omega
                rw [hq, hgl, List.length_append]
                omega
              rw [← hq] at hgr
              obtain ⟨ga, gc, rfl⟩ := hgr.form
              obtain ⟨x, hx⟩ : ∃ x, x = placeB (nsB S) (bsOf d) := ⟨_, rfl⟩
              have HX := Lib.hid hx
              have HQ := Lib.hid hq
              have HGLE := Lib.hid hgl
              have HD := Lib.hid hd
              have hbg := HGJ.out.lt
              have hnb : ¬ (Value.slice ga q gc).ownBlock = some w3.heap.size := fun e => by have := (hgr.lt _ e).1; omega
              -- behind the call of place
              have K6 : ∀ w6 : World, Below wr.heap.size wr w6 → w6.cell? ⟨w3.heap.size + 1, 0, none⟩ = some (.slice a2 m c2) ∧ w6.cell? ⟨w3.heap.size + 1, 1, none⟩ = some (.slice (some ⟨w3.heap.size, 0, none⟩) m m) ∧ w6.cell? ⟨w3.heap.size, pa, none⟩ = some (.slice ga q gc) := fun w6 h6 =>
                ⟨(h6.cell (p := ⟨w3.heap.size + 1, 0, none⟩) (cell_lt b0')).trans b0', (h6.cell (p := ⟨w3.heap.size + 1, 1, none⟩) (cell_lt b0')).trans b1', (h6.cell (p := ⟨w3.heap.size, pa, none⟩) hbg).trans hgv⟩
              have R6 : ∀ w6 : World, Below wr.heap.size wr w6 → Row 1 (w3.heap.size + 2) (w6.alloc (.cells #[.int .i64 x] 3)) (.slice ga q gc) q (iv gl) ∧ Src Tryz.prog 1 55 (.slice (some ⟨w6.heap.size, 0, none⟩) 1 1) 1 [.int .i64 x] (w6.alloc (.cells #[.int .i64 x] 3)) ∧ w3.heap.size + 2 ≤ (w6.alloc (.cells #[.int .i64 x] 3)).heap.size := fun w6 h6 =>
                ⟨(hgr.below h6).alloc _, src_new Tryz.underlying55 [.int .i64 x] 1 3 1 rfl one6, by have := h6.size; simp; omega⟩
              -- behind append
              have K8 : ∀ w6 w8 : World, Below wr.heap.size wr w6 → Off (fun i => (Value.slice ga q gc).ownBlock = some i) (w6.alloc (.cells #[.int .i64 x] 3)) w8 → w8.cell? ⟨w3.heap.size, pa, none⟩ = some (.slice ga q gc) ∧ w8.frozen? ⟨w3.heap.size, pa, none⟩ = false ∧ w8.cell? ⟨w3.heap.size + 1, 0, none⟩ = some (.slice a2 m c2) ∧ w8.cell? ⟨w3.heap.size + 1, 1, none⟩ = some (.slice (some ⟨w3.heap.size, 0, none⟩) m m) := fun w6 w8 h6 h8 => by
                have h68 : Off (fun i => (Value.slice ga q gc).ownBlock = some i) wr w8 := ((Off.of_below h6).trans ((Off.refl _ w6).alloc _)).trans h8
                have hnb1 : ¬ (Value.slice ga q gc).ownBlock = some (w3.heap.size + 1) := fun e => by have := (hgr.lt _ e).1; omega
                exact ⟨(h68.cell (p := ⟨w3.heap.size, pa, none⟩) hbg hnb).trans hgv, (h68.frozen (p := ⟨w3.heap.size, pa, none⟩) hbg hnb).trans hgf, (h68.cell (p := ⟨w3.heap.size + 1, 0, none⟩) (cell_lt b0') hnb1).trans b0', (h68.cell (p := ⟨w3.heap.size + 1, 1, none⟩) (cell_lt b0') hnb1).trans b1'⟩
              have F8 : ∀ w6 w8 a8 c8, Below wr.heap.size wr w6 → Off (fun i => (Value.slice ga q gc).ownBlock = some i) (w6.alloc (.cells #[.int .i64 x] 3)) w8 → Row 1 (w3.heap.size + 2) w8 (.slice a8 (q + 1) c8) (q + 1) (iv gl ++ [.int .i64 x]) → ((Value.slice a8 (q + 1) c8).ownBlock = (Value.slice ga q gc).ownBlock ∨ (Value.slice a8 (q + 1) c8).ownBlock = some (w6.alloc (.cells #[.int .i64 x] 3)).heap.size) →
                  Grid w3.heap.size (w3.heap.size + 2) (w8.setCell ⟨w3.heap.size, pa, none⟩ (.slice a8 (q + 1) c8)) (gridM (nsB S) (s6 (S.take k)) pa (deps.map bsOf) (j + 1)) ∧ Off (fun i => i = w3.heap.size ∨ w3.heap.size + 2 ≤ i) w4 (w8.setCell ⟨w3.heap.size, pa, none⟩ (.slice a8 (q + 1) c8)) := fun w6 w8 a8 c8 h6 h8 hr8 hw8 => by
                have hg6 := HGJ.out.below h6
                have hv6 := (K6 w6 h6).2.2
                have h68 : Off (fun i => (Value.slice ga q gc).ownBlock = some i) w6 w8 := ((Off.refl _ w6).alloc _).trans h8
                have hat := gridM_at (ns := nsB S) (set := s6 (S.take k)) (deps := deps.map bsOf) (j := j) HPA.out
                rw [← HGLE.out] at hat
                have hlen : q + 1 = gl.length + 1 := by rw [HQ.out]
                have hr8' := hr8
                rw [hlen] at hr8'
                have hgp := hg6.push (x := x) hat hv6 h68 hr8' (by
                  rw [← hlen]
                  rcases hw8 with h | h
                  · exact .inl h
                  · exact .inr ⟨_, h, by simp⟩)
                rw [← hlen] at hgp
                have hst := gridM_step (ns := nsB S) (set := s6 (S.take k)) (a := pa) (deps := deps.map bsOf) (j := j) (d := bsOf d) (by simp [HD.out])
                rw [← HGLE.out, ← HX.out] at hst
                rw [hst]
                exact ⟨hgp, (HOJ.out.trans (Off.of_below h6)).trans (hg6.pushed hat hv6 h68)⟩
              have HK6 := Lib.hid K6
              have HR6 := Lib.hid R6
              have HK8 := Lib.hid K8
              have HF8 := Lib.hid F8
              have PD : Calls Tryz.prog 107 #[.agg #[.slice a2 m c2, .slice (some ⟨w3.heap.size, 0, none⟩) m m], .string d] wr.drew fun e w' => e = .returned (.int .i64 x) ∧ Below wr.heap.size wr w' := by
                have h := HPC.out d wr.drew HOJ.out.drew
                rw [← hx] at h
                exact h.mono fun e w' ⟨h1, h2⟩ => ⟨h1, ((Below.refl _ _).drew).trans h2⟩
              have HPD := Lib.hid PD
              clear K6 R6 K8 F8 PD hx hq hgl hd hnl hcl hgr hrn' hbw' hbR' hnb
              go_wp2_with fail
              go_region_law (first
                | (refine step_append_row rfl (.tmp 61) (.tmp 65) 55 55 rfl 1 3 (.int .i64 0) 8 Tryz.underlying55 infoI6 rfl (w3.heap.size + 2) (.slice ga q gc) q (iv gl) (by simp [Act.eval]) HRA6.out (.slice (some ⟨w6.heap.size, 0, none⟩) 1 1) (by simp [Act.eval]) 1 [.int .i64 x] HSR6.out hsz6 (by omega) (by decide) ?_; intro v8 w8 hr8 ho8 hw8; obtain ⟨a8, c8, hv8⟩ := hr8.form; subst hv8; obtain ⟨k8, f8, k80, k81⟩ := HK8.out w6 w8 HB6.out ho8; have HF := Lib.hid (HF8.out w6 w8 a8 c8 HB6.out ho8 hr8 hw8); clear hr8 ho8 hw8)
                | (go_simp; go_at_call 107; refine HPD.out.mono ?_; rintro e w6 ⟨rfl, hb6⟩; obtain ⟨y0, y1, y2⟩ := HK6.out w6 hb6; obtain ⟨z0, z1, z2⟩ := HK6.out (w6.alloc (.cells #[.int .i64 x] 3)) (hb6.alloc hb6.size _); obtain ⟨hra6, hsr6, hsz6⟩ := HR6.out w6 hb6; have HRA6 := Lib.hid hra6; have HSR6 := Lib.hid hsr6; have HB6 := Lib.hid hb6; clear hra6 hsr6 hb6))
              all_goals
                go_wp2_with fail
                exact ⟨⟨j + 1, by go_num, by omega, Lib.hid HF.out.1, Lib.hid HF.out.2⟩, by simp [intOf]; omega⟩
            · have hje : j = dl := by omega
              have HG7 : Hid (Grid w3.heap.size (w3.heap.size + 2) wr (gridB (nsB S) (s6 (S.take (k + 1))))) := Lib.hid (by
                have h := HGJ.out
                have he := gridM_end (set := s6 (S.take k)) (p := (bsOf nm, deps.map bsOf)) HPA.out HPL.out
                simp only [List.length_map] at he
                rw [hje, HDL.out, he, ← HS6.out] at h
                exact h)
              clear b0' b1' hrn' hbw' hbR'
              go_wp2_with fail
              exact ⟨⟨k + 1, by go_num, by omega, HG7, HOJ⟩, by simp [intOf]; omega⟩
        · have hke : n = k := by omega
          subst hke
          have hfull : S.take n = S := List.take_of_length_le (by rw [← HN.out]; exact Nat.le_refl _)
          have hlR : w.heap.size < w1.heap.size := by have := HS1.out; omega
          have r0 : wr.cell? ⟨w.heap.size, 0, none⟩ = some (.slice none 0 0) := (hbR.cell (p := ⟨w.heap.size, 0, none⟩) (Nat.lt_succ_self _)).trans HR0.out.1
          have r1 : wr.cell? ⟨w.heap.size, 1, none⟩ = some (.slice none 0 0) := (hbR.cell (p := ⟨w.heap.size, 1, none⟩) (Nat.lt_succ_self _)).trans HR0.out.2
          have f0 : ∀ j, wr.frozen? ⟨w.heap.size, j, none⟩ = false := fun j => (hbR.frozen (p := ⟨w.heap.size, j, none⟩) (Nat.lt_succ_self _)).trans (by rw [HW1.out, World.frozen?_alloc_mark]; simp)
          have f00 := f0 0
          have f01 := f0 1
          have HRN := Lib.hid hrn
          have HBWR := Lib.hid hbw
          clear hrn hbw hbR f0 hlR
          go_wp2_with fail
          refine bodyPost_ret (v := .agg #[.slice a2 m c2, .slice (some ⟨w3.heap.size, 0, none⟩) m m]) (by simp [results, Tryz.results79, go_sem, r0, r1]) rfl ⟨_, _, rfl, ?_, ?_⟩
          · have hof : Off (fun i => i = w.heap.size) wr ((wr.setCell ⟨w.heap.size, 0, none⟩ (.slice a2 m c2)).setCell ⟨w.heap.size, 1, none⟩ (.slice (some ⟨w3.heap.size, 0, none⟩) m m)) := ((Off.refl (fun i => i = w.heap.size) wr).setCell (p := ⟨w.heap.size, 0, none⟩) (.inr rfl) _).setCell (p := ⟨w.heap.size, 1, none⟩) (.inr rfl) _
            have hg := HGK.out
            rw [hfull] at hg
            refine ⟨(HRN.out.setOther (fun g hg e => by have := HOWN.out g hg; have : g = w.heap.size := e; omega) _).setOther (fun g hg e => by have := HOWN.out g hg; have : g = w.heap.size := e; omega) _, ⟨w3.heap.size, w3.heap.size + 2, m, by rw [← HM2.out], by rw [← HM2.out]; exact Nat.le_refl _, by omega, hg.off hof (by omega) (fun i hi _ e => by omega)⟩, by rw [gridB_len, nsOf_len]⟩
          · exact (HBWR.out.setCell (p := ⟨w.heap.size, 0, none⟩) (Nat.le_refl _) _).setCell (p := ⟨w.heap.size, 1, none⟩) (Nat.le_refl _) _
end Go.Proofs.YtojnagonhihknaaGreatDoor
