/- The document's Heads and Past. -/
import Derived.Deep.RegionLaw
import Derived.Deep.RegionHeld3
import Derived.Test.YteaencgbgfnokaaDoorM43
import Derived.Test.YteaencgbgfnokaaDoorM45
set_option linter.unusedVariables false
set_option linter.unusedSimpArgs false
namespace Go.Proofs.YteaencgbgfnokaaDoor
open Go.ChangeShapes Go.WideShapes Go.ChangeAt Go.RowKit

structure HeadsQ (S : SetB) (l : Lb) (k : Nat) : Prop where
  asc : AscB l
  mem : ∀ x, x ∈ l ↔ x ∈ nmL (S.take k) ∧ headB S x = true
theorem headsq_begin (S : SetB) : HeadsQ S [] 0 := ⟨ascB_nil, fun x => by simp⟩
theorem headsq_add {S : SetB} {l : Lb} {k : Nat} {p : ByteArray × Lb} (h : HeadsQ S l k) (hp : S[k]? = some p) (hh : headB S p.1 = true) : HeadsQ S (addB l p.1) (k + 1) :=
  ⟨addB_asc _ h.asc, fun x => by
    rw [addB_mem, h.mem, nm_take hp, List.mem_append, List.mem_singleton]
    constructor
    · rintro (rfl | ⟨h1, h2⟩)
      · exact ⟨.inr rfl, hh⟩
      · exact ⟨.inl h1, h2⟩
    · rintro ⟨h1 | rfl, h2⟩
      · exact .inr ⟨h1, h2⟩
      · exact .inl rfl⟩
theorem headsq_skip {S : SetB} {l : Lb} {k : Nat} {p : ByteArray × Lb} (h : HeadsQ S l k) (hp : S[k]? = some p) (hh : headB S p.1 = false) : HeadsQ S l (k + 1) :=
  ⟨h.asc, fun x => by
    rw [h.mem, nm_take hp, List.mem_append, List.mem_singleton]
    constructor
    · rintro ⟨h1, h2⟩
      exact ⟨.inl h1, h2⟩
    · rintro ⟨h1 | rfl, h2⟩
      · exact ⟨h1, h2⟩
      · rw [hh] at h2; cases h2⟩
theorem headsq_len {S : SetB} {l : Lb} {k : Nat} (h : HeadsQ S l k) : l.length ≤ S.length := by
  have := nodup_sub (ascB_nodup h.asc) (m := nmL S) (fun x hx => by
    obtain ⟨p, hp, e⟩ := List.mem_map.1 ((h.mem x).1 hx).1
    exact List.mem_map.2 ⟨p, List.mem_of_mem_take hp, e⟩)
  simpa using this
def neededB (S : SetB) (x : ByteArray) (j : Nat) : Bool := (S.take j).any fun q => inB q.2 x
theorem needed_step {S : SetB} {x : ByteArray} {j : Nat} {q : ByteArray × Lb} (h : S[j]? = some q) : neededB S x (j + 1) = (neededB S x j || inB q.2 x) := by
  unfold neededB
  rw [List.take_add_one, h, List.any_append]
  simp
theorem needed_head {S : SetB} {x : ByteArray} {j : Nat} (h : S.length ≤ j) : headB S x = !neededB S x j := by
  unfold headB neededB
  rw [List.take_of_length_le h]

set_option maxHeartbeats 2000000 in
set_option maxRecDepth 100000 in
theorem rheads_any (S : SetB) (v : Value) (w : World) (hS : SReads w v S) (hn9 : S.length ≤ 1000000) :
    Calls Tryd.prog 16 #[v] w fun e w' => ∃ ov l, e = .returned ov ∧ HeadsQ S l S.length ∧ Reads w' ov l ∧ Below w.heap.size w w' := by
  obtain ⟨sa, sc, rfl, _⟩ := hS.form
  obtain ⟨n, hn⟩ : ∃ n, n = S.length := ⟨_, rfl⟩
  rw [← hn] at hS hn9 ⊢
  have HN := Lib.hid hn
  have HS := Lib.hid hS
  have HLL := Lib.hid (fun (l : Lb) (k : Nat) (h : HeadsQ S l k) => headsq_len h)
  rw [← hn] at HLL
  clear hn hS
  go_enter Tryd.func16, Tryd.ntmps16
  go_wp2_with fail
  go_loopw [3, 4] (fun ov jv wr => ∃ (i : Nat) (l : Lb), jv = .int .i64 (i : Nat) ∧ i ≤ n ∧ Hid (HeadsQ S l i) ∧ Hid (Reads wr ov l) ∧ Hid (Below w.heap.size w wr)) (fun _ jv _ => n - (intOf jv).toNat)
  case atStart => exact ⟨0, [], rfl, Nat.zero_le _, Lib.hid (headsq_begin S), Lib.hid (.inl ⟨rfl, _, _, rfl⟩), Lib.hid (Below.refl _ _)⟩
  case round =>
    obtain ⟨i, l, rfl, hi, HH, HO, HB⟩ := hrel
    by_cases hlt : i < n
    · obtain ⟨p, hp⟩ : ∃ p, S[i]? = some p := ⟨S[i]'(by rw [← HN.out]; exact hlt), by simp⟩
      have HP := Lib.hid hp
      have HCI := Lib.hid (fun W (hW : Below w.heap.size w W) => HS.out.cells hp hW)
      obtain ⟨x, xs⟩ := p
      obtain ⟨w1, hw1⟩ : ∃ w1, w1 = wr := ⟨_, rfl⟩
      rw [← hw1] at HO HB ⊢
      clear hp hw1
      obtain ⟨oa, oc, rfl, _⟩ := HO.out.form
      go_wp2_with fail
      go_loopw [5, 6] (fun fv jv wr => ∃ (j : Nat) (f : Bool), fv = .bool f ∧ jv = .int .i64 (j : Nat) ∧ j ≤ n ∧ Hid (f = neededB S x j) ∧ Hid (Below w1.heap.size w1 wr)) (fun _ jv _ => n - (intOf jv).toNat)
      case atStart => exact ⟨0, false, rfl, rfl, Nat.zero_le _, Lib.hid (by simp [neededB]), Lib.hid (Below.refl _ _)⟩
      case round =>
        obtain ⟨j, f, rfl, rfl, hj, HF, HBJ⟩ := hrel
        have hbw := HB.out.trans (HBJ.out.mono HB.out.size)
        have HBW := Lib.hid hbw
        by_cases hlj : j < n
        · obtain ⟨q, hq⟩ : ∃ q, S[j]? = some q := ⟨S[j]'(by rw [← HN.out]; exact hlj), by simp⟩
          have HST := Lib.hid (needed_step (x := x) hq)
          have HCJ := Lib.hid (fun W (hW : Below w.heap.size w W) => HS.out.cells hq hW)
          obtain ⟨sb, so, nt, da, dc, oa', ol, oc', rfl, hsl, c0, c1, c2, c3, _⟩ := HCI.out wr hbw
          obtain ⟨sb', so', nt', da', dc', oa'', ol', oc'', hsa, _, k0, k1, k2, k3, hdr⟩ := HCJ.out wr hbw
          simp only [Option.some.injEq, Addr.mk.injEq, and_true] at hsa
          obtain ⟨rfl, rfl⟩ := hsa
          obtain ⟨y, ds⟩ := q
          simp only at c0 k2 hdr HST
          obtain ⟨dl, hdl⟩ : ∃ dl, dl = ds.length := ⟨_, rfl⟩
          rw [← hdl] at k2 hdr
          have HIN := Lib.hid (fun W (hb : Below wr.heap.size wr W) => rin_any ds (.slice da' dl dc') x W (hdr.below hb))
          have HKP : Hid (∀ W, Below wr.heap.size wr W → W.cell? ⟨sb, so + i * 4, none⟩ = some (.string x) ∧ W.cell? ⟨sb, so + j * 4 + 2, none⟩ = some (.slice da' dl dc')) := Lib.hid (fun W hb => ⟨(hb.cell (p := ⟨sb, so + i * 4, none⟩) hsl).trans c0, (hb.cell (p := ⟨sb, so + j * 4 + 2, none⟩) hsl).trans k2⟩)
          clear hdl hdr hq hbw
          cases f
          · have HF2 : Hid (inB ds x = neededB S x (j + 1)) := Lib.hid (by rw [HST.out, ← HF.out]; rfl)
            go_wp2_with fail
            refine wp_region_held_drew (S := (fun W => W.cell? ⟨sb, so + i * 4, none⟩ = some (.string x) ∧ W.cell? ⟨sb, so + j * 4 + 2, none⟩ = some (.slice da' dl dc'))) (by kernel_rfl) ?_ (fun hHeld => ?_)
            · exact HKP.out _ (Below.refl wr.heap.size wr).drew
            refine wpAnyH_take (i := 0) (oi := { dst := some 19, op := Op.move (Operand.tmp 5), type := 4, pos := "ref.go:101", after := #[], guard := none }) (v := ?_) rfl (by kernel_rfl) (by kernel_rfl) (by kernel_rfl) (fun _ _ _ h => h) (Or.inl ⟨by kernel_rfl, ?_⟩) (by assumption) ?_
            rotate_left
            · (intro w hSw; (try dsimp only at hSw); go_simp; try with_reducible rfl)
            try simp only [Act.put, List.setIfInBounds_toArray, List.set_cons_zero, List.set_cons_succ]
            refine wpAnyH_take (i := 1) (oi := { dst := some 20, op := Op.move (Operand.tmp 19), type := 4, pos := "ref.go:101", after := #[{ on := 0, ground := Ground.data }], guard := none }) (v := .bool false) rfl (by kernel_rfl) (by kernel_rfl) (by kernel_rfl) (fun _ _ _ h => h) (Or.inl ⟨by kernel_rfl, ?_⟩) (by assumption) ?_
            · (intro w hSw; (try dsimp only at hSw); go_simp; try with_reducible rfl)
            try simp only [Act.put, List.setIfInBounds_toArray, List.set_cons_zero, List.set_cons_succ]
            refine wpAnyH_take (i := 2) (oi := { dst := some 21, op := Op.move (Operand.tmp 0), type := 22, pos := "ref.go:101", after := #[{ on := 1, ground := Ground.guard }], guard := some (1, false) }) (v := ?_) rfl (by kernel_rfl) (by kernel_rfl) (by kernel_rfl) (fun _ _ _ h => h) (Or.inl ⟨by kernel_rfl, ?_⟩) (by assumption) ?_
            rotate_left
            · (intro w hSw; (try dsimp only at hSw); go_simp; try with_reducible rfl)
            try simp only [Act.put, List.setIfInBounds_toArray, List.set_cons_zero, List.set_cons_succ]
            refine wpAnyH_take (i := 3) (oi := { dst := some 22, op := Op.move (Operand.tmp 6), type := 3, pos := "ref.go:101", after := #[{ on := 1, ground := Ground.guard }], guard := some (1, false) }) (v := ?_) rfl (by kernel_rfl) (by kernel_rfl) (by kernel_rfl) (fun _ _ _ h => h) (Or.inl ⟨by kernel_rfl, ?_⟩) (by assumption) ?_
            rotate_left
            · (intro w hSw; (try dsimp only at hSw); go_simp; try with_reducible rfl)
            try simp only [Act.put, List.setIfInBounds_toArray, List.set_cons_zero, List.set_cons_succ]
            refine wpAnyH_take (i := 4) (oi := { dst := some 23, op := Op.indexAddr 22 (Operand.tmp 21) (Operand.tmp 22), type := 0, pos := "ref.go:101", after := #[{ on := 2, ground := Ground.data }, { on := 3, ground := Ground.data }, { on := 1, ground := Ground.guard }], guard := some (1, false) }) (v := ?_) rfl (by kernel_rfl) (by kernel_rfl) (by kernel_rfl) (fun _ _ _ h => h) (Or.inl ⟨by kernel_rfl, ?_⟩) (by assumption) ?_
            rotate_left
            · (intro w hSw; (try dsimp only at hSw); go_simp; try with_reducible rfl)
            try simp only [Act.put, List.setIfInBounds_toArray, List.set_cons_zero, List.set_cons_succ]
            refine wpAnyH_take (i := 5) (oi := { dst := some 24, op := Op.fieldAddr 44 (Operand.tmp 23) 1, type := 0, pos := "ref.go:101", after := #[{ on := 4, ground := Ground.data }, { on := 1, ground := Ground.guard }], guard := some (1, false) }) (v := ?_) rfl (by kernel_rfl) (by kernel_rfl) (by kernel_rfl) (fun _ _ _ h => h) (Or.inl ⟨by kernel_rfl, ?_⟩) (by assumption) ?_
            rotate_left
            · (intro w hSw; (try dsimp only at hSw); go_simp; try with_reducible rfl)
            try simp only [Act.put, List.setIfInBounds_toArray, List.set_cons_zero, List.set_cons_succ]
            refine wpAnyH_take (i := 6) (oi := { dst := some 25, op := Op.fieldAddr 42 (Operand.tmp 24) 1, type := 0, pos := "ref.go:101", after := #[{ on := 5, ground := Ground.data }, { on := 1, ground := Ground.guard }], guard := some (1, false) }) (v := ?_) rfl (by kernel_rfl) (by kernel_rfl) (by kernel_rfl) (fun _ _ _ h => h) (Or.inl ⟨by kernel_rfl, ?_⟩) (by assumption) ?_
            rotate_left
            · (intro w hSw; (try dsimp only at hSw); go_simp; try with_reducible rfl)
            try simp only [Act.put, List.setIfInBounds_toArray, List.set_cons_zero, List.set_cons_succ]
            refine wpAnyH_take (i := 7) (oi := { dst := some 26, op := Op.load 23 (Operand.tmp 25), type := 23, pos := "ref.go:101", after := #[{ on := 6, ground := Ground.data }, { on := 1, ground := Ground.guard }], guard := some (1, false) }) (v := ?_) rfl (by kernel_rfl) (by kernel_rfl) (by kernel_rfl) (fun _ _ _ h => h) (Or.inl ⟨by kernel_rfl, ?_⟩) (by assumption) ?_
            rotate_left
            · (intro w hSw; (try dsimp only at hSw); go_simp; try with_reducible rfl)
            try simp only [Act.put, List.setIfInBounds_toArray, List.set_cons_zero, List.set_cons_succ]
            refine wpAnyH_take (i := 8) (oi := { dst := some 27, op := Op.move (Operand.tmp 0), type := 22, pos := "ref.go:101", after := #[{ on := 1, ground := Ground.guard }], guard := some (1, false) }) (v := ?_) rfl (by kernel_rfl) (by kernel_rfl) (by kernel_rfl) (fun _ _ _ h => h) (Or.inl ⟨by kernel_rfl, ?_⟩) (by assumption) ?_
            rotate_left
            · (intro w hSw; (try dsimp only at hSw); go_simp; try with_reducible rfl)
            try simp only [Act.put, List.setIfInBounds_toArray, List.set_cons_zero, List.set_cons_succ]
            refine wpAnyH_take (i := 9) (oi := { dst := some 28, op := Op.move (Operand.tmp 4), type := 3, pos := "ref.go:101", after := #[{ on := 1, ground := Ground.guard }], guard := some (1, false) }) (v := ?_) rfl (by kernel_rfl) (by kernel_rfl) (by kernel_rfl) (fun _ _ _ h => h) (Or.inl ⟨by kernel_rfl, ?_⟩) (by assumption) ?_
            rotate_left
            · (intro w hSw; (try dsimp only at hSw); go_simp; try with_reducible rfl)
            try simp only [Act.put, List.setIfInBounds_toArray, List.set_cons_zero, List.set_cons_succ]
            refine wpAnyH_take (i := 10) (oi := { dst := some 29, op := Op.indexAddr 22 (Operand.tmp 27) (Operand.tmp 28), type := 0, pos := "ref.go:101", after := #[{ on := 8, ground := Ground.data }, { on := 9, ground := Ground.data }, { on := 1, ground := Ground.guard }], guard := some (1, false) }) (v := ?_) rfl (by kernel_rfl) (by kernel_rfl) (by kernel_rfl) (fun _ _ _ h => h) (Or.inl ⟨by kernel_rfl, ?_⟩) (by assumption) ?_
            rotate_left
            · (intro w hSw; (try dsimp only at hSw); go_simp; try with_reducible rfl)
            try simp only [Act.put, List.setIfInBounds_toArray, List.set_cons_zero, List.set_cons_succ]
            refine wpAnyH_take (i := 11) (oi := { dst := some 30, op := Op.fieldAddr 44 (Operand.tmp 29) 0, type := 0, pos := "ref.go:101", after := #[{ on := 10, ground := Ground.data }, { on := 1, ground := Ground.guard }], guard := some (1, false) }) (v := ?_) rfl (by kernel_rfl) (by kernel_rfl) (by kernel_rfl) (fun _ _ _ h => h) (Or.inl ⟨by kernel_rfl, ?_⟩) (by assumption) ?_
            rotate_left
            · (intro w hSw; (try dsimp only at hSw); go_simp; try with_reducible rfl)
            try simp only [Act.put, List.setIfInBounds_toArray, List.set_cons_zero, List.set_cons_succ]
            refine wpAnyH_take (i := 12) (oi := { dst := some 31, op := Op.load 9 (Operand.tmp 30), type := 9, pos := "ref.go:101", after := #[{ on := 11, ground := Ground.data }, { on := 1, ground := Ground.guard }], guard := some (1, false) }) (v := ?_) rfl (by kernel_rfl) (by kernel_rfl) (by kernel_rfl) (fun _ _ _ h => h) (Or.inl ⟨by kernel_rfl, ?_⟩) (by assumption) ?_
            rotate_left
            · (intro w hSw; (try dsimp only at hSw); go_simp; try with_reducible rfl)
            try simp only [Act.put, List.setIfInBounds_toArray, List.set_cons_zero, List.set_cons_succ]
            refine wpAnyH_ready (rs := [13]) (by kernel_rfl) (by simp) ?_
            refine AllReadyH.cons (o := { dst := some 32, op := Op.call { callee := Callee.value (Operand.func 20), args := #[Operand.tmp 26, Operand.tmp 31], argTypes := #[23, 9] }, type := 4, pos := "ref.go:101", after := #[{ on := 7, ground := Ground.data }, { on := 12, ground := Ground.data }, { on := 1, ground := Ground.chain }, { on := 1, ground := Ground.guard }], guard := some (1, false) }) rfl (fun KK hK => ?_) AllReadyH.nil
            go_simp
            refine (HIN.out _ (Below.refl wr.heap.size wr).drew).mono ?_
            rintro e w3 ⟨rfl, hb3⟩
            have HB3 := Lib.hid ((Below.refl wr.heap.size wr).drew.trans (hb3.mono (Below.refl wr.heap.size wr).drew.size))
            clear hb3
            refine hK.out _ _ ?_ (fun hHeld => ?_)
            · exact HKP.out _ HB3.out
            clear hK KK
            try simp only [Act.put, List.setIfInBounds_toArray, List.set_cons_zero, List.set_cons_succ]
            refine wpAnyH_take (i := 14) (oi := { dst := some 33, op := Op.pick (Operand.tmp 20) (Operand.const (Value.bool true)) (Operand.tmp 32), type := 4, pos := "ref.go:101", after := #[{ on := 1, ground := Ground.data }, { on := 13, ground := Ground.data }], guard := none }) (v := ?_) rfl (by kernel_rfl) (by kernel_rfl) (by kernel_rfl) (fun _ _ _ h => h) (Or.inl ⟨by kernel_rfl, ?_⟩) (by assumption) ?_
            rotate_left
            · (intro w hSw; (try dsimp only at hSw); go_simp; try with_reducible rfl)
            try simp only [Act.put, List.setIfInBounds_toArray, List.set_cons_zero, List.set_cons_succ]
            refine wpAnyH_take (i := 15) (oi := { dst := some 5, op := Op.assign (Operand.tmp 33), type := 4, pos := "ref.go:101", after := #[{ on := 14, ground := Ground.data }, { on := 13, ground := Ground.chain }, { on := 0, ground := Ground.phase }, { on := 1, ground := Ground.phase }, { on := 2, ground := Ground.phase }, { on := 3, ground := Ground.phase }, { on := 4, ground := Ground.phase }, { on := 5, ground := Ground.phase }, { on := 6, ground := Ground.phase }, { on := 7, ground := Ground.phase }, { on := 8, ground := Ground.phase }, { on := 9, ground := Ground.phase }, { on := 10, ground := Ground.phase }, { on := 11, ground := Ground.phase }, { on := 12, ground := Ground.phase }, { on := 13, ground := Ground.phase }, { on := 14, ground := Ground.phase }], guard := none }) (v := ?_) rfl (by kernel_rfl) (by kernel_rfl) (by kernel_rfl) (fun _ _ _ h => h) (Or.inl ⟨by kernel_rfl, ?_⟩) (by assumption) ?_
            rotate_left
            · (intro w hSw; (try dsimp only at hSw); go_simp; try with_reducible rfl)
            try simp only [Act.put, List.setIfInBounds_toArray, List.set_cons_zero, List.set_cons_succ]
            refine wpAnyH_done (by kernel_rfl) ?_ _
            unfold Exit.inBlock Exit.then
            dsimp only
            go_wp2_with fail
            exact ⟨⟨j + 1, inB ds x, rfl, by go_num, by omega, HF2, Lib.hid (HBJ.out.trans (HB3.out.mono HBJ.out.size))⟩, by simp [intOf]; omega⟩
          · have HF2 : Hid (true = neededB S x (j + 1)) := Lib.hid (by rw [HST.out, ← HF.out]; rfl)
            go_wp2_with fail
            go_quiet (fail)
            go_wp2_with fail
            exact ⟨⟨j + 1, true, rfl, by go_num, by omega, HF2, Lib.hid (Below.drewN HBJ.out)⟩, by simp [intOf]; omega⟩
        · have hnj : n = j := by omega
          have HHD : Hid (headB S x = !f) := Lib.hid (by rw [HF.out]; exact needed_head (by rw [← HN.out]; omega))
          have HO2 := Lib.hid (HO.out.below HBJ.out)
          subst hnj
          cases f
          · have HH2 := Lib.hid (headsq_add HH.out HP.out HHD.out)
            have hll : l.length ≤ 1000000 := by have := HLL.out l i HH.out; omega
            have HAD := Lib.hid (radd_any l _ x wr HO2.out hll)
            obtain ⟨sb, so, nt, da, dc, oa', ol, oc', rfl, hsl, c0, c1, c2, c3, _⟩ := HCI.out wr hbw
            clear hbw hll
            go_wp2_with fail
            refine HAD.out.mono ?_
            rintro e w3 ⟨⟨v', rfl, hr3, _⟩, hb3⟩
            have HR3 := Lib.hid hr3
            have HB3 := Lib.hid (HBW.out.trans (hb3.mono HBW.out.size))
            clear hr3 hb3
            go_wp2_with fail
            exact ⟨⟨i + 1, _, by go_num, by omega, HH2, HR3, HB3⟩, by simp [intOf]; omega⟩
          · have HH2 := Lib.hid (headsq_skip HH.out HP.out HHD.out)
            clear hbw
            go_wp2_with fail
            exact ⟨⟨i + 1, l, by go_num, by omega, HH2, HO2, HBW⟩, by simp [intOf]; omega⟩
    · have hni : n = i := by omega
      subst hni
      obtain ⟨oa, oc, rfl, _⟩ := HO.out.form
      go_wp2_with fail
      go_ret
      exact ⟨_, l, rfl, HH.out, HO.out, HB.out⟩

set_option maxHeartbeats 4000000 in
set_option maxRecDepth 100000 in
theorem rpast_any (S : SetB) (v : Value) (nm : ByteArray) (w : World) (hS : SReads w v S) (hn9 : S.length ≤ 1000) (hD : ∀ p ∈ S, p.2.length ≤ 1000000) :
    Calls Tryd.prog 14 #[v, .string nm] w fun e w' => ∃ ov l, e = .returned ov ∧ PastQ S nm l ∧ CovQ S nm l [] S.length ∧ Reads w' ov l ∧ Below w.heap.size w w' := by
  obtain ⟨sa, sc, rfl, _⟩ := hS.form
  obtain ⟨n, hn⟩ : ∃ n, n = S.length := ⟨_, rfl⟩
  have HNM := Lib.hid (fun (W : World) (h : Below w.heap.size w W) => rnames_any S (.slice sa S.length sc) W (hS.below h) (by omega))
  have HPL := Lib.hid (fun (l : Lb) (h : PastQ S nm l) => pastq_len h)
  have HML := Lib.hid (fun (l m : Lb) (h : MoreQ S nm l m) => moreq_len h)
  rw [← hn] at hS hn9 HNM HPL HML ⊢
  have HN := Lib.hid hn
  have HS := Lib.hid hS
  have HD := Lib.hid hD
  clear hn hS hD
  go_enter Tryd.func14, Tryd.ntmps14
  go_wp2_with fail
  go_loopw [5] (fun lv wr => ∃ (l : Lb), Hid (PastQ S nm l) ∧ Hid (Reads wr lv l) ∧ Hid (Below w.heap.size w wr)) (fun lv _ => n - (match lv with | .slice _ k _ => k | _ => 0))
  case atStart => exact ⟨[], Lib.hid (pastq_begin S nm), Lib.hid (.inl ⟨rfl, _, _, rfl⟩), Lib.hid (Below.refl _ _)⟩
  case round =>
    obtain ⟨l, HP, HL, HB⟩ := hrel
    obtain ⟨la, lc, rfl, _⟩ := HL.out.form
    obtain ⟨L, hL⟩ : ∃ L, L = l.length := ⟨_, rfl⟩
    have hLn : L ≤ n := by rw [hL]; exact HPL.out l HP.out
    rw [← hL] at HL ⊢
    have HLE := Lib.hid hL
    obtain ⟨w1, hw1⟩ : ∃ w1, w1 = wr := ⟨_, rfl⟩
    rw [← hw1] at HL HB ⊢
    clear hL hw1
    go_wp2_with fail
    go_loopw [6, 7] (fun mv iv wr => ∃ (i : Nat) (more : Lb), iv = .int .i64 (i : Nat) ∧ i ≤ n ∧ Hid (MoreQ S nm l more) ∧ Hid (CovQ S nm l more i) ∧ Hid (Reads wr mv more) ∧ Hid (Below w1.heap.size w1 wr)) (fun _ iv _ => n - (intOf iv).toNat)
    case atStart => exact ⟨0, [], rfl, Nat.zero_le _, Lib.hid (moreq_begin S nm l), Lib.hid (cov_begin S nm l []), Lib.hid (.inl ⟨rfl, _, _, rfl⟩), Lib.hid (Below.refl _ _)⟩
    case round =>
      obtain ⟨i, more, rfl, hi, HM, HC, HMR, HBI⟩ := hrel
      obtain ⟨ma, mc, rfl, _⟩ := HMR.out.form
      by_cases hlt : i < n
      · obtain ⟨p, hp⟩ : ∃ p, S[i]? = some p := ⟨S[i]'(by rw [← HN.out]; exact hlt), by simp⟩
        have HPI := Lib.hid hp
        have hdl9 : p.2.length ≤ 1000000 := HD.out p (List.mem_of_getElem? hp)
        have hbw := HB.out.trans (HBI.out.mono HB.out.size)
        obtain ⟨sb, so, nt, da, dc, oa, ol, oc, rfl, hsl, c0, c1, c2, c3, hdr⟩ := HS.out.cells hp hbw
        have HSK := Lib.hid (fun h => cov_step HC.out hp h)
        obtain ⟨x, ds⟩ := p
        simp only at c0 c1 c2 c3 hdr hdl9 HPI HSK
        obtain ⟨dl, hdl2⟩ : ∃ dl, dl = ds.length := ⟨_, rfl⟩
        rw [← hdl2] at c2 hdr hdl9
        obtain ⟨z, hz⟩ : ∃ z, z = wr.heap.size := ⟨_, rfl⟩
        obtain ⟨wz, hwz⟩ : ∃ wz, wz = wr.alloc (.cells #[.string x, .string nt, .slice da dl dc, .slice oa ol oc] 44) := ⟨_, rfl⟩
        have hbz : Below wr.heap.size wr wz := by rw [hwz]; exact (Below.refl _ _).alloc (Nat.le_refl _) _
        have HZ : Hid (∀ W, Below wz.heap.size wz W → W.cell? ⟨z, 0, none⟩ = some (.string x) ∧ W.cell? ⟨z, 1, none⟩ = some (.string nt) ∧ W.cell? ⟨z, 2, none⟩ = some (.slice da dl dc) ∧ W.cell? ⟨z, 3, none⟩ = some (.slice oa ol oc)) := Lib.hid (by rw [hz, hwz]; exact box_named)
        have HBZ := Lib.hid (hbw.trans (hbz.mono hbw.size))
        have HZI := Lib.hid (HBI.out.trans (hbz.mono HBI.out.size))
        have HWZB := Lib.hid hbz
        have HB1Z := Lib.hid (HBI.out.trans (hbz.mono HBI.out.size))
        have HDR := Lib.hid (fun W (hb : Below wz.heap.size wz W) => (hdr.below hbz).below hb)
        have HWZ := Lib.hid hwz
        have HDL := Lib.hid hdl2
        obtain ⟨z0, z1, z2, z3⟩ := HZ.out wz (Below.refl _ _)
        clear hp hdr hdl2 hbz hwz hbw
        by_cases hxn : x = nm
        · have HOWN : Hid (x = nm ∨ x ∈ l) := Lib.hid (.inl hxn)
          have hxb : (x.toList == nm.toList) = true := by rw [hxn]; exact beq_self_eq_true _
          clear hxn
          go_wp2_with fail
          rw [← hz, ← HWZ.out]
          clear hz
          go_wp2_with fail
          go_loopw [6, 9] (fun mv kv wr => ∃ (k : Nat) (more : Lb), kv = .int .i64 (k : Nat) ∧ k ≤ dl ∧ Hid (MoreQ S nm l more) ∧ Hid (CovQ S nm l more i) ∧ Hid (∀ d ∈ ds.take k, d ∈ nmL S → d ∈ l ∨ d ∈ more) ∧ Hid (Reads wr mv more) ∧ Hid (Below wz.heap.size wz wr)) (fun _ kv _ => dl - (intOf kv).toNat)
          case atStart => exact ⟨0, more, rfl, Nat.zero_le _, HM, HC, Lib.hid (fun d hd => by simp at hd), Lib.hid (HMR.out.below ((HWZB.out))), Lib.hid (Below.refl _ _)⟩
          case round =>
            clear HM HC HMR
            obtain ⟨k, more, rfl, hk, HM, HC, HK, HMR, HBK⟩ := hrel
            obtain ⟨ma, mc, rfl, _⟩ := HMR.out.form
            obtain ⟨y0, y1, y2, y3⟩ := HZ.out wr HBK.out
            have HBW := Lib.hid (HBZ.out.trans (HBK.out.mono HBZ.out.size))
            have hml : more.length ≤ 1000 := by have := HML.out l more HM.out; omega
            have HMLN := Lib.hid hml
            clear hml
            by_cases hlk : k < dl
            · obtain ⟨d, hd⟩ : ∃ d, ds[k]? = some d := ⟨ds[k]'(by rw [← HDL.out]; exact hlk), by simp⟩
              have HDM := Lib.hid (List.mem_of_getElem? hd)
              have HTM := Lib.hid (fun (e : ByteArray) => take_mem (q := e) hd)
              obtain ⟨vb, vo, hdv, hql, hcd⟩ := (HDR.out wr HBK.out).at hd
              have cd := hcd.2 k d hd
              clear hql
              have HN1 := Lib.hid (HNM.out wr HBW.out)
              subst hdv
              clear hcd hd
              go_wp2_with fail
              refine HN1.out.mono ?_
              rintro e w4 ⟨nv, rfl, hrn, hb4⟩
              have HB4 := Lib.hid (HBW.out.trans (hb4.mono HBW.out.size))
              have HK4 := Lib.hid (HBK.out.trans (hb4.mono HBK.out.size))
              have HMR4 := Lib.hid (HMR.out.below hb4)
              have HI4 := Lib.hid (rin_any (nmL S) nv d w4 (row_reads hrn))
              clear hrn hb4 HN1 HMR
              go_wp2_with fail
              refine HI4.out.mono ?_
              rintro e w5 ⟨rfl, hb5⟩
              have HB5 := Lib.hid (HB4.out.trans (hb5.mono HB4.out.size))
              have HK5 := Lib.hid (HK4.out.trans (hb5.mono HK4.out.size))
              have HMR5 := Lib.hid (HMR4.out.below hb5)
              have HL5 := Lib.hid (rin_any l (.slice la L lc) d w5 (HL.out.below (HB1Z.out.trans (HK5.out.mono HB1Z.out.size))))
              clear hb5 HI4 HMR4
              by_cases hdn : d ∈ nmL S
              · rw [inB_true hdn]
                have HDN := Lib.hid hdn
                clear hdn
                go_wp2_with fail
                refine HL5.out.mono ?_
                rintro e w6 ⟨rfl, hb6⟩
                have HB6 := Lib.hid (HB5.out.trans (hb6.mono HB5.out.size))
                have HK6 := Lib.hid (HK5.out.trans (hb6.mono HK5.out.size))
                have HMR6 := Lib.hid (HMR5.out.below hb6)
                clear hb6 HL5 HMR5
                by_cases hdl : d ∈ l
                · rw [inB_true hdl]
                  have HK9 : Hid (∀ e ∈ ds.take (k + 1), e ∈ nmL S → e ∈ l ∨ e ∈ more) := Lib.hid (fun e he hn => by
                    rcases (HTM.out e).1 he with h | rfl
                    · exact HK.out e h hn
                    · exact .inl hdl)
                  clear hdl
                  go_wp2_with fail
                  exact ⟨⟨k + 1, more, by go_num, by omega, HM, HC, HK9, HMR6, HK6⟩, by simp [intOf]; omega⟩
                · rw [inB_false hdl]
                  have HA := Lib.hid (radd_any more (.slice ma more.length mc) d w6 HMR6.out (by have := HMLN.out; omega))
                  have HM9 := Lib.hid (moreq_add HM.out HDN.out hdl (pastk_of HP.out (List.mem_of_getElem? HPI.out) HOWN.out HDM.out HDN.out))
                  have HC9 := Lib.hid (cov_more (more' := addB more d) HC.out (fun e he => (addB_mem more d e).2 (.inr he)))
                  have HK9 : Hid (∀ e ∈ ds.take (k + 1), e ∈ nmL S → e ∈ l ∨ e ∈ addB more d) := Lib.hid (fun e he hn => by
                    rcases (HTM.out e).1 he with h | rfl
                    · exact (HK.out e h hn).imp id (fun h => (addB_mem more d e).2 (.inr h))
                    · exact .inr ((addB_mem more e e).2 (.inl rfl)))
                  clear hdl
                  go_wp2_with fail
                  refine HA.out.mono ?_
                  rintro e w7 ⟨⟨v', rfl, hr7, _⟩, hb7⟩
                  have HK7 := Lib.hid (HK6.out.trans (hb7.mono HK6.out.size))
                  have HR7 := Lib.hid hr7
                  clear hr7 hb7
                  go_wp2_with fail
                  exact ⟨⟨k + 1, _, by go_num, by omega, HM9, HC9, HK9, HR7, HK7⟩, by simp [intOf]; omega⟩
              · rw [inB_false hdn]
                have HK9 : Hid (∀ e ∈ ds.take (k + 1), e ∈ nmL S → e ∈ l ∨ e ∈ more) := Lib.hid (fun e he hn => by
                  rcases (HTM.out e).1 he with h | rfl
                  · exact HK.out e h hn
                  · exact absurd hn hdn)
                clear hdn
                go_wp2_with fail
                exact ⟨⟨k + 1, more, by go_num, by omega, HM, HC, HK9, HMR5, HK5⟩, by simp [intOf]; omega⟩
            · have hkd : dl = k := by omega
              have HC9 := Lib.hid (cov_step HC.out HPI.out (fun _ d hd hn => HK.out d (by rw [List.take_of_length_le (by rw [← HDL.out]; omega)]; exact hd) hn))
              have HBI9 := Lib.hid (HZI.out.trans (HBK.out.mono HZI.out.size))
              go_wp2_with fail
              exact ⟨⟨i + 1, more, by go_num, by omega, HM, HC9, HMR, HBI9⟩, by simp [intOf]; omega⟩
        · have hxb : (x.toList == nm.toList) = false := by
            rw [beq_eq_false_iff_ne]
            intro e
            rw [ByteArray.toList_eq, ByteArray.toList_eq] at e
            exact hxn (bsOf_inj e)
          have HI3 := Lib.hid (rin_any l (.slice la L lc) x wz (HL.out.below HB1Z.out))
          go_wp2_with fail
          rw [← hz, ← HWZ.out]
          clear hz
          go_wp2_with fail
          refine HI3.out.mono ?_
          rintro e w3 ⟨rfl, hb3⟩
          have HB3 := Lib.hid hb3
          clear hb3 HI3 z0 z1 z2 z3
          by_cases hxl : x ∈ l
          · rw [inB_true hxl]
            have HOWN : Hid (x = nm ∨ x ∈ l) := Lib.hid (.inr hxl)
            clear hxl
            go_wp2_with fail
            go_loopw [6, 9] (fun mv kv wr => ∃ (k : Nat) (more : Lb), kv = .int .i64 (k : Nat) ∧ k ≤ dl ∧ Hid (MoreQ S nm l more) ∧ Hid (CovQ S nm l more i) ∧ Hid (∀ d ∈ ds.take k, d ∈ nmL S → d ∈ l ∨ d ∈ more) ∧ Hid (Reads wr mv more) ∧ Hid (Below wz.heap.size wz wr)) (fun _ kv _ => dl - (intOf kv).toNat)
            case atStart => exact ⟨0, more, rfl, Nat.zero_le _, HM, HC, Lib.hid (fun d hd => by simp at hd), Lib.hid (HMR.out.below ((HWZB.out.trans (HB3.out.mono HWZB.out.size)))), HB3⟩
            case round =>
              clear HM HC HMR
              obtain ⟨k, more, rfl, hk, HM, HC, HK, HMR, HBK⟩ := hrel
              obtain ⟨ma, mc, rfl, _⟩ := HMR.out.form
              obtain ⟨y0, y1, y2, y3⟩ := HZ.out wr HBK.out
              have HBW := Lib.hid (HBZ.out.trans (HBK.out.mono HBZ.out.size))
              have hml : more.length ≤ 1000 := by have := HML.out l more HM.out; omega
              have HMLN := Lib.hid hml
              clear hml
              by_cases hlk : k < dl
              · obtain ⟨d, hd⟩ : ∃ d, ds[k]? = some d := ⟨ds[k]'(by rw [← HDL.out]; exact hlk), by simp⟩
                have HDM := Lib.hid (List.mem_of_getElem? hd)
                have HTM := Lib.hid (fun (e : ByteArray) => take_mem (q := e) hd)
                obtain ⟨vb, vo, hdv, hql, hcd⟩ := (HDR.out wr HBK.out).at hd
                have cd := hcd.2 k d hd
                clear hql
                have HN1 := Lib.hid (HNM.out wr HBW.out)
                subst hdv
                clear hcd hd
                go_wp2_with fail
                refine HN1.out.mono ?_
                rintro e w4 ⟨nv, rfl, hrn, hb4⟩
                have HB4 := Lib.hid (HBW.out.trans (hb4.mono HBW.out.size))
                have HK4 := Lib.hid (HBK.out.trans (hb4.mono HBK.out.size))
                have HMR4 := Lib.hid (HMR.out.below hb4)
                have HI4 := Lib.hid (rin_any (nmL S) nv d w4 (row_reads hrn))
                clear hrn hb4 HN1 HMR
                go_wp2_with fail
                refine HI4.out.mono ?_
                rintro e w5 ⟨rfl, hb5⟩
                have HB5 := Lib.hid (HB4.out.trans (hb5.mono HB4.out.size))
                have HK5 := Lib.hid (HK4.out.trans (hb5.mono HK4.out.size))
                have HMR5 := Lib.hid (HMR4.out.below hb5)
                have HL5 := Lib.hid (rin_any l (.slice la L lc) d w5 (HL.out.below (HB1Z.out.trans (HK5.out.mono HB1Z.out.size))))
                clear hb5 HI4 HMR4
                by_cases hdn : d ∈ nmL S
                · rw [inB_true hdn]
                  have HDN := Lib.hid hdn
                  clear hdn
                  go_wp2_with fail
                  refine HL5.out.mono ?_
                  rintro e w6 ⟨rfl, hb6⟩
                  have HB6 := Lib.hid (HB5.out.trans (hb6.mono HB5.out.size))
                  have HK6 := Lib.hid (HK5.out.trans (hb6.mono HK5.out.size))
                  have HMR6 := Lib.hid (HMR5.out.below hb6)
                  clear hb6 HL5 HMR5
                  by_cases hdl : d ∈ l
                  · rw [inB_true hdl]
                    have HK9 : Hid (∀ e ∈ ds.take (k + 1), e ∈ nmL S → e ∈ l ∨ e ∈ more) := Lib.hid (fun e he hn => by
                      rcases (HTM.out e).1 he with h | rfl
                      · exact HK.out e h hn
                      · exact .inl hdl)
                    clear hdl
                    go_wp2_with fail
                    exact ⟨⟨k + 1, more, by go_num, by omega, HM, HC, HK9, HMR6, HK6⟩, by simp [intOf]; omega⟩
                  · rw [inB_false hdl]
                    have HA := Lib.hid (radd_any more (.slice ma more.length mc) d w6 HMR6.out (by have := HMLN.out; omega))
                    have HM9 := Lib.hid (moreq_add HM.out HDN.out hdl (pastk_of HP.out (List.mem_of_getElem? HPI.out) HOWN.out HDM.out HDN.out))
                    have HC9 := Lib.hid (cov_more (more' := addB more d) HC.out (fun e he => (addB_mem more d e).2 (.inr he)))
                    have HK9 : Hid (∀ e ∈ ds.take (k + 1), e ∈ nmL S → e ∈ l ∨ e ∈ addB more d) := Lib.hid (fun e he hn => by
                      rcases (HTM.out e).1 he with h | rfl
                      · exact (HK.out e h hn).imp id (fun h => (addB_mem more d e).2 (.inr h))
                      · exact .inr ((addB_mem more e e).2 (.inl rfl)))
                    clear hdl
                    go_wp2_with fail
                    refine HA.out.mono ?_
                    rintro e w7 ⟨⟨v', rfl, hr7, _⟩, hb7⟩
                    have HK7 := Lib.hid (HK6.out.trans (hb7.mono HK6.out.size))
                    have HR7 := Lib.hid hr7
                    clear hr7 hb7
                    go_wp2_with fail
                    exact ⟨⟨k + 1, _, by go_num, by omega, HM9, HC9, HK9, HR7, HK7⟩, by simp [intOf]; omega⟩
                · rw [inB_false hdn]
                  have HK9 : Hid (∀ e ∈ ds.take (k + 1), e ∈ nmL S → e ∈ l ∨ e ∈ more) := Lib.hid (fun e he hn => by
                    rcases (HTM.out e).1 he with h | rfl
                    · exact HK.out e h hn
                    · exact absurd hn hdn)
                  clear hdn
                  go_wp2_with fail
                  exact ⟨⟨k + 1, more, by go_num, by omega, HM, HC, HK9, HMR5, HK5⟩, by simp [intOf]; omega⟩
              · have hkd : dl = k := by omega
                have HC9 := Lib.hid (cov_step HC.out HPI.out (fun _ d hd hn => HK.out d (by rw [List.take_of_length_le (by rw [← HDL.out]; omega)]; exact hd) hn))
                have HBI9 := Lib.hid (HZI.out.trans (HBK.out.mono HZI.out.size))
                go_wp2_with fail
                exact ⟨⟨i + 1, more, by go_num, by omega, HM, HC9, HMR, HBI9⟩, by simp [intOf]; omega⟩
          · rw [inB_false hxl]
            have HC9 := Lib.hid (HSK.out (fun h => absurd h (by rintro (h | h); exact hxn h; exact hxl h)))
            have HBI9 := Lib.hid (HZI.out.trans (HB3.out.mono HZI.out.size))
            have HMR9 := Lib.hid ((HMR.out.below HWZB.out).below HB3.out)
            clear hxl
            go_wp2_with fail
            exact ⟨⟨i + 1, more, by go_num, by omega, HM, HC9, HMR9, HBI9⟩, by simp [intOf]; omega⟩
      · have hni : n = i := by omega
        have HC9 : Hid (CovQ S nm l more S.length) := Lib.hid (by have h := HC.out; rw [← hni, HN.out] at h; exact h)
        obtain ⟨M, hM⟩ : ∃ M, M = more.length := ⟨_, rfl⟩
        have hM9 : M ≤ 1000 := by have := HML.out l more HM.out; omega
        rw [← hM] at HMR ⊢
        have HMM := Lib.hid hM
        have HB9 := Lib.hid (HB.out.trans (HBI.out.mono HB.out.size))
        have HL9 := Lib.hid (HL.out.below HBI.out)
        subst hni
        clear hM HC
        by_cases hM0 : M = 0
        · have hmn : more = [] := List.length_eq_zero_iff.1 (by rw [← HMM.out]; exact hM0)
          have HC8 : Hid (CovQ S nm l [] S.length) := Lib.hid (by have h := HC9.out; rw [hmn] at h; exact h)
          subst hM0
          clear hmn
          go_wp2_with fail
          go_ret
          exact ⟨_, l, rfl, HP.out, by rw [HN.out]; exact HC8.out, HL9.out, HB9.out⟩
        · have hMb : ((M : Int) == (0 : Int)) = false := by rw [beq_eq_false_iff_ne]; omega
          have hMi : ¬ (M : Int) = 0 := by omega
          obtain ⟨w2, hw2⟩ : ∃ w2, w2 = wr := ⟨_, rfl⟩
          rw [← hw2] at HMR HB9 HL9 ⊢
          clear hw2
          go_wp2_with fail
          go_loopw [5, 11] (fun lv kv wr => ∃ k : Nat, kv = .int .i64 (k : Nat) ∧ k ≤ M ∧ Hid (Reads wr lv ((more.take k).foldl addB l)) ∧ Hid (Below w2.heap.size w2 wr)) (fun _ kv _ => M - (intOf kv).toNat)
          case atStart => exact ⟨0, rfl, Nat.zero_le _, Lib.hid (by simpa using HL9.out), Lib.hid (Below.refl _ _)⟩
          case round =>
            obtain ⟨k, rfl, hk, HR, HBK⟩ := hrel
            have HQ := Lib.hid (added_q HP.out HM.out k)
            by_cases hlk : k < M
            · obtain ⟨d, hd⟩ : ∃ d, more[k]? = some d := ⟨more[k]'(by rw [← HMM.out]; exact hlk), by simp⟩
              have HST := Lib.hid (added_step (l := l) hd)
              obtain ⟨vb, vo, rfl, hql, hcd⟩ := (HMR.out.below HBK.out).at hd
              have cd := hcd.2 k d hd
              clear hql
              obtain ⟨l9, hl9⟩ : ∃ l9, l9 = (more.take k).foldl addB l := ⟨_, rfl⟩
              rw [← hl9] at HR HST HQ
              have hl8 : l9.length ≤ 1000 := by have := HPL.out l9 HQ.out; omega
              obtain ⟨ra, rc, rfl, _⟩ := HR.out.form
              have HA := Lib.hid (radd_any l9 _ d wr HR.out (by omega))
              clear hcd hd hl9
              go_wp2_with fail
              refine HA.out.mono ?_
              rintro e w3 ⟨⟨v', rfl, hr3, _⟩, hb3⟩
              have HR3 : Hid (Reads w3 v' ((more.take (k + 1)).foldl addB l)) := Lib.hid (by rw [HST.out]; exact hr3)
              have HB3 := Lib.hid (HBK.out.trans (hb3.mono HBK.out.size))
              clear hr3 hb3
              go_wp2_with fail
              exact ⟨⟨k + 1, by go_num, by omega, HR3, HB3⟩, by simp [intOf]; omega⟩
            · have hkM : M = k := by omega
              have hlen : L + 1 ≤ (more.foldl addB l).length := by
                have := added_more HP.out HM.out (by rw [← HMM.out]; omega)
                rw [HLE.out]; exact this
              rw [← hkM, HMM.out, List.take_length] at HQ HR
              have hle2 := HPL.out _ HQ.out
              have HB8 := Lib.hid (HB9.out.trans (HBK.out.mono HB9.out.size))
              obtain ⟨ra, rc, rfl, _⟩ := HR.out.form
              go_wp2_with fail
              exact ⟨⟨_, HQ, HR, HB8⟩, by simp; omega⟩
end Go.Proofs.YteaencgbgfnokaaDoor
