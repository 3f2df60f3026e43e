/- The contract of the document's Full. The document's pages in memory: New and Read. The document's pages: Copy. -/
import Derived.Deep.OwnRows
import Derived.Test.YthamfbfeokmhgaaGreatDoorU27
import Derived.Test.YthamfbfeokmhgaaGreatDoorU30
import Derived.Test.YthamfbfeokmhgaaGreatDoorU36
set_option linter.unusedVariables false
set_option linter.unusedSimpArgs false
namespace Go.Proofs.YthamfbfeokmhgaaGreatDoor
open Go.ChangeShapes Go.WideShapes Go.ChangeAt Go.RowKit

theorem infoBy : (Tryz.prog.info? 5).map (fun i => (i.zero, i.size, i.bytes)) = some (some (.int .u8 0), 1, 1) := by kernel_rfl
set_option maxRecDepth 100000 in
theorem rfull_any (s : ByteArray) (w : World) (hs : s.size ≤ 512) : Calls Tryz.prog 19 #[.string s] w fun e w' => e = .returned (.string (fullB s)) ∧ Below w.heap.size w w' := by
  obtain ⟨c, hc⟩ : ∃ c, c = 512 - s.size := ⟨_, rfl⟩
  have hwr : IntKind.i64.wrap (512 - (s.size : Int)) = (c : Int) := by rw [IntKind.wrap_i64]; omega
  have mk1 := run_make_row' (P := Tryz.prog) 79 5 (.int .u8 0) 1 Tryz.underlying79 infoBy rfl .i64 .i64 c (by omega) (by omega)
  obtain ⟨zb, hzb⟩ : ∃ zb : ByteArray, zb = ⟨(List.replicate c (0 : UInt8)).toArray⟩ := ⟨_, rfl⟩
  have hcv : (convert 79 9 (.slice (some ⟨w.heap.size, 0, none⟩) c c)).run Tryz.prog (w.alloc (.cells (madeCells #[.int .u8 0] c) 5)) = .ok (.string zb) (w.alloc (.cells (madeCells #[.int .u8 0] c) 5)) := by
    have h := run_convert_bytes_back (P := Tryz.prog) (w.alloc (.cells (madeCells #[.int .u8 0] c) 5)) 79 9 5 ⟨w.heap.size, 0, none⟩ c (List.replicate c (0 : UInt8)) Tryz.underlying79 Tryz.underlying5 Tryz.underlying9 (fun j hj => by
      have hj2 : j < c := by simpa using hj
      rw [Addr.add_lit, World.cell?_alloc_at _ _ _ _ rfl]
      simp [madeCells, hj2, Nat.mod_one])
    rw [List.length_replicate] at h
    rw [h, hzb]
  have hzs : zb.size ≤ 512 := by
    rw [hzb]
    show (List.replicate c (0 : UInt8)).toArray.size ≤ 512
    simp; omega
  have hcat : ¬ 9223372036854775807 < s.size + zb.size := by omega
  have HAP := Lib.hid (show s ++ zb = fullB s by rw [hzb, hc]; exact app_full s)
  have hc9 : c ≤ 512 := by omega
  clear hc hzb
  go_enter Tryz.func19, Tryz.ntmps19
  go_wp2_with fail
  go_ret
  exact ⟨by rw [HAP.out]; rfl, (Below.refl _ _).alloc (Nat.le_refl _) _⟩
end Go.Proofs.YthamfbfeokmhgaaGreatDoor
set_option linter.unusedVariables false
set_option linter.unusedSimpArgs false
namespace Go.Proofs.YthamfbfeokmhgaaGreatDoor
open Go.ChangeShapes Go.WideShapes Go.ChangeAt Go.RowKit Go.WideMaps Go.Maps

structure PR (w : World) (a mb k n : Nat) (S : List ByteArray) : Prop where
  alt : a < w.heap.size
  len : S.length = n
  c0 : w.cell? ⟨a, 0, none⟩ = some (.int .i64 (n : Int))
  c1 : w.cell? ⟨a, 1, none⟩ = some (.map (some mb))
  mp : MSur w mb k n S
  ne : a ≠ mb
theorem PR.off {w w' : World} {a mb k n : Nat} {S : List ByteArray} {Y : Nat → Prop} (h : PR w a mb k n S) (ho : Off Y w w') (ha : ¬ Y a) (hm : ¬ Y mb) : PR w' a mb k n S :=
  ⟨Nat.lt_of_lt_of_le h.alt ho.size, h.len, (ho.cell (p := ⟨a, 0, none⟩) h.alt ha).trans h.c0, (ho.cell (p := ⟨a, 1, none⟩) h.alt ha).trans h.c1, h.mp.off ho hm, h.ne⟩
theorem PR.below {w w' : World} {a mb k n : Nat} {S : List ByteArray} (h : PR w a mb k n S) (hb : Below w.heap.size w w') : PR w' a mb k n S := h.off (Y := fun _ => False) (Off.of_below hb) (fun h => h) (fun h => h)
set_option maxRecDepth 100000 in
theorem r13new_any (n : Nat) (w : World) (hn : n ≤ 4096) : Calls Tryz.prog 10 #[.int .i64 ((n + 64 : Nat) : Int)] w fun e w' => ∃ a mb, e = .returned (.pointer (some ⟨a, 0, none⟩)) ∧ PR w' a mb 0 n (List.replicate n ByteArray.empty) ∧ w.heap.size ≤ a ∧ w.heap.size ≤ mb ∧ Below w.heap.size w w' ∧ w'.ownsMap Tryz.prog 3 strElem mb 0 (.map []) := by
  have e1 : IntKind.i64.wrap (((n + 64 : Nat) : Int) - 64) = (n : Int) := by rw [IntKind.wrap_i64]; omega
  have hfin : PR ((w.alloc (.map #[] 0)).alloc (.cells #[.int .i64 (n : Int), .map (some w.heap.size)] 69)) (w.heap.size + 1) w.heap.size 0 n (List.replicate n ByteArray.empty) := by
    have hs : (w.alloc (.map #[] 0)).heap.size = w.heap.size + 1 := by simp
    have hc : ∀ j, ((w.alloc (.map #[] 0)).alloc (.cells #[.int .i64 (n : Int), .map (some w.heap.size)] 69)).cell? ⟨w.heap.size + 1, j, none⟩ = (#[.int .i64 (n : Int), .map (some w.heap.size)] : Array Value)[j]? := fun j => by
      rw [show (⟨w.heap.size + 1, j, none⟩ : Addr) = ⟨(w.alloc (.map #[] 0)).heap.size, j, none⟩ by rw [hs]]
      exact World.cell?_alloc_at _ _ _ _ rfl
    refine ⟨by simp, by simp, hc 0, hc 1, (MSur.made w n).off (Z := fun _ => False) (Off.of_below ((Below.refl _ _).alloc (Nat.le_refl _) _)) (fun h => h), by omega⟩
  have HOE : Hid (((w.alloc (.map #[] 0)).alloc (.cells #[.int .i64 (n : Int), .map (some w.heap.size)] 69)).ownsMap Tryz.prog 3 strElem w.heap.size 0 (.map [])) := Lib.hid (owns_below (World.ownsMap_made _ _ _ _) ((Below.refl _ _).alloc (Nat.le_refl _) _))
  have HF := Lib.hid hfin
  have hmm := @run_makeMap Tryz.prog
  have HB : Hid (Below w.heap.size w ((w.alloc (.map #[] 0)).alloc (.cells #[.int .i64 (n : Int), .map (some w.heap.size)] 69))) := Lib.hid (((Below.refl _ _).alloc (Nat.le_refl _) _).alloc (by simp) _)
  clear hfin
  go_enter Tryz.func10, Tryz.ntmps10
  go_wp2_with (first | (rw [e1]) | fail)
  go_ret
  exact ⟨_, _, rfl, HF.out, Nat.le_succ _, Nat.le_refl _, HB.out, HOE.out⟩
def rdP (S : List ByteArray) (i : Int) : ByteArray × Int := if 0 ≤ i ∧ i < (S.length : Int) then (fullB (S.getD i.toNat ByteArray.empty), 0) else (⟨#[]⟩, 1)
set_option maxHeartbeats 1000000 in
set_option maxRecDepth 100000 in
theorem r13read_any {a mb k n : Nat} {S : List ByteArray} (i : Int) (w : World) (h : PR w a mb k n S) (hn : n ≤ 4096) : Calls Tryz.prog 34 #[.pointer (some ⟨a, 0, none⟩), .int .i64 i] w fun e w' => e = .returned (.tuple #[.string (rdP S i).1, .int .i64 (rdP S i).2]) ∧ Below w.heap.size w w' := by
  have c0 := h.c0
  have c1 := h.c1
  unfold rdP
  rw [h.len]
  by_cases hi : 0 ≤ i ∧ i < (n : Int)
  · rw [if_pos hi]
    obtain ⟨j, rfl⟩ : ∃ j : Nat, i = (j : Int) := ⟨i.toNat, by omega⟩
    have hj : j < n := by omega
    obtain ⟨h0, h1⟩ := hi
    obtain ⟨s, ok, hrun, hs⟩ := h.mp.look hj hn
    have hr0 := hrun 0
    have hr0 : (Instr.lookup 67 (.map (some mb)) (.int .i64 (j : Int)) true).run Tryz.prog w = .ok (.tuple #[.string s, .bool ok]) w := hr0
    have HFU := Lib.hid (rfull_any ⟨#[]⟩ w (by decide))
    have hjt : (j : Int).toNat = j := by omega
    rw [hjt]
    have h0' : ¬ (j : Int) < 0 := by omega
    have h1' : ¬ (n : Int) ≤ (j : Int) := by omega
    rcases hs with ⟨rfl, hs⟩ | ⟨rfl, hs⟩
    · have HS := Lib.hid hs
      clear hs hrun h hn
      go_enter Tryz.func34, Tryz.ntmps34
      go_wp2_with (first | (rw [hr0]) | fail)
      go_ret2
      exact ⟨by rw [HS.out]; rfl, Below.refl _ _⟩
    · have HS := Lib.hid hs
      have hfe : fullB (S.getD j ByteArray.empty) = fullB ⟨#[]⟩ := by rw [hs]; rfl
      obtain ⟨fe, hfe2⟩ : ∃ fe, fe = fullB ⟨#[]⟩ := ⟨_, rfl⟩
      rw [hfe, ← hfe2]
      rw [← hfe2] at HFU
      clear hs hrun h hn hfe hfe2
      go_enter Tryz.func34, Tryz.ntmps34
      go_wp2_with (first | (rw [hr0]) | fail)
      refine HFU.out.mono ?_
      rintro e w1 ⟨rfl, hb⟩
      have HB := Lib.hid hb
      clear hb
      go_wp2_with fail
      go_ret2
      exact ⟨rfl, HB.out⟩
  · rw [if_neg hi]
    have hq : i < 0 ∨ (n : Int) ≤ i := by omega
    rcases hq with h1 | h1
    · clear hi h hn
      go_enter Tryz.func34, Tryz.ntmps34
      go_wp2_with fail
      go_ret2
      exact ⟨rfl, Below.refl _ _⟩
    · have h2 : ¬ i < 0 := by omega
      clear hi h hn
      go_enter Tryz.func34, Tryz.ntmps34
      go_wp2_with fail
      go_ret2
      exact ⟨rfl, Below.refl _ _⟩
end Go.Proofs.YthamfbfeokmhgaaGreatDoor
set_option linter.unusedVariables false
set_option linter.unusedSimpArgs false
namespace Go.Proofs.YthamfbfeokmhgaaGreatDoor
open Go.ChangeShapes Go.WideShapes Go.ChangeAt Go.RowKit Go.WideMaps Go.Maps

theorem grownN {w w' : World} (h : w.grownBy w' none) : Below w.heap.size w w' := ⟨h.os, h.tape, h.output, h.size, fun k hk => h.block k hk (by simp)⟩
theorem ranges_belowS {W W' : World} {R : Value → Option (DU × List MemPlace)} {b r n : Nat} {D : DU} {left : Lit → Bool} {cnt : Nat} (h : W.ranges Tryz.prog 3 R b r n D left cnt) (hb : W'.heap[b]? = W.heap[b]?) (hr : W'.heap[r]? = W.heap[r]?) : W'.ranges Tryz.prog 3 R b r n D left cnt := by
  obtain ⟨es, clock, since, seen, c0, e1, F, hs, hD, e2, hrest⟩ := h
  exact ⟨es, clock, since, seen, c0, hb.trans e1, F, hs, hD, hr.trans e2, hrest⟩
structure CpS (W : World) (D : DU) (left : Lit → Bool) (mb c n : Nat) (S : List ByteArray) (D' : DU) : Prop where
  own : W.ownsMap Tryz.prog 3 strElem mb c D'
  all : ∀ i : Nat, i < n → has D (li i) = true → left (li i) = true ∨ has D' (li i) = true
  val : ∀ i : Nat, i < n → has D' (li i) = true → D'.atKey (li i) emD = .lit (.string (fullB (S.getD i ByteArray.empty)).data.toList)
  sub : ∀ z, left z = true → has D z = true
set_option maxHeartbeats 4000000 in
set_option maxRecDepth 100000 in
theorem r13copy_any {a mb k n : Nat} {S : List ByteArray} (w : World) (h : PR w a mb k n S) (hn : n ≤ 4000) (hk : k ≤ 1000000) : Calls Tryz.prog 12 #[.pointer (some ⟨a, 0, none⟩)] w fun e w' => ∃ a' mb', e = .returned (.pointer (some ⟨a', 0, none⟩)) ∧ PR w' a' mb' k n S ∧ w.heap.size ≤ a' ∧ w.heap.size ≤ mb' ∧ Below w.heap.size w w' := by
  have c0 := h.c0
  have c1 := h.c1
  obtain ⟨D, hown, hD⟩ := h.mp
  have hmlt := h.mp.lt
  have HNW := Lib.hid (r13new_any n w (by omega))
  have hcast : ((n + 64 : Nat) : Int) = (n : Int) + 64 := by omega
  rw [hcast] at HNW
  have hwr : IntKind.i64.wrap ((n : Int) + 64) = (n : Int) + 64 := by rw [IntKind.wrap_i64]; omega
  have hat : a < w.heap.size := h.alt
  have HLN : Hid (S.length = n) := Lib.hid h.len
  have HOWN := Lib.hid hown
  have HDD := Lib.hid hD
  have HML := Lib.hid hmlt
  clear h hown hD hcast hmlt
  go_enter Tryz.func12, Tryz.ntmps12
  go_wp2_with (first | (rw [hwr]) | fail)
  refine HNW.out.mono ?_
  rintro e w1 ⟨a', mb', rfl, hpr, ha', hm', hb1, hoe⟩
  have c1' := (hb1.cell (p := ⟨a, 1, none⟩) hat).trans c1
  have HOW1 := Lib.hid (owns_below HOWN.out (hb1.mono (Nat.le_refl _)))
  have HPR := Lib.hid hpr
  have HB1 := Lib.hid hb1
  have HA' := Lib.hid ha'
  have HM' := Lib.hid hm'
  clear hpr hb1 c0 c1 ha' hm'
  go_wp2_with (at_range; refine wpList_range_own _ rfl _ 67 rfl 3 9 ilaw Tryz.underlying67 _ mb k D rfl HOW1.out ?_; intro w2 hrg2 hg2 hs2)
  have hb2 := grownN hg2
  have hpr2 := HPR.out.below hb2
  have hml1 : mb' < w1.heap.size := HPR.out.mp.lt
  have hal1 : a' < w1.heap.size := HPR.out.alt
  have HPC : Hid ((w2.cell? ⟨a', 0, none⟩ = some (.int .i64 (n : Int)) ∧ w2.cell? ⟨a', 1, none⟩ = some (.map (some mb'))) ∧ a' ≠ mb') := Lib.hid ⟨⟨hpr2.c0, hpr2.c1⟩, hpr2.ne⟩
  have HCP : Hid (CpS w2 D (Maps.has D) mb' 0 n S (.map [])) := Lib.hid ⟨owns_below hoe hb2, fun i hi hh => .inl hh, fun i hi hh => (by cases hh), fun z hz => hz⟩
  have HRG := Lib.hid hrg2
  have HB2 := Lib.hid (HB1.out.trans (hb2.mono HB1.out.size))
  have hml : mb < w1.heap.size := Nat.lt_of_lt_of_le HML.out HB1.out.size
  have hmb : mb ≠ mb' := fun e => by have := HM'.out; have := HML.out; omega
  have hit : Hid (w1.heap.size < w2.heap.size) := Lib.hid (by omega)
  clear hoe hpr2 hb2 hg2 hrg2 hs2 c1'
  go_frame
  go_loopw [4] (fun kv W => ∃ (left : Lit → Bool) (cnt c : Nat) (D' : DU), Hid (W.ranges Tryz.prog 3 strElem mb w1.heap.size k D left cnt) ∧ Hid (CpS W D left mb' c n S D') ∧ Hid (c + cnt ≤ k) ∧ Hid (Below w.heap.size w W) ∧ Hid (W.cell? ⟨a', 0, none⟩ = some (.int .i64 (n : Int)) ∧ W.cell? ⟨a', 1, none⟩ = some (.map (some mb'))) ∧ Hid (w1.heap.size < W.heap.size)) (fun _ W => W.rangeLeft mb w1.heap.size)
  case atStart => exact ⟨_, _, 0, _, HRG, HCP, Lib.hid (by have := World.ownsMap.size_le HOWN.out; omega), HB2, Lib.hid HPC.out.1, hit⟩
  case round =>
    clear HPR HOW1 HRG HCP HB2 hit
    obtain ⟨left, cnt, c, D', HRG, HCP, HCK, HBW, HC, HSZ⟩ := hrel
    obtain ⟨wq, rfl⟩ : ∃ wq, wq = wr := ⟨wr, rfl⟩
    go_wp2_with (at_next; refine wpList_next_ranges _ rfl _ rfl 3 ilaw strElem (Value.int .i64) Value.string (fun key kl h => by obtain ⟨x, hx, _⟩ := Maps.keyOf_int_inv Tryz.underlying3 h; exact ⟨x, hx⟩) (fun v y h => by obtain ⟨s, hs, _⟩ := strElem_inv h; exact ⟨s, hs⟩) mb w1.heap.size _ _ _ _ rfl HRG.out ?_ ?_)
    · intro hc0 hl0
      have hfin : PR wq a' mb' k n S := by
        refine ⟨by have := HSZ.out; omega, HLN.out, HC.out.1, HC.out.2, ⟨D', HCP.out.own.mono (by have := HCK.out; omega), fun i hi => ⟨HCP.out.val i hi, fun hh => ?_⟩⟩, HPC.out.2⟩
        by_cases hd : has D (li i) = true
        · rcases HCP.out.all i hi hd with h | h
          · rw [hl0] at h; cases h
          · rw [hh] at h; cases h
        · exact (HDD.out i hi).2 (by simpa using hd)
      have HF := Lib.hid hfin
      clear hl0 hc0 hfin
      go_wp2_with fail
      go_ret
      exact ⟨_, _, rfl, HF.out, HA'.out, HM'.out, HBW.out⟩
    · intro x s kx y1 y2 w3 cnt1 hkey hlk hRv hatk hrg3 hlt hg3 hs3 hen
      obtain ⟨x', ex, hkx, hwx⟩ := Maps.keyOf_int_inv Tryz.underlying3 hkey
      injection ex with _ ex
      subst ex
      have hkx : kx = li x := hkx
      subst hkx
      have hRs := Option.some.inj hRv
      injection hRs with hR1 hR2
      subst hR1
      have hhas := HCP.out.sub _ hlk
      have hne3 : ∀ i, i < w1.heap.size → w3.heap[i]? = wq.heap[i]? := fun i hi => hg3.block i (by have := HSZ.out; omega) (fun e => by injection e with e; omega)
      have hown3 : w3.ownsMap Tryz.prog 3 strElem mb' c D' := by
        obtain ⟨es, clock, h0, F, hs, hD9⟩ := HCP.out.own
        exact ⟨es, clock, (hne3 mb' hml1).trans h0, F, hs, hD9⟩
      have hD' := World.ownsMap.isMap hown3
      obtain ⟨W', hrun, ho', hg'⟩ := hown3.update ilaw Tryz.underlying67 (by have := HCK.out; unfold maxLen; omega) hkey (strElem_mk s)
      have hcells : w3.cell? ⟨a', 1, none⟩ = some (.map (some mb')) := (World.cell?_of_block (a := ⟨a', 1, none⟩) (hne3 a' hal1)).trans HC.out.2
      have hcell0 : w3.cell? ⟨a', 0, none⟩ = some (.int .i64 (n : Int)) := (World.cell?_of_block (a := ⟨a', 0, none⟩) (hne3 a' hal1)).trans HC.out.1
      have hg4 : ∀ i, i < w3.heap.size → i ≠ mb' → W'.heap[i]? = w3.heap[i]? := fun i hi e => hg'.block i hi (fun h => e (by injection h))
      have hs3' : w3.heap.size = wq.heap.size := hs3
      have HRN := Lib.hid (ranges_belowS hrg3 (hg4 mb (by have := HSZ.out; omega) hmb) (hg4 w1.heap.size (by have := HSZ.out; omega) (by omega)))
      have HCN : Hid (CpS W' D (fun z => left z && !z.sameKey (li x)) mb' (c + 1) n S (D'.put (li x) (.lit (.string s.data.toList)))) := Lib.hid (by
        refine ⟨ho', fun i hi hd => ?_, fun i hi hh => ?_, fun z hz => HCP.out.sub z (by simp only [Bool.and_eq_true] at hz; exact hz.1)⟩
        · by_cases e : (i : Int) = x
          · right; rw [has_li hD', e]; simp
          · rcases HCP.out.all i hi hd with h | h
            · left
              show (left (li i) && !(li (i : Int)).sameKey (li x)) = true
              rw [h, sameKey_ne (li_ne e)]; rfl
            · right; rw [has_li hD', h, Bool.or_true]
        · by_cases e : (i : Int) = x
          · subst e
            rw [at_li hD', if_pos rfl, ← hatk emD]
            exact (HDD.out i hi).1 hhas
          · rw [at_li hD', if_neg e]
            refine HCP.out.val i hi ?_
            have hb : ((i : Int) == x) = false := by rw [beq_eq_false_iff_ne]; exact e
            rw [has_li hD', hb, Bool.false_or] at hh
            exact hh)
      have HB' : Hid (Below w.heap.size w W') := Lib.hid ((HBW.out.grown hg3 HBW.out.size (fun k hk => by cases hk; exact HB1.out.size)).grown hg' (by have := HBW.out.size; omega) (fun k hk => by cases hk; exact HM'.out))
      have hane : a' ≠ mb' := HPC.out.2
      have HC' : Hid (W'.cell? ⟨a', 0, none⟩ = some (.int .i64 (n : Int)) ∧ W'.cell? ⟨a', 1, none⟩ = some (.map (some mb'))) := Lib.hid ⟨(World.cell?_of_block (a := ⟨a', 0, none⟩) (hg4 a' (by have := HSZ.out; omega) hane)).trans hcell0, (World.cell?_of_block (a := ⟨a', 1, none⟩) (hg4 a' (by have := HSZ.out; omega) hane)).trans hcells⟩
      have HSZ' : Hid (w1.heap.size < W'.heap.size) := Lib.hid (by have := HSZ.out; have := hg'.size; omega)
      have HLT : Hid (∀ W : World, W.ranges Tryz.prog 3 strElem mb w1.heap.size k D (fun z => left z && !z.sameKey (li x)) cnt1 → W.rangeLeft mb w1.heap.size < wq.rangeLeft mb w1.heap.size) := Lib.hid fun W h => by rw [h.left_eq, HRG.out.left_eq]; exact hlt
      have HCK' : Hid (c + 1 + cnt1 ≤ k) := Lib.hid (by have := HCK.out; omega)
      clear hatk hRv hlk hg3 hs3 hlt hrg3 hkey hwx hhas hne3 hown3 hD' ho' hg' hcell0 hg4 hs3'
      go_wp2_with fail
      exact ⟨⟨_, _, _, _, HRN, HCN, HCK', HB', HC', HSZ'⟩, HLT.out _ HRN.out⟩
end Go.Proofs.YthamfbfeokmhgaaGreatDoor
