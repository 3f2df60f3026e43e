/- Of package sector: New. Disks that a call has made: what each call leaves of them. Redo: Pages, has, Read; and the places that its closures tell. -/
import Derived.Deep.OwnRows
import Derived.Test.YthamfbfeokmhgaaGreatDoorU30
set_option linter.unusedVariables false
set_option linter.unusedSimpArgs false
namespace Go.Proofs.YthamfbfeokmhgaaGreatDoor
open Go.ChangeShapes Go.WideShapes Go.ChangeAt Go.RowKit

theorem infoStr : (Tryz.prog.info? 9).map (fun i => (i.zero, i.size, i.bytes)) = some (some (.string ByteArray.empty), 1, 16) := by kernel_rfl
abbrev mkS (n : Nat) : Obj := .cells (madeCells #[.string ByteArray.empty] n) 9
abbrev boxD (n bs bh : Nat) : Obj := .cells #[.slice (some ⟨bs, 0, none⟩) n n, .slice (some ⟨bh, 0, none⟩) n n, .slice none 0 0, .int .i64 (-1), .bool false] 59
theorem made_str {w : World} {n : Nat} (hn : n ≤ 1000000) : Row 1 0 (w.alloc (mkS n)) (.slice (some ⟨w.heap.size, 0, none⟩) n n) n (sv (List.replicate n ByteArray.empty)) :=
  row_new (Nat.zero_le _) (by simp) (Nat.le_refl _) (by unfold maxLen; omega) (by simp [size_madeCells]) (.inl rfl) (fun j u hu => by
    have hj : j < n := by have := (List.getElem?_eq_some_iff.1 hu).1; simpa using this
    rw [sv, List.map_replicate, List.getElem?_replicate, if_pos hj] at hu
    cases hu
    simp [madeCells, hj, Nat.mod_one])
theorem new_dx {w : World} {n bs bh : Nat} (h1 : 1 ≤ n) (h2 : n ≤ 4096) (hb : (bs = w.heap.size ∧ bh = w.heap.size + 1) ∨ (bs = w.heap.size + 1 ∧ bh = w.heap.size)) :
    DX (fun i => w.heap.size ≤ i ∧ i < w.heap.size + 3) (((w.alloc (mkS n)).alloc (mkS n)).alloc (boxD n bs bh)) (w.heap.size + 2) (newD n) := by
  have s1 : (w.alloc (mkS n)).heap.size = w.heap.size + 1 := by simp
  have s2 : ((w.alloc (mkS n)).alloc (mkS n)).heap.size = w.heap.size + 2 := by simp
  have s3 : (((w.alloc (mkS n)).alloc (mkS n)).alloc (boxD n bs bh)).heap.size = w.heap.size + 3 := by simp
  have hl : (newD n).sure.length = n := by show (List.replicate _ _).length = n; simp
  have rA : Row 1 0 (((w.alloc (mkS n)).alloc (mkS n)).alloc (boxD n bs bh)) (.slice (some ⟨w.heap.size, 0, none⟩) n n) n (sv (List.replicate n ByteArray.empty)) := ((made_str (by omega)).alloc _).alloc _
  have rB : Row 1 0 (((w.alloc (mkS n)).alloc (mkS n)).alloc (boxD n bs bh)) (.slice (some ⟨w.heap.size + 1, 0, none⟩) n n) n (sv (List.replicate n ByteArray.empty)) := by
    have := (made_str (w := w.alloc (mkS n)) (n := n) (by omega)).alloc (boxD n bs bh)
    rw [s1] at this
    exact this
  have hc : ∀ j u, (#[Value.slice (some ⟨bs, 0, none⟩) n n, .slice (some ⟨bh, 0, none⟩) n n, .slice none 0 0, .int .i64 (-1), .bool false] : Array Value)[j]? = some u → (((w.alloc (mkS n)).alloc (mkS n)).alloc (boxD n bs bh)).cell? ⟨w.heap.size + 2, j, none⟩ = some u := fun j u h => by
    rw [show (⟨w.heap.size + 2, j, none⟩ : Addr) = ⟨((w.alloc (mkS n)).alloc (mkS n)).heap.size, j, none⟩ by rw [s2], World.cell?_alloc_at _ _ _ _ rfl]
    exact h
  refine ⟨bs, bh, .slice none 0 0, new_ok h1 h2, fun i hi => by rw [s3]; exact hi.2, ⟨by omega, by omega⟩, by omega, by omega, fun b hb => (by cases hb), by omega, by omega, by omega, fun b hb => (by cases hb), by rw [hl]; exact hc 0 _ rfl, by rw [hl]; exact hc 1 _ rfl, hc 2 _ rfl, hc 3 _ rfl, hc 4 _ rfl,
    fun j hj => ?_, ?_, ?_, Row.nil _ _ _⟩
  · rw [show (⟨w.heap.size + 2, j, none⟩ : Addr) = ⟨((w.alloc (mkS n)).alloc (mkS n)).heap.size, j, none⟩ by rw [s2]]
    exact World.frozen?_alloc_at _ _ _ _ rfl
  · rw [hl]
    rcases hb with ⟨rfl, _⟩ | ⟨rfl, _⟩
    · exact rA
    · exact rB
  · rw [hl]
    show Row 1 0 _ _ n (sv (List.replicate n ByteArray.empty))
    rcases hb with ⟨_, rfl⟩ | ⟨_, rfl⟩
    · exact rB
    · exact rA
def NewP (n : Nat) (w : World) (e : Ending) (w' : World) : Prop := ∃ p, e = .returned (.tuple #[.pointer (some ⟨p, 0, none⟩), .nilIface]) ∧ (∃ Z, DX Z w' p (newD n) ∧ ∀ i, Z i → w.heap.size ≤ i) ∧ Below w.heap.size w w'
set_option maxRecDepth 100000 in
theorem snew_ok (n : Nat) (w : World) (h1 : 1 ≤ n) (h2 : n ≤ 4096) : Calls Tryz.prog 7 #[.int .i64 (n : Int)] w fun e w' => NewP n w e w' := by
  have mk1 := run_make_row' (P := Tryz.prog) 56 9 (.string ByteArray.empty) 16 Tryz.underlying56 infoStr rfl .i64 .i64 n (by omega) (by omega)
  have hb1 : decide ((n : Int) < 1) = false := decide_eq_false (by omega)
  have hb2 : decide ((4096 : Int) < (n : Int)) = false := decide_eq_false (by omega)
  have HA := Lib.hid (fun (a b : Nat) (h : (a = w.heap.size ∧ b = w.heap.size + 1) ∨ (a = w.heap.size + 1 ∧ b = w.heap.size)) => (show NewP n w (.returned (.tuple #[.pointer (some ⟨w.heap.size + 2, 0, none⟩), .nilIface])) (((w.alloc (mkS n)).alloc (mkS n)).alloc (boxD n a b)).drew from ⟨_, rfl, ⟨_, (new_dx h1 h2 h).below (Below.refl _ _).drew, fun i hi => hi.1⟩, ((((Below.refl _ _).alloc (Nat.le_refl _) _).alloc (by simp) _).alloc (by simp; omega) _).drew⟩))
  go_enter Tryz.func7, Tryz.ntmps7
  go_wp2_with fail
  go_region
  all_goals
    go_wp2_with fail
    go_ret2
    first | exact HA.out _ _ (.inl ⟨rfl, rfl⟩) | exact HA.out _ _ (.inr ⟨rfl, rfl⟩)
theorem snew_bad (n : Int) (w : World) (h : n < 1 ∨ 4096 < n) : Calls Tryz.prog 7 #[.int .i64 n] w fun e w' => e = .returned (.tuple #[.pointer none, errS 1]) ∧ w' = w := by
  by_cases h1 : n < 1
  · go_enter Tryz.func7, Tryz.ntmps7
    go_wp2_with fail
    go_ret2
    exact ⟨rfl, rfl⟩
  · have hb2 : decide ((4096 : Int) < n) = true := decide_eq_true (by omega)
    have hb1 : decide (n < 1) = false := decide_eq_false (by omega)
    go_enter Tryz.func7, Tryz.ntmps7
    go_wp2_with fail
    go_ret2
    exact ⟨rfl, rfl⟩
end Go.Proofs.YthamfbfeokmhgaaGreatDoor
set_option linter.unusedVariables false
set_option linter.unusedSimpArgs false
namespace Go.Proofs.YthamfbfeokmhgaaGreatDoor
open Go.ChangeShapes Go.WideShapes Go.ChangeAt Go.RowKit

def DK (w0 w : World) (p : Nat) (D : Dk) : Prop := (∃ Z, DX Z w p D ∧ ∀ i, Z i → w0.heap.size ≤ i) ∧ Below w0.heap.size w0 w
theorem DK.post {w0 w w' : World} {p : Nat} {D' : Dk} {Z : Nat → Prop} (hz : ∀ i, Z i → w0.heap.size ≤ i) (hb : Below w0.heap.size w0 w) (h : DPost Z w p D' w') : DK w0 w' p D' := by
  obtain ⟨Z', h1, h2, h3⟩ := h
  refine ⟨⟨Z', h1, fun i hi => ?_⟩, hb.trans (h2.below hz hb.size)⟩
  rcases h3 i hi with h | h
  · exact hz i h
  · exact Nat.le_trans hb.size h
theorem DK.below {w0 w w' : World} {p : Nat} {D : Dk} (h : DK w0 w p D) (hb : Below w.heap.size w w') : DK w0 w' p D := by
  obtain ⟨⟨Z, h1, h2⟩, h3⟩ := h
  exact ⟨⟨Z, h1.below hb, h2⟩, h3.trans (hb.mono h3.size)⟩
theorem DK.ok {w0 w : World} {p : Nat} {D : Dk} (h : DK w0 w p D) : D.Ok := by
  obtain ⟨⟨Z, h1, h2⟩, h3⟩ := h
  exact h1.ok
theorem kwrite {w0 w : World} {p : Nat} {D : Dk} (h : DK w0 w p D) (i : Int) (s : ByteArray) (hl : D.pend.length ≤ 1000000) (hs : s.size ≤ 140737488355328) : Calls Tryz.prog 54 #[.pointer (some ⟨p, 0, none⟩), .int .i64 i, .string s] w fun e w' => e = .returned (errS (writeD D i s).2) ∧ DK w0 w' p (writeD D i s).1 := by
  obtain ⟨⟨Z, h1, h2⟩, h3⟩ := h
  exact (swrite_any i s w h1 hl hs).mono fun e w' ⟨a, b⟩ => ⟨a, DK.post h2 h3 b⟩
theorem kflush {w0 w : World} {p : Nat} {D : Dk} (h : DK w0 w p D) (hl : D.pend.length ≤ 1000000) : Calls Tryz.prog 55 #[.pointer (some ⟨p, 0, none⟩)] w fun e w' => e = .returned (errS (flushD D).2) ∧ DK w0 w' p (flushD D).1 := by
  obtain ⟨⟨Z, h1, h2⟩, h3⟩ := h
  exact (sflush_any w h1 hl).mono fun e w' ⟨a, b⟩ => ⟨a, DK.post h2 h3 b⟩
theorem kfall {w0 w W : World} {p : Nat} {D : Dk} (h : DK w0 w p D) (hb : Below w.heap.size w W) (ks : List Bool) (kv : Value) (hl : D.pend.length ≤ 1000000) (hk : RB W kv ks) (hz : ks ≠ [] → ∀ b o n c, kv = .slice (some ⟨b, o, none⟩) n c → b < w0.heap.size ∨ w.heap.size ≤ b) : Calls Tryz.prog 16 #[.pointer (some ⟨p, 0, none⟩), kv] W fun e w' => e = .returned (.tuple #[]) ∧ DK w0 w' p (fallD (fun j => ks.getD j false) D) := by
  obtain ⟨⟨Z, h1, h2⟩, h3⟩ := h
  exact (sfall_any ks kv W (h1.below hb) hl hk (fun hne b o n c e hb => by have h4 := hz hne b o n c e; have h5 := h2 b hb; have h6 := h1.zlt b hb; omega)).mono fun e w' ⟨a, b⟩ => ⟨a, DK.post h2 (h3.trans (hb.mono h3.size)) b⟩
theorem kfuel {w0 w : World} {p : Nat} {D : Dk} (h : DK w0 w p D) (n : Int) (hn : n ≤ 9223372036854775807) : Calls Tryz.prog 15 #[.pointer (some ⟨p, 0, none⟩), .int .i64 n] w fun e w' => e = .returned (.tuple #[]) ∧ DK w0 w' p (fuelD D n) := by
  obtain ⟨⟨Z, ⟨bs, bh, v, h1⟩, h2⟩, h3⟩ := h
  exact (sfuel_any w n h1 hn).mono fun e w' ⟨a, b, c⟩ => ⟨a, DK.post h2 h3 ⟨Z, ⟨bs, bh, v, b⟩, c, fun i hi => .inl hi⟩⟩
theorem kread {w0 w : World} {p : Nat} {D : Dk} (h : DK w0 w p D) (i : Int) : Calls Tryz.prog 21 #[.pointer (some ⟨p, 0, none⟩), .int .i64 i] w fun e w' => e = .returned (.tuple #[.string (readD D i).1, errS (readD D i).2]) ∧ DK w0 w' p D := by
  have h0 := h
  obtain ⟨⟨Z, h1, h2⟩, h3⟩ := h
  exact (sread_any i w h1).mono fun e w' ⟨a, b⟩ => ⟨a, h0.below b⟩
theorem koff {w0 w : World} {p : Nat} {D : Dk} (h : DK w0 w p D) : Calls Tryz.prog 11 #[.pointer (some ⟨p, 0, none⟩)] w fun e w' => e = .returned (.bool D.off) ∧ w' = w := by
  obtain ⟨⟨Z, ⟨bs, bh, v, h1⟩, h2⟩, h3⟩ := h
  exact soff_any p D.off w h1.c4
theorem knew (n : Nat) (w : World) (h1 : 1 ≤ n) (h2 : n ≤ 4096) : Calls Tryz.prog 7 #[.int .i64 (n : Int)] w fun e w' => ∃ p, e = .returned (.tuple #[.pointer (some ⟨p, 0, none⟩), .nilIface]) ∧ DK w w' p (newD n) :=
  (snew_ok n w h1 h2).mono fun e w' ⟨p, he, hz, hb⟩ => ⟨p, he, hz, hb⟩
end Go.Proofs.YthamfbfeokmhgaaGreatDoor
set_option linter.unusedVariables false
set_option linter.unusedSimpArgs false
namespace Go.Proofs.YthamfbfeokmhgaaGreatDoor
open Go.ChangeShapes Go.WideShapes Go.ChangeAt Go.RowKit

def RQ (w : World) (q p : Nat) : Prop := q < w.heap.size ∧ w.cell? ⟨q, 0, none⟩ = some (.pointer (some ⟨p, 0, none⟩))
theorem RQ.off {Y : Nat → Prop} {w w' : World} {q p : Nat} (h : RQ w q p) (ho : Off Y w w') (hz : ¬ Y q) : RQ w' q p :=
  ⟨Nat.lt_of_lt_of_le h.1 ho.size, (ho.cell (p := ⟨q, 0, none⟩) h.1 hz).trans h.2⟩
theorem RQ.below {w w' : World} {q p : Nat} (h : RQ w q p) (hb : Below w.heap.size w w') : RQ w' q p := h.off (Y := fun _ => False) (Off.of_below hb) (fun h => h)
theorem ssize_any {Z : Nat → Prop} {p : Nat} {D : Dk} (w : World) (h : DX Z w p D) : Calls Tryz.prog 22 #[.pointer (some ⟨p, 0, none⟩)] w fun e w' => e = .returned (.int .i64 (D.sure.length : Int)) ∧ w' = w := by
  obtain ⟨bs, bh, v, h⟩ := h
  have c0 := h.c0
  obtain ⟨n, hn⟩ : ∃ n, n = D.sure.length := ⟨_, rfl⟩
  rw [← hn] at c0 ⊢
  clear hn h
  go_enter Tryz.func22, Tryz.ntmps22
  go_wp2_with fail
  go_ret
  exact ⟨rfl, rfl⟩
theorem rpages_any {Z : Nat → Prop} {q p : Nat} {D : Dk} (w : World) (hq : RQ w q p) (h : DX Z w p D) : Calls Tryz.prog 20 #[.pointer (some ⟨q, 0, none⟩)] w fun e w' => e = .returned (.int .i64 ((D.sure.length - 64 : Nat) : Int)) ∧ w' = w := by
  have HS := Lib.hid (ssize_any w h)
  have h2 := h.ok.n2
  have hc := hq.2
  obtain ⟨n, hn⟩ : ∃ n, n = D.sure.length := ⟨_, rfl⟩
  rw [← hn] at HS h2 ⊢
  clear hn h hq
  by_cases h6 : n ≤ 64
  · have e1 : n - 64 = 0 := by omega
    have e2 : IntKind.i64.wrap ((n : Int) - 64) = (n : Int) - 64 := by rw [IntKind.wrap_i64]; omega
    have e3 : max (0 : Int) ((n : Int) - 64) = 0 := by omega
    have e4 : ((n : Int) - 64 < 0) ∨ (n : Int) - 64 = 0 := by omega
    rw [e1]
    go_enter Tryz.func20, Tryz.ntmps20
    go_wp2_with fail
    refine HS.out.mono ?_
    rintro e w1 ⟨rfl, rfl⟩
    go_wp2_with (first | (simp only [e2, e3]) | fail)
    go_ret
    exact ⟨rfl, rfl⟩
  · obtain ⟨m, hm⟩ : ∃ m : Nat, m + 64 = n := ⟨n - 64, by omega⟩
    subst hm
    have e1 : m + 64 - 64 = m := by omega
    have e2 : IntKind.i64.wrap (((m + 64 : Nat) : Int) - 64) = (m : Int) := by rw [IntKind.wrap_i64]; omega
    have e3 : max (0 : Int) (m : Int) = (m : Int) := by omega
    rw [e1]
    go_enter Tryz.func20, Tryz.ntmps20
    go_wp2_with fail
    refine HS.out.mono ?_
    rintro e w1 ⟨rfl, rfl⟩
    go_wp2_with (first | (simp only [e2, e3]) | fail)
    go_ret
    exact ⟨rfl, rfl⟩
theorem rpages_nil (w : World) : Calls Tryz.prog 20 #[.pointer none] w fun e w' => e = .returned (.int .i64 0) ∧ w' = w := by
  go_enter Tryz.func20, Tryz.ntmps20
  go_wp2_with fail
  go_ret
  exact ⟨rfl, rfl⟩
theorem rhas_any {Z : Nat → Prop} {q p : Nat} {D : Dk} (i : Int) (w : World) (hq : RQ w q p) (h : DX Z w p D) : Calls Tryz.prog 35 #[.pointer (some ⟨q, 0, none⟩), .int .i64 i] w fun e w' => e = .returned (.bool (decide (0 ≤ i ∧ i < ((D.sure.length - 64 : Nat) : Int)))) ∧ w' = w := by
  have HP := Lib.hid (rpages_any w hq h)
  obtain ⟨n, hn⟩ : ∃ n, n = D.sure.length - 64 := ⟨_, rfl⟩
  rw [← hn] at HP ⊢
  clear hn hq h
  by_cases h : 0 ≤ i
  · by_cases h2 : i < (n : Int)
    · have e : decide (0 ≤ i ∧ i < (n : Int)) = true := decide_eq_true ⟨h, h2⟩
      rw [e]
      have h3 : decide (i < (n : Int)) = true := decide_eq_true h2
      go_enter Tryz.func35, Tryz.ntmps35
      go_wp2_with fail
      refine HP.out.mono ?_
      rintro e w1 ⟨rfl, rfl⟩
      go_wp2_with fail
      go_ret
      exact ⟨rfl, rfl⟩
    · have e : decide (0 ≤ i ∧ i < (n : Int)) = false := decide_eq_false (fun h => h2 h.2)
      rw [e]
      have h3 : decide (i < (n : Int)) = false := decide_eq_false h2
      go_enter Tryz.func35, Tryz.ntmps35
      go_wp2_with fail
      refine HP.out.mono ?_
      rintro e w1 ⟨rfl, rfl⟩
      go_wp2_with fail
      go_ret
      exact ⟨rfl, rfl⟩
  · have e : decide (0 ≤ i ∧ i < (n : Int)) = false := decide_eq_false (fun h' => h h'.1)
    rw [e]
    have h4 : decide ((0 : Int) ≤ i) = false := decide_eq_false h
    go_enter Tryz.func35, Tryz.ntmps35
    go_wp2_with fail
    go_ret
    exact ⟨rfl, rfl⟩
def preadD (D : Dk) (i : Int) : ByteArray × Int :=
  if D.off = true then (⟨#[]⟩, 20) else if 0 ≤ i ∧ i < ((D.sure.length - 64 : Nat) : Int) then readD D (64 + i) else (⟨#[]⟩, 1)
theorem pread_nil (i : Int) (w : World) : Calls Tryz.prog 18 #[.pointer none, .int .i64 i] w fun e w' => e = .returned (.tuple #[.string ⟨#[]⟩, errS 20]) ∧ w' = w := by
  go_enter Tryz.func18, Tryz.ntmps18
  go_wp2_with fail
  go_ret2
  exact ⟨rfl, rfl⟩
theorem pread_any {Z : Nat → Prop} {q p : Nat} {D : Dk} (i : Int) (w : World) (hq : RQ w q p) (h : DX Z w p D) : Calls Tryz.prog 18 #[.pointer (some ⟨q, 0, none⟩), .int .i64 i] w fun e w' => e = .returned (.tuple #[.string (preadD D i).1, errS (preadD D i).2]) ∧ Below w.heap.size w w' := by
  have HH := Lib.hid (rhas_any i w hq h)
  have HR := Lib.hid (sread_any (64 + i) w h)
  have hO : Calls Tryz.prog 11 #[.pointer (some ⟨p, 0, none⟩)] w fun e w' => e = .returned (.bool D.off) ∧ w' = w := by
    obtain ⟨bs, bh, v, h⟩ := h
    exact soff_any p D.off w h.c4
  have HO := Lib.hid hO
  have n2 := h.ok.n2
  have hc := hq.2
  unfold preadD
  obtain ⟨o, ho⟩ : ∃ o, o = D.off := ⟨_, rfl⟩
  rw [← ho] at HO ⊢
  obtain ⟨n, hn⟩ : ∃ n, n = D.sure.length - 64 := ⟨_, rfl⟩
  rw [← hn] at HH ⊢
  have hn5 : n ≤ 5000 := by omega
  obtain ⟨x, hx⟩ : ∃ x, x = readD D (64 + i) := ⟨_, rfl⟩
  rw [← hx] at HR ⊢
  clear hx hn hO h hq ho n2
  cases o with
  | true =>
    rw [if_pos rfl]
    clear HH HR
    go_enter Tryz.func18, Tryz.ntmps18
    go_wp2_with fail
    refine HO.out.mono ?_
    rintro e w1 ⟨rfl, rfl⟩
    go_wp2_with fail
    go_ret2
    exact ⟨rfl, Below.refl _ _⟩
  | false =>
    rw [if_neg (by decide)]
    by_cases hi : 0 ≤ i ∧ i < (n : Int)
    · rw [if_pos hi]
      have HD := Lib.hid (decide_eq_true hi)
      rw [HD.out] at HH
      obtain ⟨h0, h1⟩ := hi
      have e2 : IntKind.i64.wrap (64 + i) = 64 + i := by rw [IntKind.wrap_i64]; omega
      go_enter Tryz.func18, Tryz.ntmps18
      go_wp2_with fail
      refine HO.out.mono ?_
      rintro e w1 ⟨rfl, rfl⟩
      go_wp2_with fail
      refine HH.out.mono ?_
      rintro e w1 ⟨rfl, rfl⟩
      go_wp2_with (first | (rw [e2]) | fail)
      refine HR.out.mono ?_
      rintro e w2 ⟨rfl, hb⟩
      have HB := Lib.hid hb
      clear hb
      go_wp2_with fail
      go_ret2
      exact ⟨rfl, HB.out⟩
    · rw [if_neg hi]
      have HD := Lib.hid (decide_eq_false hi)
      rw [HD.out] at HH
      clear HR hi
      go_enter Tryz.func18, Tryz.ntmps18
      go_wp2_with fail
      refine HO.out.mono ?_
      rintro e w1 ⟨rfl, rfl⟩
      go_wp2_with fail
      refine HH.out.mono ?_
      rintro e w1 ⟨rfl, rfl⟩
      go_wp2_with fail
      go_ret2
      exact ⟨rfl, Below.refl _ _⟩
end Go.Proofs.YthamfbfeokmhgaaGreatDoor
