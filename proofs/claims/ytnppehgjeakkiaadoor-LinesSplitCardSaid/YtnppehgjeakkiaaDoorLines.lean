/- The contracts of package lines and of its reference: Split, Join, Marker; awake. -/
import Derived.Test.YtnppehgjeakkiaaDoorBase
import Derived.Test.YtnppehgjeakkiaaDoorPlain
import Derived.Test.YtnppehgjeakkiaaDoorShelf
import Derived.Test.YtnppehgjeakkiaaDoorSame
set_option linter.unusedVariables false
namespace Go.Proofs.YtnppehgjeakkiaaDoor
open Go.ChangeShapes Go.WideShapes Go.ChangeAt Go.RowKit

theorem Tryd.infoStr : (Tryd.prog.info? 9).map (fun i => (i.zero, i.size, i.bytes)) = some (some (.string ByteArray.empty), 1, 16) := by kernel_rfl

/-- The cell of the library's own variable holds some number. -/
def HasMax (w : World) : Prop := ∃ m : Int, w.cell? ⟨1, 0, none⟩ = some (.int .i64 m)
theorem HasMax.below {w w' : World} (h : HasMax w) (hb : Below w.heap.size w w') : HasMax w' := by
  obtain ⟨m, hm⟩ := h
  exact ⟨m, (hb.cell (p := ⟨1, 0, none⟩) (cell_lt hm)).trans hm⟩
theorem HasMax.drew {w : World} (h : HasMax w) : HasMax w.drew := h

theorem reads_alloc (w : World) (xs : List ByteArray) (t : TypeId) (h : xs ≠ []) (hm : xs.length ≤ 9223372036854775807) :
    Reads (w.alloc (.cells (xs.map Value.string).toArray t)) (.slice (some ⟨w.heap.size, 0, none⟩) xs.length xs.length) xs := by
  refine .inr ⟨h, w.heap.size, 0, xs.length, rfl, Nat.le_refl _, hm, by simp, fun j x hx => ?_⟩
  rw [World.cell?_alloc_at _ _ _ _ rfl]
  simp [hx]

theorem reads_owns {w : World} {base : Nat} {e : TypeId} {v : Value} {xs : List ByteArray} (h : w.ownsRow base e 1 v xs.length (xs.map Value.string)) : Reads w v xs := by
  rcases h.2 with ⟨rfl, h0⟩ | ⟨g, cap, cur, rfl, hb, hg, hnc, hm, hs, ht⟩
  · have : xs = [] := List.length_eq_zero_iff.1 h0
    subst this
    exact .inl ⟨rfl, none, 0, rfl⟩
  · by_cases h0 : xs = []
    · subst h0
      exact .inl ⟨rfl, _, cap, rfl⟩
    · refine .inr ⟨h0, g, 0, cap, rfl, hnc, by unfold maxLen at hm; omega, (Array.getElem?_eq_some_iff.1 hg).1, fun j x hx => ?_⟩
      have hj : j < xs.length := (List.getElem?_eq_some_iff.1 hx).1
      have := h.cellAt j (by omega)
      rw [Nat.zero_add, this]
      simp [hx]

/-- lines.Split. -/
theorem lsplit_any (s : ByteArray) (w : World) (hm : HasMax w) (hs : s.size < 4294967281) :
    Calls Tryd.prog 8 #[.string s] w fun e w' => ∃ v, e = .returned v ∧ Reads w' v (bsp s) ∧ Below w.heap.size w w' := by
  obtain ⟨m, hm⟩ := hm
  have hl := bsp_length_le s
  have hr := reads_alloc w (bsp s) 9 (bsp_ne s) (by omega)
  have HR := Lib.hid hr
  clear hr
  have hc := Tryd.strings_Split s ⟨#[10]⟩ m w hs hm (by decide)
  rw [countB_bsp, splitB_bsp] at hc
  have HC := Lib.hid hc
  clear hc
  go_enter Tryd.func8, Tryd.ntmps8
  go_wp2_with fail
  refine HC.out.mono ?_
  rintro e w' ⟨rfl, rfl⟩
  go_wp2
  go_ret
  exact ⟨_, rfl, HR.out, (Below.refl _ _).alloc (Nat.le_refl _) _⟩

def RS (s : ByteArray) (k f : Nat) (done : List ByteArray) : Prop :=
  (k ≤ s.size ∧ f ≤ k ∧ done ++ (spl (s.data.toList.drop f)).map mkB = bsp s ∧ ∀ j : Nat, f ≤ j → j < k → s.data.toList[j]? ≠ some 10) ∨ (k = s.size + 1 ∧ done = bsp s)

theorem rs_push_end {s : ByteArray} {f : Nat} {done : List ByteArray} (h : RS s s.size f done) : RS s (s.size + 1) (s.size + 1) (done ++ [s.extract f s.size]) := by
  rcases h with ⟨_, hf, he, hn⟩ | ⟨h, _⟩
  · refine .inr ⟨rfl, ?_⟩
    have e : spl (s.data.toList.drop f) = [s.data.toList.drop f] := by
      refine spl_none _ fun j hj => ?_
      rw [List.getElem?_drop] at hj
      have hlt : f + j < s.data.toList.length := (List.getElem?_eq_some_iff.1 hj).1
      have es : s.data.toList.length = s.size := Array.length_toList
      exact hn (f + j) (by omega) (by omega) hj
    rw [e] at he
    rw [← he]
    congr 1
    simp only [List.map_cons, List.map_nil]
    congr 1
    apply data_inj
    rw [data_mkB, Lib.extract_to_end]
  · omega

theorem rs_push {s : ByteArray} {k f : Nat} {done : List ByteArray} (h : RS s k f done) (hk : k < s.size) (ht : s.data.toList[k]? = some 10) : RS s (k + 1) (k + 1) (done ++ [s.extract f k]) := by
  rcases h with ⟨_, hf, he, hn⟩ | ⟨h, _⟩
  · refine .inl ⟨by omega, by omega, ?_, fun j h1 h2 => by omega⟩
    have e := spl_at (k - f) (s.data.toList.drop f) (fun j hj => by rw [List.getElem?_drop]; exact hn (f + j) (by omega) (by omega)) (by rw [List.getElem?_drop, show f + (k - f) = k by omega]; exact ht)
    rw [e] at he
    rw [← he, List.map_cons, List.append_assoc, List.singleton_append]
    congr 2
    · apply data_inj
      rw [data_mkB, Lib.extract_data]
    · rw [List.drop_drop, show f + (k - f + 1) = k + 1 by omega]
  · omega

theorem rs_skip {s : ByteArray} {k f : Nat} {done : List ByteArray} (h : RS s k f done) (hk : k < s.size) (ht : s.data.toList[k]? ≠ some 10) : RS s (k + 1) f done := by
  rcases h with ⟨_, hf, he, hn⟩ | ⟨h, _⟩
  · refine .inl ⟨by omega, by omega, he, fun j h1 h2 => ?_⟩
    by_cases e : j = k
    · rw [e]; exact ht
    · exact hn j h1 (by omega)
  · omega

theorem rs_end {s : ByteArray} {k f : Nat} {done : List ByteArray} (h : RS s k f done) (hk : ¬ k ≤ s.size) : done = bsp s := by
  rcases h with h | h
  · omega
  · exact h.2

theorem byte_at {s : ByteArray} {k : Nat} (h : k < s.size) : s.data.toList[k]? = some s[k] := by
  have e : k < s.data.size := h
  rw [Array.getElem?_toList, Array.getElem?_eq_getElem e]
  rfl

theorem rs_le {s : ByteArray} {k f : Nat} {done : List ByteArray} (h : RS s k f done) (hk : k ≤ s.size) : f ≤ k := by
  rcases h with h | h
  · exact h.2.1
  · omega

set_option maxHeartbeats 1000000 in
theorem rsplit_any (s : ByteArray) (w : World) (hs : s.size < 4294967281) :
    Calls Tryd.prog 10 #[.string s] w fun e w' => ∃ v, e = .returned v ∧ Reads w' v (bsp s) ∧ Below w.heap.size w w' := by
  go_enter Tryd.func10, Tryd.ntmps10
  go_wp2
  go_loopw [3, 4, 5] (fun l fr i wr => ∃ (k f : Nat) (done : List ByteArray), k ≤ s.size + 1 ∧ f ≤ s.size + 1 ∧ i = .int .i64 k ∧ fr = .int .i64 f ∧ done.length ≤ k ∧ wr.ownsRow w.heap.size 9 1 l done.length (done.map Value.string) ∧ Below w.heap.size w wr ∧ RS s k f done) (fun _ _ i _ => s.size + 1 - (intOf i).toNat)
  case atStart => exact ⟨0, 0, [], by omega, by omega, rfl, rfl, by simp, World.ownsRow_nil _ _ _ _, Below.refl _ _, .inl ⟨by omega, by omega, rfl, fun j h1 h2 => by omega⟩⟩
  case round =>
    obtain ⟨k, f, done, hk, hf, rfl, rfl, hd, hown, hb, hR⟩ := hrel
    have HR := Lib.hid hR
    clear hR
    have hsz := hb.size
    by_cases h1 : k ≤ s.size
    · have h0 : f ≤ k := rs_le HR.out h1
      by_cases h2 : k = s.size
      · have e1 : ((k : Int) == (s.size : Int)) = true := by rw [beq_iff_eq]; omega
        have H2 := Lib.hid h2
        clear h2
        go_wp2_with (at_builtin; refine wpList_push rfl _ _ 23 rfl w.heap.size 9 (.string ByteArray.empty) 1 16 Tryd.underlying23 Tryd.infoStr rfl (by decide) wr _ _ _ rfl (by exact hown) [.string (s.extract f k)] 1 _ _ rfl rfl rfl (by simp [Value.oneCell']) (by omega) (by omega) hsz ?_; intro v' w1 hown1 hgr hb1)
        refine ⟨⟨k + 1, k + 1, done ++ [s.extract f k], by omega, by omega, by go_num, by go_num, by simp; omega, by simpa using hown1, hb.trans hb1, ?_⟩, by simp [intOf]; omega⟩
        have e := H2.out
        subst e
        exact rs_push_end HR.out
      · have h3 : k < s.size := by omega
        have e1 : ((k : Int) == (s.size : Int)) = false := by rw [beq_eq_false_iff_ne]; omega
        clear h2
        by_cases h4 : s[k] = 10
        · have e2 : ((s[k].toNat : Int) == 10) = true := by rw [h4]; rfl
          have H4 := Lib.hid h4
          clear h4
          go_wp2_with (at_builtin; refine wpList_push rfl _ _ 23 rfl w.heap.size 9 (.string ByteArray.empty) 1 16 Tryd.underlying23 Tryd.infoStr rfl (by decide) wr _ _ _ rfl (by exact hown) [.string (s.extract f k)] 1 _ _ rfl rfl rfl (by simp [Value.oneCell']) (by omega) (by omega) hsz ?_; intro v' w1 hown1 hgr hb1)
          refine ⟨⟨k + 1, k + 1, done ++ [s.extract f k], by omega, by omega, by go_num, by go_num, by simp; omega, by simpa using hown1, hb.trans hb1, rs_push HR.out h3 (by rw [byte_at h3, H4.out])⟩, by simp [intOf]; omega⟩
        · have e2 : ((s[k].toNat : Int) == 10) = false := by
            rw [beq_eq_false_iff_ne]
            intro e
            exact h4 (UInt8.toNat_inj.1 (by have : (10 : UInt8).toNat = 10 := rfl; omega))
          have H4 := Lib.hid h4
          clear h4
          go_wp2
          refine ⟨⟨k + 1, f, done, by omega, by omega, by go_num, rfl, by omega, hown, hb, rs_skip HR.out h3 (by rw [byte_at h3]; intro e; exact H4.out (Option.some.inj e))⟩, by simp [intOf]; omega⟩
    · go_wp2
      go_ret
      have e := rs_end HR.out h1
      subst e
      exact ⟨_, rfl, reads_owns hown, hb⟩
end Go.Proofs.YtnppehgjeakkiaaDoor
