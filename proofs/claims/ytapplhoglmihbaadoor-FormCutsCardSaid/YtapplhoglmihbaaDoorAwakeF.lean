/- The statements' own look at one list. -/
import Derived.Test.YtapplhoglmihbaaDoorOwn
import Derived.Test.YtapplhoglmihbaaDoorWrite
set_option linter.unusedVariables false
namespace Go.Proofs.YtapplhoglmihbaaDoor
open Go.ChangeShapes Go.WideShapes Go.ChangeAt Go.RowKit
open Go.Lib (decDigits itoa)

/-- Its forms, and its bytes. -/
def awTs : List Tm := [.mk false ⟨#[97, 98]⟩ [], .mk true noText [], .mk false ⟨#[45, 53]⟩ []]
def awT : Tm := .mk true noText awTs
def awB : List UInt8 := [40, 50, 58, 97, 98, 40, 41, 50, 58, 45, 53, 41]

theorem aw_dig2 : decDigits 2 = [50] := by rw [Lib.decDigits_one (by omega)]; rfl
theorem aw_bytes : awT.bytes = awB := by
  have h2 : (⟨#[97, 98]⟩ : ByteArray).size = 2 := rfl
  have h3 : (⟨#[45, 53]⟩ : ByteArray).size = 2 := rfl
  unfold awT awTs
  rw [Tm.bytes_list]
  simp only [Tm.bytess, Tm.bytes, if_true, Bool.false_eq_true, if_false, h2, h3, aw_dig2]
  rfl
theorem aw_ok : awT.ok = true := by
  unfold awT awTs
  simp [Tm.ok, Tm.oks]
  rfl
theorem aw_depth : awT.depth = 2 := by
  unfold awT awTs
  simp [Tm.depth, Tm.depths]
theorem aw_can : CanW 0 [] awT := by
  refine ⟨aw_ok, by rw [aw_depth]; omega, ?_⟩
  rw [aw_bytes]; decide
theorem aw_isF : IsF 0 awB awT [] := ⟨aw_ok, by rw [aw_depth]; omega, by rw [aw_bytes, List.append_nil]⟩
theorem itoa_m5 : itoa (-5) = [45, 53] := by
  unfold itoa
  rw [if_pos (by omega), show (-5 : Int).natAbs = 5 from rfl, Lib.decDigits_one (by omega)]; rfl

set_option maxHeartbeats 2000000 in
set_option maxRecDepth 100000 in
theorem awake_any (w : World) (ht : HasTab w) : Calls Tryd.prog 8 #[] w fun e w' => e = .returned (.bool true) ∧ Below w.heap.size w w' := by
  have hlnil : ∀ wz, Calls Tryd.prog 21 #[.slice none 0 0] wz (ListP [] wz) := fun wz => list_flat (.slice none 0 0) 0 0 [] wz (Row.nil _ _ _) rfl (by simp) (by simp) (by omega)
  have hnum : ∀ wz, HasTab wz → Calls Tryd.prog 16 #[.int .i64 (-5)] wz fun e w' => e = .returned (fv false ⟨#[45, 53]⟩ (.slice none 0 0)) ∧ Below wz.heap.size wz w' := fun wz hz => by
    have := num_any (-5) wz (by omega) (by omega) hz
    rw [itoa_m5] at this
    exact this
  have HLN := Lib.hid hlnil
  have HNU := Lib.hid hnum
  have HT := Lib.hid ht
  clear hlnil hnum ht
  go_enter Tryd.func8, Tryd.ntmps8
  go_wp2_with fail
  refine (text_any _ _).mono ?_
  rintro e w1 ⟨rfl, hb1⟩
  have HB1 := Lib.hid hb1
  clear hb1
  go_wp2_with fail
  refine (HLN.out _).mono ?_
  rintro e w2 ⟨a2, n2, c2, rfl, hn2, hb2, hs2⟩
  have hn2' : n2 = 0 := hn2
  subst hn2'
  have hcm2 : c2 ≤ maxLen := by obtain ⟨_, _, e, _, h⟩ := hs2.form; injection e with _ _ e; omega
  have HCM := Lib.hid hcm2
  have HB2 := Lib.hid (HB1.out.trans (hb2.mono HB1.out.size))
  clear hn2 hb2 hs2 hcm2
  go_wp2_with fail
  refine (HNU.out _ (HT.out.below HB2.out)).mono ?_
  rintro e w3 ⟨rfl, hb3⟩
  have HB3 := Lib.hid (HB2.out.trans (hb3.mono HB2.out.size))
  clear hb3
  have hlist : Calls Tryd.prog 21 #[.slice (some ⟨w3.heap.size, 0, none⟩) 3 3] (w3.alloc (.cells #[.bool false, .string ⟨#[97, 98]⟩, .slice none 0 0, .bool true, .string ⟨#[]⟩, .slice a2 0 c2, .bool false, .string ⟨#[45, 53]⟩, .slice none 0 0] 24)) (ListP awTs (w3.alloc (.cells #[.bool false, .string ⟨#[97, 98]⟩, .slice none 0 0, .bool true, .string ⟨#[]⟩, .slice a2 0 c2, .bool false, .string ⟨#[45, 53]⟩, .slice none 0 0] 24))) := by
    refine list_flat (.slice (some ⟨w3.heap.size, 0, none⟩) 3 3) 3 0 [(false, ⟨#[97, 98]⟩, [], .slice none 0 0), (true, noText, [], .slice a2 0 c2), (false, ⟨#[45, 53]⟩, [], .slice none 0 0)] _ ?_ rfl ?_ ?_ (by omega)
    · exact row_new (fr := (0, 0)) (Nat.zero_le _) rfl (Nat.le_refl _) (by decide) (Nat.le_refl _) (.inl rfl) (fun j u hu => by simpa [fcells] using hu)
    · intro p hp
      simp only [List.mem_cons, List.not_mem_nil, or_false] at hp
      rcases hp with rfl | rfl | rfl
      · exact ⟨rfl, none, 0, rfl, Nat.zero_le _⟩
      · exact ⟨rfl, a2, c2, rfl, HCM.out⟩
      · exact ⟨rfl, none, 0, rfl, Nat.zero_le _⟩
    · intro p hp
      simp only [List.mem_cons, List.not_mem_nil, or_false] at hp
      rcases hp with rfl | rfl | rfl
      · decide
      · exact Nat.zero_le _
      · decide
  have HLI := Lib.hid hlist
  clear hlist
  go_wp2_with fail
  refine HLI.out.mono ?_
  rintro e w4 ⟨a4, n4, c4, rfl, hn4, hb4, hs4⟩
  have hn4' : n4 = 3 := hn4
  subst hn4'
  have hB4 : Below w.heap.size w w4 := (HB3.out.alloc HB3.out.size _).trans (hb4.mono (by have := HB3.out.size; simp; omega))
  have hw4 : Calls Tryd.prog 10 #[fv true noText (.slice a4 3 c4)] w4 (WriteP awT (fun _ => True) w4) :=
    write_any true noText awTs (fun i => i < w4.heap.size) (fun _ => True) w4 a4 c4 (hs4.mono fun i hi _ => hi) (by decide) (fun i hi => hi) (HT.out.below hB4) (fun h => absurd aw_can h)
  have HB4 := Lib.hid hB4
  have HW4 := Lib.hid hw4
  clear hn4 hb4 hs4 hB4 hw4
  go_wp2_with fail
  refine HW4.out.mono ?_
  rintro e w5 ⟨hb5, hcase⟩
  have HB5 := Lib.hid (HB4.out.trans (hb5.mono HB4.out.size))
  clear hb5
  obtain rfl : e = .returned (.tuple #[.string (tx awB), .nilIface]) := by
    rcases hcase with ⟨_, h⟩ | ⟨h, _⟩
    · rw [h, aw_bytes]
    · exact absurd aw_can h
  clear hcase
  have hrd := read_any (tx awB) w5 (by decide)
  have HRD := Lib.hid hrd
  clear hrd
  go_wp2_with fail
  refine HRD.out.mono ?_
  rintro e w6 ⟨hb6, hcase⟩
  have HB6 := Lib.hid (HB5.out.trans (hb6.mono HB5.out.size))
  clear hb6
  have hres : ∃ l t a c, e = .returned (.tuple #[fv l t (.slice a 3 c), .nilIface]) := by
    rcases hcase with ⟨h, _⟩ | ⟨_, h, _⟩ | ⟨_, l, t, xs, a, c, he, hF, _⟩
    · exact absurd h (by decide)
    · exact absurd aw_isF (h awT)
    · have := (hF.det aw_isF).1
      unfold awT at this
      injection this with h1 h2 h3
      subst h3
      exact ⟨l, t, a, c, he⟩
  obtain ⟨l6, t6, a6, c6, rfl⟩ := hres
  clear hcase
  go_wp2_with fail
  go_ret
  exact ⟨rfl, HB6.out.alloc HB6.out.size _⟩
end Go.Proofs.YtapplhoglmihbaaDoor
