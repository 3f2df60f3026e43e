/- 'Outside of the blocks Z nothing has turned'; slices that a call has made, of elements of any number of cells, and append to them out of whatever source. No function of the program is named here. Sorted texts without their doubles, and rows of texts in memory. No function of the program is named here. -/
import Derived.Deep.AppendSrc
import Derived.Deep.MidRow
import Derived.Deep.RegionLaw
import Derived.Laws.IdiomStrings
import Derived.Sort.Grow
import Derived.Sort.OwnSorted
import Derived.Lib.RowBridge
import Derived.Test.YtojnagonhihknaaGreatDoorU0
set_option linter.unusedVariables false
namespace Go.Proofs.YtojnagonhihknaaGreatDoor
open Go.ChangeShapes Go.WideShapes Go.ChangeAt Go.RowKit

structure Off (Z : Nat → Prop) (w w' : World) : Prop where
  os : w'.os = w.os
  tape : w'.tape = w.tape
  output : w'.output = w.output
  size : w.heap.size ≤ w'.heap.size
  block : ∀ i, i < w.heap.size → ¬ Z i → w'.heap[i]? = w.heap[i]?

theorem Off.refl (Z : Nat → Prop) (w : World) : Off Z w w := ⟨rfl, rfl, rfl, Nat.le_refl _, fun _ _ _ => rfl⟩
theorem Off.trans {Z : Nat → Prop} {a b c : World} (h : Off Z a b) (k : Off Z b c) : Off Z a c :=
  ⟨k.os.trans h.os, k.tape.trans h.tape, k.output.trans h.output, Nat.le_trans h.size k.size, fun i hi hz => (k.block i (Nat.lt_of_lt_of_le hi h.size) hz).trans (h.block i hi hz)⟩
theorem Off.trans' {Z Z' : Nat → Prop} {a b c : World} (h : Off Z a b) (k : Off Z' b c) (hz : ∀ i, i < a.heap.size → Z' i → Z i) : Off Z a c :=
  ⟨k.os.trans h.os, k.tape.trans h.tape, k.output.trans h.output, Nat.le_trans h.size k.size, fun i hi hn => (k.block i (Nat.lt_of_lt_of_le hi h.size) (fun z => hn (hz i hi z))).trans (h.block i hi hn)⟩
theorem Off.drew {Z : Nat → Prop} {a b : World} (h : Off Z a b) : Off Z a b.drew := ⟨h.os, h.tape, h.output, h.size, h.block⟩
theorem Off.drewN {Z : Nat → Prop} {a b : World} {n : Nat} (h : Off Z a b) : Off Z a (b.drewN n) := ⟨h.os, h.tape, h.output, h.size, h.block⟩
theorem Off.alloc {Z : Nat → Prop} {a b : World} (h : Off Z a b) (o : Obj) : Off Z a (b.alloc o) :=
  h.trans ⟨rfl, rfl, rfl, by simp, fun i hi _ => Below.heap_alloc _ _ _ hi⟩
theorem Off.setCell {Z : Nat → Prop} {a b : World} (h : Off Z a b) {p : Addr} (hp : a.heap.size ≤ p.block ∨ Z p.block) (u : Value) : Off Z a (b.setCell p u) :=
  h.trans' (Z' := fun i => i = p.block) ⟨rfl, rfl, rfl, by simp [World.setCell], fun i hi hn => Below.heap_setCell _ _ _ _ hn⟩ (fun i hi e => by
    subst e
    rcases hp with hp | hp
    · omega
    · exact hp)
theorem Off.below {Z : Nat → Prop} {a b : World} {B : Nat} (h : Off Z a b) (hz : ∀ i, Z i → B ≤ i) (hB : B ≤ a.heap.size) : Below B a b :=
  ⟨h.os, h.tape, h.output, h.size, fun i hi => h.block i (by omega) (fun z => by have := hz i z; omega)⟩
theorem Off.mono {Z Z' : Nat → Prop} {a b : World} (h : Off Z a b) (hz : ∀ i, Z i → Z' i) : Off Z' a b := ⟨h.os, h.tape, h.output, h.size, fun i hi hn => h.block i hi (fun z => hn (hz i z))⟩
theorem Off.of_below {Z : Nat → Prop} {a b : World} (h : Below a.heap.size a b) : Off Z a b := ⟨h.os, h.tape, h.output, h.size, fun i hi _ => h.block i hi⟩
theorem Off.cell {Z : Nat → Prop} {w w' : World} (h : Off Z w w') {p : Addr} (hp : p.block < w.heap.size) (hz : ¬ Z p.block) : w'.cell? p = w.cell? p := World.cell?_of_block (w := w) (h.block p.block hp hz)
theorem Off.frozen {Z : Nat → Prop} {w w' : World} (h : Off Z w w') {p : Addr} (hp : p.block < w.heap.size) (hz : ¬ Z p.block) : w'.frozen? p = w.frozen? p := World.frozen?_of_block (w := w) (h.block p.block hp hz)
theorem grow_below (w : World) (os : Array Obj) : Below w.heap.size w (Go.Sort.grow w os) := by
  refine ⟨rfl, rfl, rfl, by simp [Go.Sort.grow], fun k hk => ?_⟩
  show (w.heap ++ os)[k]? = _
  rw [Array.getElem?_append, if_pos hk]

def Row (k B : Nat) (w : World) (v : Value) (n : Nat) (cs : List Value) : Prop :=
  cs.length = n * k ∧ ((v = .slice none 0 0 ∧ n = 0) ∨ ∃ b cap, v = .slice (some ⟨b, 0, none⟩) n cap ∧ B ≤ b ∧ b < w.heap.size ∧ n ≤ cap ∧ cap ≤ maxLen ∧
    (∀ j, j < cap * k → (w.cell? ⟨b, j, none⟩).isSome = true ∧ w.frozen? ⟨b, j, none⟩ = false) ∧ ∀ j u, cs[j]? = some u → w.cell? ⟨b, j, none⟩ = some u)

theorem Row.nil (k B : Nat) (w : World) : Row k B w (.slice none 0 0) 0 [] := ⟨by simp, .inl ⟨rfl, rfl⟩⟩
theorem Row.carry {k B : Nat} {w w' : World} {v : Value} {n : Nat} {cs : List Value} (h : Row k B w v n cs) (hs : w.heap.size ≤ w'.heap.size) (hb : ∀ b, v.ownBlock = some b → w'.heap[b]? = w.heap[b]?) : Row k B w' v n cs := by
  obtain ⟨h0, h | ⟨b, cap, rfl, h2, h3, h4, h5, h6, h7⟩⟩ := h
  · exact ⟨h0, .inl h⟩
  · have e := hb b rfl
    refine ⟨h0, .inr ⟨b, cap, rfl, h2, by omega, h4, h5, fun j hj => ⟨?_, ?_⟩, fun j u hu => ?_⟩⟩
    · rw [World.cell?_of_block (w := w) (a := ⟨b, j, none⟩) e]; exact (h6 j hj).1
    · rw [World.frozen?_of_block (w := w) (a := ⟨b, j, none⟩) e]; exact (h6 j hj).2
    · rw [World.cell?_of_block (w := w) (a := ⟨b, j, none⟩) e]; exact h7 j u hu
theorem Row.lt {k B : Nat} {w : World} {v : Value} {n : Nat} {cs : List Value} (h : Row k B w v n cs) : ∀ b, v.ownBlock = some b → B ≤ b ∧ b < w.heap.size := by
  intro b hb
  obtain ⟨h0, ⟨rfl, _⟩ | ⟨b', cap, rfl, h2, h3, _⟩⟩ := h
  · simp [Value.ownBlock] at hb
  · have : b' = b := by simpa [Value.ownBlock] using hb
    subst this; exact ⟨h2, h3⟩
theorem Row.below {k B : Nat} {w w' : World} {v : Value} {n : Nat} {cs : List Value} (h : Row k B w v n cs) (hb : Below w.heap.size w w') : Row k B w' v n cs :=
  h.carry hb.size fun b hv => hb.block b (h.lt b hv).2
theorem Row.off {k B : Nat} {Z : Nat → Prop} {w w' : World} {v : Value} {n : Nat} {cs : List Value} (h : Row k B w v n cs) (ho : Off Z w w') (hz : ∀ b, v.ownBlock = some b → ¬ Z b) : Row k B w' v n cs :=
  h.carry ho.size fun b hv => ho.block b (h.lt b hv).2 (hz b hv)
theorem Row.mono {k B B' : Nat} {w : World} {v : Value} {n : Nat} {cs : List Value} (h : Row k B w v n cs) (hb : B' ≤ B) : Row k B' w v n cs := by
  obtain ⟨h0, h | ⟨b, cap, h1, h2, h3⟩⟩ := h
  · exact ⟨h0, .inl h⟩
  · exact ⟨h0, .inr ⟨b, cap, h1, Nat.le_trans hb h2, h3⟩⟩
theorem Row.drewN {k B n d : Nat} {w : World} {v : Value} {cs : List Value} (h : Row k B w v n cs) : Row k B (w.drewN d) v n cs := h
theorem Row.drew {k B n : Nat} {w : World} {v : Value} {cs : List Value} (h : Row k B w v n cs) : Row k B w.drew v n cs := h
theorem Row.alloc {k B n : Nat} {w : World} {v : Value} {cs : List Value} (h : Row k B w v n cs) (o : Obj) : Row k B (w.alloc o) v n cs :=
  h.below ((Below.refl _ _).alloc (Nat.le_refl _) o)
theorem Row.setOther {k B n : Nat} {w : World} {v : Value} {cs : List Value} (h : Row k B w v n cs) {p : Addr} (hp : v.ownBlock ≠ some p.block) (u : Value) : Row k B (w.setCell p u) v n cs :=
  h.carry (by simp [World.setCell]) fun b hb => Below.heap_setCell _ _ _ _ (fun e => hp (by rw [hb, e]))
theorem Row.form {k B n : Nat} {w : World} {v : Value} {cs : List Value} (h : Row k B w v n cs) : ∃ a c, v = .slice a n c := by
  obtain ⟨h0, ⟨rfl, rfl⟩ | ⟨b, cap, h1, _⟩⟩ := h
  · exact ⟨none, 0, rfl⟩
  · exact ⟨_, _, h1⟩
theorem Row.form' {k B n : Nat} {w : World} {v : Value} {cs : List Value} (h : Row k B w v n cs) : ∃ a c, v = .slice a n c ∧ n ≤ c ∧ c ≤ maxLen := by
  obtain ⟨h0, ⟨rfl, rfl⟩ | ⟨b, cap, h1, _, _, h2, h3, _⟩⟩ := h
  · exact ⟨none, 0, rfl, Nat.le_refl _, Nat.zero_le _⟩
  · exact ⟨_, _, h1, h2, h3⟩
theorem Row.pos {k B n : Nat} {w : World} {v : Value} {cs : List Value} (h : Row k B w v n cs) (hp : 0 < n) : ∃ b cap, v = .slice (some ⟨b, 0, none⟩) n cap ∧ B ≤ b ∧ b < w.heap.size ∧ n ≤ cap ∧ cap ≤ maxLen ∧
    (∀ j, j < cap * k → (w.cell? ⟨b, j, none⟩).isSome = true ∧ w.frozen? ⟨b, j, none⟩ = false) ∧ ∀ j u, cs[j]? = some u → w.cell? ⟨b, j, none⟩ = some u := by
  obtain ⟨h0, ⟨rfl, rfl⟩ | h⟩ := h
  · omega
  · exact h

theorem row_new {k B : Nat} {w : World} {e : TypeId} {n : Nat} {cs : List Value} {cap : Nat} {xs : Array Value} {fr : Nat × Nat} (hB : B ≤ w.heap.size) (hl : cs.length = n * k) (hc : n ≤ cap) (hm : cap ≤ maxLen) (hs : cap * k ≤ xs.size) (hf : fr = (0, 0) ∨ cap * k ≤ fr.1) (hx : ∀ (j : Nat) (u : Value), cs[j]? = some u → xs[j]? = some u) :
    Row k B (w.alloc (.cells xs e fr)) (.slice (some ⟨w.heap.size, 0, none⟩) n cap) n cs := by
  have hcell : ∀ j, (w.alloc (.cells xs e fr)).cell? ⟨w.heap.size, j, none⟩ = xs[j]? := fun j => World.cell?_alloc_mark w xs e fr j
  refine ⟨hl, .inr ⟨w.heap.size, cap, rfl, hB, by show _ < (w.heap.push _).size; simp, hc, hm, fun j hj => ⟨?_, ?_⟩, fun j u hu => by rw [hcell]; exact hx j u hu⟩⟩
  · rw [hcell, Array.getElem?_eq_getElem (by omega)]; rfl
  · obtain ⟨lo, hi⟩ := fr
    rw [World.frozen?_alloc_mark]
    rcases hf with h | h
    · simp only [Prod.mk.injEq] at h
      simp [h.2]
    · have : ¬ lo ≤ j := by have : cap * k ≤ lo := h; omega
      simp [this]

theorem heap_setCells (vs : List Value) : ∀ (b o : Nat) (w : World), (w.setCells b o vs).heap.size = w.heap.size ∧ (∀ i, i ≠ b → (w.setCells b o vs).heap[i]? = w.heap[i]?) ∧ (w.setCells b o vs).os = w.os ∧ (w.setCells b o vs).tape = w.tape ∧ (w.setCells b o vs).output = w.output := by
  induction vs with
  | nil => intro b o w; exact ⟨rfl, fun _ _ => rfl, rfl, rfl, rfl⟩
  | cons a r ih =>
    intro b o w
    obtain ⟨h1, h2, h3, h4, h5⟩ := ih b (o + 1) (w.setCell ⟨b, o, none⟩ a)
    rw [World.setCells]
    exact ⟨h1.trans (by simp [World.setCell]), fun i hi => (h2 i hi).trans (Below.heap_setCell _ _ _ _ hi), h3, h4, h5⟩

section
variable {P : Program}

theorem run_append_row {k B : Nat} {w : World} {v : Value} {n : Nat} {cs : List Value} (t tx ty e : TypeId) (z : Value) (bytes : Nat) (ht : P.underlying t = some (.slice e)) (hinfo : (P.info? e).map (fun i => (i.zero, i.size, i.bytes)) = some (some z, k, bytes)) (hzk : z.cells.size = k)
    (h : Row k B w v n cs) (x : Value) (m : Nat) (news : List Value) (hsrc : Src P k tx x m news w) (hB : B ≤ w.heap.size) (hl : n + m ≤ 1099511627776) (hb : bytes ≤ 64) :
    ∃ v' w', (Builtin.append_ #[t, tx] ty #[v, x]).run P w = .ok v' w' ∧ Row k B w' v' (n + m) (cs ++ news) ∧ Off (fun i => v.ownBlock = some i) w w' ∧ (v'.ownBlock = v.ownBlock ∨ v'.ownBlock = some w.heap.size) := by
  obtain ⟨i, hi, hzz⟩ := Option.map_eq_some_iff.1 hinfo
  simp only [Prod.mk.injEq] at hzz
  obtain ⟨hz, hsz, hby⟩ := hzz
  obtain ⟨hlen, h⟩ := h
  have hnl := hsrc.newsLen
  have htot : (cs ++ news).length = (n + m) * k := by rw [List.length_append, hlen, hnl, Nat.add_mul]
  rw [← hsz] at hsrc
  have grow : ∀ (base : Option Addr) (sCap : Nat), (Builtin.firstCells i.size n (.slice base n sCap)).run P w.drew = .ok cs.toArray w.drew → sCap < n + m →
      ∃ v' w', (Builtin.append_ #[t, tx] ty #[.slice base n sCap, x]).run P w = .ok v' w' ∧ Row k B w' v' (n + m) (cs ++ news) ∧ Off (fun i => (Value.slice base n sCap).ownBlock = some i) w w' ∧ (v'.ownBlock = (Value.slice base n sCap).ownBlock ∨ v'.ownBlock = some w.heap.size) := by
    intro base sCap hold hg
    have hfit : Builtin.nextslicecap (n + m) sCap * i.bytes ≤ 281474976710656 := growslice_fits hg (by
      rw [hby]
      have := Nat.mul_le_mul hl hb
      omega)
    have hr := run_append_grow_src (P := P) w t tx ty e i z ht hi hz base n sCap cs hold x m news hsrc hg (by omega) hfit
    have hge := grownCap_ge w (n + m) sCap e
    have hcm : grownCap w (n + m) sCap e ≤ maxLen := grownCap_le_maxLen w _ sCap e (by unfold maxLen; omega)
    refine ⟨_, _, hr, ?_, ?_, .inr rfl⟩
    · refine row_new (w := w.drew) (fr := (0, 0)) hB htot hge hcm ?_ (.inl rfl) (fun j u hu => ?_)
      · rw [Array.size_append, List.size_toArray, htot, size_zeroCells, hzk]
        have := Nat.add_mul (n + m) (grownCap w (n + m) sCap e - (n + m)) k
        rw [Nat.add_sub_cancel' hge] at this
        omega
      · rw [Array.getElem?_append, if_pos (by rw [List.size_toArray]; exact (List.getElem?_eq_some_iff.1 hu).1)]
        simpa using hu
    · exact ((Off.refl _ w).drew).alloc _
  rcases h with ⟨rfl, rfl⟩ | ⟨b, cap, rfl, h2, h3, h4, h5, h6, h7⟩
  · have hcs : cs = [] := List.length_eq_zero_iff.1 (by omega)
    subst hcs
    by_cases hm0 : m = 0
    · subst hm0
      have hnews : news = [] := List.length_eq_zero_iff.1 (by omega)
      subst hnews
      refine ⟨.slice none 0 0, w, ?_, ⟨by simp, .inl ⟨rfl, rfl⟩⟩, Off.refl _ _, .inl rfl⟩
      rcases hsrc.kind with ⟨e', hk⟩ | hk <;> simp [Builtin.append_, run_underlying ht, run_underlying hk, sizeOf, typeInfo, hi, hsrc.len, hsrc.cells]
    · exact grow none 0 (by simpa using run_firstCells_none w.drew i.size 0 0 0) (by omega)
  · by_cases hroom : n + m ≤ cap
    · have hfitk : (n + m) * k ≤ cap * k := Nat.mul_le_mul_right _ hroom
      have hr := run_append_room_src (P := P) w t tx ty e i ht hi b 0 n cap x m news hsrc hroom
        (fun j hj => by rw [hsz, Nat.zero_add]; exact (h6 _ (by rw [hnl] at hj; rw [Nat.add_mul] at hfitk; omega)).1) (fun j hj => by rw [hsz, Nat.zero_add]; exact (h6 _ (by rw [hnl] at hj; rw [Nat.add_mul] at hfitk; omega)).2)
      rw [hsz, Nat.zero_add] at hr
      obtain ⟨g1, g2, g3, g4, g5⟩ := heap_setCells news b (n * k) w
      refine ⟨_, _, hr, ⟨htot, .inr ⟨b, cap, rfl, h2, by rw [g1]; exact h3, hroom, h5, fun j hj => ?_, fun j u hu => ?_⟩⟩, ?_, .inl rfl⟩
      · exact ⟨World.isSome_setCells b news (n * k) w _ (h6 j hj).1, by rw [World.frozen?_setCells]; exact (h6 j hj).2⟩
      · have hjl : j < (cs ++ news).length := (List.getElem?_eq_some_iff.1 hu).1
        rw [htot] at hjl
        by_cases e1 : j < cs.length
        · rw [List.getElem?_append_left e1] at hu
          rw [World.cell?_setCells_out b news (n * k) w ⟨b, j, none⟩ (fun _ _ => .inl (by show j < n * k; omega))]
          exact h7 j u hu
        · rw [List.getElem?_append_right (by omega)] at hu
          have hj2 : j - cs.length < news.length := (List.getElem?_eq_some_iff.1 hu).1
          have hin := World.cell?_setCells_in b news (n * k) w (fun i hi => (h6 _ (by rw [hnl] at hi; rw [Nat.add_mul] at hfitk; omega)).1) (j - cs.length) hj2
          rw [show n * k + (j - cs.length) = j by omega] at hin
          rw [hin, ← hu, List.getElem?_eq_getElem hj2]
      · refine ⟨g3, g4, g5, by rw [g1]; exact Nat.le_refl _, fun i hi hn => g2 i (fun e => hn ?_)⟩
        subst e; rfl
    · refine grow (some ⟨b, 0, none⟩) cap (run_firstCells_some w.drew i.size n ⟨b, 0, none⟩ n cap cs (by rw [hsz]; exact hlen) (fun j u hu => ?_)) (by omega)
      have e2 : (⟨b, 0, none⟩ : Addr).add j = ⟨b, j, none⟩ := by unfold Addr.add; split <;> simp_all
      rw [e2]
      exact h7 j u hu

theorem wp_append_row {w : World} {o : Oper} {a : Act} {K : Act → World → Prop} {Q : Exit → Act → World → Prop} (s x : Operand) (t tx : TypeId)
    (ho : o.op = .call { callee := .builtin .append, args := #[s, x], argTypes := #[t, tx] }) (k : Nat) (e : TypeId) (z : Value) (bytes : Nat) (ht : P.underlying t = some (.slice e)) (hinfo : (P.info? e).map (fun i => (i.zero, i.size, i.bytes)) = some (some z, k, bytes)) (hzk : z.cells.size = k)
    (B : Nat) (v : Value) (n : Nat) (cs : List Value) (hs : a.eval s = v) (h : Row k B w v n cs) (xv : Value) (hx : a.eval x = xv) (m : Nat) (news : List Value) (hsrc : Src P k tx xv m news w)
    (hB : B ≤ w.heap.size) (hl : n + m ≤ 1099511627776) (hb : bytes ≤ 64)
    (hK : ∀ v' w', Row k B w' v' (n + m) (cs ++ news) → Off (fun i => v.ownBlock = some i) w w' → (v'.ownBlock = v.ownBlock ∨ v'.ownBlock = some w.heap.size) → K (a.put o.dst v') w') : o.wp P a w K Q := by
  obtain ⟨v', w', hr, h2, h3, h4⟩ := run_append_row (P := P) t tx o.type e z bytes ht hinfo hzk h xv m news hsrc hB hl hb
  unfold Oper.wp execOp
  simp only [ho, resolve, invoke, builtin, Sem.run_bind, Sem.run_pure, Result.andThen_ok, List.map_toArray, List.map_cons, List.map_nil, hs, hx, hr]
  exact hK v' w' h2 h3 h4

theorem wpList_append_row {w : World} {ops : Array Oper} {rest : List Oper} {o : Oper} {a : Act} {Q : Exit → Act → World → Prop} (hgd : o.guard = none) (s x : Operand) (t tx : TypeId)
    (ho : o.op = .call { callee := .builtin .append, args := #[s, x], argTypes := #[t, tx] }) (k : Nat) (e : TypeId) (z : Value) (bytes : Nat) (ht : P.underlying t = some (.slice e)) (hinfo : (P.info? e).map (fun i => (i.zero, i.size, i.bytes)) = some (some z, k, bytes)) (hzk : z.cells.size = k)
    (B : Nat) (v : Value) (n : Nat) (cs : List Value) (hs : a.eval s = v) (h : Row k B w v n cs) (xv : Value) (hx : a.eval x = xv) (m : Nat) (news : List Value) (hsrc : Src P k tx xv m news w)
    (hB : B ≤ w.heap.size) (hl : n + m ≤ 1099511627776) (hb : bytes ≤ 64)
    (hK : ∀ v' w', Row k B w' v' (n + m) (cs ++ news) → Off (fun i => v.ownBlock = some i) w w' → (v'.ownBlock = v.ownBlock ∨ v'.ownBlock = some w.heap.size) → wpList P ops Q rest (a.put o.dst v') w') : wpList P ops Q (o :: rest) a w :=
  wpList_plain hgd fun _ hk => wp_append_row s x t tx ho k e z bytes ht hinfo hzk B v n cs hs h xv hx m news hsrc hB hl hb fun v' w' h2 h3 h4 => hk _ _ (hK v' w' h2 h3 h4)

end

theorem src_new {P : Program} {w : World} {k : Nat} {t e : TypeId} (ht : P.underlying t = some (.slice e)) (us : List Value) (c : Nat) (t1 : TypeId) (m : Nat) (hl : us.length = m * k) (h1 : ∀ u ∈ us, u.oneCell' = true) :
    Src P k t (.slice (some ⟨w.heap.size, 0, none⟩) m c) m us (w.alloc (.cells us.toArray t1)) :=
  Src.ofSlice _ ht _ m c us hl (fun j u hj => by
    have e2 : (⟨w.heap.size, 0, none⟩ : Addr).add j = ⟨w.heap.size, j, none⟩ := by unfold Addr.add; split <;> simp_all
    rw [e2, World.cell?_alloc_at _ _ _ _ rfl]
    simpa using hj) h1
theorem step_append_row {P : Program} {w : World} {ops : Array Oper} {o : Oper} {a : Act} {K : Act → World → Prop} {Q : Exit → Act → World → Prop} {E : Prop} (hgd : o.guard = none) (s x : Operand) (t tx : TypeId)
    (ho : o.op = .call { callee := .builtin .append, args := #[s, x], argTypes := #[t, tx] }) (k : Nat) (e : TypeId) (z : Value) (bytes : Nat) (ht : P.underlying t = some (.slice e)) (hinfo : (P.info? e).map (fun i => (i.zero, i.size, i.bytes)) = some (some z, k, bytes)) (hzk : z.cells.size = k)
    (B : Nat) (v : Value) (n : Nat) (cs : List Value) (hs : a.eval s = v) (h : Row k B w v n cs) (xv : Value) (hx : a.eval x = xv) (m : Nat) (news : List Value) (hsrc : Src P k tx xv m news w)
    (hB : B ≤ w.heap.size) (hl : n + m ≤ 1099511627776) (hb : bytes ≤ 64)
    (hK : ∀ v' w', Row k B w' v' (n + m) (cs ++ news) → Off (fun i => v.ownBlock = some i) w w' → (v'.ownBlock = v.ownBlock ∨ v'.ownBlock = some w.heap.size) → K (a.put o.dst v') w') :
    if Region.wanted o (yielded ops a.tmps) = true then Oper.wp P o a w K Q else E := by
  have hw : Region.wanted o (yielded ops a.tmps) = true := by simp [Region.wanted, hgd]
  rw [if_pos hw]
  exact wp_append_row s x t tx ho k e z bytes ht hinfo hzk B v n cs hs h xv hx m news hsrc hB hl hb hK
end Go.Proofs.YtojnagonhihknaaGreatDoor
set_option linter.unusedVariables false
namespace Go.Proofs.YtojnagonhihknaaGreatDoor
open Go.ChangeShapes Go.WideShapes Go.ChangeAt Go.RowKit

abbrev Bs := List UInt8
theorem bs_total (a b : Bs) : a ≤ b ∨ b ≤ a := List.le_total a b
theorem bs_trans {a b c : Bs} (h : a ≤ b) (k : b ≤ c) : a ≤ c := List.le_trans h k
theorem bs_antisymm {a b : Bs} (h : a ≤ b) (k : b ≤ a) : a = b := List.le_antisymm h k
theorem bs_lt {a b : Bs} : a < b ↔ a ≤ b ∧ a ≠ b := by
  constructor
  · intro h
    exact ⟨List.le_of_lt h, fun e => by subst e; exact List.lt_irrefl _ h⟩
  · rintro ⟨h, e⟩
    rcases Classical.em (a < b) with k | k
    · exact k
    · exact absurd (bs_antisymm h (List.not_lt.1 k)) e
theorem bs_lt_trans {a b c : Bs} (h : a < b) (k : b < c) : a < c := List.lt_trans h k

def Asc (l : List Bs) : Prop := l.Pairwise (· < ·)
theorem asc_unique : ∀ {l m : List Bs}, Asc l → Asc m → (∀ x, x ∈ l ↔ x ∈ m) → l = m
  | [], [], _, _, _ => rfl
  | [], y :: m, _, _, h => by have := (h y).2 (by simp); cases this
  | x :: l, [], _, _, h => by have := (h x).1 (by simp); cases this
  | x :: l, y :: m, hl, hm, h => by
    have hl' := List.pairwise_cons.1 hl
    have hm' := List.pairwise_cons.1 hm
    have e : x = y := by
      rcases List.mem_cons.1 ((h x).1 (by simp)) with e | hx
      · exact e
      · rcases List.mem_cons.1 ((h y).2 (by simp)) with e | hy
        · exact e.symm
        · exact absurd (bs_lt_trans (hl'.1 y hy) (hm'.1 x hx)) (List.lt_irrefl _)
    subst e
    rw [asc_unique hl'.2 hm'.2 fun z => ?_]
    constructor
    · intro hz
      rcases List.mem_cons.1 ((h z).1 (by simp [hz])) with e | k
      · exact absurd (e ▸ hl'.1 z hz) (List.lt_irrefl _)
      · exact k
    · intro hz
      rcases List.mem_cons.1 ((h z).2 (by simp [hz])) with e | k
      · exact absurd (e ▸ hm'.1 z hz) (List.lt_irrefl _)
      · exact k

theorem eq_nil_or_snoc {α : Type} (l : List α) : l = [] ∨ ∃ ys y, l = ys ++ [y] := by
  rcases List.eq_nil_or_concat l with h | ⟨ys, y, h⟩
  · exact .inl h
  · exact .inr ⟨ys, y, by rw [h, List.concat_eq_append]⟩
theorem keeps_snoc (zs : List Bs) (z : Bs) (j : Nat) (h : j < zs.length) : Lib.keeps (zs ++ [z]).toArray j = Lib.keeps zs.toArray j := by
  unfold Lib.keeps
  rw [getElem!_pos (zs ++ [z]).toArray j (by simp; omega), getElem!_pos zs.toArray j (by simpa using h)]
  rw [getElem!_pos (zs ++ [z]).toArray (j - 1) (by simp; omega), getElem!_pos zs.toArray (j - 1) (by simp; omega)]
  simp only [List.getElem_toArray, List.getElem_append_left h, List.getElem_append_left (show j - 1 < zs.length by omega)]
theorem upTo_snoc (zs : List Bs) (z : Bs) : ∀ m, m ≤ zs.length → Lib.compactUpTo (zs ++ [z]).toArray m = Lib.compactUpTo zs.toArray m
  | 0, _ => rfl
  | m + 1, h => by
    rw [Lib.compactUpTo_succ, Lib.compactUpTo_succ, upTo_snoc zs z m (by omega), keeps_snoc zs z m (by omega)]
    rw [getElem!_pos (zs ++ [z]).toArray m (by simp; omega), getElem!_pos zs.toArray m (by simp; omega)]
    simp only [List.getElem_toArray, List.getElem_append_left (show m < zs.length by omega)]
theorem compact_snoc (zs : List Bs) (z : Bs) : Lib.compact (zs ++ [z]) = Lib.compact zs ++ (if zs.getLast? = some z then [] else [z]) := by
  unfold Lib.compact
  rw [List.length_append, List.length_singleton, Lib.compactUpTo_succ, upTo_snoc zs z _ (Nat.le_refl _)]
  congr 1
  have e : (zs ++ [z]).toArray[zs.length]! = z := by rw [getElem!_pos _ _ (by simp)]; simp
  rw [e]
  rcases eq_nil_or_snoc zs with rfl | ⟨ys, y, rfl⟩
  · simp [Lib.keeps]
  · have e2 : (ys ++ [y] ++ [z]).toArray[(ys ++ [y]).length - 1]! = y := by rw [getElem!_pos _ _ (by simp)]; simp
    have e1 : (ys ++ [y] ++ [z]).toArray[(ys ++ [y]).length]! = z := e
    unfold Lib.keeps
    rw [e1, e2, List.getLast?_concat]
    by_cases k : z = y
    · subst k; simp
    · have k' : ¬ y = z := fun e => k e.symm
      simp [k, k']
theorem compact_sorted (zs : List Bs) (h : zs.Pairwise (· ≤ ·)) : Asc (Lib.compact zs) ∧ ∀ x, x ∈ Lib.compact zs ↔ x ∈ zs := by
  induction hn : zs.length generalizing zs with
  | zero =>
    obtain rfl : zs = [] := List.length_eq_zero_iff.1 hn
    exact ⟨List.Pairwise.nil, fun x => Iff.rfl⟩
  | succ n ih =>
    rcases eq_nil_or_snoc zs with rfl | ⟨ys, y, rfl⟩
    · cases hn
    · have hp := List.pairwise_append.1 h
      have hl : ys.length = n := by simpa using hn
      obtain ⟨ha, hm⟩ := ih ys hp.1 hl
      rw [compact_snoc]
      split
      · rename_i e
        rw [List.append_nil]
        refine ⟨ha, fun x => ?_⟩
        rw [hm, List.mem_append, List.mem_singleton]
        refine ⟨.inl, ?_⟩
        rintro (k | rfl)
        · exact k
        · exact List.mem_of_getLast? e
      · rename_i e
        refine ⟨List.pairwise_append.2 ⟨ha, List.pairwise_singleton _ _, fun a hx b hb => ?_⟩, fun x => ?_⟩
        · rw [List.mem_singleton] at hb
          subst hb
          refine bs_lt.2 ⟨hp.2.2 a ((hm a).1 hx) b (by simp), fun k => ?_⟩
          subst k
          have hx' := (hm a).1 hx
          rcases eq_nil_or_snoc ys with rfl | ⟨ws, v, rfl⟩
          · cases hx'
          · have hv : a ≤ v := by
              rcases List.mem_append.1 hx' with k | k
              · exact (List.pairwise_append.1 hp.1).2.2 a k v (by simp)
              · rw [List.mem_singleton] at k; subst k; exact List.le_refl _
            have hv2 := hp.2.2 v (by simp) a (by simp)
            exact e (by rw [List.getLast?_concat, bs_antisymm hv2 hv])
        · rw [List.mem_append, List.mem_append, hm]

theorem sort_pairwise (l : List Bs) : (l.mergeSort fun x y => decide (x ≤ y)).Pairwise (· ≤ ·) := by
  have h := List.pairwise_mergeSort (le := fun x y : Bs => decide (x ≤ y)) (fun a b c h k => by simp only [decide_eq_true_eq] at *; exact bs_trans h k) (fun a b => by
    rcases bs_total a b with h | h <;> simp [h]) l
  exact h.imp (fun h => by simpa using h)
theorem tx_list (l : List UInt8) : (tx l).data.toList = l := tx_toList l

theorem Holds_of_row {B : Nat} {w : World} {b cap : Nat} {xs : Lb} (h : ∀ j, j < cap * 1 → (w.cell? ⟨b, j, none⟩).isSome = true ∧ w.frozen? ⟨b, j, none⟩ = false) (hc : xs.length ≤ cap) (hx : ∀ j u, (xs.map Value.string)[j]? = some u → w.cell? ⟨b, j, none⟩ = some u) :
    Go.Sort.Holds encStr w b 0 ((xs.map fun s => s.data.toList).toArray) := by
  intro j hj
  rw [List.size_toArray, List.length_map] at hj
  rw [Nat.zero_add]
  refine ⟨?_, (h j (by omega)).2⟩
  rw [hx j (.string xs[j]) (by rw [List.getElem?_map, List.getElem?_eq_getElem hj]; rfl)]
  rw [getElem!_pos _ j (by simpa using hj)]
  simp only [List.getElem_toArray, List.getElem_map]

theorem off_sorted {w : World} {g n : Nat} {os : Array Obj} (d : Array (List UInt8)) : Off (fun i => i = g) w (Go.Sort.grow (Go.Sort.putRow encStr (Go.Sort.ahead w n) g 0 d) os) := by
  have h := Go.grownBy_sorted (w := w) (g := g) (n := n) (os := os) d
  exact ⟨h.os, h.tape, h.output, h.size, fun i hi hn => h.block i hi (fun e => hn (by injection e with e))⟩

theorem holds_sorted {w : World} {b n : Nat} {os : Array Obj} {ss ts : List (List UInt8)} (h : Go.Sort.Holds encStr w b 0 ss.toArray) (hb : b < w.heap.size) (hl : ts.length = ss.length) :
    Go.Sort.Holds encStr (Go.Sort.grow (Go.Sort.putRow encStr (Go.Sort.ahead w n) b 0 ts.toArray) os) b 0 ts.toArray :=
  Go.Sort.holds_grow _ _ _ _ _ _ (by simpa using hb) (Go.Sort.holds_putRow _ _ _ _ _ _ (Go.Sort.holds_ahead _ _ n _ _ _ h) (by simp [hl]))
theorem reads_compact {w : World} {b q cap : Nat} {zs : List (List UInt8)} (h : Go.Sort.Holds encStr w b 0 zs.toArray) (hb : b < w.heap.size) (hc : zs.length ≤ cap) (hm : cap ≤ 9223372036854775807) :
    Reads (Go.Sort.putRow encStr (Go.Sort.ahead w q) b 0 (Lib.compact zs ++ List.replicate (zs.length - (Lib.compact zs).length) []).toArray) (.slice (some ⟨b, 0, none⟩) (Lib.compact zs).length cap) ((Lib.compact zs).map tx) := by
  have hle := Lib.compact_length_le zs
  by_cases e : Lib.compact zs = []
  · rw [e]; exact .inl ⟨rfl, _, _, rfl⟩
  · refine .inr ⟨by simpa using e, b, 0, cap, by rw [List.length_map], by rw [List.length_map]; omega, hm, by simpa using hb, fun j x hx => ?_⟩
    rw [List.getElem?_map] at hx
    obtain ⟨y, hy, rfl⟩ := Option.map_eq_some_iff.1 hx
    have hj := (List.getElem?_eq_some_iff.1 hy).1
    rw [Go.Sort.cell?_putRow encStr (Go.Sort.ahead w q) b 0 zs.toArray _ (Go.Sort.holds_ahead _ _ q _ _ _ h) (by simp; omega) j (by simp; omega)]
    rw [getElem!_pos _ j (by simp; omega)]
    simp only [List.getElem_toArray]
    rw [List.getElem_append_left hj, (List.getElem?_eq_some_iff.1 hy).2]
theorem row_reads {B n : Nat} {w : World} {v : Value} {xs : Lb} (h : Row 1 B w v n (xs.map .string)) : Reads w v xs := by
  obtain ⟨h0, h⟩ := h
  have hn : n = xs.length := by simpa using h0.symm
  subst hn
  rcases h with ⟨rfl, h2⟩ | ⟨b, cap, rfl, h2, h3, h4, h5, h6, h7⟩
  · exact .inl ⟨List.length_eq_zero_iff.1 h2, _, _, rfl⟩
  · by_cases e : xs = []
    · subst e; exact .inl ⟨rfl, _, _, rfl⟩
    · refine .inr ⟨e, b, 0, cap, rfl, h4, by unfold maxLen at h5; omega, h3, fun j x hx => ?_⟩
      rw [Nat.zero_add]
      exact h7 j _ (by rw [List.getElem?_map, hx]; rfl)
end Go.Proofs.YtojnagonhihknaaGreatDoor
