/- 'Outside of the blocks Z nothing has turned'; slices that a call has made, of elements of any number of cells, and append to them out of whatever source. No function of the program is named here. Maps whose keys are pointers: what a look-up and a store leave. Whether two pointers into unlike blocks are one may be asked of the tape: nothing is said of the answer. No function of the program is named here. -/
import Derived.Deep.AppendSrc
import Derived.Deep.MidRow
import Derived.Deep.RegionLaw
import Derived.Laws.IdiomStrings
import Derived.Sort.Grow
import Derived.Maps.Own
import Derived.Maps.OwnOps
import Derived.LaidEql
import Derived.Test.YtojnagonhihknaaGreatDoorV1
set_option linter.unusedVariables false
namespace Go.Proofs.YtojnagonhihknaaGreatDoor
open Go.ChangeShapes Go.WideShapes Go.ChangeAt Go.RowKit

structure Off (Z : Nat → Prop) (w w' : World) : Prop where
  os : w'.os = w.os
  tape : w'.tape = w.tape
  output : w'.output = w.output
  size : w.heap.size ≤ w'.heap.size
  block : ∀ i, i < w.heap.size → ¬ Z i → w'.heap[i]? = w.heap[i]?

theorem Off.refl (Z : Nat → Prop) (w : World) : Off Z w w := ⟨rfl, rfl, rfl, Nat.le_refl _, fun _ _ _ => rfl⟩
theorem Off.trans {Z : Nat → Prop} {a b c : World} (h : Off Z a b) (k : Off Z b c) : Off Z a c :=
  ⟨k.os.trans h.os, k.tape.trans h.tape, k.output.trans h.output, Nat.le_trans h.size k.size, fun i hi hz => (k.block i (Nat.lt_of_lt_of_le hi h.size) hz).trans (h.block i hi hz)⟩
theorem Off.trans' {Z Z' : Nat → Prop} {a b c : World} (h : Off Z a b) (k : Off Z' b c) (hz : ∀ i, i < a.heap.size → Z' i → Z i) : Off Z a c :=
  ⟨k.os.trans h.os, k.tape.trans h.tape, k.output.trans h.output, Nat.le_trans h.size k.size, fun i hi hn => (k.block i (Nat.lt_of_lt_of_le hi h.size) (fun z => hn (hz i hi z))).trans (h.block i hi hn)⟩
theorem Off.drew {Z : Nat → Prop} {a b : World} (h : Off Z a b) : Off Z a b.drew := ⟨h.os, h.tape, h.output, h.size, h.block⟩
theorem Off.drewN {Z : Nat → Prop} {a b : World} {n : Nat} (h : Off Z a b) : Off Z a (b.drewN n) := ⟨h.os, h.tape, h.output, h.size, h.block⟩
theorem Off.alloc {Z : Nat → Prop} {a b : World} (h : Off Z a b) (o : Obj) : Off Z a (b.alloc o) :=
  h.trans ⟨rfl, rfl, rfl, by simp, fun i hi _ => Below.heap_alloc _ _ _ hi⟩
theorem Off.setCell {Z : Nat → Prop} {a b : World} (h : Off Z a b) {p : Addr} (hp : a.heap.size ≤ p.block ∨ Z p.block) (u : Value) : Off Z a (b.setCell p u) :=
  h.trans' (Z' := fun i => i = p.block) ⟨rfl, rfl, rfl, by simp [World.setCell], fun i hi hn => Below.heap_setCell _ _ _ _ hn⟩ (fun i hi e => by
    subst e
    rcases hp with hp | hp
    · omega
    · exact hp)
theorem Off.below {Z : Nat → Prop} {a b : World} {B : Nat} (h : Off Z a b) (hz : ∀ i, Z i → B ≤ i) (hB : B ≤ a.heap.size) : Below B a b :=
  ⟨h.os, h.tape, h.output, h.size, fun i hi => h.block i (by omega) (fun z => by have := hz i z; omega)⟩
theorem Off.mono {Z Z' : Nat → Prop} {a b : World} (h : Off Z a b) (hz : ∀ i, Z i → Z' i) : Off Z' a b := ⟨h.os, h.tape, h.output, h.size, fun i hi hn => h.block i hi (fun z => hn (hz i z))⟩
theorem Off.of_below {Z : Nat → Prop} {a b : World} (h : Below a.heap.size a b) : Off Z a b := ⟨h.os, h.tape, h.output, h.size, fun i hi _ => h.block i hi⟩
theorem Off.cell {Z : Nat → Prop} {w w' : World} (h : Off Z w w') {p : Addr} (hp : p.block < w.heap.size) (hz : ¬ Z p.block) : w'.cell? p = w.cell? p := World.cell?_of_block (w := w) (h.block p.block hp hz)
theorem Off.frozen {Z : Nat → Prop} {w w' : World} (h : Off Z w w') {p : Addr} (hp : p.block < w.heap.size) (hz : ¬ Z p.block) : w'.frozen? p = w.frozen? p := World.frozen?_of_block (w := w) (h.block p.block hp hz)
theorem grow_below (w : World) (os : Array Obj) : Below w.heap.size w (Go.Sort.grow w os) := by
  refine ⟨rfl, rfl, rfl, by simp [Go.Sort.grow], fun k hk => ?_⟩
  show (w.heap ++ os)[k]? = _
  rw [Array.getElem?_append, if_pos hk]

def Row (k B : Nat) (w : World) (v : Value) (n : Nat) (cs : List Value) : Prop :=
  cs.length = n * k ∧ ((v = .slice none 0 0 ∧ n = 0) ∨ ∃ b cap, v = .slice (some ⟨b, 0, none⟩) n cap ∧ B ≤ b ∧ b < w.heap.size ∧ n ≤ cap ∧ cap ≤ maxLen ∧
    (∀ j, j < cap * k → (w.cell? ⟨b, j, none⟩).isSome = true ∧ w.frozen? ⟨b, j, none⟩ = false) ∧ ∀ j u, cs[j]? = some u → w.cell? ⟨b, j, none⟩ = some u)

theorem Row.nil (k B : Nat) (w : World) : Row k B w (.slice none 0 0) 0 [] := ⟨by simp, .inl ⟨rfl, rfl⟩⟩
theorem Row.carry {k B : Nat} {w w' : World} {v : Value} {n : Nat} {cs : List Value} (h : Row k B w v n cs) (hs : w.heap.size ≤ w'.heap.size) (hb : ∀ b, v.ownBlock = some b → w'.heap[b]? = w.heap[b]?) : Row k B w' v n cs := by
  obtain ⟨h0, h | ⟨b, cap, rfl, h2, h3, h4, h5, h6, h7⟩⟩ := h
  · exact ⟨h0, .inl h⟩
  · have e := hb b rfl
    refine ⟨h0, .inr ⟨b, cap, rfl, h2, by omega, h4, h5, fun j hj => ⟨?_, ?_⟩, fun j u hu => ?_⟩⟩
    · rw [World.cell?_of_block (w := w) (a := ⟨b, j, none⟩) e]; exact (h6 j hj).1
    · rw [World.frozen?_of_block (w := w) (a := ⟨b, j, none⟩) e]; exact (h6 j hj).2
    · rw [World.cell?_of_block (w := w) (a := ⟨b, j, none⟩) e]; exact h7 j u hu
theorem Row.lt {k B : Nat} {w : World} {v : Value} {n : Nat} {cs : List Value} (h : Row k B w v n cs) : ∀ b, v.ownBlock = some b → B ≤ b ∧ b < w.heap.size := by
  intro b hb
  obtain ⟨h0, ⟨rfl, _⟩ | ⟨b', cap, rfl, h2, h3, _⟩⟩ := h
  · simp [Value.ownBlock] at hb
  · have : b' = b := by simpa [Value.ownBlock] using hb
    subst this; exact ⟨h2, h3⟩
theorem Row.below {k B : Nat} {w w' : World} {v : Value} {n : Nat} {cs : List Value} (h : Row k B w v n cs) (hb : Below w.heap.size w w') : Row k B w' v n cs :=
  h.carry hb.size fun b hv => hb.block b (h.lt b hv).2
theorem Row.off {k B : Nat} {Z : Nat → Prop} {w w' : World} {v : Value} {n : Nat} {cs : List Value} (h : Row k B w v n cs) (ho : Off Z w w') (hz : ∀ b, v.ownBlock = some b → ¬ Z b) : Row k B w' v n cs :=
  h.carry ho.size fun b hv => ho.block b (h.lt b hv).2 (hz b hv)
theorem Row.mono {k B B' : Nat} {w : World} {v : Value} {n : Nat} {cs : List Value} (h : Row k B w v n cs) (hb : B' ≤ B) : Row k B' w v n cs := by
  obtain ⟨h0, h | ⟨b, cap, h1, h2, h3⟩⟩ := h
  · exact ⟨h0, .inl h⟩
  · exact ⟨h0, .inr ⟨b, cap, h1, Nat.le_trans hb h2, h3⟩⟩
theorem Row.drewN {k B n d : Nat} {w : World} {v : Value} {cs : List Value} (h : Row k B w v n cs) : Row k B (w.drewN d) v n cs := h
theorem Row.drew {k B n : Nat} {w : World} {v : Value} {cs : List Value} (h : Row k B w v n cs) : Row k B w.drew v n cs := h
theorem Row.alloc {k B n : Nat} {w : World} {v : Value} {cs : List Value} (h : Row k B w v n cs) (o : Obj) : Row k B (w.alloc o) v n cs :=
  h.below ((Below.refl _ _).alloc (Nat.le_refl _) o)
theorem Row.setOther {k B n : Nat} {w : World} {v : Value} {cs : List Value} (h : Row k B w v n cs) {p : Addr} (hp : v.ownBlock ≠ some p.block) (u : Value) : Row k B (w.setCell p u) v n cs :=
  h.carry (by simp [World.setCell]) fun b hb => Below.heap_setCell _ _ _ _ (fun e => hp (by rw [hb, e]))
theorem Row.form {k B n : Nat} {w : World} {v : Value} {cs : List Value} (h : Row k B w v n cs) : ∃ a c, v = .slice a n c := by
  obtain ⟨h0, ⟨rfl, rfl⟩ | ⟨b, cap, h1, _⟩⟩ := h
  · exact ⟨none, 0, rfl⟩
  · exact ⟨_, _, h1⟩
theorem Row.form' {k B n : Nat} {w : World} {v : Value} {cs : List Value} (h : Row k B w v n cs) : ∃ a c, v = .slice a n c ∧ n ≤ c ∧ c ≤ maxLen := by
  obtain ⟨h0, ⟨rfl, rfl⟩ | ⟨b, cap, h1, _, _, h2, h3, _⟩⟩ := h
  · exact ⟨none, 0, rfl, Nat.le_refl _, Nat.zero_le _⟩
  · exact ⟨_, _, h1, h2, h3⟩
theorem Row.pos {k B n : Nat} {w : World} {v : Value} {cs : List Value} (h : Row k B w v n cs) (hp : 0 < n) : ∃ b cap, v = .slice (some ⟨b, 0, none⟩) n cap ∧ B ≤ b ∧ b < w.heap.size ∧ n ≤ cap ∧ cap ≤ maxLen ∧
    (∀ j, j < cap * k → (w.cell? ⟨b, j, none⟩).isSome = true ∧ w.frozen? ⟨b, j, none⟩ = false) ∧ ∀ j u, cs[j]? = some u → w.cell? ⟨b, j, none⟩ = some u := by
  obtain ⟨h0, ⟨rfl, rfl⟩ | h⟩ := h
  · omega
  · exact h

theorem row_new {k B : Nat} {w : World} {e : TypeId} {n : Nat} {cs : List Value} {cap : Nat} {xs : Array Value} {fr : Nat × Nat} (hB : B ≤ w.heap.size) (hl : cs.length = n * k) (hc : n ≤ cap) (hm : cap ≤ maxLen) (hs : cap * k ≤ xs.size) (hf : fr = (0, 0) ∨ cap * k ≤ fr.1) (hx : ∀ (j : Nat) (u : Value), cs[j]? = some u → xs[j]? = some u) :
    Row k B (w.alloc (.cells xs e fr)) (.slice (some ⟨w.heap.size, 0, none⟩) n cap) n cs := by
  have hcell : ∀ j, (w.alloc (.cells xs e fr)).cell? ⟨w.heap.size, j, none⟩ = xs[j]? := fun j => World.cell?_alloc_mark w xs e fr j
  refine ⟨hl, .inr ⟨w.heap.size, cap, rfl, hB, by show _ < (w.heap.push _).size; simp, hc, hm, fun j hj => ⟨?_, ?_⟩, fun j u hu => by rw [hcell]; exact hx j u hu⟩⟩
  · rw [hcell, Array.getElem?_eq_getElem (by omega)]; rfl
  · obtain ⟨lo, hi⟩ := fr
    rw [World.frozen?_alloc_mark]
    rcases hf with h | h
    · simp only [Prod.mk.injEq] at h
      simp [h.2]
    · have : ¬ lo ≤ j := by have : cap * k ≤ lo := h; omega
      simp [this]

theorem heap_setCells (vs : List Value) : ∀ (b o : Nat) (w : World), (w.setCells b o vs).heap.size = w.heap.size ∧ (∀ i, i ≠ b → (w.setCells b o vs).heap[i]? = w.heap[i]?) ∧ (w.setCells b o vs).os = w.os ∧ (w.setCells b o vs).tape = w.tape ∧ (w.setCells b o vs).output = w.output := by
  induction vs with
  | nil => intro b o w; exact ⟨rfl, fun _ _ => rfl, rfl, rfl, rfl⟩
  | cons a r ih =>
    intro b o w
    obtain ⟨h1, h2, h3, h4, h5⟩ := ih b (o + 1) (w.setCell ⟨b, o, none⟩ a)
    rw [World.setCells]
    exact ⟨h1.trans (by simp [World.setCell]), fun i hi => (h2 i hi).trans (Below.heap_setCell _ _ _ _ hi), h3, h4, h5⟩

section
variable {P : Program}

theorem run_append_row {k B : Nat} {w : World} {v : Value} {n : Nat} {cs : List Value} (t tx ty e : TypeId) (z : Value) (bytes : Nat) (ht : P.underlying t = some (.slice e)) (hinfo : (P.info? e).map (fun i => (i.zero, i.size, i.bytes)) = some (some z, k, bytes)) (hzk : z.cells.size = k)
    (h : Row k B w v n cs) (x : Value) (m : Nat) (news : List Value) (hsrc : Src P k tx x m news w) (hB : B ≤ w.heap.size) (hl : n + m ≤ 1099511627776) (hb : bytes ≤ 64) :
    ∃ v' w', (Builtin.append_ #[t, tx] ty #[v, x]).run P w = .ok v' w' ∧ Row k B w' v' (n + m) (cs ++ news) ∧ Off (fun i => v.ownBlock = some i) w w' ∧ (v'.ownBlock = v.ownBlock ∨ v'.ownBlock = some w.heap.size) := by
  obtain ⟨i, hi, hzz⟩ := Option.map_eq_some_iff.1 hinfo
  simp only [Prod.mk.injEq] at hzz
  obtain ⟨hz, hsz, hby⟩ := hzz
  obtain ⟨hlen, h⟩ := h
  have hnl := hsrc.newsLen
  have htot : (cs ++ news).length = (n + m) * k := by rw [List.length_append, hlen, hnl, Nat.add_mul]
  rw [← hsz] at hsrc
  have grow : ∀ (base : Option Addr) (sCap : Nat), (Builtin.firstCells i.size n (.slice base n sCap)).run P w.drew = .ok cs.toArray w.drew → sCap < n + m →
      ∃ v' w', (Builtin.append_ #[t, tx] ty #[.slice base n sCap, x]).run P w = .ok v' w' ∧ Row k B w' v' (n + m) (cs ++ news) ∧ Off (fun i => (Value.slice base n sCap).ownBlock = some i) w w' ∧ (v'.ownBlock = (Value.slice base n sCap).ownBlock ∨ v'.ownBlock = some w.heap.size) := by
    intro base sCap hold hg
    have hfit : Builtin.nextslicecap (n + m) sCap * i.bytes ≤ 281474976710656 := growslice_fits hg (by
      rw [hby]
      have := Nat.mul_le_mul hl hb
      omega)
    have hr := run_append_grow_src (P := P) w t tx ty e i z ht hi hz base n sCap cs hold x m news hsrc hg (by omega) hfit
    have hge := grownCap_ge w (n + m) sCap e
    have hcm : grownCap w (n + m) sCap e ≤ maxLen := grownCap_le_maxLen w _ sCap e (by unfold maxLen; omega)
    refine ⟨_, _, hr, ?_, ?_, .inr rfl⟩
    · refine row_new (w := w.drew) (fr := (0, 0)) hB htot hge hcm ?_ (.inl rfl) (fun j u hu => ?_)
      · rw [Array.size_append, List.size_toArray, htot, size_zeroCells, hzk]
        have := Nat.add_mul (n + m) (grownCap w (n + m) sCap e - (n + m)) k
        rw [Nat.add_sub_cancel' hge] at this
        omega
      · rw [Array.getElem?_append, if_pos (by rw [List.size_toArray]; exact (List.getElem?_eq_some_iff.1 hu).1)]
        simpa using hu
    · exact ((Off.refl _ w).drew).alloc _
  rcases h with ⟨rfl, rfl⟩ | ⟨b, cap, rfl, h2, h3, h4, h5, h6, h7⟩
  · have hcs : cs = [] := List.length_eq_zero_iff.1 (by omega)
    subst hcs
    by_cases hm0 : m = 0
    · subst hm0
      have hnews : news = [] := List.length_eq_zero_iff.1 (by omega)
      subst hnews
      refine ⟨.slice none 0 0, w, ?_, ⟨by simp, .inl ⟨rfl, rfl⟩⟩, Off.refl _ _, .inl rfl⟩
      rcases hsrc.kind with ⟨e', hk⟩ | hk <;> simp [Builtin.append_, run_underlying ht, run_underlying hk, sizeOf, typeInfo, hi, hsrc.len, hsrc.cells]
    · exact grow none 0 (by simpa using run_firstCells_none w.drew i.size 0 0 0) (by omega)
  · by_cases hroom : n + m ≤ cap
    · have hfitk : (n + m) * k ≤ cap * k := Nat.mul_le_mul_right _ hroom
      have hr := run_append_room_src (P := P) w t tx ty e i ht hi b 0 n cap x m news hsrc hroom
        (fun j hj => by rw [hsz, Nat.zero_add]; exact (h6 _ (by rw [hnl] at hj; rw [Nat.add_mul] at hfitk; omega)).1) (fun j hj => by rw [hsz, Nat.zero_add]; exact (h6 _ (by rw [hnl] at hj; rw [Nat.add_mul] at hfitk; omega)).2)
      rw [hsz, Nat.zero_add] at hr
      obtain ⟨g1, g2, g3, g4, g5⟩ := heap_setCells news b (n * k) w
      refine ⟨_, _, hr, ⟨htot, .inr ⟨b, cap, rfl, h2, by rw [g1]; exact h3, hroom, h5, fun j hj => ?_, fun j u hu => ?_⟩⟩, ?_, .inl rfl⟩
      · exact ⟨World.isSome_setCells b news (n * k) w _ (h6 j hj).1, by rw [World.frozen?_setCells]; exact (h6 j hj).2⟩
      · have hjl : j < (cs ++ news).length := (List.getElem?_eq_some_iff.1 hu).1
        rw [htot] at hjl
        by_cases e1 : j < cs.length
        · rw [List.getElem?_append_left e1] at hu
          rw [World.cell?_setCells_out b news (n * k) w ⟨b, j, none⟩ (fun _ _ => .inl (by show j < n * k; omega))]
          exact h7 j u hu
        · rw [List.getElem?_append_right (by omega)] at hu
          have hj2 : j - cs.length < news.length := (List.getElem?_eq_some_iff.1 hu).1
          have hin := World.cell?_setCells_in b news (n * k) w (fun i hi => (h6 _ (by rw [hnl] at hi; rw [Nat.add_mul] at hfitk; omega)).1) (j - cs.length) hj2
          rw [show n * k + (j - cs.length) = j by omega] at hin
          rw [hin, ← hu, List.getElem?_eq_getElem hj2]
      · refine ⟨g3, g4, g5, by rw [g1]; exact Nat.le_refl _, fun i hi hn => g2 i (fun e => hn ?_)⟩
        subst e; rfl
    · refine grow (some ⟨b, 0, none⟩) cap (run_firstCells_some w.drew i.size n ⟨b, 0, none⟩ n cap cs (by rw [hsz]; exact hlen) (fun j u hu => ?_)) (by omega)
      have e2 : (⟨b, 0, none⟩ : Addr).add j = ⟨b, j, none⟩ := by unfold Addr.add; split <;> simp_all
      rw [e2]
      exact h7 j u hu

theorem wp_append_row {w : World} {o : Oper} {a : Act} {K : Act → World → Prop} {Q : Exit → Act → World → Prop} (s x : Operand) (t tx : TypeId)
    (ho : o.op = .call { callee := .builtin .append, args := #[s, x], argTypes := #[t, tx] }) (k : Nat) (e : TypeId) (z : Value) (bytes : Nat) (ht : P.underlying t = some (.slice e)) (hinfo : (P.info? e).map (fun i => (i.zero, i.size, i.bytes)) = some (some z, k, bytes)) (hzk : z.cells.size = k)
    (B : Nat) (v : Value) (n : Nat) (cs : List Value) (hs : a.eval s = v) (h : Row k B w v n cs) (xv : Value) (hx : a.eval x = xv) (m : Nat) (news : List Value) (hsrc : Src P k tx xv m news w)
    (hB : B ≤ w.heap.size) (hl : n + m ≤ 1099511627776) (hb : bytes ≤ 64)
    (hK : ∀ v' w', Row k B w' v' (n + m) (cs ++ news) → Off (fun i => v.ownBlock = some i) w w' → (v'.ownBlock = v.ownBlock ∨ v'.ownBlock = some w.heap.size) → K (a.put o.dst v') w') : o.wp P a w K Q := by
  obtain ⟨v', w', hr, h2, h3, h4⟩ := run_append_row (P := P) t tx o.type e z bytes ht hinfo hzk h xv m news hsrc hB hl hb
  unfold Oper.wp execOp
  simp only [ho, resolve, invoke, builtin, Sem.run_bind, Sem.run_pure, Result.andThen_ok, List.map_toArray, List.map_cons, List.map_nil, hs, hx, hr]
  exact hK v' w' h2 h3 h4

theorem wpList_append_row {w : World} {ops : Array Oper} {rest : List Oper} {o : Oper} {a : Act} {Q : Exit → Act → World → Prop} (hgd : o.guard = none) (s x : Operand) (t tx : TypeId)
    (ho : o.op = .call { callee := .builtin .append, args := #[s, x], argTypes := #[t, tx] }) (k : Nat) (e : TypeId) (z : Value) (bytes : Nat) (ht : P.underlying t = some (.slice e)) (hinfo : (P.info? e).map (fun i => (i.zero, i.size, i.bytes)) = some (some z, k, bytes)) (hzk : z.cells.size = k)
    (B : Nat) (v : Value) (n : Nat) (cs : List Value) (hs : a.eval s = v) (h : Row k B w v n cs) (xv : Value) (hx : a.eval x = xv) (m : Nat) (news : List Value) (hsrc : Src P k tx xv m news w)
    (hB : B ≤ w.heap.size) (hl : n + m ≤ 1099511627776) (hb : bytes ≤ 64)
    (hK : ∀ v' w', Row k B w' v' (n + m) (cs ++ news) → Off (fun i => v.ownBlock = some i) w w' → (v'.ownBlock = v.ownBlock ∨ v'.ownBlock = some w.heap.size) → wpList P ops Q rest (a.put o.dst v') w') : wpList P ops Q (o :: rest) a w :=
  wpList_plain hgd fun _ hk => wp_append_row s x t tx ho k e z bytes ht hinfo hzk B v n cs hs h xv hx m news hsrc hB hl hb fun v' w' h2 h3 h4 => hk _ _ (hK v' w' h2 h3 h4)

end

theorem src_new {P : Program} {w : World} {k : Nat} {t e : TypeId} (ht : P.underlying t = some (.slice e)) (us : List Value) (c : Nat) (t1 : TypeId) (m : Nat) (hl : us.length = m * k) (h1 : ∀ u ∈ us, u.oneCell' = true) :
    Src P k t (.slice (some ⟨w.heap.size, 0, none⟩) m c) m us (w.alloc (.cells us.toArray t1)) :=
  Src.ofSlice _ ht _ m c us hl (fun j u hj => by
    have e2 : (⟨w.heap.size, 0, none⟩ : Addr).add j = ⟨w.heap.size, j, none⟩ := by unfold Addr.add; split <;> simp_all
    rw [e2, World.cell?_alloc_at _ _ _ _ rfl]
    simpa using hj) h1
theorem step_append_row {P : Program} {w : World} {ops : Array Oper} {o : Oper} {a : Act} {K : Act → World → Prop} {Q : Exit → Act → World → Prop} {E : Prop} (hgd : o.guard = none) (s x : Operand) (t tx : TypeId)
    (ho : o.op = .call { callee := .builtin .append, args := #[s, x], argTypes := #[t, tx] }) (k : Nat) (e : TypeId) (z : Value) (bytes : Nat) (ht : P.underlying t = some (.slice e)) (hinfo : (P.info? e).map (fun i => (i.zero, i.size, i.bytes)) = some (some z, k, bytes)) (hzk : z.cells.size = k)
    (B : Nat) (v : Value) (n : Nat) (cs : List Value) (hs : a.eval s = v) (h : Row k B w v n cs) (xv : Value) (hx : a.eval x = xv) (m : Nat) (news : List Value) (hsrc : Src P k tx xv m news w)
    (hB : B ≤ w.heap.size) (hl : n + m ≤ 1099511627776) (hb : bytes ≤ 64)
    (hK : ∀ v' w', Row k B w' v' (n + m) (cs ++ news) → Off (fun i => v.ownBlock = some i) w w' → (v'.ownBlock = v.ownBlock ∨ v'.ownBlock = some w.heap.size) → K (a.put o.dst v') w') :
    if Region.wanted o (yielded ops a.tmps) = true then Oper.wp P o a w K Q else E := by
  have hw : Region.wanted o (yielded ops a.tmps) = true := by simp [Region.wanted, hgd]
  rw [if_pos hw]
  exact wp_append_row s x t tx ho k e z bytes ht hinfo hzk B v n cs hs h xv hx m news hsrc hB hl hb hK
end Go.Proofs.YtojnagonhihknaaGreatDoor
set_option linter.unusedVariables false
namespace Go.Proofs.YtojnagonhihknaaGreatDoor
open Go.ChangeShapes Go.WideShapes Go.ChangeAt Go.RowKit

section
variable {P : Program}

theorem run_stringish (w : World) (a : Addr) : ∃ m : Bool, (stringish a).run P w = .ok m w := by
  unfold stringish
  cases hf : w.frozen? a with
  | true => exact ⟨true, by simp [hf]⟩
  | false =>
    cases hs : w.shape? a.block with
    | none => exact ⟨false, by simp [hf, hs]⟩
    | some x =>
      obtain ⟨t, n⟩ := x
      exact ⟨w.frozen? { block := a.block, off := n }, by simp [hf, hs]⟩

theorem run_mayBeOne (w : World) (a b : Addr) : ∃ m : Bool, (mayBeOne a b).run P w = .ok m w := by
  obtain ⟨x, hx⟩ := run_stringish (P := P) w a
  obtain ⟨y, hy⟩ := run_stringish (P := P) w b
  unfold mayBeOne
  exact ⟨_, by simp only [Sem.run_bind, hx, hy, Result.andThen_ok, run_shape, Sem.run_pure]; rfl⟩

theorem run_sameAddr_some (w : World) (a b : Addr) (ha : w.frozen? a = false) (sa : (w.shape? a.block).isSome = true) (sb : (w.shape? b.block).isSome = true) : ∃ (r : Bool) (n : Nat), (sameAddr a b).run P w = .ok r (w.drewN n) := by
  have h0 : w.drewN 0 = w := rfl
  cases hb : a.block == b.block with
  | true => exact ⟨a == b, 0, by simp [sameAddr, hb, h0]⟩
  | false =>
    obtain ⟨m, hm⟩ := run_mayBeOne (P := P) w a b
    have va : (viewAt a.block).run P w = .ok none w := by simp [viewAt, sa]
    have vb : (viewAt b.block).run P w = .ok none w := by simp [viewAt, sb]
    cases m with
    | false => exact ⟨false, 0, by simp [sameAddr, hb, ha, noView, va, vb, hm, h0]⟩
    | true =>
      have hd : w.drewN 1 = w.drew := rfl
      cases hq : (Question.extern "sameAddr.stringBytes" 2).forced with
      | true => exact ⟨_, 0, by simp [sameAddr, hb, ha, noView, va, vb, hm, h0, hq]; rfl⟩
      | false => exact ⟨_, 1, by simp [sameAddr, hb, ha, noView, va, vb, hm, hd, hq]; rfl⟩

theorem run_equal_ptr (w : World) {k e : TypeId} {i : TypeInfo} (hk : P.underlying k = some (.pointer e)) (he : P.info? e = some i) (hz : P.cellsOf e ≠ 0) (a b : Addr) (ha : w.frozen? a = false) (sa : (w.shape? a.block).isSome = true) (sb : (w.shape? b.block).isSome = true) :
    ∃ (r : Bool) (n : Nat), (Op.equal k (.pointer (some a)) (.pointer (some b))).run P w = .ok r (w.drewN n) := by
  obtain ⟨r, n, h⟩ := run_sameAddr_some (P := P) w a b ha sa sb
  refine ⟨r, n, ?_⟩
  show (Op.equalIn (9999 + 1) k _ _).run P w = _
  rw [Op.equalIn]
  simp only [Sem.run_bind, run_underlying hk, Result.andThen_ok, run_sizeOf w he]
  simp [hz, h]

def PtrE (w : World) (V : Value → Prop) (e : MapEntry) : Prop := (∃ a : Addr, e.key = .pointer (some a) ∧ (w.shape? a.block).isSome = true) ∧ V e.val

theorem run_findAsking_ptr {k e : TypeId} {i : TypeInfo} (hk : P.underlying k = some (.pointer e)) (he : P.info? e = some i) (hz : P.cellsOf e ≠ 0) (a : Addr) (V : Value → Prop) : ∀ (es : List MapEntry) (j : Nat) (w : World), w.frozen? a = false → (w.shape? a.block).isSome = true → (∀ x ∈ es, PtrE w V x) →
    ∃ (r : Option (Nat × Value)) (n : Nat), (Instr.findAsking k (.pointer (some a)) es j).run P w = .ok r (w.drewN n) ∧ ∀ q v, r = some (q, v) → V v
  | [], j, w, _, _, _ => ⟨none, 0, by simp [Instr.findAsking, World.drewN], fun _ _ h => by cases h⟩
  | x :: es, j, w, ha, sa, hall => by
    obtain ⟨⟨b, hb, sb⟩, hv⟩ := hall x (by simp)
    obtain ⟨r, n, hr⟩ := run_equal_ptr (P := P) w hk he hz a b ha sa sb
    cases r with
    | true => exact ⟨some (j, x.val), n, by simp [Instr.findAsking, hb, hr], fun q v h => by cases h; exact hv⟩
    | false =>
      obtain ⟨r2, n2, h2, h3⟩ := run_findAsking_ptr hk he hz a V es (j + 1) (w.drewN n) ha sa (fun y hy => hall y (by simp [hy]))
      exact ⟨r2, n + n2, by simp [Instr.findAsking, hb, hr, h2], h3⟩

theorem run_findKey_ptr {k e : TypeId} {i : TypeInfo} (hk : P.underlying k = some (.pointer e)) (he : P.info? e = some i) (hz : P.cellsOf e ≠ 0) (a : Addr) (V : Value → Prop) (es : List MapEntry) (w : World) (ha : w.frozen? a = false) (sa : (w.shape? a.block).isSome = true) (hall : ∀ x ∈ es, PtrE w V x) :
    ∃ (r : Option (Nat × Value)) (n : Nat), (Instr.findKey k (.pointer (some a)) es).run P w = .ok r (w.drewN n) ∧ ∀ q v, r = some (q, v) → V v := by
  cases es with
  | nil => exact ⟨none, 0, by simp [Instr.findKey, run_underlying hk, Instr.findNow, World.drewN], fun _ _ h => by cases h⟩
  | cons x es =>
    obtain ⟨r, n, h, hv⟩ := run_findAsking_ptr hk he hz a V (x :: es) 0 w ha sa hall
    exact ⟨r, n, by simp [Instr.findKey, run_underlying hk, Instr.findNow, Instr.sameNow, h], hv⟩

theorem run_checkKey_ptr {k e : TypeId} (hk : P.underlying k = some (.pointer e)) (em : Bool) (v : Value) (w : World) : (Instr.checkKey em 10000 k v).run P w = .ok () w := by
  show (Instr.checkKey em (9999 + 1) k v).run P w = _
  rw [Instr.checkKey]
  simp only [Sem.run_bind, run_underlying hk, Result.andThen_ok]
  simp

def PMap (w : World) (V : Value → Prop) (B m : Nat) : Prop := ∃ es clock, w.heap[m]? = some (.map es clock) ∧ ∀ x ∈ es.toList, (∃ a : Addr, x.key = .pointer (some a) ∧ a.block < B ∧ (w.shape? a.block).isSome = true) ∧ V x.val

theorem PMap.lt {w : World} {V : Value → Prop} {B m : Nat} (h : PMap w V B m) : m < w.heap.size := by
  obtain ⟨es, clock, h1, _⟩ := h
  rcases Nat.lt_or_ge m w.heap.size with h | h
  · exact h
  · rw [Array.getElem?_eq_none h] at h1; cases h1
theorem shape_of_block {w w' : World} {b : Nat} (h : w'.heap[b]? = w.heap[b]?) : w'.shape? b = w.shape? b := by unfold World.shape?; rw [h]
theorem PMap.carry {w w' : World} {V : Value → Prop} {B m : Nat} (h : PMap w V B m) (hm : w'.heap[m]? = w.heap[m]?) (hb : ∀ i, i < B → w'.heap[i]? = w.heap[i]?) : PMap w' V B m := by
  obtain ⟨es, clock, h1, h2⟩ := h
  refine ⟨es, clock, hm.trans h1, fun x hx => ?_⟩
  obtain ⟨⟨a, e, ha, hs⟩, hv⟩ := h2 x hx
  exact ⟨⟨a, e, ha, by rw [shape_of_block (hb _ ha)]; exact hs⟩, hv⟩

theorem run_lookup_ptr {t k e E : TypeId} {i : TypeInfo} (ht : P.underlying t = some (.map k E)) (hk : P.underlying k = some (.pointer e)) (he : P.info? e = some i) (hz : P.cellsOf e ≠ 0) {z : Value} {w : World} (hzero : ∀ w : World, (zeroValue E).run P w = .ok z w) {V : Value → Prop} (hVz : V z) {B m : Nat} (h : PMap w V B m)
    {a : Addr} (ha : w.frozen? a = false) (sa : (w.shape? a.block).isSome = true) : ∃ (v : Value) (n : Nat), (Instr.lookup t (.map (some m)) (.pointer (some a)) false).run P w = .ok v (w.drewN n) ∧ V v := by
  obtain ⟨es, clock, h1, h2⟩ := h
  obtain ⟨r, n, hr, hv⟩ := run_findKey_ptr hk he hz a V es.toList w ha sa (fun x hx => by
    obtain ⟨⟨b, e1, _, e2⟩, e3⟩ := h2 x hx
    exact ⟨⟨b, e1, e2⟩, e3⟩)
  cases r with
  | none => exact ⟨z, n, by simp [Instr.lookup, run_underlying ht, MapKept.run_getObj_map h1, run_checkKey_ptr hk, hr, hzero, Result.andThen], hVz⟩
  | some q =>
    obtain ⟨q, v⟩ := q
    exact ⟨v, n, by simp [Instr.lookup, run_underlying ht, MapKept.run_getObj_map h1, run_checkKey_ptr hk, hr, Result.andThen], hv _ _ rfl⟩

theorem run_keyThatStays (w : World) (o n : Value) : ∃ (v : Value) (d : Nat), (Instr.keyThatStays o n).run P w = .ok v (w.drewN d) ∧ (v = o ∨ v = n) := by
  unfold Instr.keyThatStays
  cases hs : Instr.sameBits 10000 o n with
  | true => exact ⟨n, 0, by simp [World.drewN], .inr rfl⟩
  | false =>
    have hd : w.drewN 1 = w.drew := rfl
    cases hq : (Question.extern "map.whichKeyStays" 2).forced with
    | true => exact ⟨n, 0, by simp [hq, World.drewN], .inr rfl⟩
    | false =>
      by_cases hc : (Question.extern "map.whichKeyStays" 2).cut (w.tape w.drawn (Question.extern "map.whichKeyStays" 2)) = 0
      · exact ⟨n, 1, by simp [hq, hc, hd], .inr rfl⟩
      · exact ⟨o, 1, by simp [hq, hc, hd], .inl rfl⟩

theorem run_mapUpdate_ptr {t k e E : TypeId} {i : TypeInfo} (ht : P.underlying t = some (.map k E)) (hk : P.underlying k = some (.pointer e)) (he : P.info? e = some i) (hz : P.cellsOf e ≠ 0) {w : World} {V : Value → Prop} {B m : Nat} (h : PMap w V B m)
    {a : Addr} (ha : w.frozen? a = false) (sa : (w.shape? a.block).isSome = true) (hB : a.block < B) (hm : B ≤ m) {v : Value} (hv : V v) :
    ∃ (w' : World), (Instr.mapUpdate t (.map (some m)) (.pointer (some a)) v).run P w = .ok () w' ∧ PMap w' V B m ∧ Off (· = m) w w' := by
  obtain ⟨es, clock, h1, h2⟩ := h
  have hlt : m < w.heap.size := PMap.lt ⟨es, clock, h1, h2⟩
  obtain ⟨r, n, hr, hrv⟩ := run_findKey_ptr hk he hz a V es.toList w ha sa (fun x hx => by
    obtain ⟨⟨b, e1, _, e2⟩, e3⟩ := h2 x hx
    exact ⟨⟨b, e1, e2⟩, e3⟩)
  have fin : ∀ (d : Nat) (es' : Array MapEntry) (clock' : Nat), (∀ x ∈ es'.toList, (∃ b : Addr, x.key = .pointer (some b) ∧ b.block < B ∧ (w.shape? b.block).isSome = true) ∧ V x.val) →
      PMap { w.drewN d with heap := w.heap.setIfInBounds m (.map es' clock') } V B m ∧ Off (· = m) w { w.drewN d with heap := w.heap.setIfInBounds m (.map es' clock') } := by
    intro d es' clock' hes
    have ho : ∀ j, j ≠ m → (w.heap.setIfInBounds m (.map es' clock'))[j]? = w.heap[j]? := fun j hj => by rw [Array.getElem?_setIfInBounds_ne (Ne.symm hj)]
    refine ⟨⟨es', clock', ?_, fun x hx => ?_⟩, rfl, rfl, rfl, by simp, fun j _ hj => ho j hj⟩
    · show (w.heap.setIfInBounds m (.map es' clock'))[m]? = _
      rw [Array.getElem?_setIfInBounds_self_of_lt hlt]
    · obtain ⟨⟨b, e1, e2, e3⟩, e4⟩ := hes x hx
      refine ⟨⟨b, e1, e2, ?_⟩, e4⟩
      have : (World.shape? { w.drewN d with heap := w.heap.setIfInBounds m (.map es' clock') } b.block) = w.shape? b.block := shape_of_block (ho _ (by omega))
      rw [this]; exact e3
  cases r with
  | none =>
    have hb' : (w.drewN n).heap[m]? = some (.map es clock) := h1
    obtain ⟨f1, f2⟩ := fin n (es.push { key := .pointer (some a), val := v, born := clock }) (clock + 1) (fun x hx => by
      simp only [Array.toList_push, List.mem_append, List.mem_singleton] at hx
      rcases hx with hx | rfl
      · exact h2 x hx
      · exact ⟨⟨a, rfl, hB, sa⟩, hv⟩)
    exact ⟨_, by simp [Instr.mapUpdate, run_underlying ht, MapKept.run_getObj_map h1, run_checkKey_ptr hk, hr, MapKept.run_setObj_map _ hb', Result.andThen], f1, f2⟩
  | some q =>
    obtain ⟨q, u⟩ := q
    obtain ⟨k2, d, hk2, hor⟩ := run_keyThatStays (P := P) (w.drewN n) (((es[q]?).map (·.key)).getD (.pointer (some a))) (.pointer (some a))
    have hb' : (w.drewN (n + d)).heap[m]? = some (.map es clock) := h1
    have hkey : ∃ b : Addr, k2 = .pointer (some b) ∧ b.block < B ∧ (w.shape? b.block).isSome = true := by
      rcases hor with rfl | rfl
      · cases hq : es[q]? with
        | none => exact ⟨a, rfl, hB, sa⟩
        | some x =>
          have hx : x ∈ es.toList := Array.mem_toList_iff.2 (Array.mem_of_getElem? hq)
          exact (h2 x hx).1
      · exact ⟨a, rfl, hB, sa⟩
    obtain ⟨f1, f2⟩ := fin (n + d) (es.modify q fun x => { x with key := k2, val := v }) clock (fun x hx => by
      obtain ⟨j, hj, e⟩ := List.mem_iff_getElem.1 hx
      simp only [Array.length_toList, Array.size_modify] at hj
      rw [Array.getElem_toList, Array.getElem_modify] at e
      split at e
      · rw [← e]; exact ⟨hkey, hv⟩
      · rw [← e]; exact h2 _ (Array.mem_toList_iff.2 (Array.getElem_mem _)))
    have hdd : ((w.drewN n).drewN d) = w.drewN (n + d) := by simp [World.drewN, Nat.add_assoc]
    exact ⟨_, by simp [Instr.mapUpdate, run_underlying ht, MapKept.run_getObj_map h1, run_checkKey_ptr hk, hr, hk2, MapKept.run_setObj_map _ hb', Result.andThen, hdd], f1, f2⟩

theorem wpList_lookup_ptr (w : World) {ops : Array Oper} {rest : List Oper} {o : Oper} {a : Act} {Q : Exit → Act → World → Prop} (hg : o.guard = none) (m x : Operand) (t : TypeId) (hop : o.op = Op.lookup t m x false)
    {k e E : TypeId} {i : TypeInfo} (ht : P.underlying t = some (.map k E)) (hk : P.underlying k = some (.pointer e)) (he : P.info? e = some i) (hz : P.cellsOf e ≠ 0) {z : Value} (hzero : ∀ w : World, (zeroValue E).run P w = .ok z w) {V : Value → Prop} (hVz : V z) {B b : Nat} (h : PMap w V B b)
    (hm : a.eval m = .map (some b)) {p : Addr} (hx : a.eval x = .pointer (some p)) (ha : w.frozen? p = false) (sa : (w.shape? p.block).isSome = true) (hK : ∀ v n, V v → wpList P ops Q rest (a.put o.dst v) (w.drewN n)) : wpList P ops Q (o :: rest) a w := by
  refine wpList_plain hg fun K' hK' => ?_
  obtain ⟨v, n, hrun, hv⟩ := run_lookup_ptr ht hk he hz hzero hVz h ha sa
  unfold Oper.wp
  simp [execOp, hop, hm, hx, hrun, Result.andThen]
  exact hK' _ _ (hK v n hv)

theorem wpList_mapUpdate_ptr (w : World) {ops : Array Oper} {rest : List Oper} {o : Oper} {a : Act} {Q : Exit → Act → World → Prop} (hg : o.guard = none) (m x v : Operand) (t : TypeId) (hop : o.op = Op.mapUpdate t m x v)
    {k e E : TypeId} {i : TypeInfo} (ht : P.underlying t = some (.map k E)) (hk : P.underlying k = some (.pointer e)) (he : P.info? e = some i) (hz : P.cellsOf e ≠ 0) {V : Value → Prop} {B b : Nat} (h : PMap w V B b)
    (hm : a.eval m = .map (some b)) {p : Addr} (hx : a.eval x = .pointer (some p)) {u : Value} (hv : a.eval v = u) (ha : w.frozen? p = false) (sa : (w.shape? p.block).isSome = true) (hB : p.block < B) (hBm : B ≤ b) (hu : V u)
    (hK : ∀ w', PMap w' V B b → Off (· = b) w w' → wpList P ops Q rest (a.put o.dst undef) w') : wpList P ops Q (o :: rest) a w := by
  refine wpList_plain hg fun K' hK' => ?_
  obtain ⟨w', hrun, r1, r2⟩ := run_mapUpdate_ptr ht hk he hz h ha sa hB hBm hu
  unfold Oper.wp
  simp [execOp, hop, hm, hx, hv, hrun, Result.andThen]
  exact hK' _ _ (hK w' r1 r2)
end
end Go.Proofs.YtojnagonhihknaaGreatDoor
