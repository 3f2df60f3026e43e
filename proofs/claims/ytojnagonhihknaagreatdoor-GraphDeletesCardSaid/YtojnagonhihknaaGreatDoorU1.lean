/- Plain mathematics of the digest: numbers of 32 bits and how a block of 64 bytes is mixed in. No program is named here. Plain mathematics of digits of base 16. No program is named here. Slices of one-cell elements that a call has made (nil, a conversion's, or made): what they hold, append and string(..). No function of the program is named here. -/
import Derived.Test.YtojnagonhihknaaGreatDoorRows
import Derived.Laws.BitsAllLaws
import Derived.Lib.Bytealg
import Derived.Lib.IndexBytes
import Derived.Deep.AppendSrc
import Derived.Deep.MidRow
import Derived.Deep.RegionLaw
import Derived.Laws.IdiomStrings
import Derived.Test.YtojnagonhihknaaGreatDoorU0
set_option linter.unusedVariables false
namespace Go.Proofs.YtojnagonhihknaaGreatDoor

abbrev Wd := BitVec 32

def rotr (x : Wd) (n : Nat) : Wd := x <<< (32 - n) ||| x >>> n
def bs0 (x : Wd) : Wd := rotr x 2 ^^^ rotr x 13 ^^^ rotr x 22
def bs1 (x : Wd) : Wd := rotr x 6 ^^^ rotr x 11 ^^^ rotr x 25
def chw (e f g : Wd) : Wd := e &&& f ||| g &&& ~~~e
def mjw (a b c : Wd) : Wd := a &&& b ||| a &&& c ||| b &&& c

structure St where
  a : Wd
  b : Wd
  c : Wd
  d : Wd
  e : Wd
  f : Wd
  g : Wd
  h : Wd

def tOne (s : St) (k w : Wd) : Wd := s.h + bs1 s.e + chw s.e s.f s.g + k + w
def tTwo (s : St) : Wd := bs0 s.a + mjw s.a s.b s.c
def rnd (s : St) (k w : Wd) : St := ⟨tOne s k w + tTwo s, s.a, s.b, s.c, s.d + tOne s k w, s.e, s.f, s.g⟩
def runs (K W : List Wd) (s : St) : Nat → St
  | 0 => s
  | t + 1 => rnd (runs K W s t) (K.getD t 0) (W.getD t 0)
def nv (x : Wd) : Int := (x.toNat : Int)
def bv (b : UInt8) : Int := (b.toNat : Int)
theorem sizeAl (w : World) (o : Obj) : (w.alloc o).heap.size = w.heap.size + 1 := by
  show (w.heap.push o).size = _
  simp
theorem bv_u8 (b : UInt8) : (b.toNat : Int) = bv b := rfl
end Go.Proofs.YtojnagonhihknaaGreatDoor
set_option linter.unusedVariables false
namespace Go.Proofs.YtojnagonhihknaaGreatDoor

def digL : List UInt8 := [48, 49, 50, 51, 52, 53, 54, 55, 56, 57, 97, 98, 99, 100, 101, 102]
def dv (c : UInt8) : Int := Lib.indexByte digL c
def pairB (a b : UInt8) : UInt8 := UInt8.ofNat (dv a * 16 + dv b).toNat
def rawL : List UInt8 → Option (List UInt8)
  | [] => some []
  | [_] => none
  | a :: b :: r => if dv a < 0 ∨ dv b < 0 then none else (rawL r).map (pairB a b :: ·)

theorem dv_ge (c : UInt8) : -1 ≤ dv c := Lib.indexByte_ge _ _
set_option maxRecDepth 100000 in
theorem dv_all : ∀ n, n < 256 → dv (UInt8.ofNat n) < 16 ∧ dv (UInt8.ofNat n) = if 48 ≤ n ∧ n ≤ 57 then (n : Int) - 48 else if 97 ≤ n ∧ n ≤ 102 then (n : Int) - 87 else -1 := by decide
theorem dv_lt (c : UInt8) : dv c < 16 := by
  have := (dv_all c.toNat (UInt8.toNat_lt c)).1
  rwa [UInt8.ofNat_toNat] at this
theorem dv_eq (c : UInt8) : dv c = if 48 ≤ c.toNat ∧ c.toNat ≤ 57 then (c.toNat : Int) - 48 else if 97 ≤ c.toNat ∧ c.toNat ≤ 102 then (c.toNat : Int) - 87 else -1 := by
  have := (dv_all c.toNat (UInt8.toNat_lt c)).2
  rwa [UInt8.ofNat_toNat] at this

theorem raw_odd : ∀ (n : Nat) (l : List UInt8), l.length = 2 * n + 1 → rawL l = none
  | 0, [a], _ => rfl
  | n + 1, a :: b :: r, h => by
    rw [rawL, raw_odd n r (by simp at h; omega)]
    split <;> rfl
  | 0, [], h => by simp at h
  | 0, _ :: _ :: _, h => by simp at h
  | _ + 1, [], h => by simp at h
  | _ + 1, [_], h => by simp at h

theorem raw_step {l : List UInt8} {i : Nat} {a b : UInt8} (h1 : l[i]? = some a) (h2 : l[i + 1]? = some b) : l.drop i = a :: b :: l.drop (i + 2) := by
  have hi : i < l.length := (List.getElem?_eq_some_iff.1 h1).1
  have hi2 : i + 1 < l.length := (List.getElem?_eq_some_iff.1 h2).1
  rw [List.drop_eq_getElem_cons hi, List.drop_eq_getElem_cons hi2]
  rw [List.getElem?_eq_getElem hi] at h1
  rw [List.getElem?_eq_getElem hi2] at h2
  rw [Option.some.inj h1, Option.some.inj h2]

end Go.Proofs.YtojnagonhihknaaGreatDoor
set_option linter.unusedVariables false
namespace Go.Proofs.YtojnagonhihknaaGreatDoor
open Go.ChangeShapes Go.WideShapes Go.ChangeAt Go.RowKit

def Arr (B : Nat) (w : World) (v : Value) (cs : List Value) : Prop :=
  (v = .slice none 0 0 ∧ cs = []) ∨ ∃ b cap, v = .slice (some ⟨b, 0, none⟩) cs.length cap ∧ B ≤ b ∧ b < w.heap.size ∧ cs.length ≤ cap ∧ cap ≤ maxLen ∧
    (∀ j, j < cap → (w.cell? ⟨b, j, none⟩).isSome = true ∧ w.frozen? ⟨b, j, none⟩ = false) ∧ ∀ j u, cs[j]? = some u → w.cell? ⟨b, j, none⟩ = some u

theorem Arr.nil (B : Nat) (w : World) : Arr B w (.slice none 0 0) [] := .inl ⟨rfl, rfl⟩
theorem Arr.below {B : Nat} {w w' : World} {v : Value} {cs : List Value} (h : Arr B w v cs) (hb : Below w.heap.size w w') : Arr B w' v cs := by
  rcases h with h | ⟨b, cap, h1, h2, h3, h4, h5, h6, h7⟩
  · exact .inl h
  · exact .inr ⟨b, cap, h1, h2, Nat.lt_of_lt_of_le h3 hb.size, h4, h5, fun j hj => ⟨by rw [hb.cell (p := ⟨b, j, none⟩) h3]; exact (h6 j hj).1, (hb.frozen (p := ⟨b, j, none⟩) h3).trans (h6 j hj).2⟩, fun j u hu => (hb.cell (p := ⟨b, j, none⟩) h3).trans (h7 j u hu)⟩
theorem Arr.mono {B B' : Nat} {w : World} {v : Value} {cs : List Value} (h : Arr B w v cs) (hb : B' ≤ B) : Arr B' w v cs := by
  rcases h with h | ⟨b, cap, h1, h2, h3⟩
  · exact .inl h
  · exact .inr ⟨b, cap, h1, Nat.le_trans hb h2, h3⟩
theorem Arr.drewN {B n : Nat} {w : World} {v : Value} {cs : List Value} (h : Arr B w v cs) : Arr B (w.drewN n) v cs := h
theorem Arr.drew {B : Nat} {w : World} {v : Value} {cs : List Value} (h : Arr B w v cs) : Arr B w.drew v cs := h
theorem Arr.form {B : Nat} {w : World} {v : Value} {cs : List Value} (h : Arr B w v cs) : ∃ a c, v = .slice a cs.length c := by
  rcases h with ⟨rfl, rfl⟩ | ⟨b, cap, h1, _⟩
  · exact ⟨none, 0, rfl⟩
  · exact ⟨_, _, h1⟩
theorem Arr.pos {B : Nat} {w : World} {v : Value} {cs : List Value} (h : Arr B w v cs) (hp : cs ≠ []) : ∃ b cap, v = .slice (some ⟨b, 0, none⟩) cs.length cap ∧ B ≤ b ∧ b < w.heap.size ∧ cs.length ≤ cap ∧ cap ≤ maxLen ∧
    (∀ j, j < cap → (w.cell? ⟨b, j, none⟩).isSome = true ∧ w.frozen? ⟨b, j, none⟩ = false) ∧ ∀ j u, cs[j]? = some u → w.cell? ⟨b, j, none⟩ = some u := by
  rcases h with ⟨rfl, h⟩ | h
  · exact absurd h hp
  · exact h
theorem Arr.alloc {B : Nat} {w : World} {v : Value} {cs : List Value} (h : Arr B w v cs) (o : Obj) : Arr B (w.alloc o) v cs :=
  h.below ((Below.refl _ _).alloc (Nat.le_refl _) o)
theorem Arr.set {B : Nat} {w : World} {b n cap k : Nat} {cs : List Value} (h : Arr B w (.slice (some ⟨b, 0, none⟩) n cap) cs) (hk : k < cs.length) (u : Value) : Arr B (w.setCell ⟨b, k, none⟩ u) (.slice (some ⟨b, 0, none⟩) n cap) (cs.set k u) := by
  rcases h with ⟨h, _⟩ | ⟨b', cap', h1, h2, h3, h4, h5, h6, h7⟩
  · cases h
  · injection h1 with e1 e2 e3
    injection e1 with e1
    injection e1 with e1
    subst e1; subst e3; subst e2
    refine .inr ⟨b, cap, by rw [List.length_set], h2, by simpa [World.setCell] using h3, by rw [List.length_set]; exact h4, h5, fun j hj => ?_, fun j v hv => ?_⟩
    · refine ⟨?_, by rw [World.frozen?_setCell]; exact (h6 j hj).2⟩
      by_cases e : k = j
      · subst e
        obtain ⟨x, hx⟩ := Option.isSome_iff_exists.1 (h6 k hj).1
        rw [World.cell?_setCell_same _ _ _ hx]; rfl
      · rw [World.cell?_setCell_other _ _ _ _ (fun h => e (by injection h))]
        exact (h6 j hj).1
    · by_cases e : k = j
      · subst e
        obtain ⟨x, hx⟩ := Option.isSome_iff_exists.1 (h6 k (by omega)).1
        rw [World.cell?_setCell_same _ _ _ hx]
        rw [List.getElem?_set_self hk] at hv
        exact hv
      · rw [World.cell?_setCell_other _ _ _ _ (fun h => e (by injection h))]
        rw [List.getElem?_set_ne e] at hv
        exact h7 j v hv

section
variable {P : Program}

theorem arr_new {B : Nat} {w : World} {e : TypeId} {cs : List Value} {cap : Nat} {xs : Array Value} {fr : Nat × Nat} (hB : B ≤ w.heap.size) (hc : cs.length ≤ cap) (hm : cap ≤ maxLen) (hs : xs.size = cap) (hf : fr = (0, 0) ∨ cap ≤ fr.1) (hx : ∀ (j : Nat) (u : Value), cs[j]? = some u → xs[j]? = some u) :
    Arr B (w.alloc (.cells xs e fr)) (.slice (some ⟨w.heap.size, 0, none⟩) cs.length cap) cs := by
  have hcell : ∀ j, (w.alloc (.cells xs e fr)).cell? ⟨w.heap.size, j, none⟩ = xs[j]? := fun j => World.cell?_alloc_mark w xs e fr j
  refine .inr ⟨w.heap.size, cap, rfl, hB, by show _ < (w.heap.push _).size; simp, hc, hm, fun j hj => ⟨?_, ?_⟩, fun j u hu => by rw [hcell]; exact hx j u hu⟩
  · rw [hcell, Array.getElem?_eq_getElem (by omega)]; rfl
  · obtain ⟨lo, hi⟩ := fr
    rw [World.frozen?_alloc_mark]
    rcases hf with h | h
    · simp only [Prod.mk.injEq] at h
      simp [h.2]
    · have : ¬ lo ≤ j := by have : cap ≤ lo := h; omega
      simp [this]

theorem run_append_arr {B : Nat} {w : World} {v : Value} {cs news : List Value} (t ty e : TypeId) (z : Value) (bytes : Nat) (ht : P.underlying t = some (.slice e)) (hinfo : (P.info? e).map (fun i => (i.zero, i.size, i.bytes)) = some (some z, 1, bytes)) (hz1 : z.cells.size = 1)
    (h : Arr B w v cs) (g c : Nat) (hnews : ∀ j u, news[j]? = some u → w.cell? ⟨g, j, none⟩ = some u) (h1 : ∀ u ∈ news, u.oneCell' = true) (hn : 0 < news.length) (hB : B ≤ w.heap.size) (hl : cs.length + news.length ≤ 1099511627776) (hb : bytes ≤ 16) :
    ∃ v' w', (Builtin.append_ #[t, t] ty #[v, .slice (some ⟨g, 0, none⟩) news.length c]).run P w = .ok v' w' ∧ Arr B w' v' (cs ++ news) ∧ Below B w w' := by
  obtain ⟨i, hi, hzz⟩ := Option.map_eq_some_iff.1 hinfo
  simp only [Prod.mk.injEq] at hzz
  obtain ⟨hz, hsz, hby⟩ := hzz
  have hsrc : Src P i.size t (.slice (some ⟨g, 0, none⟩) news.length c) news.length news w := by
    rw [hsz]
    exact Src.ofSlice w ht ⟨g, 0, none⟩ news.length c news (by omega) (fun j u hu => by rw [Addr.add_mid, Nat.zero_add]; exact hnews j u hu) h1
  have grow : ∀ (base : Option Addr) (sCap : Nat), (Builtin.firstCells i.size cs.length (.slice base cs.length sCap)).run P w.drew = .ok cs.toArray w.drew → sCap < cs.length + news.length →
      ∃ v' w', (Builtin.append_ #[t, t] ty #[.slice base cs.length sCap, .slice (some ⟨g, 0, none⟩) news.length c]).run P w = .ok v' w' ∧ Arr B w' v' (cs ++ news) ∧ Below B w w' := by
    intro base sCap hold hg
    have hfit : Builtin.nextslicecap (cs.length + news.length) sCap * i.bytes ≤ 281474976710656 := growslice_fits hg (by
      rw [hby]
      have := Nat.mul_le_mul hl hb
      omega)
    have hr := run_append_grow_src (P := P) w t t ty e i z ht hi hz base cs.length sCap cs hold (.slice (some ⟨g, 0, none⟩) news.length c) news.length news hsrc hg (by omega) hfit
    have hge := grownCap_ge w (cs.length + news.length) sCap e
    have hcm : grownCap w (cs.length + news.length) sCap e ≤ maxLen := grownCap_le_maxLen w _ sCap e (by unfold maxLen; omega)
    refine ⟨_, _, hr, ?_, ?_⟩
    · have := arr_new (B := B) (w := w.drew) (e := e) (cs := cs ++ news) (cap := grownCap w (cs.length + news.length) sCap e) (xs := (cs ++ news).toArray ++ Builtin.zeroCells z.cells (grownCap w (cs.length + news.length) sCap e - (cs.length + news.length))) (fr := (0, 0)) hB
        (by rw [List.length_append]; exact hge) hcm (by rw [Array.size_append, List.size_toArray, List.length_append, size_zeroCells, hz1]; omega) (.inl rfl) (fun j u hu => by
          rw [Array.getElem?_append, if_pos (by rw [List.size_toArray]; exact (List.getElem?_eq_some_iff.1 hu).1)]
          simpa using hu)
      rw [List.length_append] at this
      exact this
    · exact ((Below.refl B w).drew).alloc hB _
  rcases h with ⟨rfl, rfl⟩ | ⟨b, cap, rfl, h2, h3, h4, h5, h6, h7⟩
  · exact grow none 0 (by simpa using run_firstCells_none w.drew i.size 0 0 0) (by omega)
  · by_cases hroom : cs.length + news.length ≤ cap
    · have hr := run_append_room_src (P := P) w t t ty e i ht hi b 0 cs.length cap _ news.length news hsrc hroom
        (fun j hj => by rw [hsz, Nat.zero_add, Nat.mul_one]; exact (h6 _ (by omega)).1) (fun j hj => by rw [hsz, Nat.zero_add, Nat.mul_one]; exact (h6 _ (by omega)).2)
      rw [hsz, Nat.zero_add, Nat.mul_one] at hr
      refine ⟨_, _, hr, .inr ⟨b, cap, by rw [List.length_append], h2, ?_, by rw [List.length_append]; exact hroom, h5, fun j hj => ?_, fun j u hu => ?_⟩, ?_⟩
      · have : ∀ (vs : List Value) (o : Nat) (x : World), (x.setCells b o vs).heap.size = x.heap.size := fun vs => by
          induction vs with
          | nil => intros; rfl
          | cons a r ih => intro o x; rw [World.setCells, ih]; simp [World.setCell]
        rw [this]; exact h3
      · exact ⟨World.isSome_setCells b news cs.length w _ (h6 j hj).1, by rw [World.frozen?_setCells]; exact (h6 j hj).2⟩
      · have hjl : j < (cs ++ news).length := (List.getElem?_eq_some_iff.1 hu).1
        rw [List.length_append] at hjl
        by_cases e1 : j < cs.length
        · rw [List.getElem?_append_left e1] at hu
          rw [World.cell?_setCells_out b news cs.length w ⟨b, j, none⟩ (fun _ _ => .inl e1)]
          exact h7 j u hu
        · rw [List.getElem?_append_right (by omega)] at hu
          have hin := World.cell?_setCells_in b news cs.length w (fun i hi => (h6 _ (by omega)).1) (j - cs.length) (by omega)
          rw [show cs.length + (j - cs.length) = j by omega] at hin
          rw [hin, ← hu, List.getElem?_eq_getElem (by omega)]
      · have : ∀ (vs : List Value) (o : Nat) (x : World), Below B w x → Below B w (x.setCells b o vs) := fun vs => by
          induction vs with
          | nil => intro o x hx; exact hx
          | cons a r ih => intro o x hx; exact ih (o + 1) _ (hx.setCell (p := ⟨b, o, none⟩) h2 a)
        exact this news cs.length w (Below.refl B w)
    · exact grow (some ⟨b, 0, none⟩) cap (run_firstCells_some w.drew i.size cs.length ⟨b, 0, none⟩ cs.length cap cs (by rw [hsz]; omega) (fun j u hu => by rw [Addr.add_mid, Nat.zero_add]; exact h7 j u hu)) (by omega)

theorem wp_append_arr {w : World} {o : Oper} {a : Act} {K : Act → World → Prop} {Q : Exit → Act → World → Prop} (s x : Operand) (t : TypeId)
    (ho : o.op = .call { callee := .builtin .append, args := #[s, x], argTypes := #[t, t] }) (e : TypeId) (z : Value) (bytes : Nat) (ht : P.underlying t = some (.slice e)) (hinfo : (P.info? e).map (fun i => (i.zero, i.size, i.bytes)) = some (some z, 1, bytes)) (hz1 : z.cells.size = 1)
    (B : Nat) (v : Value) (cs news : List Value) (hs : a.eval s = v) (h : Arr B w v cs) (g m c : Nat) (hx : a.eval x = .slice (some ⟨g, 0, none⟩) m c) (hm : m = news.length) (hnews : ∀ j u, news[j]? = some u → w.cell? ⟨g, j, none⟩ = some u) (h1 : ∀ u ∈ news, u.oneCell' = true) (hn : 0 < news.length)
    (hB : B ≤ w.heap.size) (hl : cs.length + news.length ≤ 1099511627776) (hb : bytes ≤ 16)
    (hK : ∀ v' w', Arr B w' v' (cs ++ news) → Below B w w' → K (a.put o.dst v') w') : o.wp P a w K Q := by
  subst hm
  obtain ⟨v', w', hr, h2, h3⟩ := run_append_arr (P := P) t o.type e z bytes ht hinfo hz1 h g c hnews h1 hn hB hl hb
  unfold Oper.wp execOp
  simp only [ho, resolve, invoke, builtin, Sem.run_bind, Sem.run_pure, Result.andThen_ok, List.map_toArray, List.map_cons, List.map_nil, hs, hx, hr]
  exact hK v' w' h2 h3

theorem wpList_append_arr {w : World} {ops : Array Oper} {rest : List Oper} {o : Oper} {a : Act} {Q : Exit → Act → World → Prop} (hgd : o.guard = none) (s x : Operand) (t : TypeId)
    (ho : o.op = .call { callee := .builtin .append, args := #[s, x], argTypes := #[t, t] }) (e : TypeId) (z : Value) (bytes : Nat) (ht : P.underlying t = some (.slice e)) (hinfo : (P.info? e).map (fun i => (i.zero, i.size, i.bytes)) = some (some z, 1, bytes)) (hz1 : z.cells.size = 1)
    (B : Nat) (v : Value) (cs news : List Value) (hs : a.eval s = v) (h : Arr B w v cs) (g m c : Nat) (hx : a.eval x = .slice (some ⟨g, 0, none⟩) m c) (hm : m = news.length) (hnews : ∀ j u, news[j]? = some u → w.cell? ⟨g, j, none⟩ = some u) (h1 : ∀ u ∈ news, u.oneCell' = true) (hn : 0 < news.length)
    (hB : B ≤ w.heap.size) (hl : cs.length + news.length ≤ 1099511627776) (hb : bytes ≤ 16)
    (hK : ∀ v' w', Arr B w' v' (cs ++ news) → Below B w w' → wpList P ops Q rest (a.put o.dst v') w') : wpList P ops Q (o :: rest) a w :=
  wpList_plain hgd fun _ hk => wp_append_arr s x t ho e z bytes ht hinfo hz1 B v cs news hs h g m c hx hm hnews h1 hn hB hl hb fun v' w' h2 h3 => hk _ _ (hK v' w' h2 h3)

end

/- one_u8 -/
theorem one1 {k : IntKind} {x : Int} : ∀ u ∈ [Value.int k x], u.oneCell' = true := by
  intro u hu
  rw [List.mem_singleton] at hu
  rw [hu]; rfl
theorem news_new {w : World} {c : List Value} {t : TypeId} : ∀ (j : Nat) (u : Value), c[j]? = some u → (w.alloc (.cells c.toArray t)).cell? ⟨w.heap.size, j, none⟩ = some u := fun j u hu => by
  rw [World.cell?_alloc_at _ _ _ _ rfl]; simpa using hu
def bys (l : List UInt8) : List Value := l.map fun b => .int .u8 (bv b)
theorem bys_len (l : List UInt8) : (bys l).length = l.length := by simp [bys]
theorem bys_app (l m : List UInt8) : bys (l ++ m) = bys l ++ bys m := by simp [bys]

theorem arr_string {B : Nat} {P : Program} {w : World} {v : Value} {l : List UInt8} (h : Arr B w v (bys l)) (src dst e : TypeId) (hs : P.underlying src = some (.slice e)) (he : P.underlying e = some (.int .u8)) (hd : P.underlying dst = some .string) :
    (convert src dst v).run P w = .ok (.string ⟨l.toArray⟩) w := by
  rcases h with ⟨rfl, h⟩ | ⟨b, cap, rfl, h2, h3, h4, h5, h6, h7⟩
  · have : l = [] := by simpa [bys] using h
    subst this
    rw [run_convert_bytes_string w src dst e none 0 0 hs he hd]
    rfl
  · rw [bys_len]
    refine run_convert_bytes_back w src dst e ⟨b, 0, none⟩ cap l hs he hd (fun j hj => ?_)
    rw [Addr.add_mid, Nat.zero_add]
    refine h7 j _ ?_
    rw [bys, List.getElem?_map, List.getElem?_eq_getElem hj]
    rfl
end Go.Proofs.YtojnagonhihknaaGreatDoor
