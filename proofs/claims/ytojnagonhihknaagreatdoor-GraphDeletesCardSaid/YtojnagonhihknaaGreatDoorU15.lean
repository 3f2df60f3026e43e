/- Heaps of ints behind a pointer, and rows of rows of ints, in memory. No function of the program is named here. Slices of pairs that are read; their cells. No function of the program is named here. A method of a value, looked up through a pointer to it. The contracts of ready's methods. -/
import Derived.Test.YtojnagonhihknaaGreatDoorU14
import Derived.Test.YtojnagonhihknaaGreatDoorU3
set_option linter.unusedVariables false
namespace Go.Proofs.YtojnagonhihknaaGreatDoor
open Go.ChangeShapes Go.WideShapes Go.ChangeAt Go.RowKit

theorem Row.put {k B n b cap j : Nat} {w : World} {cs : List Value} (h : Row k B w (.slice (some ⟨b, 0, none⟩) n cap) n cs) (hj : j < cs.length) (u : Value) : Row k B (w.setCell ⟨b, j, none⟩ u) (.slice (some ⟨b, 0, none⟩) n cap) n (cs.set j u) := by
  obtain ⟨h0, ⟨h, _⟩ | ⟨b', cap', h1, h2, h3, h4, h5, h6, h7⟩⟩ := h
  · cases h
  · injection h1 with e1 e2 e3
    injection e1 with e1
    injection e1 with e1
    subst e1; subst e3
    have hc : n * k ≤ cap * k := Nat.mul_le_mul_right k h4
    have hjn : j < n * k := by rw [← h0]; exact hj
    refine ⟨by rw [List.length_set]; exact h0, .inr ⟨b, cap, rfl, h2, by simpa [World.setCell] using h3, h4, h5, fun i hi => ?_, fun i v hv => ?_⟩⟩
    · refine ⟨?_, by rw [World.frozen?_setCell]; exact (h6 i hi).2⟩
      by_cases e : j = i
      · subst e
        obtain ⟨x, hx⟩ := Option.isSome_iff_exists.1 (h6 j hi).1
        rw [World.cell?_setCell_same _ _ _ hx]; rfl
      · rw [World.cell?_setCell_other _ _ _ _ (fun h => e (by injection h))]
        exact (h6 i hi).1
    · by_cases e : j = i
      · subst e
        obtain ⟨x, hx⟩ := Option.isSome_iff_exists.1 (h6 j (by omega)).1
        rw [World.cell?_setCell_same _ _ _ hx]
        rw [List.getElem?_set_self hj] at hv
        exact hv
      · rw [World.cell?_setCell_other _ _ _ _ (fun h => e (by injection h))]
        rw [List.getElem?_set_ne e] at hv
        exact h7 i v hv
theorem Row.front {B n b cap m : Nat} {w : World} {cs : List Value} (h : Row 1 B w (.slice (some ⟨b, 0, none⟩) n cap) n cs) (hm : m ≤ n) : Row 1 B w (.slice (some ⟨b, 0, none⟩) m cap) m (cs.take m) := by
  obtain ⟨h0, ⟨h, _⟩ | ⟨b', cap', h1, h2, h3, h4, h5, h6, h7⟩⟩ := h
  · cases h
  · injection h1 with e1 e2 e3
    injection e1 with e1
    injection e1 with e1
    subst e1; subst e3
    refine ⟨by rw [List.length_take]; omega, .inr ⟨b, cap, rfl, h2, h3, by omega, h5, h6, fun i v hv => ?_⟩⟩
    rw [List.getElem?_take] at hv
    split at hv
    · exact h7 i v hv
    · cases hv

theorem Row.cellF {B b n cap j : Nat} {w : World} {cs : List Value} {u : Value} (h : Row 1 B w (.slice (some ⟨b, 0, none⟩) n cap) n cs) (hj : cs[j]? = some u) : w.cell? ⟨b, j, none⟩ = some u ∧ w.frozen? ⟨b, j, none⟩ = false ∧ B ≤ b ∧ b < w.heap.size ∧ n ≤ cap ∧ cap ≤ maxLen := by
  obtain ⟨h0, ⟨h, _⟩ | ⟨b', cap', h1, h2, h3, h4, h5, h6, h7⟩⟩ := h
  · cases h
  · injection h1 with e1 e2 e3
    injection e1 with e1
    injection e1 with e1
    subst e1; subst e3
    have hl := (List.getElem?_eq_some_iff.1 hj).1
    exact ⟨h7 j u hj, (h6 j (by omega)).2, h2, h3, h4, h5⟩
abbrev iv (a : List Int) : List Value := a.map (Value.int .i64)
theorem iv_len (a : List Int) : (iv a).length = a.length := by simp
theorem iv_at {a : List Int} {j : Nat} (h : j < a.length) : (iv a)[j]? = some (.int .i64 (a.getD j 0)) := by
  simp [iv, List.getD_eq_getElem?_getD, h]
theorem iv_set (a : List Int) (j : Nat) (x : Int) : (iv a).set j (.int .i64 x) = iv (a.set j x) := by simp [iv, List.map_set]
theorem iv_take (a : List Int) (m : Nat) : (iv a).take m = iv (a.take m) := by simp [iv, List.map_take]

structure Hp (p B : Nat) (w : World) (v : Value) (a : List Int) : Prop where
  cell : w.cell? ⟨p, 0, none⟩ = some v
  fro : w.frozen? ⟨p, 0, none⟩ = false
  row : Row 1 B w v a.length (iv a)
  lt : p < B
theorem Hp.box {p B : Nat} {w : World} {v : Value} {a : List Int} (h : Hp p B w v a) : p < w.heap.size := by
  rcases Nat.lt_or_ge p w.heap.size with h1 | h1
  · exact h1
  · have := h.cell
    simp [World.cell?, Array.getElem?_eq_none h1] at this
theorem Hp.off {p B : Nat} {Z : Nat → Prop} {w w' : World} {v : Value} {a : List Int} (h : Hp p B w v a) (ho : Off Z w w') (hp : ¬ Z p) (hz : ∀ b, v.ownBlock = some b → ¬ Z b) : Hp p B w' v a :=
  ⟨(ho.cell (p := ⟨p, 0, none⟩) h.box hp).trans h.cell, (ho.frozen (p := ⟨p, 0, none⟩) h.box hp).trans h.fro, h.row.off ho hz, h.lt⟩
theorem Hp.below {p B : Nat} {w w' : World} {v : Value} {a : List Int} (h : Hp p B w v a) (hb : Below w.heap.size w w') : Hp p B w' v a :=
  ⟨(hb.cell (p := ⟨p, 0, none⟩) h.box).trans h.cell, (hb.frozen (p := ⟨p, 0, none⟩) h.box).trans h.fro, h.row.below hb, h.lt⟩
theorem Hp.at {p B : Nat} {w : World} {v : Value} {a : List Int} (h : Hp p B w v a) (h0 : 0 < a.length) : ∃ b cap, v = .slice (some ⟨b, 0, none⟩) a.length cap ∧ B ≤ b ∧ b < w.heap.size ∧ a.length ≤ cap ∧ cap ≤ maxLen ∧
    ∀ j, j < a.length → w.cell? ⟨b, j, none⟩ = some (.int .i64 (a.getD j 0)) ∧ w.frozen? ⟨b, j, none⟩ = false := by
  obtain ⟨b, cap, rfl, h2, h3, h4, h5, h6, h7⟩ := h.row.pos h0
  exact ⟨b, cap, rfl, h2, h3, h4, h5, fun j hj => ⟨h7 j _ (iv_at hj), (h6 j (by omega)).2⟩⟩
theorem Hp.cells {p B b n c : Nat} {w : World} {a : List Int} (h : Hp p B w (.slice (some ⟨b, 0, none⟩) n c) a) (hl : a.length = n) (j : Nat) (hj : j < n) : w.cell? ⟨b, j, none⟩ = some (.int .i64 (a.getD j 0)) ∧ w.frozen? ⟨b, j, none⟩ = false := by
  obtain ⟨b', c', hv, _, _, _, _, hc⟩ := h.at (by omega)
  injection hv with hv1 _ _
  injection hv1 with hv1
  injection hv1 with hv1
  subst hv1
  exact hc j (by omega)
theorem Hp.swap {p B b cap i j : Nat} {w : World} {a : List Int} (h : Hp p B w (.slice (some ⟨b, 0, none⟩) a.length cap) a) (hi : i < a.length) (hj : j < a.length) :
    Hp p B ((w.setCell ⟨b, i, none⟩ (.int .i64 (a.getD j 0))).setCell ⟨b, j, none⟩ (.int .i64 (a.getD i 0))) (.slice (some ⟨b, 0, none⟩) (swapL a i j).length cap) (swapL a i j) ∧
    Off (fun k => k = b) w ((w.setCell ⟨b, i, none⟩ (.int .i64 (a.getD j 0))).setCell ⟨b, j, none⟩ (.int .i64 (a.getD i 0))) := by
  have hb := (h.row.lt b rfl).1
  have hlt := h.lt
  have hne : p ≠ b := by omega
  have hr := (h.row.put (j := i) (by simpa using hi) (.int .i64 (a.getD j 0))).put (j := j) (by simpa using hj) (.int .i64 (a.getD i 0))
  rw [iv_set, iv_set] at hr
  rw [swapL_len]
  refine ⟨⟨?_, ?_, by rw [swapL_len]; exact hr, h.lt⟩, ((Off.refl (fun k => k = b) w).setCell (p := ⟨b, i, none⟩) (.inr rfl) _).setCell (p := ⟨b, j, none⟩) (.inr rfl) _⟩
  · rw [World.cell?_setCell_other _ _ _ _ (fun e => hne (by injection e with e; exact e.symm)), World.cell?_setCell_other _ _ _ _ (fun e => hne (by injection e with e; exact e.symm))]
    exact h.cell
  · rw [World.frozen?_setCell, World.frozen?_setCell]; exact h.fro
theorem Hp.store {p B : Nat} {w : World} {v v' : Value} {a' : List Int} (h : w.cell? ⟨p, 0, none⟩ = some v) (hf : w.frozen? ⟨p, 0, none⟩ = false) (hlt : p < B) (hr : Row 1 B w v' a'.length (iv a')) : Hp p B (w.setCell ⟨p, 0, none⟩ v') v' a' := by
  refine ⟨World.cell?_setCell_same _ _ _ h, by rw [World.frozen?_setCell]; exact hf, hr.setOther (p := ⟨p, 0, none⟩) (fun e => ?_) _, hlt⟩
  have := (hr.lt p e).1
  omega

structure Grid (b s : Nat) (w : World) (gs : List (List Int)) : Prop where
  lt : b < w.heap.size
  bs : b < s
  each : ∀ j g, gs[j]? = some g → ∃ v, w.cell? ⟨b, j, none⟩ = some v ∧ w.frozen? ⟨b, j, none⟩ = false ∧ Row 1 s w v g.length (iv g)
  apart : ∀ j k v v', j < gs.length → k < gs.length → w.cell? ⟨b, j, none⟩ = some v → w.cell? ⟨b, k, none⟩ = some v' → j ≠ k → v.ownBlock ≠ none → v.ownBlock ≠ v'.ownBlock
theorem Grid.off {b s : Nat} {Z : Nat → Prop} {w w' : World} {gs : List (List Int)} (h : Grid b s w gs) (ho : Off Z w w') (hb : ¬ Z b) (hz : ∀ i, s ≤ i → i < w.heap.size → ¬ Z i) : Grid b s w' gs := by
  have hc := fun j => ho.cell (p := ⟨b, j, none⟩) h.lt hb
  refine ⟨Nat.lt_of_lt_of_le h.lt ho.size, h.bs, fun j g hj => ?_, fun j k v v' hj hk h1 h2 => ?_⟩
  · obtain ⟨v, h1, h2, h3⟩ := h.each j g hj
    exact ⟨v, (hc j).trans h1, (ho.frozen (p := ⟨b, j, none⟩) h.lt hb).trans h2, h3.off ho fun i hi => hz i (h3.lt i hi).1 (h3.lt i hi).2⟩
  · rw [hc] at h1 h2
    exact h.apart j k v v' hj hk h1 h2
theorem Grid.below {b s : Nat} {w w' : World} {gs : List (List Int)} (h : Grid b s w gs) (hb : Below w.heap.size w w') : Grid b s w' gs :=
  h.off (Z := fun _ => False) (Off.of_below hb) (fun h => h) (fun _ _ _ h => h)
theorem grid_new {b s n : Nat} {w : World} (hb : b < w.heap.size) (hs : b < s) (h : ∀ j, j < n → w.cell? ⟨b, j, none⟩ = some (.slice none 0 0) ∧ w.frozen? ⟨b, j, none⟩ = false) : Grid b s w (List.replicate n []) := by
  refine ⟨hb, hs, fun j g hj => ?_, fun j k v v' hj hk h1 h2 hne hv => ?_⟩
  · rw [List.getElem?_replicate] at hj
    split at hj
    · rename_i hl
      cases hj
      exact ⟨_, (h j hl).1, (h j hl).2, Row.nil _ _ _⟩
    · cases hj
  · rw [List.length_replicate] at hj
    rw [(h j hj).1] at h1
    cases h1
    exact absurd rfl hv
theorem Grid.push {b s j : Nat} {w w1 : World} {gs : List (List Int)} {g : List Int} {x : Int} {v v' : Value} (h : Grid b s w gs) (hj : gs[j]? = some g) (hv : w.cell? ⟨b, j, none⟩ = some v)
    (ho : Off (fun i => v.ownBlock = some i) w w1) (hr : Row 1 s w1 v' (g.length + 1) (iv g ++ [.int .i64 x])) (hw : v'.ownBlock = v.ownBlock ∨ ∃ k, v'.ownBlock = some k ∧ w.heap.size ≤ k) : Grid b s (w1.setCell ⟨b, j, none⟩ v') (gs.set j (g ++ [x])) := by
  have hjl : j < gs.length := (List.getElem?_eq_some_iff.1 hj).1
  have hbs := h.bs
  obtain ⟨v0, e0, hf0, hr0⟩ := h.each j g hj
  obtain rfl : v0 = v := Option.some.inj (e0.symm.trans hv)
  have hnb : ∀ i, v0.ownBlock = some i → b < i ∧ i < w.heap.size := fun i hi => ⟨by have := (hr0.lt i hi).1; omega, (hr0.lt i hi).2⟩
  have hbz : ¬ v0.ownBlock = some b := fun e => by have := (hnb b e).1; omega
  have hc := fun k => ho.cell (p := ⟨b, k, none⟩) h.lt hbz
  have hv1 : w1.cell? ⟨b, j, none⟩ = some v0 := (hc j).trans hv
  have hot : ∀ k, k ≠ j → (w1.setCell ⟨b, j, none⟩ v').cell? ⟨b, k, none⟩ = w.cell? ⟨b, k, none⟩ := fun k hk => by
    rw [World.cell?_setCell_other _ _ _ _ (fun e => hk (by injection e with _ e; exact e.symm))]
    exact hc k
  have hsame : (w1.setCell ⟨b, j, none⟩ v').cell? ⟨b, j, none⟩ = some v' := World.cell?_setCell_same _ _ _ hv1
  have hown : ∀ i, v'.ownBlock = some i → b < i := fun i hi => by have := (hr.lt i hi).1; omega
  refine ⟨by simpa [World.setCell] using Nat.lt_of_lt_of_le h.lt ho.size, hbs, fun k g' hk => ?_, fun k l u u' hk hl h1 h2 hne hu => ?_⟩
  · by_cases e : k = j
    · subst e
      rw [List.getElem?_set_self hjl] at hk
      cases hk
      refine ⟨v', hsame, by rw [World.frozen?_setCell]; exact (ho.frozen (p := ⟨b, k, none⟩) h.lt hbz).trans hf0, ?_⟩
      have := hr.setOther (p := ⟨b, k, none⟩) (fun e => by have := hown b e; omega) v'
      simpa [iv] using this
    · rw [List.getElem?_set_ne (fun h => e h.symm)] at hk
      obtain ⟨u, h1, h2, h3⟩ := h.each k g' hk
      refine ⟨u, (hot k e).trans h1, by rw [World.frozen?_setCell]; exact (ho.frozen (p := ⟨b, k, none⟩) h.lt hbz).trans h2, ?_⟩
      refine (h3.off ho fun i hi hi2 => ?_).setOther (p := ⟨b, j, none⟩) (fun e2 => by have := (h3.lt b e2).1; omega) _
      refine h.apart k j u v0 (List.getElem?_eq_some_iff.1 hk).1 hjl h1 hv e ?_ (hi.trans hi2.symm)
      rw [hi]; exact Option.some_ne_none _
  · rw [List.length_set] at hk hl
    have key : ∀ m, m < gs.length → m ≠ j → ∀ q, w.cell? ⟨b, m, none⟩ = some q → v'.ownBlock ≠ none → v'.ownBlock ≠ q.ownBlock := by
      intro m hm hmj q hq hn e
      rcases hw with h5 | ⟨i, h5, h6⟩
      · exact h.apart j m v0 q hjl hm hv hq (fun e => hmj e.symm) (by rw [← h5]; exact hn) (h5 ▸ e)
      · obtain ⟨q', hq', _, hrq⟩ := h.each m gs[m] (by simp [hm])
        obtain rfl : q' = q := Option.some.inj (hq'.symm.trans hq)
        have := (hrq.lt i (by rw [← e]; exact h5)).2
        omega
    by_cases ek : k = j
    · subst ek
      rw [hsame] at h1
      cases h1
      rw [hot l (fun e => hne e.symm)] at h2
      exact key l hl (fun e => hne e.symm) u' h2 hu
    · rw [hot k ek] at h1
      by_cases el : l = j
      · subst el
        rw [hsame] at h2
        cases h2
        intro e
        exact key k hk ek u h1 (by rw [← e]; exact hu) e.symm
      · rw [hot l el] at h2
        exact h.apart k l u u' hk hl h1 h2 hne hu
theorem Grid.pushed {b s j : Nat} {w w1 : World} {gs : List (List Int)} {g : List Int} {v v' : Value} (h : Grid b s w gs) (hj : gs[j]? = some g) (hv : w.cell? ⟨b, j, none⟩ = some v) (ho : Off (fun i => v.ownBlock = some i) w w1) : Off (fun i => i = b ∨ s ≤ i) w (w1.setCell ⟨b, j, none⟩ v') := by
  obtain ⟨v0, e0, hf0, hr0⟩ := h.each j g hj
  obtain rfl : v0 = v := Option.some.inj (e0.symm.trans hv)
  exact (ho.mono fun i hi => .inr (hr0.lt i hi).1).setCell (p := ⟨b, j, none⟩) (.inr (.inl rfl)) _

structure Web (w : World) (nv gv : Value) (ns : List ByteArray) (gs : List (List Int)) : Prop where
  names : Reads w nv ns
  rows : ∃ b s c, gv = .slice (some ⟨b, 0, none⟩) ns.length c ∧ ns.length ≤ c ∧ c ≤ 9223372036854775807 ∧ Grid b s w gs
  len : gs.length = ns.length
theorem Web.below {w w' : World} {nv gv : Value} {ns : List ByteArray} {gs : List (List Int)} (h : Web w nv gv ns gs) (hb : Below w.heap.size w w') : Web w' nv gv ns gs := by
  obtain ⟨b, s, c, h1, h2, h3, h4⟩ := h.rows
  exact ⟨h.names.below hb, ⟨b, s, c, h1, h2, h3, h4.below hb⟩, h.len⟩
end Go.Proofs.YtojnagonhihknaaGreatDoor
set_option linter.unusedVariables false
namespace Go.Proofs.YtojnagonhihknaaGreatDoor
open Go.ChangeShapes Go.WideShapes Go.ChangeAt Go.RowKit

theorem Row.cellK {k B b n cap j : Nat} {w : World} {cs : List Value} {u : Value} (h : Row k B w (.slice (some ⟨b, 0, none⟩) n cap) n cs) (hj : cs[j]? = some u) : w.cell? ⟨b, j, none⟩ = some u ∧ w.frozen? ⟨b, j, none⟩ = false ∧ B ≤ b ∧ b < w.heap.size ∧ n ≤ cap ∧ cap ≤ maxLen := by
  obtain ⟨h0, ⟨h, _⟩ | ⟨b', cap', h1, h2, h3, h4, h5, h6, h7⟩⟩ := h
  · cases h
  · injection h1 with e1 e2 e3
    injection e1 with e1
    injection e1 with e1
    subst e1; subst e3
    have hl := (List.getElem?_eq_some_iff.1 hj).1
    exact ⟨h7 j u hj, (h6 j (by rw [h0] at hl; exact Nat.lt_of_lt_of_le hl (Nat.mul_le_mul_right k h4))).2, h2, h3, h4, h5⟩
abbrev Ed := List (Int × Int)
def RE (w : World) (v : Value) (es : Ed) : Prop :=
  (es = [] ∧ ∃ a c, v = .slice a 0 c) ∨ (es ≠ [] ∧ ∃ b o c, v = .slice (some ⟨b, o, none⟩) es.length c ∧ es.length ≤ c ∧ c ≤ maxLen ∧ b < w.heap.size ∧ ∀ (j : Nat) e, es[j]? = some e → w.cell? ⟨b, o + j * 2, none⟩ = some (.int .i64 e.1) ∧ w.cell? ⟨b, o + j * 2 + 1, none⟩ = some (.int .i64 e.2))
theorem RE.below {w w' : World} {v : Value} {es : Ed} (h : RE w v es) (hb : Below w.heap.size w w') : RE w' v es := by
  rcases h with h | ⟨hn, b, o, c, h1, h2, h3, h4, h5⟩
  · exact .inl h
  · exact .inr ⟨hn, b, o, c, h1, h2, h3, Nat.lt_of_lt_of_le h4 hb.size, fun j e he => ⟨(hb.cell (p := ⟨b, o + j * 2, none⟩) h4).trans (h5 j e he).1, (hb.cell (p := ⟨b, o + j * 2 + 1, none⟩) h4).trans (h5 j e he).2⟩⟩
theorem RE.form {w : World} {v : Value} {es : Ed} (h : RE w v es) : ∃ a c, v = .slice a es.length c := by
  rcases h with ⟨rfl, a, c, rfl⟩ | ⟨hn, b, o, c, rfl, _⟩
  · exact ⟨_, _, rfl⟩
  · exact ⟨_, _, rfl⟩
theorem RE.at {w : World} {a : Option Addr} {n c : Nat} {es : Ed} (h : RE w (.slice a n c) es) {j : Nat} {e : Int × Int} (he : es[j]? = some e) : ∃ b o, a = some ⟨b, o, none⟩ ∧ b < w.heap.size ∧ n ≤ c ∧ c ≤ maxLen ∧ w.cell? ⟨b, o + j * 2, none⟩ = some (.int .i64 e.1) ∧ w.cell? ⟨b, o + j * 2 + 1, none⟩ = some (.int .i64 e.2) := by
  rcases h with ⟨rfl, a', c', e'⟩ | ⟨hn, b, o, c', e', hc, hm, hl, hx⟩
  · simp at he
  · simp only [Value.slice.injEq] at e'
    obtain ⟨rfl, rfl, rfl⟩ := e'
    exact ⟨b, o, rfl, hl, hc, hm, hx j e he⟩
def evs (es : Ed) : List Value := es.flatMap fun e => [.int .i64 e.1, .int .i64 e.2]
theorem evs_snoc (es : Ed) (e : Int × Int) : evs (es ++ [e]) = evs es ++ [.int .i64 e.1, .int .i64 e.2] := by simp [evs]
theorem evs_len (es : Ed) : (evs es).length = es.length * 2 := by
  induction es with
  | nil => rfl
  | cons e es ih =>
    have : evs (e :: es) = [.int .i64 e.1, .int .i64 e.2] ++ evs es := by simp [evs]
    rw [this, List.length_append, ih, List.length_cons]
    simp; omega
theorem evs_at : ∀ {es : Ed} {j : Nat} {e : Int × Int}, es[j]? = some e → (evs es)[j * 2]? = some (.int .i64 e.1) ∧ (evs es)[j * 2 + 1]? = some (.int .i64 e.2)
  | e0 :: es, 0, e, h => by
    simp at h; subst h
    simp [evs]
  | e0 :: es, j + 1, e, h => by
    rw [List.getElem?_cons_succ] at h
    obtain ⟨h1, h2⟩ := evs_at h
    have : evs (e0 :: es) = [.int .i64 e0.1, .int .i64 e0.2] ++ evs es := by simp [evs]
    rw [this]
    constructor
    · rw [List.getElem?_append_right (by simp; omega)]
      rw [show (j + 1) * 2 - ([Value.int .i64 e0.1, Value.int .i64 e0.2] : List Value).length = j * 2 by simp; omega]
      exact h1
    · rw [List.getElem?_append_right (by simp; omega)]
      rw [show (j + 1) * 2 + 1 - ([Value.int .i64 e0.1, Value.int .i64 e0.2] : List Value).length = j * 2 + 1 by simp; omega]
      exact h2
theorem RE.ofRow {B : Nat} {w : World} {v : Value} {es : Ed} (h : Row 2 B w v es.length (evs es)) : RE w v es := by
  rcases Nat.eq_zero_or_pos es.length with h0 | hp
  · obtain ⟨a, c, rfl⟩ := h.form
    rw [h0]
    exact .inl ⟨List.length_eq_zero_iff.1 h0, _, _, rfl⟩
  · obtain ⟨b, cap, rfl, h2, h3, h4, h5, h6, h7⟩ := h.pos hp
    exact .inr ⟨fun e => by rw [e] at hp; simp at hp, b, 0, cap, rfl, h4, h5, h3, fun j e he => by
      rw [Nat.zero_add]
      exact ⟨h7 _ _ (evs_at he).1, h7 _ _ (evs_at he).2⟩⟩
end Go.Proofs.YtojnagonhihknaaGreatDoor
set_option linter.unusedVariables false
namespace Go.Proofs.YtojnagonhihknaaGreatDoor
open Go.ChangeShapes Go.WideShapes Go.ChangeAt Go.RowKit

theorem run_method_deref {P : Program} {fuel : Nat} {T E e : TypeId} {p : Addr} {v : Value} {w : World} {name : String} {f : FuncId} (hM : ((P.info? T).bind fun i => i.methods.find? (·.name == name)).map (fun m => (m.path.toList, m.func)) = some ([], some (f, false)))
     (hu : P.underlying T = some (.pointer E)) (hE : P.underlying E = some (.slice e)) (hc : w.cell? p = some v) :
    (Go.method (fuel + 1) T (.pointer (some p)) name).run P w = .ok (f, v) w := by
  obtain ⟨m, hm, he⟩ := Option.map_eq_some_iff.1 hM
  obtain ⟨I, hI, hi⟩ := Option.bind_eq_some_iff.1 hm
  have hp : m.path = #[] := by have := (Prod.mk.inj he).1; simpa using this
  have hf : m.func = some (f, false) := (Prod.mk.inj he).2
  unfold Go.method
  have ht : (typeInfo T).run P w = .ok I w := by simp [typeInfo, Sem.run_bind, hI]
  have hl : (loadVar E p).run P w = .ok v w := by
    have ha : (isAgg E).run P w = .ok false w := by
      unfold isAgg
      rw [Sem.run_bind, run_underlying hE w]
      rfl
    simp [loadVar, Sem.run_bind, ha, hc]
  have hw : ∀ nm, Builtin.ssaWrapNilChk_ #[T] T #[.pointer (some p), strVal "", strVal nm] = pure (.pointer (some p)) := fun _ => rfl
  rw [Sem.run_bind, ht]
  simp only [Result.andThen_ok, hi]
  simp [hp, hf, follow, receiverAt, Sem.run_bind, run_underlying hu, Place.get, hw, asAddr, hl]
end Go.Proofs.YtojnagonhihknaaGreatDoor
set_option linter.unusedVariables false
namespace Go.Proofs.YtojnagonhihknaaGreatDoor
open Go.ChangeShapes Go.WideShapes Go.ChangeAt Go.RowKit

theorem methLen {p : Addr} {v : Value} {w : World} (hc : w.cell? p = some v) : (Go.method 403 193 (.pointer (some p)) "Len").run Tryz.prog w = .ok (242, v) w := run_method_deref (by kernel_rfl) Tryz.underlying193 Tryz.underlying191 hc
theorem methLess {p : Addr} {v : Value} {w : World} (hc : w.cell? p = some v) : (Go.method 403 193 (.pointer (some p)) "Less").run Tryz.prog w = .ok (243, v) w := run_method_deref (by kernel_rfl) Tryz.underlying193 Tryz.underlying191 hc
theorem methSwap {p : Addr} {v : Value} {w : World} (hc : w.cell? p = some v) : (Go.method 403 193 (.pointer (some p)) "Swap").run Tryz.prog w = .ok (244, v) w := run_method_deref (by kernel_rfl) Tryz.underlying193 Tryz.underlying191 hc
theorem methPush (p : Addr) (w : World) : (Go.method 403 193 (.pointer (some p)) "Push").run Tryz.prog w = .ok (246, .pointer (some p)) w := by kernel_rfl
theorem methPop (p : Addr) (w : World) : (Go.method 403 193 (.pointer (some p)) "Pop").run Tryz.prog w = .ok (245, .pointer (some p)) w := by kernel_rfl

theorem len_any (a : Option Addr) (n c : Nat) (w : World) : Calls Tryz.prog 242 #[.slice a n c] w fun e w' => e = .returned (.int .i64 n) ∧ w' = w := by
  go_enter Tryz.func242, Tryz.ntmps242
  go_wp2
  go_ret
  exact ⟨rfl, rfl⟩

theorem less_any (a : List Int) (b n c i j : Nat) (w : World) (hn : n = a.length) (hc : n ≤ c) (hm : c ≤ maxLen) (hi : i < n) (hj : j < n) (hx : w.cell? ⟨b, i, none⟩ = some (.int .i64 (a.getD i 0))) (hy : w.cell? ⟨b, j, none⟩ = some (.int .i64 (a.getD j 0))) :
    Calls Tryz.prog 243 #[.slice (some ⟨b, 0, none⟩) n c, .int .i64 (i : Nat), .int .i64 (j : Nat)] w fun e w' => e = .returned (.bool (decide (a.getD i 0 < a.getD j 0))) ∧ ∃ d, w' = w.drewN d := by
  unfold maxLen at hm
  obtain ⟨x, ex⟩ : ∃ x, x = a.getD i 0 := ⟨_, rfl⟩
  obtain ⟨y, ey⟩ : ∃ y, y = a.getD j 0 := ⟨_, rfl⟩
  rw [← ex] at hx ⊢
  rw [← ey] at hy ⊢
  clear ex ey hn
  go_enter Tryz.func243, Tryz.ntmps243
  go_wp2
  go_quiet (fail)
  go_wp2
  go_ret
  exact ⟨rfl, _, rfl⟩

theorem swap_any (a : List Int) (b n c i j : Nat) (w : World) (hn : n = a.length) (hc : n ≤ c) (hm : c ≤ maxLen) (hi : i < n) (hj : j < n) (hx : w.cell? ⟨b, i, none⟩ = some (.int .i64 (a.getD i 0))) (hy : w.cell? ⟨b, j, none⟩ = some (.int .i64 (a.getD j 0)))
    (fx : w.frozen? ⟨b, i, none⟩ = false) (fy : w.frozen? ⟨b, j, none⟩ = false) :
    Calls Tryz.prog 244 #[.slice (some ⟨b, 0, none⟩) n c, .int .i64 (i : Nat), .int .i64 (j : Nat)] w fun e w' => e = .returned (.tuple #[]) ∧ ∃ d, w' = ((w.setCell ⟨b, i, none⟩ (.int .i64 (a.getD j 0))).setCell ⟨b, j, none⟩ (.int .i64 (a.getD i 0))).drewN d := by
  unfold maxLen at hm
  obtain ⟨x, ex⟩ : ∃ x, x = a.getD i 0 := ⟨_, rfl⟩
  obtain ⟨y, ey⟩ : ∃ y, y = a.getD j 0 := ⟨_, rfl⟩
  rw [← ex] at hx ⊢
  rw [← ey] at hy ⊢
  clear ex ey hn
  obtain ⟨z, hz⟩ : ∃ z, (w.setCell ⟨b, i, none⟩ (.int .i64 y)).cell? ⟨b, j, none⟩ = some z := by
    by_cases e : i = j
    · subst e
      exact ⟨_, World.cell?_setCell_same _ _ _ hx⟩
    · exact ⟨_, (World.cell?_setCell_other _ _ _ _ (fun h => e (by injection h))).trans hy⟩
  go_enter Tryz.func244, Tryz.ntmps244
  go_region
  go_wp2
  go_end0
  exact ⟨rfl, 1, rfl⟩

theorem rpop_any (a : List Int) (p b m c : Nat) (w : World) (hc : m + 1 ≤ c) (hm : c ≤ maxLen) (hp : w.cell? ⟨p, 0, none⟩ = some (.slice (some ⟨b, 0, none⟩) (m + 1) c)) (hf : w.frozen? ⟨p, 0, none⟩ = false) (hx : w.cell? ⟨b, m, none⟩ = some (.int .i64 (a.getD m 0))) :
    Calls Tryz.prog 245 #[.pointer (some ⟨p, 0, none⟩)] w fun e w' => e = .returned (.iface 3 (.int .i64 (a.getD m 0))) ∧ ∃ d, w' = (w.setCell ⟨p, 0, none⟩ (.slice (some ⟨b, 0, none⟩) m c)).drewN d := by
  unfold maxLen at hm
  obtain ⟨x, ex⟩ : ∃ x, x = a.getD m 0 := ⟨_, rfl⟩
  rw [← ex] at hx ⊢
  clear ex
  have h0 : m ≠ c := by omega
  go_enter Tryz.func245, Tryz.ntmps245
  go_wp2
  go_ret
  exact ⟨rfl, 0, rfl⟩

theorem oneI {k : IntKind} {x : Int} : ∀ u ∈ [Value.int k x], u.oneCell' = true := by
  intro u hu
  rw [List.mem_singleton] at hu
  rw [hu]; rfl
theorem infoInt : (Tryz.prog.info? 3).map (fun i => (i.zero, i.size, i.bytes)) = some (some (.int .i64 0), 1, 8) := by kernel_rfl
theorem rpush_any (a : List Int) (p B n c : Nat) (ad : Option Addr) (x : Int) (w : World) (hn : n ≤ 1000000000) (hp : w.cell? ⟨p, 0, none⟩ = some (.slice ad n c)) (hf : w.frozen? ⟨p, 0, none⟩ = false) (hr : Row 1 B w (.slice ad n c) n (iv a)) (hlt : p < B) (hB : B ≤ w.heap.size) :
    Calls Tryz.prog 246 #[.pointer (some ⟨p, 0, none⟩), .iface 3 (.int .i64 x)] w fun e w' => e = .returned (.tuple #[]) ∧ ∃ v' w1 d, w' = (w1.setCell ⟨p, 0, none⟩ v').drewN d ∧ Row 1 B w1 v' (n + 1) (iv a ++ [.int .i64 x]) ∧ Off (fun i => (Value.slice ad n c).ownBlock = some i) w w1 ∧
      (v'.ownBlock = (Value.slice ad n c).ownBlock ∨ ∃ k, v'.ownBlock = some k ∧ w.heap.size ≤ k) := by
  have hpl : p < w.heap.size := by omega
  have HR := Lib.hid hr
  have hnz : ¬ (Value.slice ad n c).ownBlock = some p := fun e => by have := (hr.lt p e).1; omega
  clear hr
  obtain ⟨wz, hwz⟩ : ∃ wz, wz = (w.alloc (.cells #[.int .i64 x] 3)).drew := ⟨_, rfl⟩
  have hszz : wz.heap.size = w.heap.size + 1 := by rw [hwz]; show (w.alloc _).heap.size = _; simp
  have hoz : Off (fun _ => False) w wz := by rw [hwz]; exact ((Off.refl _ w).alloc _).drew
  have HR2 : Hid (Row 1 B (w.alloc (.cells #[.int .i64 x] 3)).drew (.slice ad n c) n (iv a)) := Lib.hid ((HR.out.alloc _).drew)
  have HS : Hid (Src Tryz.prog 1 191 (.slice (some ⟨w.heap.size, 0, none⟩) 1 1) 1 [.int .i64 x] (w.alloc (.cells #[.int .i64 x] 3)).drew) := Lib.hid (by
    have h := Tryz.underlying191
    refine Src.ofSlice _ h _ 1 1 [.int .i64 x] rfl (fun j u hj => ?_) oneI
    have e2 : (⟨w.heap.size, 0, none⟩ : Addr).add j = ⟨w.heap.size, j, none⟩ := by unfold Addr.add; split <;> simp_all
    rw [e2]
    show (w.alloc (.cells #[.int .i64 x] 3)).cell? _ = _
    rw [World.cell?_alloc_at _ _ _ _ rfl]
    simpa using hj)
  have hB2 : B ≤ (w.alloc (.cells #[.int .i64 x] 3)).drew.heap.size := by rw [← hwz, hszz]; omega
  have hn2 : n + 1 ≤ 1099511627776 := by omega
  have hb2 : 8 ≤ 64 := by decide
  have HK1 : Hid (∀ w6, Off (fun i => (Value.slice ad n c).ownBlock = some i) (w.alloc (.cells #[.int .i64 x] 3)).drew w6 → w6.cell? ⟨p, 0, none⟩ = some (.slice ad n c)) := Lib.hid fun w6 ho6 => by
    rw [← hwz] at ho6
    exact (ho6.cell (p := ⟨p, 0, none⟩) (by rw [hszz]; show p < _; omega) hnz).trans ((hoz.cell (p := ⟨p, 0, none⟩) hpl (fun h => h)).trans hp)
  have HK2 : Hid (∀ w6, Off (fun i => (Value.slice ad n c).ownBlock = some i) (w.alloc (.cells #[.int .i64 x] 3)).drew w6 → w6.frozen? ⟨p, 0, none⟩ = false) := Lib.hid fun w6 ho6 => by
    rw [← hwz] at ho6
    exact (ho6.frozen (p := ⟨p, 0, none⟩) (by rw [hszz]; show p < _; omega) hnz).trans ((hoz.frozen (p := ⟨p, 0, none⟩) hpl (fun h => h)).trans hf)
  have HZ : Hid (Off (fun i => (Value.slice ad n c).ownBlock = some i) w (w.alloc (.cells #[.int .i64 x] 3)).drew) := Lib.hid (((Off.refl _ w).alloc _).drew)
  have HSZ : Hid (w.heap.size ≤ (w.alloc (.cells #[.int .i64 x] 3)).drew.heap.size) := Lib.hid (by rw [← hwz, hszz]; omega)
  clear hwz hszz hoz wz
  have ta : ∀ w' : World, (Instr.typeAssert (.iface 3 (.int .i64 x)) 20 3 false).run Tryz.prog w' = .ok (.int .i64 x) w' := fun _ => by kernel_rfl
  go_enter Tryz.func246, Tryz.ntmps246
  go_region_law (refine step_append_row rfl (.tmp 7) (.tmp 10) 191 191 rfl 1 3 (.int .i64 0) 8 Tryz.underlying191 infoInt rfl B (.slice ad n c) n (iv a) (by simp [Act.eval]) HR2.out (.slice (some ⟨w.heap.size, 0, none⟩) 1 1) (by simp [Act.eval]) 1 [.int .i64 x] HS.out hB2 hn2 hb2 ?_; intro v6 w6 hr6 ho6 hw6; have k1 := HK1.out w6 ho6; have k2 := HK2.out w6 ho6; obtain ⟨a6, c6, hv6⟩ := hr6.form; subst hv6)
  all_goals
    go_end0
    exact ⟨rfl, _, w6, 0, rfl, hr6, HZ.out.trans ho6, hw6.imp id fun h => ⟨_, h, HSZ.out⟩⟩
end Go.Proofs.YtojnagonhihknaaGreatDoor
