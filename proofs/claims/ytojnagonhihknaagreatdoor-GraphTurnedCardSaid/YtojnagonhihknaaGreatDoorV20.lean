/- Heaps of ints behind a pointer, and rows of rows of ints, in memory. No function of the program is named here. Elements of a slice of named patches that a law has made. The contracts of slices.BinarySearch over rising texts, and of the web's place. -/
import Derived.Deep.CutRange
import Derived.Sort.Walk0
import Derived.Test.YtojnagonhihknaaGreatDoorV16
import Derived.Test.YtojnagonhihknaaGreatDoorV17
import Derived.Test.YtojnagonhihknaaGreatDoorV18
import Derived.Test.YtojnagonhihknaaGreatDoorV4
set_option linter.unusedVariables false
namespace Go.Proofs.YtojnagonhihknaaGreatDoor
open Go.ChangeShapes Go.WideShapes Go.ChangeAt Go.RowKit

theorem Row.put {k B n b cap j : Nat} {w : World} {cs : List Value} (h : Row k B w (.slice (some ⟨b, 0, none⟩) n cap) n cs) (hj : j < cs.length) (u : Value) : Row k B (w.setCell ⟨b, j, none⟩ u) (.slice (some ⟨b, 0, none⟩) n cap) n (cs.set j u) := by
  obtain ⟨h0, ⟨h, _⟩ | ⟨b', cap', h1, h2, h3, h4, h5, h6, h7⟩⟩ := h
  · cases h
  · injection h1 with e1 e2 e3
    injection e1 with e1
    injection e1 with e1
    subst e1; subst e3
    have hc : n * k ≤ cap * k := Nat.mul_le_mul_right k h4
    have hjn : j < n * k := by rw [← h0]; exact hj
    refine ⟨by rw [List.length_set]; exact h0, .inr ⟨b, cap, rfl, h2, by simpa [World.setCell] using h3, h4, h5, fun i hi => ?_, fun i v hv => ?_⟩⟩
    · refine ⟨?_, by rw [World.frozen?_setCell]; exact (h6 i hi).2⟩
      by_cases e : j = i
      · subst e
        obtain ⟨x, hx⟩ := Option.isSome_iff_exists.1 (h6 j hi).1
        rw [World.cell?_setCell_same _ _ _ hx]; rfl
      · rw [World.cell?_setCell_other _ _ _ _ (fun h => e (by injection h))]
        exact (h6 i hi).1
    · by_cases e : j = i
      · subst e
        obtain ⟨x, hx⟩ := Option.isSome_iff_exists.1 (h6 j (by omega)).1
        rw [World.cell?_setCell_same _ _ _ hx]
        rw [List.getElem?_set_self hj] at hv
        exact hv
      · rw [World.cell?_setCell_other _ _ _ _ (fun h => e (by injection h))]
        rw [List.getElem?_set_ne e] at hv
        exact h7 i v hv
theorem Row.front {B n b cap m : Nat} {w : World} {cs : List Value} (h : Row 1 B w (.slice (some ⟨b, 0, none⟩) n cap) n cs) (hm : m ≤ n) : Row 1 B w (.slice (some ⟨b, 0, none⟩) m cap) m (cs.take m) := by
  obtain ⟨h0, ⟨h, _⟩ | ⟨b', cap', h1, h2, h3, h4, h5, h6, h7⟩⟩ := h
  · cases h
  · injection h1 with e1 e2 e3
    injection e1 with e1
    injection e1 with e1
    subst e1; subst e3
    refine ⟨by rw [List.length_take]; omega, .inr ⟨b, cap, rfl, h2, h3, by omega, h5, h6, fun i v hv => ?_⟩⟩
    rw [List.getElem?_take] at hv
    split at hv
    · exact h7 i v hv
    · cases hv

theorem Row.cellF {B b n cap j : Nat} {w : World} {cs : List Value} {u : Value} (h : Row 1 B w (.slice (some ⟨b, 0, none⟩) n cap) n cs) (hj : cs[j]? = some u) : w.cell? ⟨b, j, none⟩ = some u ∧ w.frozen? ⟨b, j, none⟩ = false ∧ B ≤ b ∧ b < w.heap.size ∧ n ≤ cap ∧ cap ≤ maxLen := by
  obtain ⟨h0, ⟨h, _⟩ | ⟨b', cap', h1, h2, h3, h4, h5, h6, h7⟩⟩ := h
  · cases h
  · injection h1 with e1 e2 e3
    injection e1 with e1
    injection e1 with e1
    subst e1; subst e3
    have hl := (List.getElem?_eq_some_iff.1 hj).1
    exact ⟨h7 j u hj, (h6 j (by omega)).2, h2, h3, h4, h5⟩
abbrev iv (a : List Int) : List Value := a.map (Value.int .i64)
theorem iv_len (a : List Int) : (iv a).length = a.length := by simp
theorem iv_at {a : List Int} {j : Nat} (h : j < a.length) : (iv a)[j]? = some (.int .i64 (a.getD j 0)) := by
  simp [iv, List.getD_eq_getElem?_getD, h]
theorem iv_set (a : List Int) (j : Nat) (x : Int) : (iv a).set j (.int .i64 x) = iv (a.set j x) := by simp [iv, List.map_set]
theorem iv_take (a : List Int) (m : Nat) : (iv a).take m = iv (a.take m) := by simp [iv, List.map_take]

structure Hp (p B : Nat) (w : World) (v : Value) (a : List Int) : Prop where
  cell : w.cell? ⟨p, 0, none⟩ = some v
  fro : w.frozen? ⟨p, 0, none⟩ = false
  row : Row 1 B w v a.length (iv a)
  lt : p < B
theorem Hp.box {p B : Nat} {w : World} {v : Value} {a : List Int} (h : Hp p B w v a) : p < w.heap.size := by
  rcases Nat.lt_or_ge p w.heap.size with h1 | h1
  · exact h1
  · have := h.cell
    simp [World.cell?, Array.getElem?_eq_none h1] at this
theorem Hp.off {p B : Nat} {Z : Nat → Prop} {w w' : World} {v : Value} {a : List Int} (h : Hp p B w v a) (ho : Off Z w w') (hp : ¬ Z p) (hz : ∀ b, v.ownBlock = some b → ¬ Z b) : Hp p B w' v a :=
  ⟨(ho.cell (p := ⟨p, 0, none⟩) h.box hp).trans h.cell, (ho.frozen (p := ⟨p, 0, none⟩) h.box hp).trans h.fro, h.row.off ho hz, h.lt⟩
theorem Hp.below {p B : Nat} {w w' : World} {v : Value} {a : List Int} (h : Hp p B w v a) (hb : Below w.heap.size w w') : Hp p B w' v a :=
  ⟨(hb.cell (p := ⟨p, 0, none⟩) h.box).trans h.cell, (hb.frozen (p := ⟨p, 0, none⟩) h.box).trans h.fro, h.row.below hb, h.lt⟩
theorem Hp.at {p B : Nat} {w : World} {v : Value} {a : List Int} (h : Hp p B w v a) (h0 : 0 < a.length) : ∃ b cap, v = .slice (some ⟨b, 0, none⟩) a.length cap ∧ B ≤ b ∧ b < w.heap.size ∧ a.length ≤ cap ∧ cap ≤ maxLen ∧
    ∀ j, j < a.length → w.cell? ⟨b, j, none⟩ = some (.int .i64 (a.getD j 0)) ∧ w.frozen? ⟨b, j, none⟩ = false := by
  obtain ⟨b, cap, rfl, h2, h3, h4, h5, h6, h7⟩ := h.row.pos h0
  exact ⟨b, cap, rfl, h2, h3, h4, h5, fun j hj => ⟨h7 j _ (iv_at hj), (h6 j (by omega)).2⟩⟩
theorem Hp.cells {p B b n c : Nat} {w : World} {a : List Int} (h : Hp p B w (.slice (some ⟨b, 0, none⟩) n c) a) (hl : a.length = n) (j : Nat) (hj : j < n) : w.cell? ⟨b, j, none⟩ = some (.int .i64 (a.getD j 0)) ∧ w.frozen? ⟨b, j, none⟩ = false := by
  obtain ⟨b', c', hv, _, _, _, _, hc⟩ := h.at (by omega)
  injection hv with hv1 _ _
  injection hv1 with hv1
  injection hv1 with hv1
  subst hv1
  exact hc j (by omega)
theorem Hp.swap {p B b cap i j : Nat} {w : World} {a : List Int} (h : Hp p B w (.slice (some ⟨b, 0, none⟩) a.length cap) a) (hi : i < a.length) (hj : j < a.length) :
    Hp p B ((w.setCell ⟨b, i, none⟩ (.int .i64 (a.getD j 0))).setCell ⟨b, j, none⟩ (.int .i64 (a.getD i 0))) (.slice (some ⟨b, 0, none⟩) (swapL a i j).length cap) (swapL a i j) ∧
    Off (fun k => k = b) w ((w.setCell ⟨b, i, none⟩ (.int .i64 (a.getD j 0))).setCell ⟨b, j, none⟩ (.int .i64 (a.getD i 0))) := by
  have hb := (h.row.lt b rfl).1
  have hlt := h.lt
  have hne : p ≠ b := by omega
  have hr := (h.row.put (j := i) (by simpa using hi) (.int .i64 (a.getD j 0))).put (j := j) (by simpa using hj) (.int .i64 (a.getD i 0))
  rw [iv_set, iv_set] at hr
  rw [swapL_len]
  refine ⟨⟨?_, ?_, by rw [swapL_len]; exact hr, h.lt⟩, ((Off.refl (fun k => k = b) w).setCell (p := ⟨b, i, none⟩) (.inr rfl) _).setCell (p := ⟨b, j, none⟩) (.inr rfl) _⟩
  · rw [World.cell?_setCell_other _ _ _ _ (fun e => hne (by injection e with e; exact e.symm)), World.cell?_setCell_other _ _ _ _ (fun e => hne (by injection e with e; exact e.symm))]
    exact h.cell
  · rw [World.frozen?_setCell, World.frozen?_setCell]; exact h.fro
theorem Hp.store {p B : Nat} {w : World} {v v' : Value} {a' : List Int} (h : w.cell? ⟨p, 0, none⟩ = some v) (hf : w.frozen? ⟨p, 0, none⟩ = false) (hlt : p < B) (hr : Row 1 B w v' a'.length (iv a')) : Hp p B (w.setCell ⟨p, 0, none⟩ v') v' a' := by
  refine ⟨World.cell?_setCell_same _ _ _ h, by rw [World.frozen?_setCell]; exact hf, hr.setOther (p := ⟨p, 0, none⟩) (fun e => ?_) _, hlt⟩
  have := (hr.lt p e).1
  omega

structure Grid (b s : Nat) (w : World) (gs : List (List Int)) : Prop where
  lt : b < w.heap.size
  bs : b < s
  each : ∀ j g, gs[j]? = some g → ∃ v, w.cell? ⟨b, j, none⟩ = some v ∧ w.frozen? ⟨b, j, none⟩ = false ∧ Row 1 s w v g.length (iv g)
  apart : ∀ j k v v', j < gs.length → k < gs.length → w.cell? ⟨b, j, none⟩ = some v → w.cell? ⟨b, k, none⟩ = some v' → j ≠ k → v.ownBlock ≠ none → v.ownBlock ≠ v'.ownBlock
theorem Grid.off {b s : Nat} {Z : Nat → Prop} {w w' : World} {gs : List (List Int)} (h : Grid b s w gs) (ho : Off Z w w') (hb : ¬ Z b) (hz : ∀ i, s ≤ i → i < w.heap.size → ¬ Z i) : Grid b s w' gs := by
  have hc := fun j => ho.cell (p := ⟨b, j, none⟩) h.lt hb
  refine ⟨Nat.lt_of_lt_of_le h.lt ho.size, h.bs, fun j g hj => ?_, fun j k v v' hj hk h1 h2 => ?_⟩
  · obtain ⟨v, h1, h2, h3⟩ := h.each j g hj
    exact ⟨v, (hc j).trans h1, (ho.frozen (p := ⟨b, j, none⟩) h.lt hb).trans h2, h3.off ho fun i hi => hz i (h3.lt i hi).1 (h3.lt i hi).2⟩
  · rw [hc] at h1 h2
    exact h.apart j k v v' hj hk h1 h2
theorem Grid.below {b s : Nat} {w w' : World} {gs : List (List Int)} (h : Grid b s w gs) (hb : Below w.heap.size w w') : Grid b s w' gs :=
  h.off (Z := fun _ => False) (Off.of_below hb) (fun h => h) (fun _ _ _ h => h)
theorem grid_new {b s n : Nat} {w : World} (hb : b < w.heap.size) (hs : b < s) (h : ∀ j, j < n → w.cell? ⟨b, j, none⟩ = some (.slice none 0 0) ∧ w.frozen? ⟨b, j, none⟩ = false) : Grid b s w (List.replicate n []) := by
  refine ⟨hb, hs, fun j g hj => ?_, fun j k v v' hj hk h1 h2 hne hv => ?_⟩
  · rw [List.getElem?_replicate] at hj
    split at hj
    · rename_i hl
      cases hj
      exact ⟨_, (h j hl).1, (h j hl).2, Row.nil _ _ _⟩
    · cases hj
  · rw [List.length_replicate] at hj
    rw [(h j hj).1] at h1
    cases h1
    exact absurd rfl hv
theorem Grid.push {b s j : Nat} {w w1 : World} {gs : List (List Int)} {g : List Int} {x : Int} {v v' : Value} (h : Grid b s w gs) (hj : gs[j]? = some g) (hv : w.cell? ⟨b, j, none⟩ = some v)
    (ho : Off (fun i => v.ownBlock = some i) w w1) (hr : Row 1 s w1 v' (g.length + 1) (iv g ++ [.int .i64 x])) (hw : v'.ownBlock = v.ownBlock ∨ ∃ k, v'.ownBlock = some k ∧ w.heap.size ≤ k) : Grid b s (w1.setCell ⟨b, j, none⟩ v') (gs.set j (g ++ [x])) := by
  have hjl : j < gs.length := (List.getElem?_eq_some_iff.1 hj).1
  have hbs := h.bs
  obtain ⟨v0, e0, hf0, hr0⟩ := h.each j g hj
  obtain rfl : v0 = v := Option.some.inj (e0.symm.trans hv)
  have hnb : ∀ i, v0.ownBlock = some i → b < i ∧ i < w.heap.size := fun i hi => ⟨by have := (hr0.lt i hi).1; omega, (hr0.lt i hi).2⟩
  have hbz : ¬ v0.ownBlock = some b := fun e => by have := (hnb b e).1; omega
  have hc := fun k => ho.cell (p := ⟨b, k, none⟩) h.lt hbz
  have hv1 : w1.cell? ⟨b, j, none⟩ = some v0 := (hc j).trans hv
  have hot : ∀ k, k ≠ j → (w1.setCell ⟨b, j, none⟩ v').cell? ⟨b, k, none⟩ = w.cell? ⟨b, k, none⟩ := fun k hk => by
    rw [World.cell?_setCell_other _ _ _ _ (fun e => hk (by injection e with _ e; exact e.symm))]
    exact hc k
  have hsame : (w1.setCell ⟨b, j, none⟩ v').cell? ⟨b, j, none⟩ = some v' := World.cell?_setCell_same _ _ _ hv1
  have hown : ∀ i, v'.ownBlock = some i → b < i := fun i hi => by have := (hr.lt i hi).1; omega
  refine ⟨by simpa [World.setCell] using Nat.lt_of_lt_of_le h.lt ho.size, hbs, fun k g' hk => ?_, fun k l u u' hk hl h1 h2 hne hu => ?_⟩
  · by_cases e : k = j
    · subst e
      rw [List.getElem?_set_self hjl] at hk
      cases hk
      refine ⟨v', hsame, by rw [World.frozen?_setCell]; exact (ho.frozen (p := ⟨b, k, none⟩) h.lt hbz).trans hf0, ?_⟩
      have := hr.setOther (p := ⟨b, k, none⟩) (fun e => by have := hown b e; omega) v'
      simpa [iv] using this
    · rw [List.getElem?_set_ne (fun h => e h.symm)] at hk
      obtain ⟨u, h1, h2, h3⟩ := h.each k g' hk
      refine ⟨u, (hot k e).trans h1, by rw [World.frozen?_setCell]; exact (ho.frozen (p := ⟨b, k, none⟩) h.lt hbz).trans h2, ?_⟩
      refine (h3.off ho fun i hi hi2 => ?_).setOther (p := ⟨b, j, none⟩) (fun e2 => by have := (h3.lt b e2).1; omega) _
      refine h.apart k j u v0 (List.getElem?_eq_some_iff.1 hk).1 hjl h1 hv e ?_ (hi.trans hi2.symm)
      rw [hi]; exact Option.some_ne_none _
  · rw [List.length_set] at hk hl
    have key : ∀ m, m < gs.length → m ≠ j → ∀ q, w.cell? ⟨b, m, none⟩ = some q → v'.ownBlock ≠ none → v'.ownBlock ≠ q.ownBlock := by
      intro m hm hmj q hq hn e
      rcases hw with h5 | ⟨i, h5, h6⟩
      · exact h.apart j m v0 q hjl hm hv hq (fun e => hmj e.symm) (by rw [← h5]; exact hn) (h5 ▸ e)
      · obtain ⟨q', hq', _, hrq⟩ := h.each m gs[m] (by simp [hm])
        obtain rfl : q' = q := Option.some.inj (hq'.symm.trans hq)
        have := (hrq.lt i (by rw [← e]; exact h5)).2
        omega
    by_cases ek : k = j
    · subst ek
      rw [hsame] at h1
      cases h1
      rw [hot l (fun e => hne e.symm)] at h2
      exact key l hl (fun e => hne e.symm) u' h2 hu
    · rw [hot k ek] at h1
      by_cases el : l = j
      · subst el
        rw [hsame] at h2
        cases h2
        intro e
        exact key k hk ek u h1 (by rw [← e]; exact hu) e.symm
      · rw [hot l el] at h2
        exact h.apart k l u u' hk hl h1 h2 hne hu
theorem Grid.pushed {b s j : Nat} {w w1 : World} {gs : List (List Int)} {g : List Int} {v v' : Value} (h : Grid b s w gs) (hj : gs[j]? = some g) (hv : w.cell? ⟨b, j, none⟩ = some v) (ho : Off (fun i => v.ownBlock = some i) w w1) : Off (fun i => i = b ∨ s ≤ i) w (w1.setCell ⟨b, j, none⟩ v') := by
  obtain ⟨v0, e0, hf0, hr0⟩ := h.each j g hj
  obtain rfl : v0 = v := Option.some.inj (e0.symm.trans hv)
  exact (ho.mono fun i hi => .inr (hr0.lt i hi).1).setCell (p := ⟨b, j, none⟩) (.inr (.inl rfl)) _

structure Web (w : World) (nv gv : Value) (ns : List ByteArray) (gs : List (List Int)) : Prop where
  names : Reads w nv ns
  rows : ∃ b s c, gv = .slice (some ⟨b, 0, none⟩) ns.length c ∧ ns.length ≤ c ∧ c ≤ 9223372036854775807 ∧ Grid b s w gs
  len : gs.length = ns.length
theorem Web.below {w w' : World} {nv gv : Value} {ns : List ByteArray} {gs : List (List Int)} (h : Web w nv gv ns gs) (hb : Below w.heap.size w w') : Web w' nv gv ns gs := by
  obtain ⟨b, s, c, h1, h2, h3, h4⟩ := h.rows
  exact ⟨h.names.below hb, ⟨b, s, c, h1, h2, h3, h4.below hb⟩, h.len⟩
end Go.Proofs.YtojnagonhihknaaGreatDoor
set_option linter.unusedVariables false
set_option linter.unusedSimpArgs false
namespace Go.Proofs.YtojnagonhihknaaGreatDoor
open Go.ChangeShapes Go.WideShapes Go.ChangeAt Go.RowKit

structure El7 where
  nm : ByteArray
  P : Pt
  dv : Value
  ov : Value
def El7.cells (e : El7) : List Value := [.string e.nm, .string e.P.note, e.dv, e.ov]
def El7.key (e : El7) : ByteArray × Pt := (e.nm, e.P)
theorem el7_at : ∀ {els : List El7} {j : Nat} {e : El7} {i : Nat} {v : Value}, els[j]? = some e → (El7.cells e)[i]? = some v → (els.flatMap El7.cells)[j * 4 + i]? = some v
  | [], j, e, i, v, h, _ => by simp at h
  | y :: r, 0, e, i, v, h, hv => by
    simp at h; subst h
    have hi : i < 4 := (List.getElem?_eq_some_iff.1 hv).1
    rw [List.flatMap_cons, List.getElem?_append_left (by show _ < 4; omega), Nat.zero_mul, Nat.zero_add]
    exact hv
  | y :: r, j + 1, e, i, v, h, hv => by
    have h' : r[j]? = some e := by simpa using h
    rw [List.flatMap_cons, List.getElem?_append_right (by show 4 ≤ _; omega), show (j + 1) * 4 + i - (El7.cells y).length = j * 4 + i by show (j + 1) * 4 + i - 4 = _; omega]
    exact el7_at h' hv
theorem els7_reads {B : Nat} {w : World} {v : Value} {els : List El7} (h : Row 4 B w v els.length (els.flatMap El7.cells)) (hp : ∀ e ∈ els, PReads w e.P.note e.dv e.ov e.P) : GReads w v (els.map El7.key) := by
  rcases Nat.eq_zero_or_pos els.length with h0 | hpos
  · obtain ⟨a, c, rfl⟩ := h.form
    rw [h0]
    exact .inl ⟨by rw [List.length_eq_zero_iff.1 h0]; rfl, _, _, rfl⟩
  · obtain ⟨b, cap, rfl, h2, h3, h4, h5, h6, h7⟩ := h.pos hpos
    refine .inr ⟨fun e => by rw [List.map_eq_nil_iff] at e; rw [e] at hpos; simp at hpos, b, 0, cap, by rw [List.length_map], by rw [List.length_map]; exact h4, (by unfold maxLen at h5; omega), h3, fun j p hj => ?_⟩
    rw [List.getElem?_map] at hj
    obtain ⟨e, he, rfl⟩ := Option.map_eq_some_iff.1 hj
    rw [Nat.zero_add]
    exact ⟨e.dv, e.ov, h7 _ _ (el7_at (i := 0) he rfl), h7 _ _ (el7_at (i := 1) he rfl), h7 _ _ (el7_at (i := 2) he rfl), h7 _ _ (el7_at (i := 3) he rfl), hp e (List.mem_of_getElem? he)⟩
end Go.Proofs.YtojnagonhihknaaGreatDoor
set_option linter.unusedVariables false
namespace Go.Proofs.YtojnagonhihknaaGreatDoor
open Go.ChangeShapes Go.WideShapes Go.ChangeAt Go.RowKit

theorem lessB (x y : ByteArray) : Op.bytesLess x.toList y.toList = decide (bsOf x < bsOf y) := by
  rw [Go.Proofs.bytesLess_eq, ByteArray.toList_eq, ByteArray.toList_eq]
  rfl
theorem bs_of_eq {x y : ByteArray} (h : bsOf x = bsOf y) : x = y := by
  rw [← tx_data x, ← tx_data y]; exact congrArg tx h
theorem isNaN1 (x : ByteArray) (w : World) : Calls Tryz.prog 180 #[.string x] w fun e w' => e = .returned (.bool false) ∧ w' = w := by
  go_enter Tryz.func180, Tryz.ntmps180
  go_wp2
  go_ret
  simp
theorem isNaN2 (x : ByteArray) (w : World) : Calls Tryz.prog 164 #[.string x] w fun e w' => e = .returned (.bool false) ∧ w' = w := by
  go_enter Tryz.func164, Tryz.ntmps164
  go_wp2
  go_ret
  simp
theorem cmpLess (x y : ByteArray) (w : World) : Calls Tryz.prog 161 #[.string x, .string y] w fun e w' => e = .returned (.bool (decide (bsOf x < bsOf y))) ∧ w' = w := by
  rw [← lessB]
  have I1 := Lib.hid (isNaN1 x)
  go_enter Tryz.func161, Tryz.ntmps161
  go_wp2_with fail
  refine (I1.out _).mono ?_
  rintro e w' ⟨rfl, rfl⟩
  go_wp2
  go_ret
  exact ⟨rfl, rfl⟩

set_option maxHeartbeats 1000000 in
set_option maxRecDepth 100000 in
theorem bsearch_any (ns : Lb) (v : Value) (x : ByteArray) (w : World) (hr : Reads w v ns) (ha : Asc (ns.map bsOf)) (hn : ns.length ≤ 1000000) :
    Calls Tryz.prog 130 #[v, .string x] w fun e w' => ∃ i : Nat, e = .returned (.tuple #[.int .i64 (i : Nat), .bool (decide (bsOf x ∈ ns.map bsOf))]) ∧ (bsOf x ∈ ns.map bsOf → (i : Int) = placeB (ns.map bsOf) (bsOf x)) ∧ w' = w := by
  obtain ⟨a, c, rfl, hc⟩ := hr.form
  obtain ⟨n, hnn⟩ : ∃ n, n = ns.length := ⟨_, rfl⟩
  rw [← hnn] at hr hn hc ⊢
  have HN := Lib.hid hnn
  have HR := Lib.hid hr
  have HA := Lib.hid ha
  clear hnn hr ha
  go_enter Tryz.func130, Tryz.ntmps130
  go_wp2_with fail
  go_loopw [7, 8] (fun s7 s8 wr => ∃ lo hi : Nat, s7 = .int .i64 (lo : Nat) ∧ s8 = .int .i64 (hi : Nat) ∧ lo ≤ hi ∧ hi ≤ n ∧ Hid (wr = w) ∧ Hid (∀ t y, t < lo → ns[t]? = some y → bsOf y < bsOf x) ∧ Hid (∀ t y, hi ≤ t → ns[t]? = some y → ¬ bsOf y < bsOf x)) (fun s7 s8 _ => (intOf s8).toNat - (intOf s7).toNat)
  case atStart => exact ⟨0, n, rfl, rfl, Nat.zero_le _, Nat.le_refl _, Lib.hid rfl, Lib.hid (fun t y ht => absurd ht (Nat.not_lt_zero _)), Lib.hid (fun t y ht hy => by have := (List.getElem?_eq_some_iff.1 hy).1; have := HN.out; omega)⟩
  case round =>
    obtain ⟨lo, hi, rfl, rfl, hlh, hin, HWW, HLO, HHI⟩ := hrel
    have HRr := Lib.hid (by rw [HWW.out]; exact HR.out : Reads wr (.slice a n c) ns)
    by_cases hlt : lo < hi
    · obtain ⟨m, hm⟩ : ∃ m, m = (lo + hi) / 2 := ⟨_, rfl⟩
      have hmm : ((lo : Int) + (hi : Int)) / 2 = (m : Int) := by omega
      obtain ⟨y, hy⟩ : ∃ y, ns[m]? = some y := ⟨ns[m]'(by have := HN.out; omega), by simp⟩
      obtain ⟨b, o, rfl, hnl, hcl⟩ := HRr.out.at hy
      have hcell := hcl.2 m y hy
      have CL := cmpLess y x wr
      have HY := Lib.hid hy
      have hasc : ∀ t u z z', t < u → ns[t]? = some z → ns[u]? = some z' → bsOf z < bsOf z' := fun t u z z' htu hz hz' => by
        have h1 := (List.getElem?_eq_some_iff.1 hz)
        have h2 := (List.getElem?_eq_some_iff.1 hz')
        obtain ⟨h1l, rfl⟩ := h1
        obtain ⟨h2l, rfl⟩ := h2
        have := List.pairwise_iff_getElem.1 HA.out t u (by simpa using h1l) (by simpa using h2l) htu
        simpa using this
      have HAS := Lib.hid hasc
      have hml : lo ≤ m := by omega
      have hmh : m < hi := by omega
      clear hnl hcl hy hasc hm
      by_cases hyx : bsOf y < bsOf x
      · rw [decide_eq_true hyx] at CL
        have HCL := Lib.hid CL
        have HL2 : Hid (∀ t z, t < m + 1 → ns[t]? = some z → bsOf z < bsOf x) := Lib.hid (fun t z ht hz => by
          rcases Nat.lt_or_ge t m with h | h
          · exact bs_lt_trans (HAS.out t m z y h hz HY.out) hyx
          · obtain rfl : t = m := by omega
            rw [HY.out] at hz; cases hz; exact hyx)
        clear CL hyx
        go_wp2_with fail
        refine HCL.out.mono ?_
        rintro e w' ⟨rfl, rfl⟩
        go_wp2_with fail
        exact ⟨⟨m + 1, hi, by go_num, rfl, by omega, hin, HWW, HL2, HHI⟩, by simp [intOf]; omega⟩
      · rw [decide_eq_false hyx] at CL
        have HCL := Lib.hid CL
        have HH2 : Hid (∀ t z, m ≤ t → ns[t]? = some z → ¬ bsOf z < bsOf x) := Lib.hid (fun t z ht hz hzx => by
          rcases Nat.lt_or_ge m t with h | h
          · exact hyx (bs_lt_trans (HAS.out m t y z h HY.out hz) hzx)
          · obtain rfl : t = m := by omega
            rw [HY.out] at hz; cases hz; exact hyx hzx)
        clear CL hyx
        go_wp2_with fail
        refine HCL.out.mono ?_
        rintro e w' ⟨rfl, rfl⟩
        go_wp2_with fail
        exact ⟨⟨lo, m, rfl, rfl, by omega, by omega, HWW, HLO, HH2⟩, by simp [intOf]; omega⟩
    · obtain rfl : lo = hi := by omega
      have hmem : bsOf x ∈ ns.map bsOf → ∃ y, ns[lo]? = some y ∧ y = x := fun hx0 => by
        obtain ⟨z0, hz0, e0⟩ := List.mem_map.1 hx0
        obtain rfl := bs_of_eq e0
        obtain ⟨t, ht⟩ := List.mem_iff_getElem?.1 hz0
        have h1 : ¬ t < lo := fun h => absurd (HLO.out t _ h ht) (List.lt_irrefl _)
        have h2 : ¬ lo < t := fun h => by
          obtain ⟨z, hz⟩ : ∃ z, ns[lo]? = some z := ⟨ns[lo]'(by have := (List.getElem?_eq_some_iff.1 ht).1; omega), by simp⟩
          have h3 := HHI.out lo z (Nat.le_refl _) hz
          obtain ⟨h1l, e1⟩ := (List.getElem?_eq_some_iff.1 hz)
          obtain ⟨h2l, e2⟩ := (List.getElem?_eq_some_iff.1 ht)
          have := List.pairwise_iff_getElem.1 HA.out lo t (by simpa using h1l) (by simpa using h2l) h
          simp only [List.getElem_map, e1, e2] at this
          exact h3 this
        obtain rfl : t = lo := by omega
        exact ⟨_, ht, rfl⟩
      by_cases hn2 : lo < n
      · obtain ⟨y, hy⟩ : ∃ y, ns[lo]? = some y := ⟨ns[lo]'(by have := HN.out; omega), by simp⟩
        obtain ⟨b, o, rfl, hnl, hcl⟩ := HRr.out.at hy
        have hcell := hcl.2 lo y hy
        have HY := Lib.hid hy
        have HM := Lib.hid hmem
        clear hnl hcl hy hmem
        by_cases hyx : y = x
        · subst hyx
          have HD := Lib.hid (decide_eq_true (List.mem_map.2 ⟨_, List.mem_of_getElem? HY.out, rfl⟩) : decide (bsOf y ∈ ns.map bsOf) = true)
          have HP : Hid ((lo : Int) = placeB (ns.map bsOf) (bsOf y)) := Lib.hid (by
            obtain ⟨h1, e1⟩ := List.getElem?_eq_some_iff.1 HY.out
            have := place_at HA.out (u := lo) (by simpa using h1)
            rw [List.getElem_map, e1] at this
            exact this.symm)
          go_wp2_with fail
          go_ret2
          exact ⟨lo, by rw [HD.out]; rfl, fun _ => HP.out, HWW.out⟩
        · have hne : (y.toList == x.toList) = false := by
            rw [beq_eq_false_iff_ne]
            intro e
            apply hyx
            rw [ByteArray.toList_eq, ByteArray.toList_eq] at e
            exact bs_of_eq e
          have HD := Lib.hid (decide_eq_false (fun h => by obtain ⟨z, hz, rfl⟩ := HM.out h; rw [HY.out] at hz; cases hz; exact hyx rfl) : decide (bsOf x ∈ ns.map bsOf) = false)
          have HNM := Lib.hid (of_decide_eq_false HD.out)
          have I2 := Lib.hid (isNaN2 y wr)
          clear hyx
          go_wp2_with fail
          refine I2.out.mono ?_
          rintro e w' ⟨rfl, rfl⟩
          go_wp2_with fail
          go_ret2
          exact ⟨lo, by rw [HD.out]; rfl, fun h => absurd h HNM.out, HWW.out⟩
      · have HD := Lib.hid (decide_eq_false (fun h => by obtain ⟨z, hz, rfl⟩ := hmem h; have := (List.getElem?_eq_some_iff.1 hz).1; have := HN.out; omega) : decide (bsOf x ∈ ns.map bsOf) = false)
        have HNM := Lib.hid (of_decide_eq_false HD.out)
        clear hmem
        go_wp2_with fail
        go_ret2
        exact ⟨lo, by rw [HD.out]; rfl, fun h => absurd h HNM.out, HWW.out⟩

set_option maxHeartbeats 1000000 in
set_option maxRecDepth 100000 in
theorem place_any (ns : Lb) (nv gv : Value) (x : ByteArray) (w : World) (hr : Reads w nv ns) (ha : Asc (ns.map bsOf)) (hn : ns.length ≤ 1000000) :
    Calls Tryz.prog 107 #[.agg #[nv, gv], .string x] w fun e w' => e = .returned (.int .i64 (placeB (ns.map bsOf) (bsOf x))) ∧ Below w.heap.size w w' := by
  have hb : Below w.heap.size w (w.alloc (.cells #[nv, gv] 148)) := (Below.refl _ _).alloc (Nat.le_refl _) _
  have BS := Lib.hid (bsearch_any ns nv x _ (hr.below hb) ha hn)
  have HB := Lib.hid hb
  obtain ⟨a, c, rfl, hc⟩ := hr.form
  clear hr ha hb
  go_enter Tryz.func107, Tryz.ntmps107
  go_wp2_with fail
  refine BS.out.mono ?_
  rintro e w' ⟨i, rfl, hi, rfl⟩
  by_cases hx : bsOf x ∈ ns.map bsOf
  · rw [decide_eq_true hx]
    have HI := Lib.hid (hi hx)
    clear hi hx
    go_wp2_with fail
    go_ret
    exact ⟨by rw [← HI.out]; rfl, HB.out⟩
  · rw [decide_eq_false hx]
    have HI := Lib.hid (place_out hx)
    clear hi hx
    go_wp2_with fail
    go_ret
    exact ⟨by rw [HI.out]; rfl, HB.out⟩
end Go.Proofs.YtojnagonhihknaaGreatDoor
