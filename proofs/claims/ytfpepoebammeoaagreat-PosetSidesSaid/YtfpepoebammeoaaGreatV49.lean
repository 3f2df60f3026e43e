/- The law PosetSides, walked. -/
import Derived.Test.YtfpepoebammeoaaGreatV1
import Derived.Test.YtfpepoebammeoaaGreatV46
import Derived.Test.YtfpepoebammeoaaGreatV48
set_option linter.unusedVariables false
set_option linter.unusedSimpArgs false
namespace Go.Proofs.YtfpepoebammeoaaGreat
open Go.ChangeShapes Go.WideShapes Go.ChangeAt Go.RowKit Go.WideMaps Go.Maps

noncomputable def goodB (n : Int) (F : EdN) (x y : Int) : Bool := cpB n F x y && !ahB n F x y && !ahB n F y x
theorem grown_none {w w' : World} (h : w.grownBy w' none) : Below w.heap.size w w' := ⟨h.os, h.tape, h.output, h.size, fun k hk => h.block k hk (by simp)⟩
theorem MBo.grown {W W' : World} {b r : Nat} {ks : List Int} (h : MBo W b ks) (hg : W.grownBy W' (some r)) (hr : r ≠ b) : MBo W' b ks := by
  obtain ⟨D, h1, h2⟩ := h
  exact ⟨D, World.ownsMap.kept h1 hg (fun e => hr (by injection e with e; exact e.symm)), h2⟩
theorem ranges_below {W W' : World} {R : Value → Option (DU × List MemPlace)} {b r n : Nat} {D : DU} {left : Lit → Bool} {cnt : Nat} (h : W.ranges Tryz.prog 3 R b r n D left cnt) (hb : Below W.heap.size W W') : W'.ranges Tryz.prog 3 R b r n D left cnt := by
  have h1 := h.owns.lt
  have h2 := h.lt
  obtain ⟨es, clock, since, seen, c0, e1, F, hs, hD, e2, hrest⟩ := h
  exact ⟨es, clock, since, seen, c0, (hb.block b h1).trans e1, F, hs, hD, (hb.block r h2).trans e2, hrest⟩
theorem nodup_lenI {l : List Int} {m : Nat} (h : l.Nodup) (hx : ∀ x ∈ l, 0 ≤ x ∧ x < (m : Int)) : l.length ≤ m := nodup_len h (fun x hm => ⟨x.toNat, by have := hx x hm; omega, by have := hx x hm; omega⟩)
set_option maxHeartbeats 8000000 in
set_option maxRecDepth 100000 in
theorem psides_law (n : Int) (es : Ed) (v : Value) (w : World) (hr : RE w v es) (hl : es.length ≤ 140737488355328) (hn1 : -9223372036854775808 ≤ n) (hn2 : n ≤ 9223372036854775807) :
    Calls Tryz.prog 5 #[.int .i64 n, v] w fun e w' => e = .returned (.bool true) ∧ Below w.heap.size w w' := by
  obtain ⟨va, vc, rfl⟩ := hr.form
  obtain ⟨E, hE⟩ : ∃ E, E = es.length := ⟨_, rfl⟩
  rw [← hE] at hr hl ⊢
  have AW := Lib.hid (paw_any w)
  have HR := Lib.hid hr
  have HE := Lib.hid hE
  clear hr hE
  go_enter Tryz.func5, Tryz.ntmps5
  go_wp2_with fail
  refine AW.out.mono ?_
  rintro e w2 ⟨rfl, hb2⟩
  have HB2 := Lib.hid hb2
  clear hb2 AW
  by_cases hg1 : n < 1
  · go_wp2_with fail
    go_ret
    exact ⟨rfl, HB2.out⟩
  by_cases hg2 : 60 < n
  · go_wp2_with fail
    go_ret
    exact ⟨rfl, HB2.out⟩
  by_cases hg3 : 300 < E
  · have hg3I : (300 : Int) < (E : Int) := by omega
    go_wp2_with fail
    go_ret
    exact ⟨rfl, HB2.out⟩
  have hg3I : ¬ (300 : Int) < (E : Int) := by omega
  have hE3 : E ≤ 300 := by omega
  obtain ⟨N, rfl⟩ : ∃ N : Nat, n = (N : Int) := ⟨n.toNat, by omega⟩
  have hN1 : 1 ≤ N := by omega
  have hN9 : N ≤ 60 := by omega
  have S1 := Lib.hid (fun W (h : Below w2.heap.size w2 W) => newX_any (N : Int) es (.slice va E vc) W ((HR.out.below HB2.out).below h) (by rw [← HE.out]; omega) (by omega) (by omega))
  go_wp2_with fail
  go_loopw [5, 36] (fun lv jv wr => ∃ j : Nat, jv = .int .i64 (j : Nat) ∧ j ≤ N ∧ Hid (Row 1 w2.heap.size wr lv j (iv (nl (List.range j)))) ∧ Hid (Below w2.heap.size w2 wr)) (fun _ jv _ => N - (intOf jv).toNat)
  case atStart => exact ⟨0, rfl, Nat.zero_le _, Lib.hid (Row.nil _ _ _), Lib.hid (Below.refl _ _)⟩
  case round =>
    obtain ⟨j, rfl, hjN, HO, HB⟩ := hrel
    obtain ⟨oa, oc, hof⟩ := HO.out.form
    subst hof
    by_cases hlj : j < N
    · have HSRC := Lib.hid (show Src Tryz.prog 1 23 (.slice (some ⟨wr.heap.size, 0, none⟩) 1 1) 1 [.int .i64 (j : Int)] (wr.alloc (.cells #[.int .i64 (j : Int)] 3)) from src_new Tryz.underlying23 [.int .i64 (j : Int)] 1 3 1 rfl oneIk)
      have HRA := Lib.hid (HO.out.alloc (.cells #[.int .i64 (j : Int)] 3))
      have HSZW : w2.heap.size ≤ (wr.alloc (.cells #[.int .i64 (j : Int)] 3)).heap.size := by have := HB.out.size; simp; omega
      have HBA := Lib.hid (HB.out.alloc HB.out.size (.cells #[.int .i64 (j : Int)] 3))
      have HOWN := Lib.hid (fun b hb => (HO.out.lt b hb).1)
      go_wp2_with (at_builtin; refine wpList_append_row rfl (.tmp 39) (.tmp 41) 23 23 rfl 1 3 (.int .i64 0) 8 Tryz.underlying23 infoIk rfl w2.heap.size (.slice oa j oc) j (iv (nl (List.range j))) (by simp [Act.eval]) HRA.out (.slice (some ⟨wr.heap.size, 0, none⟩) 1 1) (by simp [Act.eval]) 1 [.int .i64 (j : Int)] HSRC.out HSZW (by omega) (by decide) ?_; intro v8 w8 hr8 ho8 hw8; obtain ⟨a8, c8, hv8⟩ := hr8.form; subst hv8; have HR8 := Lib.hid hr8; have HO8 := Lib.hid ho8; clear hr8 ho8 hw8)
      have HR9 : Hid (Row 1 w2.heap.size w8 (.slice a8 (j + 1) c8) (j + 1) (iv (nl (List.range (j + 1))))) := Lib.hid (by
        have e : iv (nl (List.range (j + 1))) = iv (nl (List.range j)) ++ [.int .i64 (j : Int)] := by simp [List.range_succ, nl, iv]
        rw [e]
        exact HR8.out)
      exact ⟨⟨j + 1, by go_num, by omega, HR9, Lib.hid (HBA.out.trans (HO8.out.below (B := w2.heap.size) HOWN.out HSZW))⟩, by simp [intOf]; omega⟩
    · have hje : N = j := by omega
      have HLR : Hid (RI wr (.slice oa N oc) (nl (List.range N))) := Lib.hid (by
        refine RI.ofRow (B := w2.heap.size) ?_
        have e : (nl (List.range N)).length = N := by simp [nl]
        rw [e, hje]
        exact HO.out)
      obtain ⟨wl, rfl⟩ : ∃ wl, wl = wr := ⟨wr, rfl⟩
      have HBL := Lib.hid (HB2.out.trans (HB.out.mono HB2.out.size))
      have S2 := Lib.hid (S1.out wl HB.out)
      subst hje
      clear HO HB S1
      go_wp2_with fail
      refine S2.out.mono ?_
      rintro e w3 ⟨p, T, pl, W, rfl, hO, hb3⟩
      obtain ⟨F, hF⟩ : ∃ F, F = edN (N : Int) es := ⟨_, rfl⟩
      rw [← hF] at hO
      obtain ⟨P, hP⟩ : ∃ P, P = plI T pl := ⟨_, rfl⟩
      have HPK : Hid (∀ x y : Nat, P (x : Int) = P (y : Int) ↔ Knot (EdR F) x y) := Lib.hid (fun x y => by rw [hP]; exact plI_same hO.ok)
      have hS3 := sidesO_any (nl (List.range N)) _ w3 hO (HLR.out.below hb3) (by simp [nl]; omega)
      have hAS := askN_is (N : Int) P (nl (List.range N))
      rw [← hP] at hS3
      obtain ⟨A, hA⟩ : ∃ A, A = askN (hasB (N : Int)) P (nl (List.range N)) := ⟨_, rfl⟩
      rw [← hA] at hS3 hAS
      have S3 := Lib.hid hS3
      have HAS := Lib.hid hAS
      have HOX := Lib.hid hO
      have HB3 := Lib.hid (HBL.out.trans (hb3.mono HBL.out.size))
      have HLR3 := Lib.hid (HLR.out.below hb3)
      clear hO hb3 hF S2 hS3 hAS hA hP
      go_wp2_with fail
      refine S3.out.mono ?_
      rintro e w4 ⟨gv, L, D, r, rfl, hK, hG, hb4⟩
      have HAH := Lib.hid (fun (a b : Int) W' (h : Below w4.heap.size w4 W') => (ahead_any a b W' ((HOX.out.below hb4).below h)).mono (R' := fun e w' => e = .returned (.bool (ahB (N : Int) F a b)) ∧ Hid (Below W'.heap.size W' w')) (fun e w' he => ⟨he.1, Lib.hid he.2⟩))
      have HCP := Lib.hid (fun (a b : Int) W' (h : Below w4.heap.size w4 W') => (comp_any a b W' ((HOX.out.below hb4).below h)).mono (R' := fun e w' => e = .returned (.bool (cpB (N : Int) F a b)) ∧ Hid (Below W'.heap.size W' w')) (fun e w' he => ⟨he.1, Lib.hid he.2⟩))
      have HB4 := Lib.hid (HB3.out.trans (hb4.mono HB3.out.size))
      have HLR4 := Lib.hid (HLR3.out.below hb4)
      have HGA := Lib.hid (fun (i j : Nat) (a b : List Int) (x y : Int) (hij : i < j) (ha : (sdG r D (hdL r D A.length) A L)[i]? = some a) (hb : (sdG r D (hdL r D A.length) A L)[j]? = some b) (hx : x ∈ a) (hy : y ∈ b) => sides_apart hK HAS.out HPK.out hij ha hb hx hy)
      have HGN9 := Lib.hid (sides_once hK HAS.out)
      have HGI := Lib.hid (fun x (hx : x ∈ (sdG r D (hdL r D A.length) A L).flatten) => sides_has hK HAS.out hx)
      have HGF := Lib.hid (fun (x : Nat) (hx : x < N) => sides_find hK HAS.out HPK.out (x := x) (List.mem_map.2 ⟨x, List.mem_range.2 hx, rfl⟩) (by omega))
      obtain ⟨G, hGG⟩ : ∃ G, G = sdG r D (hdL r D A.length) A L := ⟨_, rfl⟩
      rw [← hGG] at hG HGA HGN9 HGF HGI
      obtain ⟨ga, gc, hgf⟩ := hG.form
      obtain ⟨gn, hgn⟩ : ∃ gn, gn = G.length := ⟨_, rfl⟩
      rw [← hgn] at hgf
      subst hgf
      have HGLN : Hid (G.flatten.length ≤ 60) := Lib.hid (by
        have h1 : (nl (List.range N)).length = N := by simp [nl]
        have h2 := nodup_lenI HGN9.out (m := N) (fun x hx => HGI.out x hx)
        omega)
      have HG := Lib.hid hG
      have HGN := Lib.hid hgn
      obtain ⟨SB, hSB⟩ : ∃ SB, SB = w4.heap.size := ⟨_, rfl⟩
      have HM0 := Lib.hid (show MBo (w4.alloc (.map #[] 0)) SB [] by rw [hSB]; exact MBo.made w4)
      have HBM := Lib.hid ((Below.refl w4.heap.size w4).alloc (Nat.le_refl _) (.map #[] 0))
      have HSB := Lib.hid hSB
      have hmm := @run_makeMap Tryz.prog
      clear hK hG hb4 hGG hgn S3 HOX
      go_wp2_with fail
      rw [← hSB]
      clear hSB hmm
      go_loopw [53] (fun jv wr => ∃ i : Nat, jv = .int .i64 (i : Nat) ∧ i ≤ gn ∧ Hid (MBo wr SB (G.take i).flatten) ∧ Hid (Below w4.heap.size w4 wr)) (fun jv _ => gn - (intOf jv).toNat)
      case atStart => exact ⟨0, rfl, Nat.zero_le _, HM0, HBM⟩
      case round =>
        obtain ⟨i, rfl, hi, HMI, HBI⟩ := hrel
        obtain ⟨wi, rfl⟩ : ∃ wi, wi = wr := ⟨wr, rfl⟩
        by_cases hli : i < gn
        · obtain ⟨a, ha⟩ : ∃ a, G[i]? = some a := ⟨G[i]'(by rw [← HGN.out]; exact hli), by simp⟩
          obtain ⟨gb, go, ua, rfl, hgb, hgc1, hgc2, cu, hua⟩ := HG.out.at ha
          have cu := (HBI.out.cell (p := ⟨gb, _, none⟩) hgb).trans cu
          obtain ⟨aa, ac, huf⟩ := hua.form
          obtain ⟨an, han⟩ : ∃ an, an = a.length := ⟨_, rfl⟩
          rw [← han] at huf
          subst huf
          have HTK : Hid ((G.take (i + 1)).flatten = (G.take i).flatten ++ a) := Lib.hid (by rw [List.take_add_one, ha, List.flatten_append]; simp)
          have HND : Hid (((G.take i).flatten ++ a).Nodup) := Lib.hid (by
            rw [← HTK.out]
            have h := HGN9.out
            rw [← List.take_append_drop (i + 1) G, List.flatten_append] at h
            exact (List.nodup_append.1 h).1)
          have HAI : Hid (∀ x ∈ a, 0 ≤ x ∧ x < (N : Int)) := Lib.hid (fun x hx => HGI.out x (List.mem_flatten.2 ⟨a, List.mem_of_getElem? ha, hx⟩))
          have HAL : Hid ((G.take i).flatten.length + a.length ≤ 60) := Lib.hid (by
            have h := HGLN.out
            have h2 := congrArg List.length HTK.out
            rw [← List.take_append_drop (i + 1) G, List.flatten_append, List.length_append, h2, List.length_append] at h
            omega)
          have HUA := Lib.hid hua
          have HAN := Lib.hid han
          have HA9 := Lib.hid ha
          have HGB := Lib.hid hgb
          unfold maxLen at hgc2
          have HM1 : Hid (MBo wi SB ((G.take i).flatten ++ a.take 0)) := Lib.hid (by rw [List.take_zero, List.append_nil]; exact HMI.out)
          clear ha hua han hgb
          go_wp2_with fail
          clear cu
          go_loopw [60] (fun jv wr => ∃ p1 : Nat, jv = .int .i64 (p1 : Nat) ∧ p1 ≤ an ∧ Hid (MBo wr SB ((G.take i).flatten ++ a.take p1)) ∧ Hid (Below w4.heap.size w4 wr)) (fun jv _ => an - (intOf jv).toNat)
          case atStart => exact ⟨0, rfl, Nat.zero_le _, HM1, HBI⟩
          case round =>
            clear HM1 HMI HBI HM0
            obtain ⟨p1, rfl, hp1, HMP, HBP⟩ := hrel
            obtain ⟨wp, rfl⟩ : ∃ wp, wp = wr := ⟨wr, rfl⟩
            by_cases hlp : p1 < an
            · obtain ⟨x, hx⟩ : ∃ x, a[p1]? = some x := ⟨a[p1]'(by rw [← HAN.out]; exact hlp), by simp⟩
              obtain ⟨ab, ao, rfl, hab, hac1, hac2, cx⟩ := HUA.out.at hx
              have cx := (HBP.out.cell (p := ⟨ab, _, none⟩) hab).trans cx
              have HX := Lib.hid (List.mem_of_getElem? hx)
              have HTX : Hid (a.take (p1 + 1) = a.take p1 ++ [x]) := Lib.hid (by rw [List.take_add_one, hx]; rfl)
              obtain ⟨hx0, hxN⟩ := HAI.out x HX.out
              have HNI : Hid (x ∉ (G.take i).flatten ++ a.take p1) := Lib.hid (fun hm => by
                have h := HND.out
                rw [← List.take_append_drop (p1 + 1) a, HTX.out, ← List.append_assoc, ← List.append_assoc] at h
                have h2 := (List.nodup_append.1 (List.nodup_append.1 h).1).2.2
                exact h2 x hm x (List.mem_singleton.2 rfl) rfl)
              obtain ⟨K, hKs⟩ : ∃ K, K = (G.take i).flatten ++ a.take p1 := ⟨_, rfl⟩
              rw [← hKs] at HMP HNI
              obtain ⟨Dm, hown, hhas, hat, hsz⟩ := HMP.out
              obtain ⟨k, hk⟩ : ∃ k, k = K.length := ⟨_, rfl⟩
              have hk60 : k ≤ 60 := by
                have h1 := HAL.out
                rw [hk, hKs, List.length_append, List.length_take]
                omega
              rw [← hk] at hown
              have HOWN := Lib.hid hown
              have HKEY := Lib.hid (show keyOf Tryz.prog 3 (.int .i64 x) = some (li x) from li_key (by omega) (by omega))
              have HAT : Hid (Dm.atKey (li x) (.lit (.bool false)) = .lit (.bool false)) := Lib.hid (by
                rw [hat x]
                have : K.contains x = false := by simpa using HNI.out
                rw [this])
              have HMF : Hid (∀ w9 : World, w9.ownsMap Tryz.prog 3 (plainElem Tryz.prog 4) SB (k + 1) (Dm.put (li x) (.lit (.bool true))) → MBo w9 SB ((G.take i).flatten ++ a.take (p1 + 1))) := Lib.hid (fun w9 h9 => by
                rw [HTX.out, ← List.append_assoc, ← hKs]
                exact MBo.step (W0 := wp) (D := Dm) (n := k) HOWN.out hhas hat hsz HNI.out h9)
              have hSB4 : w4.heap.size ≤ SB := by rw [HSB.out]; exact Nat.le_refl _
              have HWF := Lib.hid (plainElem_bool (H := Unit) (P := Tryz.prog) Tryz.underlying4 true)
              unfold maxLen at hac2
              clear hx hab hown hhas hat hsz hk hKs
              by_cases hvi : gc = i + 1
              · subst hvi
                go_wp2_with (first | (at_lookup; refine wpList_lookup_own_bool _ rfl _ _ 35 rfl Tryz.underlying35 SB k Dm rfl HOWN.out _ _ rfl HKEY.out false HAT.out ?_) | (at_mapUpdate; refine wpList_mapUpdate_own _ rfl _ _ _ 35 rfl 3 4 ilaw Tryz.underlying35 _ SB k Dm rfl HOWN.out (by unfold maxLen; omega) _ _ _ rfl rfl HKEY.out _ [] HWF.out ?_; intro w9 hown9 hg9; have HM9 := Lib.hid (HMF.out w9 hown9); have HB9 := Lib.hid (HBP.out.grown hg9 HBP.out.size (fun j hj => by cases hj; exact hSB4)); clear hown9 hg9))
                clear cx
                generalize hd : gn - (i + 1) = d
                have hdg : d ≤ gn := by omega
                have HD := Lib.hid (And.intro hd hgc1)
                clear hd
                go_loopw [74] (fun jv wr => ∃ k : Nat, jv = .int .i64 (k : Nat) ∧ k ≤ d ∧ Hid (MBo wr SB ((G.take i).flatten ++ a.take (p1 + 1))) ∧ Hid (Below w4.heap.size w4 wr)) (fun jv _ => d - (intOf jv).toNat)
                case atStart => exact ⟨0, rfl, Nat.zero_le _, HM9, HB9⟩
                case round =>
                  clear HM9 HB9 HMP HBP HOWN HMF HAT
                  obtain ⟨k, rfl, hk, HMK, HBK⟩ := hrel
                  by_cases hlk : k < d
                  · exfalso
                    have := HD.out
                    omega
                  · have hke : d = k := by omega
                    go_wp2_with fail
                    exact ⟨⟨p1 + 1, by go_num, by omega, HMK, HBK⟩, by simp [intOf]; omega⟩
              · go_wp2_with (first | (at_lookup; refine wpList_lookup_own_bool _ rfl _ _ 35 rfl Tryz.underlying35 SB k Dm rfl HOWN.out _ _ rfl HKEY.out false HAT.out ?_) | (at_mapUpdate; refine wpList_mapUpdate_own _ rfl _ _ _ 35 rfl 3 4 ilaw Tryz.underlying35 _ SB k Dm rfl HOWN.out (by unfold maxLen; omega) _ _ _ rfl rfl HKEY.out _ [] HWF.out ?_; intro w9 hown9 hg9; have HM9 := Lib.hid (HMF.out w9 hown9); have HB9 := Lib.hid (HBP.out.grown hg9 HBP.out.size (fun j hj => by cases hj; exact hSB4)); clear hown9 hg9))
                clear cx
                generalize hd : gn - (i + 1) = d
                have hdg : d ≤ gn := by omega
                have HD := Lib.hid hd
                clear hd
                go_loopw [74] (fun jv wr => ∃ k : Nat, jv = .int .i64 (k : Nat) ∧ k ≤ d ∧ Hid (MBo wr SB ((G.take i).flatten ++ a.take (p1 + 1))) ∧ Hid (Below w4.heap.size w4 wr)) (fun jv _ => d - (intOf jv).toNat)
                case atStart => exact ⟨0, rfl, Nat.zero_le _, HM9, HB9⟩
                case round =>
                  clear HM9 HB9 HMP HBP HOWN HMF HAT
                  obtain ⟨k, rfl, hk, HMK, HBK⟩ := hrel
                  obtain ⟨wk, rfl⟩ : ∃ wk, wk = wr := ⟨wr, rfl⟩
                  by_cases hlk : k < d
                  · have hik : i + 1 + k < gn := by have := HD.out; omega
                    obtain ⟨b2, hb2⟩ : ∃ b2, G[i + 1 + k]? = some b2 := ⟨G[i + 1 + k]'(by rw [← HGN.out]; exact hik), by simp⟩
                    obtain ⟨gb', go', ub, he', _, _, _, cb, hub⟩ := HG.out.at hb2
                    injection he' with he'
                    injection he' with e1 e2 _
                    subst e1
                    subst e2
                    have cb := (HBK.out.cell (p := ⟨gb, _, none⟩) HGB.out).trans cb
                    rw [← Nat.add_assoc] at cb
                    obtain ⟨ba, bc, hbf⟩ := hub.form
                    obtain ⟨bn, hbn⟩ : ∃ bn, bn = b2.length := ⟨_, rfl⟩
                    rw [← hbn] at hbf
                    subst hbf
                    have HUB := Lib.hid hub
                    have HBN := Lib.hid hbn
                    have HXY := Lib.hid (fun y (hy : y ∈ b2) => HGA.out i (i + 1 + k) a b2 x y (by omega) HA9.out hb2 HX.out hy)
                    clear hub hbn hb2 hik
                    go_wp2_with fail
                    clear cb
                    go_loopw [80] (fun jv wr => ∃ r : Nat, jv = .int .i64 (r : Nat) ∧ r ≤ bn ∧ Hid (MBo wr SB ((G.take i).flatten ++ a.take (p1 + 1))) ∧ Hid (Below w4.heap.size w4 wr)) (fun jv _ => bn - (intOf jv).toNat)
                    case atStart => exact ⟨0, rfl, Nat.zero_le _, HMK, HBK⟩
                    case round =>
                      clear HMK HBK
                      obtain ⟨r, rfl, hr, HMY, HBY⟩ := hrel
                      by_cases hlr : r < bn
                      · obtain ⟨y, hy⟩ : ∃ y, b2[r]? = some y := ⟨b2[r]'(by rw [← HBN.out]; exact hlr), by simp⟩
                        obtain ⟨bb, bo, rfl, hbb, hbc1, hbc2, cy⟩ := HUB.out.at hy
                        have cy := (HBY.out.cell (p := ⟨bb, _, none⟩) hbb).trans cy
                        have HC2 := Lib.hid (HCP.out x y)
                        rw [HXY.out y (List.mem_of_getElem? hy)] at HC2
                        unfold maxLen at hbc2
                        clear hy
                        go_wp2_with fail
                        refine (HC2.out _ HBY.out).mono ?_
                        rintro e r1 ⟨rfl, HR1⟩
                        have HM9 := Lib.hid (HMY.out.below HR1.out)
                        have HB9 := Lib.hid (HBY.out.trans (HR1.out.mono HBY.out.size))
                        clear HR1
                        go_wp2_with fail
                        exact ⟨⟨r + 1, by go_num, by omega, HM9, HB9⟩, by simp [intOf]; omega⟩
                      · have hre : bn = r := by omega
                        subst hre
                        go_wp2_with fail
                        exact ⟨⟨k + 1, by go_num, by omega, HMY, HBY⟩, by simp [intOf]; omega⟩
                  · have hke : d = k := by omega
                    go_wp2_with fail
                    exact ⟨⟨p1 + 1, by go_num, by omega, HMK, HBK⟩, by simp [intOf]; omega⟩
            · have hpe : an = p1 := by omega
              have HM9 : Hid (MBo wp SB (G.take (i + 1)).flatten) := Lib.hid (by
                have h := HMP.out
                have e : a.take p1 = a := List.take_of_length_le (by rw [← HAN.out]; omega)
                rw [e, ← HTK.out] at h
                exact h)
              subst hpe
              go_wp2_with fail
              exact ⟨⟨i + 1, by go_num, by omega, HM9, HBP⟩, by simp [intOf]; omega⟩
        · have hie : gn = i := by omega
          have HMG : Hid (MBo wi SB G.flatten) := Lib.hid (by
            have h := HMI.out
            rw [List.take_of_length_le (by rw [← HGN.out]; omega)] at h
            exact h)
          subst hie
          clear HMI HM0
          go_wp2_with fail
          go_loopw [94] (fun jv wr => ∃ j : Nat, jv = .int .i64 (j : Nat) ∧ j ≤ N ∧ Hid (MBo wr SB G.flatten) ∧ Hid (Below w4.heap.size w4 wr)) (fun jv _ => N - (intOf jv).toNat)
          case atStart => exact ⟨0, rfl, Nat.zero_le _, HMG, HBI⟩
          case round =>
            clear HMG HBI
            obtain ⟨j, rfl, hj, HMJ, HBJ⟩ := hrel
            by_cases hlj : j < N
            · obtain ⟨lb, lo, rfl, hlb, hlc1, hlc2, cl⟩ := HLR4.out.at (j := j) (x := (j : Int)) (by simp [nl, hlj])
              have cl := (HBJ.out.cell (p := ⟨lb, _, none⟩) hlb).trans cl
              have HF := Lib.hid (HGF.out j hlj)
              obtain ⟨Dm, hown, hhas, hat, hsz⟩ := HMJ.out
              obtain ⟨k, hk⟩ : ∃ k, k = G.flatten.length := ⟨_, rfl⟩
              rw [← hk] at hown
              have HOWN := Lib.hid hown
              have HHAS := Lib.hid hhas
              have HKEY := Lib.hid (show keyOf Tryz.prog 3 (.int .i64 (j : Int)) = some (li (j : Int)) from li_key (by omega) (by omega))
              have HAT := Lib.hid (hat (j : Int))
              unfold maxLen at hlc2
              clear hown hhas hat hsz hk hlb
              obtain ⟨wj, rfl⟩ : ∃ wj, wj = wr := ⟨wr, rfl⟩
              go_wp2_with (first | (at_lookup; refine wpList_lookup_own_bool _ rfl _ _ 35 rfl Tryz.underlying35 SB k Dm rfl HOWN.out _ _ rfl HKEY.out _ HAT.out ?_) | (at_range; refine wpList_range_own _ rfl _ 35 rfl 3 4 ilaw Tryz.underlying35 _ SB k Dm rfl HOWN.out ?_; intro w0 hrg0 hg0 hs0))
              have HRG0 := Lib.hid hrg0
              have HM0 := Lib.hid (HMJ.out.below (grown_none hg0))
              have HB0 := Lib.hid (HBJ.out.trans ((grown_none hg0).mono HBJ.out.size))
              have HBJ4 : Hid (w4.heap.size ≤ wj.heap.size) := Lib.hid HBJ.out.size
              clear hrg0 hg0 hs0 cl
              go_frame
              go_loopw [20] (fun fv W => ∃ (left : Lit → Bool) (cnt : Nat) (fb : Bool), fv = .bool fb ∧ Hid (W.ranges Tryz.prog 3 (plainElem (H := Unit) Tryz.prog 4) SB wj.heap.size k Dm left cnt) ∧ Hid (fb = true ∨ ∃ y : Int, left (li y) = true ∧ goodB (N : Int) F (j : Int) y = true) ∧ Hid (MBo W SB G.flatten) ∧ Hid (Below w4.heap.size w4 W)) (fun _ W => W.rangeLeft SB wj.heap.size)
              case atStart => exact ⟨_, _, _, rfl, HRG0, Lib.hid (.inr (by
                obtain ⟨y, hy, h1, h2, h3⟩ := HF.out
                exact ⟨y, by rw [HHAS.out y]; simpa using hy, by simp [goodB, h1, h2, h3]⟩)), HM0, HB0⟩
              case round =>
                clear HM0 HB0 HRG0 HMJ HBJ
                obtain ⟨left, cnt, fb, rfl, HRG, HFB, HMR, HBR⟩ := hrel
                obtain ⟨wq, rfl⟩ : ∃ wq, wq = wr := ⟨wr, rfl⟩
                go_wp2_with (at_next; refine wpList_next_ranges _ rfl _ rfl 3 ilaw (plainElem (H := Unit) Tryz.prog 4) (Value.int .i64) (fun v : Value => v) (fun key kl h => by obtain ⟨x, hx, _⟩ := Maps.keyOf_int_inv Tryz.underlying3 h; exact ⟨x, hx⟩) (fun v y h => ⟨v, rfl⟩) SB wj.heap.size _ _ _ _ rfl HRG.out ?_ ?_)
                · intro hc0 hl0
                  have hft : fb = true := by
                    rcases HFB.out with h | ⟨y, hy, _⟩
                    · exact h
                    · rw [hl0] at hy; cases hy
                  subst hft
                  clear hl0 hc0
                  go_wp2_with fail
                  exact ⟨⟨j + 1, by go_num, by omega, HMR, HBR⟩, by simp [intOf]; omega⟩
                · intro x c kx y1 y2 w1 cnt1 hkey hlk hRv hat hrg1 hlt hg1 hs1 hen
                  obtain ⟨x', ex, hkx, hwx⟩ := Maps.keyOf_int_inv Tryz.underlying3 hkey
                  injection ex with _ ex
                  subst ex
                  have hkx : kx = li x := hkx
                  subst hkx
                  have HRG1 := Lib.hid hrg1
                  have HM1 := Lib.hid (HMR.out.grown hg1 HRG.out.ne)
                  have HB1 := Lib.hid (HBR.out.grown hg1 HBR.out.size (fun k hk => by cases hk; exact HBJ4.out))
                  have HLT : Hid (∀ W : World, W.ranges Tryz.prog 3 (plainElem (H := Unit) Tryz.prog 4) SB wj.heap.size k Dm (fun z => left z && !z.sameKey (li x)) cnt1 → W.rangeLeft SB wj.heap.size < wq.rangeLeft SB wj.heap.size) := Lib.hid (fun W h => by rw [h.left_eq, HRG.out.left_eq]; exact hlt)
                  clear hat hRv hlk hg1 hs1 hlt hrg1 hkey hwx
                  cases fb with
                  | true =>
                    go_wp2_with fail
                    exact ⟨⟨_, _, true, rfl, HRG1, Lib.hid (.inl rfl), HM1, HB1⟩, HLT.out _ HRG1.out⟩
                  | false =>
                    have HWY : Hid (goodB (N : Int) F (j : Int) x = true ∨ ∃ y : Int, (left (li y) && !(li y).sameKey (li x)) = true ∧ goodB (N : Int) F (j : Int) y = true) := Lib.hid (by
                      rcases HFB.out with h | ⟨y, hy, hg⟩
                      · cases h
                      · by_cases e : y = x
                        · subst e; exact .inl hg
                        · refine .inr ⟨y, ?_, hg⟩
                          rw [hy, sameKey_ne (li_ne e)]
                          rfl)
                    go_wp2_with fail
                    refine (HCP.out (j : Int) x w1 HB1.out).mono ?_
                    rintro e r1 ⟨rfl, HR1⟩
                    have HRG2 := Lib.hid (ranges_below HRG1.out HR1.out)
                    have HM2 := Lib.hid (HM1.out.below HR1.out)
                    have HB2 := Lib.hid (HB1.out.trans (HR1.out.mono HB1.out.size))
                    obtain ⟨c1, hc1⟩ : ∃ c1, c1 = cpB (N : Int) F (j : Int) x := ⟨_, rfl⟩
                    rw [← hc1]
                    have HC1 := Lib.hid hc1
                    clear HR1 hc1 HRG1 HM1 HB1
                    cases c1 with
                    | false =>
                      have HNG : Hid (goodB (N : Int) F (j : Int) x = false) := Lib.hid (by unfold goodB; rw [← HC1.out]; rfl)
                      go_wp2_with fail
                      exact ⟨⟨_, _, false, rfl, HRG2, Lib.hid (.inr (HWY.out.resolve_left (by rw [HNG.out]; simp))), HM2, HB2⟩, HLT.out _ HRG2.out⟩
                    | true =>
                      go_wp2_with fail
                      refine (HAH.out (j : Int) x r1 HB2.out).mono ?_
                      rintro e r2 ⟨rfl, HR2⟩
                      have HRG3 := Lib.hid (ranges_below HRG2.out HR2.out)
                      have HM3 := Lib.hid (HM2.out.below HR2.out)
                      have HB3 := Lib.hid (HB2.out.trans (HR2.out.mono HB2.out.size))
                      obtain ⟨a1, ha1⟩ : ∃ a1, a1 = ahB (N : Int) F (j : Int) x := ⟨_, rfl⟩
                      rw [← ha1]
                      have HA1 := Lib.hid ha1
                      clear HR2 ha1 HRG2 HM2 HB2
                      cases a1 with
                      | true =>
                        have HNG : Hid (goodB (N : Int) F (j : Int) x = false) := Lib.hid (by unfold goodB; rw [← HC1.out, ← HA1.out]; rfl)
                        go_wp2_with fail
                        exact ⟨⟨_, _, false, rfl, HRG3, Lib.hid (.inr (HWY.out.resolve_left (by rw [HNG.out]; simp))), HM3, HB3⟩, HLT.out _ HRG3.out⟩
                      | false =>
                        go_wp2_with fail
                        refine (HAH.out x (j : Int) r2 HB3.out).mono ?_
                        rintro e r3 ⟨rfl, HR3⟩
                        have HRG4 := Lib.hid (ranges_below HRG3.out HR3.out)
                        have HM4 := Lib.hid (HM3.out.below HR3.out)
                        have HB4' := Lib.hid (HB3.out.trans (HR3.out.mono HB3.out.size))
                        obtain ⟨a2, ha2⟩ : ∃ a2, a2 = ahB (N : Int) F x (j : Int) := ⟨_, rfl⟩
                        rw [← ha2]
                        have HA2 := Lib.hid ha2
                        clear HR3 ha2 HRG3 HM3 HB3
                        cases a2 with
                        | true =>
                          have HNG : Hid (goodB (N : Int) F (j : Int) x = false) := Lib.hid (by unfold goodB; rw [← HC1.out, ← HA1.out, ← HA2.out]; rfl)
                          go_wp2_with fail
                          exact ⟨⟨_, _, false, rfl, HRG4, Lib.hid (.inr (HWY.out.resolve_left (by rw [HNG.out]; simp))), HM4, HB4'⟩, HLT.out _ HRG4.out⟩
                        | false =>
                          go_wp2_with fail
                          exact ⟨⟨_, _, true, rfl, HRG4, Lib.hid (.inl rfl), HM4, HB4'⟩, HLT.out _ HRG4.out⟩
            · have hje : N = j := by omega
              subst hje
              go_wp2_with fail
              go_ret
              exact ⟨rfl, HB4.out.trans (HBJ.out.mono HB4.out.size)⟩
end Go.Proofs.YtfpepoebammeoaaGreat
