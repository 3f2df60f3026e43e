/- The contract of the document's primes. The contracts of the document's roots. The contract of the document's table of roots: the chapter's H and K. The document's Sum: the rounds over one block. -/
import Derived.Deep.RegionHeld3
import Derived.StillTailTactics
import Derived.Test.YtgjcblginkdinaaGreatDoorU12
import Derived.Test.YtgjcblginkdinaaGreatDoorU7
set_option linter.unusedVariables false
namespace Go.Proofs.YtgjcblginkdinaaGreatDoor
open Go.ChangeShapes Go.WideShapes Go.ChangeAt Go.RowKit

end Go.Proofs.YtgjcblginkdinaaGreatDoor
set_option linter.unusedVariables false
namespace Go.Proofs.YtgjcblginkdinaaGreatDoor
open Go.ChangeShapes Go.WideShapes Go.ChangeAt Go.RowKit

end Go.Proofs.YtgjcblginkdinaaGreatDoor
set_option linter.unusedVariables false
namespace Go.Proofs.YtgjcblginkdinaaGreatDoor
open Go.ChangeShapes Go.WideShapes Go.ChangeAt Go.RowKit

def wvs (l : List Wd) : List Value := l.map fun (x : Wd) => Value.int .u32 (nv x)
theorem wvs_len (l : List Wd) : (wvs l).length = l.length := by simp [wvs]
end Go.Proofs.YtgjcblginkdinaaGreatDoor
set_option linter.unusedVariables false
namespace Go.Proofs.YtgjcblginkdinaaGreatDoor
open Go.ChangeShapes Go.WideShapes Go.ChangeAt Go.RowKit

attribute [local go_sem] bv_u8 wd_add wd_xor wd_and wd_or wd_ofByte wd_shl24 wd_shl16 wd_shl8 wd_shr3 wd_shr10

theorem wd_not (x : Wd) : bits .xor .u32 4294967295 (nv x) = nv (~~~x) := by
  have e : (4294967295 : Int) = nv (BitVec.allOnes 32) := rfl
  rw [e, wd_xor, BitVec.allOnes_xor]
attribute [local go_sem] wd_not wd_byte wd_shr24 wd_shr16 wd_shr8
def Keep (b : Nat) (w w' : World) : Prop := w.heap.size ≤ w'.heap.size ∧ ∀ k, k < w.heap.size → k ≠ b → w'.heap[k]? = w.heap[k]?
theorem Keep.cell {b : Nat} {w w' : World} (h : Keep b w w') {k j : Nat} (hk : k < w.heap.size) (hb : k ≠ b) : w'.cell? ⟨k, j, none⟩ = w.cell? ⟨k, j, none⟩ := World.cell?_of_block (h.2 k hk hb)
theorem Keep.refl (b : Nat) (w : World) : Keep b w w := ⟨Nat.le_refl _, fun _ _ _ => rfl⟩
theorem Keep.below {b : Nat} {w w' w'' : World} (h : Keep b w w') (hb : Below w'.heap.size w' w'') : Keep b w w'' :=
  ⟨Nat.le_trans h.1 hb.size, fun k hk hn => (hb.block k (Nat.lt_of_lt_of_le hk h.1)).trans (h.2 k hk hn)⟩

theorem Keep.trans {b : Nat} {w w' w'' : World} (h : Keep b w w') (k : Keep b w' w'') : Keep b w w'' :=
  ⟨Nat.le_trans h.1 k.1, fun i hi hn => (k.2 i (Nat.lt_of_lt_of_le hi h.1) hn).trans (h.2 i hi hn)⟩
theorem Keep.setCell {b : Nat} {w w' : World} (h : Keep b w w') (i : Nat) (v : Value) : Keep b w (w'.setCell ⟨b, i, none⟩ v) :=
  ⟨by simpa [World.setCell] using h.1, fun k hk hn => (Below.heap_setCell w' ⟨b, i, none⟩ v k hn).trans (h.2 k hk hn)⟩
theorem Keep.drew {b : Nat} {w w' : World} (h : Keep b w w') : Keep b w w'.drew := h

def loops : Code → List Code
  | .loop c => c :: loops c
  | .seq a b => loops a ++ loops b
  | .block _ c => loops c
  | .scope c => loops c
  | .cond _ a b => loops a ++ loops b
  | _ => []
noncomputable def bodyR : Code := ((Tryz.f37.body.map loops).getD []).getD 4 .skip

set_option maxHeartbeats 2000000 in
set_option maxRecDepth 1000000 in
theorem rounds {B : Nat} (S : St) (Wl : List Wd) (bk ck wb : Nat) (v8 : Value) (w8 : World) (Q0 : Exit → Act → World → Prop)
    (HV8 : Hid (Arr B w8 v8 (wvs (stW S)))) (hB : B ≤ w8.heap.size)
    (HKC : Hid (∀ t, t < 64 → w8.cell? ⟨bk, t, none⟩ = some (.int .u32 (nv (KK.getD t 0)))))
    (HWC : Hid (∀ t, t < 64 → w8.cell? ⟨wb, t, none⟩ = some (.int .u32 (nv (Wl.getD t 0)))))
    (hbk : bk < w8.heap.size) (hwb : wb < w8.heap.size)
    (c0 c1 c2 c3 c5 c6 c7 c8 c10 c11 c12 c13 c16 c17 c18 c19 c20 c21 c22 c23 c24 c25 c26 c27 c28 c29 c30 c31 c32 c33 c34 c35 c36 c37 c38 c39 c40 c41 c42 c43 c44 c45 c46 c47 c48 c49 c50 c51 c52 c53 c54 c55 c56 c57 c58 c59 c60 c61 c62 c63 c64 c65 c66 c67 c68 c69 c70 c71 c72 c73 c74 c75 c76 c77 c78 c79 c80 c81 c82 c83 c84 c85 c86 c87 c88 c89 c90 c91 c92 c93 c94 c95 c96 c97 c98 c99 c100 c101 c102 c103 c104 c105 c106 c107 c108 c109 c110 c111 c112 c113 c114 c115 c116 c117 c118 c119 c120 c121 c122 c123 c124 c125 c126 c127 c128 c129 c130 c131 c132 c133 c134 c135 c136 c137 c138 c139 c140 c141 c142 c143 c144 c145 c146 c147 c148 c149 c150 c151 c152 c153 c154 c155 c156 c157 c158 c159 c160 c161 c162 c163 c164 c165 c166 c167 c168 c169 c170 c171 c172 c173 c174 c175 c176 c177 c178 c179 c180 c181 c182 c183 c184 c185 c186 c187 c188 c189 c190 c191 c192 c193 c194 c195 c196 c197 c198 c199 c200 c201 c202 c203 c204 c205 c206 c207 c208 c209 c210 c211 c212 c213 c214 c215 c216 c217 c218 c219 c220 c221 c222 c223 c224 c225 c226 c227 c228 c229 c230 c231 c232 c233 c234 c235 c236 c237 c238 c239 c240 c241 c242 c243 c244 c245 c246 c247 c248 c249 c250 c251 c252 c253 c254 c255 c256 c257 c258 c259 c260 c261 c262 c263 c264 c265 c266 c267 c268 c269 c270 c271 c272 c273 c274 c275 c276 c277 c278 c279 c280 c281 c282 c283 c284 c285 c286 c287 c288 c289 c290 c291 c292 : Value)
    (HEX : Hid (∀ (u14 u15 u16 u17 u18 u19 u145 u146 u147 u148 u149 u150 u151 u152 u153 u154 u155 u156 u157 u158 u159 u160 u161 u162 u163 u164 u165 u166 u167 u168 u169 u170 u171 u172 u173 u174 u175 u176 u177 u178 u179 u180 u181 u182 u183 u184 u185 u186 u187 u188 u189 u190 u191 u192 u193 u194 u195 u196 u197 u198 u199 u200 u201 u202 u203 u204 u205 u206 u207 u208 u209 u210 u211 u212 u213 u214 u215 u216 u217 u218 u219 u220 u221 u222 u223 u224 u225 u226 u227 u228 u229 u230 u231 u232 u233 u234 u235 u236 u237 u238 u239 u240 u241 u242 u243 u244 : Value) (w' : World), Arr B w' u14 (wvs (stW (runs KK Wl S 64))) → Below w8.heap.size w8 w' → Q0 (.exit 8) ⟨(c0 :: c1 :: c2 :: c3 :: .slice (some ⟨bk, 0, none⟩) 64 ck :: c5 :: c6 :: c7 :: c8 :: .slice (some ⟨wb, 0, none⟩) 64 64 :: c10 :: c11 :: c12 :: c13 :: u14 :: u15 :: u16 :: u17 :: u18 :: u19 :: c20 :: c21 :: c22 :: c23 :: c24 :: c25 :: c26 :: c27 :: c28 :: c29 :: c30 :: c31 :: c32 :: c33 :: c34 :: c35 :: c36 :: c37 :: c38 :: c39 :: c40 :: c41 :: c42 :: c43 :: c44 :: c45 :: c46 :: c47 :: c48 :: c49 :: c50 :: c51 :: c52 :: c53 :: c54 :: c55 :: c56 :: c57 :: c58 :: c59 :: c60 :: c61 :: c62 :: c63 :: c64 :: c65 :: c66 :: c67 :: c68 :: c69 :: c70 :: c71 :: c72 :: c73 :: c74 :: c75 :: c76 :: c77 :: c78 :: c79 :: c80 :: c81 :: c82 :: c83 :: c84 :: c85 :: c86 :: c87 :: c88 :: c89 :: c90 :: c91 :: c92 :: c93 :: c94 :: c95 :: c96 :: c97 :: c98 :: c99 :: c100 :: c101 :: c102 :: c103 :: c104 :: c105 :: c106 :: c107 :: c108 :: c109 :: c110 :: c111 :: c112 :: c113 :: c114 :: c115 :: c116 :: c117 :: c118 :: c119 :: c120 :: c121 :: c122 :: c123 :: c124 :: c125 :: c126 :: c127 :: c128 :: c129 :: c130 :: c131 :: c132 :: c133 :: c134 :: c135 :: c136 :: c137 :: c138 :: c139 :: c140 :: c141 :: c142 :: c143 :: c144 :: u145 :: u146 :: u147 :: u148 :: u149 :: u150 :: u151 :: u152 :: u153 :: u154 :: u155 :: u156 :: u157 :: u158 :: u159 :: u160 :: u161 :: u162 :: u163 :: u164 :: u165 :: u166 :: u167 :: u168 :: u169 :: u170 :: u171 :: u172 :: u173 :: u174 :: u175 :: u176 :: u177 :: u178 :: u179 :: u180 :: u181 :: u182 :: u183 :: u184 :: u185 :: u186 :: u187 :: u188 :: u189 :: u190 :: u191 :: u192 :: u193 :: u194 :: u195 :: u196 :: u197 :: u198 :: u199 :: u200 :: u201 :: u202 :: u203 :: u204 :: u205 :: u206 :: u207 :: u208 :: u209 :: u210 :: u211 :: u212 :: u213 :: u214 :: u215 :: u216 :: u217 :: u218 :: u219 :: u220 :: u221 :: u222 :: u223 :: u224 :: u225 :: u226 :: u227 :: u228 :: u229 :: u230 :: u231 :: u232 :: u233 :: u234 :: u235 :: u236 :: u237 :: u238 :: u239 :: u240 :: u241 :: u242 :: u243 :: u244 :: c245 :: c246 :: c247 :: c248 :: c249 :: c250 :: c251 :: c252 :: c253 :: c254 :: c255 :: c256 :: c257 :: c258 :: c259 :: c260 :: c261 :: c262 :: c263 :: c264 :: c265 :: c266 :: c267 :: c268 :: c269 :: c270 :: c271 :: c272 :: c273 :: c274 :: c275 :: c276 :: c277 :: c278 :: c279 :: c280 :: c281 :: c282 :: c283 :: c284 :: c285 :: c286 :: c287 :: c288 :: c289 :: c290 :: c291 :: c292 :: []).toArray, []⟩ w')) :
    Code.wp Tryz.prog (Code.loop bodyR) Q0 ⟨(c0 :: c1 :: c2 :: c3 :: .slice (some ⟨bk, 0, none⟩) 64 ck :: c5 :: c6 :: c7 :: c8 :: .slice (some ⟨wb, 0, none⟩) 64 64 :: c10 :: c11 :: c12 :: c13 :: v8 :: .int .i64 0 :: c16 :: c17 :: c18 :: c19 :: c20 :: c21 :: c22 :: c23 :: c24 :: c25 :: c26 :: c27 :: c28 :: c29 :: c30 :: c31 :: c32 :: c33 :: c34 :: c35 :: c36 :: c37 :: c38 :: c39 :: c40 :: c41 :: c42 :: c43 :: c44 :: c45 :: c46 :: c47 :: c48 :: c49 :: c50 :: c51 :: c52 :: c53 :: c54 :: c55 :: c56 :: c57 :: c58 :: c59 :: c60 :: c61 :: c62 :: c63 :: c64 :: c65 :: c66 :: c67 :: c68 :: c69 :: c70 :: c71 :: c72 :: c73 :: c74 :: c75 :: c76 :: c77 :: c78 :: c79 :: c80 :: c81 :: c82 :: c83 :: c84 :: c85 :: c86 :: c87 :: c88 :: c89 :: c90 :: c91 :: c92 :: c93 :: c94 :: c95 :: c96 :: c97 :: c98 :: c99 :: c100 :: c101 :: c102 :: c103 :: c104 :: c105 :: c106 :: c107 :: c108 :: c109 :: c110 :: c111 :: c112 :: c113 :: c114 :: c115 :: c116 :: c117 :: c118 :: c119 :: c120 :: c121 :: c122 :: c123 :: c124 :: c125 :: c126 :: c127 :: c128 :: c129 :: c130 :: c131 :: c132 :: c133 :: c134 :: c135 :: c136 :: c137 :: c138 :: c139 :: c140 :: c141 :: c142 :: c143 :: c144 :: c145 :: c146 :: c147 :: c148 :: c149 :: c150 :: c151 :: c152 :: c153 :: c154 :: c155 :: c156 :: c157 :: c158 :: c159 :: c160 :: c161 :: c162 :: c163 :: c164 :: c165 :: c166 :: c167 :: c168 :: c169 :: c170 :: c171 :: c172 :: c173 :: c174 :: c175 :: c176 :: c177 :: c178 :: c179 :: c180 :: c181 :: c182 :: c183 :: c184 :: c185 :: c186 :: c187 :: c188 :: c189 :: c190 :: c191 :: c192 :: c193 :: c194 :: c195 :: c196 :: c197 :: c198 :: c199 :: c200 :: c201 :: c202 :: c203 :: c204 :: c205 :: c206 :: c207 :: c208 :: c209 :: c210 :: c211 :: c212 :: c213 :: c214 :: c215 :: c216 :: c217 :: c218 :: c219 :: c220 :: c221 :: c222 :: c223 :: c224 :: c225 :: c226 :: c227 :: c228 :: c229 :: c230 :: c231 :: c232 :: c233 :: c234 :: c235 :: c236 :: c237 :: c238 :: c239 :: c240 :: c241 :: c242 :: c243 :: c244 :: c245 :: c246 :: c247 :: c248 :: c249 :: c250 :: c251 :: c252 :: c253 :: c254 :: c255 :: c256 :: c257 :: c258 :: c259 :: c260 :: c261 :: c262 :: c263 :: c264 :: c265 :: c266 :: c267 :: c268 :: c269 :: c270 :: c271 :: c272 :: c273 :: c274 :: c275 :: c276 :: c277 :: c278 :: c279 :: c280 :: c281 :: c282 :: c283 :: c284 :: c285 :: c286 :: c287 :: c288 :: c289 :: c290 :: c291 :: c292 :: []).toArray, []⟩ w8 := by
  conv => arg 2; arg 1; whnf
  go_loopw [14, 15] (fun vv tv wt => ∃ (t : Nat) (V : St), t ≤ 64 ∧ tv = .int .i64 t ∧ Hid (runs KK Wl S t = V) ∧ Arr B wt vv (wvs (stW V)) ∧ Below w8.heap.size w8 wt) (fun _ tv _ => 64 - (intOf tv).toNat)
  case atStart => exact ⟨0, S, Nat.zero_le _, rfl, Lib.hid rfl, HV8.out, Below.refl _ _⟩
  case round =>
    obtain ⟨t, V, ht, rfl, HVV, harr, hbel⟩ := hrel
    obtain ⟨bq, cq, hvq, hbq1, hbq2, hcq1, hcq2, hcq3, hcq4⟩ := harr.pos (by simp [wvs, stW])
    rw [wvs_len, stW_len] at hvq hcq1
    subst hvq
    have hszq := hbel.size
    by_cases ht64 : t < 64
    · have h01 : (0 : Int) ≤ t := by omega
      have h02 : (t : Int) < 64 := by omega
      obtain ⟨a', b', c', d', e', f', g', h'⟩ := V
      have q0 : wr.cell? ⟨bq, 0, none⟩ = some (.int .u32 (nv a')) := hcq4 0 _ rfl
      have q1 : wr.cell? ⟨bq, 1, none⟩ = some (.int .u32 (nv b')) := hcq4 1 _ rfl
      have q2 : wr.cell? ⟨bq, 2, none⟩ = some (.int .u32 (nv c')) := hcq4 2 _ rfl
      have q3 : wr.cell? ⟨bq, 3, none⟩ = some (.int .u32 (nv d')) := hcq4 3 _ rfl
      have q4 : wr.cell? ⟨bq, 4, none⟩ = some (.int .u32 (nv e')) := hcq4 4 _ rfl
      have q5 : wr.cell? ⟨bq, 5, none⟩ = some (.int .u32 (nv f')) := hcq4 5 _ rfl
      have q6 : wr.cell? ⟨bq, 6, none⟩ = some (.int .u32 (nv g')) := hcq4 6 _ rfl
      have q7 : wr.cell? ⟨bq, 7, none⟩ = some (.int .u32 (nv h')) := hcq4 7 _ rfl
      obtain ⟨kk, hkk⟩ : ∃ x, x = KK.getD t 0 := ⟨_, rfl⟩
      obtain ⟨wk, hwk⟩ : ∃ x, x = (Wl).getD t 0 := ⟨_, rfl⟩
      have ckc : wr.cell? ⟨bk, t, none⟩ = some (.int .u32 (nv kk)) := by
        rw [hkk]
        exact (hbel.cell (p := ⟨bk, t, none⟩) hbk).trans (HKC.out t ht64)
      have cwc : wr.cell? ⟨wb, t, none⟩ = some (.int .u32 (nv wk)) := by
        rw [hwk]
        exact (hbel.cell (p := ⟨wb, t, none⟩) hwb).trans (HWC.out t ht64)
      have hnext : runs KK (Wl) S (t + 1) = rnd ⟨a', b', c', d', e', f', g', h'⟩ kk wk := by rw [runs, HVV.out, hkk, hwk]
      have HNXT := Lib.hid hnext
      have HBELq := Lib.hid hbel
      have hmax : IntKind.u32.max = 4294967295 := rfl
      clear hbel harr hcq3 hcq4 hcq1 hcq2 hkk hwk hnext ht HVV
      obtain ⟨w0, rfl⟩ : ∃ w0, w0 = wr := ⟨wr, rfl⟩
      go_wp2
      go_quiet ((go_at_call 79; exact Calls.quiet_of (rturn_any _ _ _ (by decide) (by decide))))
      generalize hwz : w0.drewN nq = wz
      have HWZ := Lib.hid hwz
      have r0 : wz.cell? ⟨bq, 0, none⟩ = some (.int .u32 (nv a')) := by rw [← hwz]; exact q0
      have r1 : wz.cell? ⟨bq, 1, none⟩ = some (.int .u32 (nv b')) := by rw [← hwz]; exact q1
      have r2 : wz.cell? ⟨bq, 2, none⟩ = some (.int .u32 (nv c')) := by rw [← hwz]; exact q2
      have r3 : wz.cell? ⟨bq, 3, none⟩ = some (.int .u32 (nv d')) := by rw [← hwz]; exact q3
      have r4 : wz.cell? ⟨bq, 4, none⟩ = some (.int .u32 (nv e')) := by rw [← hwz]; exact q4
      have r5 : wz.cell? ⟨bq, 5, none⟩ = some (.int .u32 (nv f')) := by rw [← hwz]; exact q5
      have r6 : wz.cell? ⟨bq, 6, none⟩ = some (.int .u32 (nv g')) := by rw [← hwz]; exact q6
      clear hwz q0 q1 q2 q3 q4 q5 q6 q7 ckc cwc
      go_wp2
      go_quiet ((go_at_call 79; exact Calls.quiet_of (rturn_any _ _ _ (by decide) (by decide))))
      generalize hwy : wz.drewN nq = wy
      have HWY := Lib.hid hwy
      have s0 : wy.cell? ⟨bq, 0, none⟩ = some (.int .u32 (nv a')) := by rw [← hwy]; exact r0
      have s1 : wy.cell? ⟨bq, 1, none⟩ = some (.int .u32 (nv b')) := by rw [← hwy]; exact r1
      have s2' : wy.cell? ⟨bq, 2, none⟩ = some (.int .u32 (nv c')) := by rw [← hwy]; exact r2
      have s3 : wy.cell? ⟨bq, 3, none⟩ = some (.int .u32 (nv d')) := by rw [← hwy]; exact r3
      have s4 : wy.cell? ⟨bq, 4, none⟩ = some (.int .u32 (nv e')) := by rw [← hwy]; exact r4
      have s5 : wy.cell? ⟨bq, 5, none⟩ = some (.int .u32 (nv f')) := by rw [← hwy]; exact r5
      have s6 : wy.cell? ⟨bq, 6, none⟩ = some (.int .u32 (nv g')) := by rw [← hwy]; exact r6
      clear hwy r0 r1 r2 r3 r4 r5 r6
      go_wp2
      have hnextP := HNXT.out
      obtain ⟨one, h1⟩ : ∃ x : Wd, x = h' + (rotr e' 6 ^^^ rotr e' 11 ^^^ rotr e' 25) + (e' &&& f' ||| ~~~e' &&& g') + kk + wk := ⟨_, rfl⟩
      obtain ⟨two, h2⟩ : ∃ x : Wd, x = (rotr a' 2 ^^^ rotr a' 13 ^^^ rotr a' 22) + (a' &&& b' ||| a' &&& c' ||| b' &&& c') := ⟨_, rfl⟩
      have e1 : (nv (h' + (rotr e' 6 ^^^ rotr e' 11 ^^^ rotr e' 25)) + nv (e' &&& f' ||| ~~~e' &&& g') + nv kk + nv wk) % (4294967296 : Int) = nv one := by rw [h1, wd_add4]
      have hrnd : rnd ⟨a', b', c', d', e', f', g', h'⟩ kk wk = ⟨one + two, a', b', c', d' + one, e', f', g'⟩ := by rw [h1, h2, BitVec.and_comm (~~~e') g']; rfl
      rw [e1, ← h2]
      rw [hrnd] at hnextP
      have HNEXT := Lib.hid hnextP
      clear h1 h2 e1 hrnd hnextP
      have hsy : wy.heap.size = w0.heap.size := by rw [← HWY.out, ← HWZ.out]; rfl
      have hbqy : bq < wy.heap.size := by rw [hsy]; exact hbq2
      go_still_tail 26, (by kernel_rfl)
      change wpList _ _ _ _ _ wy.drew
      generalize hwx : wy.drew = wx
      have hbx : Below w8.heap.size w8 wx := by rw [← hwx, ← HWY.out, ← HWZ.out]; exact Below.drew (Below.drewN (Below.drewN HBELq.out))
      have hsx : w8.heap.size ≤ wx.heap.size := hbx.size
      have HBX := Lib.hid hbx
      clear hwx hbx s0 s1 s2' s3 s4 s5 s6 hbqy hsy
      go_wp2
      refine ⟨⟨t + 1, _, ht64, by go_num, HNEXT, arr_new (cs := wvs (stW ⟨one + two, a', b', c', d' + one, e', f', g'⟩)) (cap := 8) (fr := (0, 0)) (Nat.le_trans hB hsx) (Nat.le_refl _) (by decide) rfl (.inl rfl) (fun j u hu => by rw [List.getElem?_toArray]; exact hu), HBX.out.alloc hsx _⟩, by simp [intOf]; omega⟩
    · have hte : t = 64 := by omega
      rw [hte] at HVV
      have ht9 : ¬ (t : Int) < 64 := by omega
      have HBELq := Lib.hid hbel
      have HARq := Lib.hid harr
      clear hbel harr hcq3 hcq4 hcq1 hcq2 ht hte ht64
      go_wp2
      refine HEX.out _ _ _ _ _ _ _ _ _ _ _ _ _ _ _ _ _ _ _ _ _ _ _ _ _ _ _ _ _ _ _ _ _ _ _ _ _ _ _ _ _ _ _ _ _ _ _ _ _ _ _ _ _ _ _ _ _ _ _ _ _ _ _ _ _ _ _ _ _ _ _ _ _ _ _ _ _ _ _ _ _ _ _ _ _ _ _ _ _ _ _ _ _ _ _ _ _ _ _ _ _ _ _ _ _ _ _ ?_ HBELq.out
      rw [HVV.out]
      exact HARq.out
end Go.Proofs.YtgjcblginkdinaaGreatDoor
