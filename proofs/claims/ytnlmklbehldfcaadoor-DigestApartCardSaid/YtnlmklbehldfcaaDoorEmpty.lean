/- The digest of the empty text, reckoned step by step: each step is looked at by the kernel. -/
import Derived.Test.YtnlmklbehldfcaaDoorSumP
set_option linter.unusedVariables false
namespace Go.Proofs.YtnlmklbehldfcaaDoor

/-- The 64 numbers of the empty text's one block. -/
def eW : List Wd := [0x80000000#32, 0x00000000#32, 0x00000000#32, 0x00000000#32, 0x00000000#32, 0x00000000#32, 0x00000000#32, 0x00000000#32,
  0x00000000#32, 0x00000000#32, 0x00000000#32, 0x00000000#32, 0x00000000#32, 0x00000000#32, 0x00000000#32, 0x00000000#32,
  0x80000000#32, 0x00000000#32, 0x00205000#32, 0x00000000#32, 0x22000800#32, 0x00000000#32, 0x05089542#32, 0x80000000#32,
  0x58080000#32, 0x0040a000#32, 0x00162505#32, 0x66001800#32, 0xd6222580#32, 0x14225508#32, 0xd645f95c#32, 0xc9282000#32,
  0xc3f10094#32, 0x284ca766#32, 0x06886dc6#32, 0xa37bf116#32, 0x717cbe96#32, 0xfec2d74a#32, 0xa7b67f00#32, 0x811596a2#32,
  0x98a6e768#32, 0x03b20c82#32, 0x5d1da7c9#32, 0xb156b935#32, 0xc3ddca11#32, 0x249c107f#32, 0xc48d24ef#32, 0x5de54c30#32,
  0xdefece65#32, 0x2ca1480d#32, 0x3c15332c#32, 0x01cec9ad#32, 0x160cccd0#32, 0x0bacda98#32, 0x361b8fe0#32, 0xd2320ba6#32,
  0x029b7007#32, 0x7546587c#32, 0x07f54f39#32, 0xf808ddc3#32, 0xdcca7608#32, 0x5e427188#32, 0x44bcec5d#32, 0x3b5ec49b#32]
/-- What a and e are in turn: the last four, and then one a round. -/
def eA : List Wd := [0xa54ff53a#32, 0x3c6ef372#32, 0xbb67ae85#32, 0x6a09e667#32, 0x7c08884d#32, 0x9ce564d0#32, 0xc4ac5526#32, 0x4c23eacb#32,
  0x4366f730#32, 0x292e3b42#32, 0xf0205590#32, 0x7ad5b1b6#32, 0xf52d63a5#32, 0xefe8bf51#32, 0x158bb921#32, 0xf5434c40#32,
  0x2102d2cd#32, 0x45c013a7#32, 0xb88afddb#32, 0xb40085b5#32, 0x470d554a#32, 0xdd999a2b#32, 0x3067996a#32, 0x0a480908#32,
  0x75c7f0d8#32, 0x99a6cb19#32, 0x404d8054#32, 0x985bed55#32, 0x7af6d48d#32, 0xc5b814ae#32, 0x2c8b2ab9#32, 0x6d8cc697#32,
  0x64bc9e1c#32, 0x72d3a00d#32, 0xa0bb0cdf#32, 0x11e7025f#32, 0xe390f3b6#32, 0xa141b695#32, 0x44a181a7#32, 0x641fe878#32,
  0xa096535d#32, 0x56e3dc4e#32, 0x9e58e42f#32, 0x499911b1#32, 0xfe86c833#32, 0x2298f88e#32, 0xdbb545ab#32, 0xe8e34752#32,
  0xa40972d4#32, 0x32fa442b#32, 0x54982d6c#32, 0x365a34cd#32, 0x62a82a5e#32, 0x9798f5ed#32, 0xc163cb21#32, 0xd55e06c2#32,
  0xb1b29c90#32, 0x3a0e9477#32, 0x2caf58ca#32, 0x01638014#32, 0x7ec75212#32, 0xe7ec45bc#32, 0xe923abc6#32, 0x04441c0e#32,
  0xf41fc3ea#32, 0x5e8d0156#32, 0xdd946d8f#32, 0x79a6dddb#32]
def eE : List Wd := [0x5be0cd19#32, 0x1f83d9ab#32, 0x9b05688c#32, 0x510e527f#32, 0x18c7e2a2#32, 0x2001b256#32, 0x6fdb22fa#32, 0x3037e1b5#32,
  0xe7d0641e#32, 0x4f6540fa#32, 0x82ede06f#32, 0x53f94dcb#32, 0x7aafc618#32, 0x53072289#32, 0xe23643ce#32, 0xd7e07c92#32,
  0xcdfdfe52#32, 0x2b427296#32, 0x1ccfac39#32, 0x5cb8e863#32, 0x70d43aa7#32, 0x608c93d3#32, 0xd398dcea#32, 0x900d27ac#32,
  0x39953ccd#32, 0xc287981e#32, 0xb1653710#32, 0x2c2c028d#32, 0xf55f8c25#32, 0xe57ac3f4#32, 0x9f934283#32, 0x66ed54fa#32,
  0x95696b75#32, 0xb04ab22d#32, 0x564a6626#32, 0xbbd7846c#32, 0xccd25d8b#32, 0x0bc457df#32, 0x6973aac2#32, 0x3a705ea9#32,
  0xfac06aed#32, 0xe807ea7f#32, 0x85a71424#32, 0x716bb025#32, 0x849879df#32, 0xf5c58ae9#32, 0xe0403eb9#32, 0x29426caa#32,
  0xaa2c1810#32, 0xd285c679#32, 0x8a6a82b2#32, 0xcbb3f8eb#32, 0x4cab6d8a#32, 0xe90aa770#32, 0x36068bde#32, 0xa194d14f#32,
  0x43a5def8#32, 0xfd99936e#32, 0xe588e598#32, 0xadf94e0a#32, 0x7951a330#32, 0xe2a91edc#32, 0x08e0e6ea#32, 0xaaefa044#32,
  0x1c71eb3c#32, 0x8511bf70#32, 0xc9962ac0#32, 0xd69fef65#32]
def eB : List UInt8 := endL [] 0
def eS (t : Nat) : St := ⟨eA.getD (t + 3) 0, eA.getD (t + 2) 0, eA.getD (t + 1) 0, eA.getD t 0, eE.getD (t + 3) 0, eE.getD (t + 2) 0, eE.getD (t + 1) 0, eE.getD t 0⟩

theorem eW_step : ∀ t, t < 64 → eW.getD t 0 = nextW eB eW t := of_decide_eq_true (by kernel_rfl)
theorem eS_a : ∀ t, t < 64 → eA.getD (t + 4) 0 = tOne (eS t) (KK.getD t 0) (eW.getD t 0) + tTwo (eS t) := of_decide_eq_true (by kernel_rfl)
theorem eS_e : ∀ t, t < 64 → eE.getD (t + 4) 0 = eA.getD t 0 + tOne (eS t) (KK.getD t 0) (eW.getD t 0) := of_decide_eq_true (by kernel_rfl)

theorem getD_take {α : Type} (l : List α) (d : α) {i t : Nat} (h : i < t) : (l.take t).getD i d = l.getD i d := by
  rw [List.getD_eq_getElem?_getD, List.getD_eq_getElem?_getD, List.getElem?_take_of_lt h]
theorem eW_len : eW.length = 64 := rfl
theorem eW_sch : ∀ t, t ≤ 64 → sch eB t = eW.take t
  | 0, _ => rfl
  | t + 1, h => by
    have ih := eW_sch t (by omega)
    have hx : eW[t]? = some (eW.getD t 0) := getD_some 0 (by rw [eW_len]; omega)
    rw [sch, ih, take_snoc hx, eW_step t (by omega)]
    congr 1
    unfold nextW
    by_cases h16 : t < 16
    · rw [if_pos h16, if_pos h16]
    · rw [if_neg h16, if_neg h16, getD_take _ _ (by omega), getD_take _ _ (by omega), getD_take _ _ (by omega), getD_take _ _ (by omega)]
theorem eS_runs : ∀ t, t ≤ 64 → runs KK eW H0 t = eS t
  | 0, _ => rfl
  | t + 1, h => by
    rw [runs, eS_runs t (by omega)]
    have h1 := eS_a t (by omega)
    have h2 := eS_e t (by omega)
    show St.mk _ _ _ _ _ _ _ _ = St.mk _ _ _ _ _ _ _ _
    rw [← h1]
    show St.mk _ _ _ _ (eA.getD t 0 + tOne (eS t) (KK.getD t 0) (eW.getD t 0)) _ _ _ = _
    rw [← h2]
    rfl

theorem eB_len : eB.length = 64 := by kernel_rfl
theorem empty_mix : mixB KK H0 eB = addS H0 (eS 64) := by
  rw [mixB, eW_sch 64 (by omega), List.take_of_length_le (by rw [eW_len]; omega), eS_runs 64 (by omega)]
theorem empty_hex : hexL (outW (stW (addS H0 (eS 64)))) = [101, 51, 98, 48, 99, 52, 52, 50, 57, 56, 102, 99, 49, 99, 49, 52, 57, 97, 102, 98, 102, 52, 99, 56, 57, 57, 54, 102, 98, 57, 50, 52, 50, 55, 97, 101, 52, 49, 101, 52, 54, 52, 57, 98, 57, 51, 52, 99, 97, 52, 57, 53, 57, 57, 49, 98, 55, 56, 53, 50, 98, 56, 53, 53] := of_decide_eq_true (by kernel_rfl)
theorem empty_sum : hexL (sumL []) = [101, 51, 98, 48, 99, 52, 52, 50, 57, 56, 102, 99, 49, 99, 49, 52, 57, 97, 102, 98, 102, 52, 99, 56, 57, 57, 54, 102, 98, 57, 50, 52, 50, 55, 97, 101, 52, 49, 101, 52, 54, 52, 57, 98, 57, 51, 52, 99, 97, 52, 57, 53, 57, 57, 49, 98, 55, 56, 53, 50, 98, 56, 53, 53] := by
  have e : sumL [] = outW (stW (mixL KK (eB.length / 64) H0 eB)) := rfl
  rw [e, eB_len]
  show hexL (outW (stW (mixB KK H0 (eB.take 64)))) = _
  rw [List.take_of_length_le (by rw [eB_len]; omega), empty_mix, empty_hex]
end Go.Proofs.YtnlmklbehldfcaaDoor
