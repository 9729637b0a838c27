/- The keys of all seeds of one byte are apart. The keys of all seeds of one byte are apart, and none is nought: reckoned. -/
import Derived.Test.YtcampjgemedhlaaDoorKeysA
import Derived.Test.YtcampjgemedhlaaDoorLam2
import Derived.Test.YtcampjgemedhlaaDoorLaw1
namespace Go.Proofs.YtcampjgemedhlaaDoor
open Go Sha
theorem shaD_blocks (D : Nat → BitVec 8) (n b : Nat) (hb : b = (n + 72) / 64) (j : Nat) : shaD D n j = wordByte (Hb (padB D n b) b) j := by
  have h : (closed (feed run0 D n) n).H = Hb (padB D n b) b := closed_blocks D n b hb
  unfold shaD sumByte
  rw [h]
theorem shaD_word (D : Nat → BitVec 8) (n b : Nat) (hb : b = (n + 72) / 64) (t : Nat) : w4 (shaD D n (4 * t)) (shaD D n (4 * t + 1)) (shaD D n (4 * t + 2)) (shaD D n (4 * t + 3)) = Hb (padB D n b) b t := by
  rw [shaD_blocks D n b hb, shaD_blocks D n b hb, shaD_blocks D n b hb, shaD_blocks D n b hb, w4_word]
/-- The text behind a secret of a seed of one byte. -/
def secT (x : BitVec 8) (i b : Nat) : Nat → BitVec 8 := flat (fun k => if k = 0 then ⟨none, 1, 1, fun _ => x⟩ else ⟨none, 2, 2, two i b⟩) 2
theorem secD_sha (x : BitVec 8) (i b : Nat) : secD 1 (fun _ => x) i b = shaD (secT x i b) 19 := by
  unfold secD secT
  rw [joinD_flat]
  rfl
def secW (x : BitVec 8) (i b : Nat) : Nat → W32
  | 1 => 1
  | 2 => w4 x 0 0 0
  | 4 => w4 2 (BitVec.ofNat 8 i) (BitVec.ofNat 8 b) 0x80
  | 15 => 152
  | _ => 0
theorem lt16 {t : Nat} (h : t < 16) : t = 0 ∨ t = 1 ∨ t = 2 ∨ t = 3 ∨ t = 4 ∨ t = 5 ∨ t = 6 ∨ t = 7 ∨ t = 8 ∨ t = 9 ∨ t = 10 ∨ t = 11 ∨ t = 12 ∨ t = 13 ∨ t = 14 ∨ t = 15 := by omega
def secB (x : BitVec 8) (i b : Nat) (j : Nat) : BitVec 8 := if j = 7 then 1 else if j = 8 then x else if j = 16 then 2 else if j = 17 then BitVec.ofNat 8 i else if j = 18 then BitVec.ofNat 8 b else if j = 19 then 0x80 else if j = 63 then 152 else 0
theorem secT_at (x : BitVec 8) (i b j : Nat) : secT x i b j = if j < 9 then (if j < 0 then 0 else if j < 8 then be8 1 (j - 0) else x) else if j < 17 then be8 2 (j - 9) else two i b (j - 9 - 8) := by kernel_rfl
theorem be8_152 : ∀ k, k < 8 → be8 (8 * 19) k = if k = 7 then 152 else 0 := by decide
theorem secB_eq (x : BitVec 8) (i b j : Nat) (hj : j < 64) : padB (secT x i b) 19 1 j = secB x i b j := by
  unfold padB secB
  by_cases h19 : j < 19
  · rw [if_pos h19, secT_at]
    by_cases h9 : j < 9
    · rw [if_pos h9, if_neg (by omega)]
      by_cases h8 : j < 8
      · rw [if_pos h8, be8_small 1 _ (by omega) (by omega)]
        by_cases h7 : j = 7
        · subst h7; rfl
        · rw [if_neg (by omega), if_neg h7, if_neg (by omega), if_neg (by omega), if_neg (by omega), if_neg (by omega), if_neg (by omega), if_neg (by omega)]
      · rw [if_neg h8, if_neg (by omega), if_pos (by omega)]
    · rw [if_neg h9]
      by_cases h17 : j < 17
      · rw [if_pos h17, be8_small 2 _ (by omega) (by omega)]
        by_cases h16 : j = 16
        · subst h16; rfl
        · rw [if_neg (by omega), if_neg (by omega), if_neg (by omega), if_neg h16, if_neg (by omega), if_neg (by omega), if_neg (by omega), if_neg (by omega)]
      · rw [if_neg h17]
        rcases (show j = 17 ∨ j = 18 by omega) with rfl | rfl <;> rfl
  · rw [if_neg h19]
    by_cases h : j = 19
    · subst h; rfl
    · rw [if_neg h]
      by_cases h56 : j < 64 * 1 - 8
      · rw [if_pos h56, if_neg (by omega), if_neg (by omega), if_neg (by omega), if_neg (by omega), if_neg (by omega), if_neg h, if_neg (by omega)]
      · rw [if_neg h56, be8_152 _ (by omega)]
        by_cases h63 : j = 63
        · subst h63; rfl
        · rw [if_neg (by omega), if_neg (by omega), if_neg (by omega), if_neg (by omega), if_neg (by omega), if_neg (by omega), if_neg h, if_neg h63]
theorem w4_all (a b c d : BitVec 8) (n : Nat) (h : a.toNat * 16777216 + b.toNat * 65536 + c.toNat * 256 + d.toNat = n) : w4 a b c d = BitVec.ofNat 32 n := by unfold w4; rw [h]
theorem sec_block (x : BitVec 8) (i b t : Nat) (ht : t < 16) : pw (fun j => padB (secT x i b) 19 1 (64 * 0 + j)) 64 t = secW x i b t := by
  rw [pw_word _ _ ht, secB_eq _ _ _ _ (by omega), secB_eq _ _ _ _ (by omega), secB_eq _ _ _ _ (by omega), secB_eq _ _ _ _ (by omega)]
  rcases lt16 ht with rfl | rfl | rfl | rfl | rfl | rfl | rfl | rfl | rfl | rfl | rfl | rfl | rfl | rfl | rfl | rfl <;> simp [secB, secW] <;> decide
theorem pad_tail (D : Nat → BitVec 8) (n b j : Nat) (h : n ≤ j) : padB D n b j = if j = n then 0x80 else if j < 64 * b - 8 then 0 else be8 (8 * n) (j - (64 * b - 8)) := by
  unfold padB; rw [if_neg (by omega)]
theorem pk_zero : ∀ n, pk (fun _ => 0) n = 0
  | 0 => rfl
  | n + 1 => by rw [pk, pk_zero n]; rfl
theorem h0P_eq (n : Nat) : h0P n = upH n (fun _ => Hc) := by
  unfold h0P upH up s8
  simp only [pk_const]
  rfl
theorem w4_const (i b : Nat) (hi : i < 256) (hb : b < 256) : (w4 2 (BitVec.ofNat 8 i) (BitVec.ofNat 8 b) 0x80).toNat = 33554560 + i * 65536 + b * 256 := by
  unfold w4
  rw [show (2 : BitVec 8).toNat = 2 from rfl, show (0x80 : BitVec 8).toNat = 128 from rfl]
  simp only [BitVec.toNat_ofNat]
  omega
theorem secL_eq (n i b : Nat) (hi : i < 256) (hb : b < 256) : secL n i b (seedP n) = (List.range 16).map fun t => pk (fun l => pw (fun j => padB (secT (BitVec.ofNat 8 l) i b) 19 1 (64 * 0 + j)) 64 t) n := by
  rw [List.map_congr_left (g := fun t => pk (fun l => secW (BitVec.ofNat 8 l) i b t) n) (fun t ht => pk_congr n (fun l _ => sec_block _ i b t (by simpa using ht)))]
  rw [show List.range 16 = [0, 1, 2, 3, 4, 5, 6, 7, 8, 9, 10, 11, 12, 13, 14, 15] from rfl]
  simp only [List.map, secW]
  unfold secL
  rw [pk_zero, pk_const (w4 2 (BitVec.ofNat 8 i) (BitVec.ofNat 8 b) 0x80), w4_const i b hi hb, pk_const 152]
  have e : pk (fun l => w4 (BitVec.ofNat 8 l) 0 0 0) n = seedP n := pk_congr n (fun l _ => by unfold w4; rw [BitVec.toNat_ofNat, show (0 : BitVec 8).toNat = 0 from rfl]; simp only [Nat.zero_mul, Nat.add_zero])
  rw [e]
  rfl
def leafW (H : Nat → W32) (t : Nat) : W32 := if t < 8 then H t else if t = 8 then 0x80000000 else if t = 15 then 256 else 0
theorem leaf_block (D : Nat → BitVec 8) (H : Nat → W32) (hD : ∀ t, t < 8 → w4 (D (4 * t)) (D (4 * t + 1)) (D (4 * t + 2)) (D (4 * t + 3)) = H t) (t : Nat) (ht : t < 16) : pw (fun j => padB D 32 1 (64 * 0 + j)) 64 t = leafW H t := by
  rw [pw_word _ _ ht]
  by_cases h : t < 8
  · unfold leafW
    rw [if_pos h, ← hD t h]
    unfold padB
    rw [if_pos (by omega), if_pos (by omega), if_pos (by omega), if_pos (by omega), Nat.mul_zero, Nat.zero_add, Nat.zero_add, Nat.zero_add, Nat.zero_add]
  · rw [pad_tail _ _ _ _ (by omega), pad_tail _ _ _ _ (by omega), pad_tail _ _ _ _ (by omega), pad_tail _ _ _ _ (by omega)]
    have k : ∀ t, t < 16 → 8 ≤ t → w4 (if 64 * 0 + 4 * t = 32 then 0x80 else if 64 * 0 + 4 * t < 64 * 1 - 8 then 0 else be8 (8 * 32) (64 * 0 + 4 * t - (64 * 1 - 8)))
        (if 64 * 0 + (4 * t + 1) = 32 then 0x80 else if 64 * 0 + (4 * t + 1) < 64 * 1 - 8 then 0 else be8 (8 * 32) (64 * 0 + (4 * t + 1) - (64 * 1 - 8)))
        (if 64 * 0 + (4 * t + 2) = 32 then 0x80 else if 64 * 0 + (4 * t + 2) < 64 * 1 - 8 then 0 else be8 (8 * 32) (64 * 0 + (4 * t + 2) - (64 * 1 - 8)))
        (if 64 * 0 + (4 * t + 3) = 32 then 0x80 else if 64 * 0 + (4 * t + 3) < 64 * 1 - 8 then 0 else be8 (8 * 32) (64 * 0 + (4 * t + 3) - (64 * 1 - 8))) = if t = 8 then 0x80000000 else if t = 15 then 256 else 0 := by decide +kernel
    rw [k t ht (by omega)]
    unfold leafW
    rw [if_neg h]
theorem up_words (n : Nat) (H : Nat → Nat → W32) : ∀ t, t < 8 → [(upH n H).a, (upH n H).b, (upH n H).c, (upH n H).d, (upH n H).e, (upH n H).f, (upH n H).g, (upH n H).h].getD t 0 = pk (fun l => H l t) n := by
  intro t ht
  rcases (show t = 0 ∨ t = 1 ∨ t = 2 ∨ t = 3 ∨ t = 4 ∨ t = 5 ∨ t = 6 ∨ t = 7 by omega) with rfl | rfl | rfl | rfl | rfl | rfl | rfl | rfl <;> rfl
theorem leafL_eq (n : Nat) (H : Nat → Nat → W32) : leafL n (upH n H) = (List.range 16).map fun t => pk (fun l => leafW (H l) t) n := by
  rw [show List.range 16 = [0, 1, 2, 3, 4, 5, 6, 7, 8, 9, 10, 11, 12, 13, 14, 15] from rfl]
  simp only [List.map]
  have z : ∀ t, t = 9 ∨ t = 10 ∨ t = 11 ∨ t = 12 ∨ t = 13 ∨ t = 14 → ∀ H, leafW H t = 0 := by
    intro t ht H
    rcases ht with rfl | rfl | rfl | rfl | rfl | rfl <;> rfl
  have e8 : pk (fun l : Nat => leafW (H l) 8) n = 2147483648 * one n := pk_const 0x80000000 n
  have e15 : pk (fun l : Nat => leafW (H l) 15) n = 256 * one n := pk_const 256 n
  simp only [z 9 (by omega), z 10 (by omega), z 11 (by omega), z 12 (by omega), z 13 (by omega), z 14 (by omega), pk_zero, e8, e15]
  rfl
theorem leafP_eq (n i b : Nat) (hi : i < 256) (hb : b < 256) : leafP n (seedP n) i b = upH n (fun l => Hb (padB (secD 1 (fun _ => BitVec.ofNat 8 l) i b) 32 1) 1) := by
  unfold leafP
  rw [h0P_eq, compP_pk n (fun _ => Hc) (fun l j => padB (secT (BitVec.ofNat 8 l) i b) 19 1 (64 * 0 + j)) _ (secL_eq n i b hi hb)]
  rw [compP_pk n (fun _ => Hc) (fun l j => padB (secD 1 (fun _ => BitVec.ofNat 8 l) i b) 32 1 (64 * 0 + j)) _ ?_]
  · rfl
  · rw [leafL_eq]
    refine List.map_congr_left (fun t ht => pk_congr n (fun l _ => ?_))
    refine (leaf_block _ _ (fun t _ => ?_) t (by simpa using ht)).symm
    rw [secD_sha, shaD_word _ 19 1 rfl]
    rfl
/-- The words behind t blocks of a key's text. -/
def keyH (l : Nat) : Nat → Nat → W32 := Hb (padB (keyText 1 (fun _ => BitVec.ofNat 8 l)) 2048 33)
theorem key_block (l k t : Nat) (hk : k < 32) (ht : t < 16) : pw (fun j => padB (keyText 1 (fun _ => BitVec.ofNat 8 l)) 2048 33 (64 * k + j)) 64 t = Hb (padB (secD 1 (fun _ => BitVec.ofNat 8 l) k (t / 8)) 32 1) 1 (t % 8) := by
  rw [pw_word _ _ ht, ← shaD_word _ 32 1 rfl]
  have e : ∀ c, c < 4 → padB (keyText 1 (fun _ => BitVec.ofNat 8 l)) 2048 33 (64 * k + (4 * t + c)) = shaD (secD 1 (fun _ => BitVec.ofNat 8 l) k (t / 8)) 32 (4 * (t % 8) + c) := fun c hc => by
    unfold padB keyText leafD
    rw [if_pos (by omega), show (64 * k + (4 * t + c)) / 64 = k from by omega, show (64 * k + (4 * t + c)) % 64 / 32 = t / 8 from by omega, show (64 * k + (4 * t + c)) % 32 = 4 * (t % 8) + c from by omega]
  have e0 := e 0 (by omega)
  rw [Nat.add_zero, Nat.add_zero] at e0
  rw [e0, e 1 (by omega), e 2 (by omega), e 3 (by omega)]
theorem keyP_eq (n : Nat) : ∀ t, t ≤ 32 → keyP n (seedP n) t = upH n (fun l => keyH l t)
  | 0, _ => h0P_eq n
  | t + 1, h => by
    rw [keyP, keyP_eq n t (by omega), leafP_eq n t 0 (by omega) (by omega), leafP_eq n t 1 (by omega) (by omega)]
    rw [compP_pk n (fun l => keyH l t) (fun l j => padB (keyText 1 (fun _ => BitVec.ofNat 8 l)) 2048 33 (64 * t + j)) _ ?_]
    · rfl
    · rw [List.map_congr_left (g := fun w => pk (fun l => Hb (padB (secD 1 (fun _ => BitVec.ofNat 8 l) t (w / 8)) 32 1) 1 (w % 8)) n) (fun w hw => pk_congr n (fun l _ => key_block l t w (by omega) (by simpa using hw)))]
      rfl
def endW (t : Nat) : W32 := if t = 0 then 0x80000000 else if t = 15 then 16384 else 0
theorem end_block (D : Nat → BitVec 8) (t : Nat) (ht : t < 16) : pw (fun j => padB D 2048 33 (64 * 32 + j)) 64 t = endW t := by
  rw [pw_word _ _ ht, pad_tail _ _ _ _ (by omega), pad_tail _ _ _ _ (by omega), pad_tail _ _ _ _ (by omega), pad_tail _ _ _ _ (by omega)]
  have k : ∀ t, t < 16 → w4 (if 64 * 32 + 4 * t = 2048 then 0x80 else if 64 * 32 + 4 * t < 64 * 33 - 8 then 0 else be8 (8 * 2048) (64 * 32 + 4 * t - (64 * 33 - 8)))
        (if 64 * 32 + (4 * t + 1) = 2048 then 0x80 else if 64 * 32 + (4 * t + 1) < 64 * 33 - 8 then 0 else be8 (8 * 2048) (64 * 32 + (4 * t + 1) - (64 * 33 - 8)))
        (if 64 * 32 + (4 * t + 2) = 2048 then 0x80 else if 64 * 32 + (4 * t + 2) < 64 * 33 - 8 then 0 else be8 (8 * 2048) (64 * 32 + (4 * t + 2) - (64 * 33 - 8)))
        (if 64 * 32 + (4 * t + 3) = 2048 then 0x80 else if 64 * 32 + (4 * t + 3) < 64 * 33 - 8 then 0 else be8 (8 * 2048) (64 * 32 + (4 * t + 3) - (64 * 33 - 8))) = endW t := by decide +kernel
  exact k t ht
theorem keyF_eq (n : Nat) : keyF n (seedP n) = upH n (fun l => keyH l 33) := by
  unfold keyF
  rw [keyP_eq n 32 (by omega)]
  rw [compP_pk n (fun l => keyH l 32) (fun l j => padB (keyText 1 (fun _ => BitVec.ofNat 8 l)) 2048 33 (64 * 32 + j)) _ ?_]
  · rfl
  · rw [List.map_congr_left (g := fun t => pk (fun _ => endW t) n) (fun w hw => pk_congr n (fun l _ => end_block _ w (by simpa using hw)))]
    rw [show List.range 16 = [0, 1, 2, 3, 4, 5, 6, 7, 8, 9, 10, 11, 12, 13, 14, 15] from rfl]
    simp only [List.map]
    have e0 : pk (fun _ : Nat => endW 0) n = 2147483648 * one n := pk_const _ n
    have e15 : pk (fun _ : Nat => endW 15) n = 16384 * one n := pk_const _ n
    have z : ∀ t, 1 ≤ t → t ≤ 14 → endW t = 0 := by
      intro t h1 h2
      unfold endW
      rw [if_neg (by omega), if_neg (by omega)]
    simp only [z 1 (by omega) (by omega), z 2 (by omega) (by omega), z 3 (by omega) (by omega), z 4 (by omega) (by omega), z 5 (by omega) (by omega), z 6 (by omega) (by omega), z 7 (by omega) (by omega), z 8 (by omega) (by omega), z 9 (by omega) (by omega), z 10 (by omega) (by omega), z 11 (by omega) (by omega), z 12 (by omega) (by omega), z 13 (by omega) (by omega), z 14 (by omega) (by omega), pk_zero, e0, e15]
theorem keyF_first (n : Nat) : (keyF n (seedP n)).a = pk (fun l => keyH l 33 0) n := by rw [keyF_eq]; rfl
end Go.Proofs.YtcampjgemedhlaaDoor
namespace Go.Proofs.YtcampjgemedhlaaDoor
open Go Sha
def keyA : List Nat := [
  240585522, 2708832913, 3401767383, 3367155698, 3810942773, 469975582, 3171712462, 3882617657, 1332048379, 2564236493, 2225942930, 834339575, 144057415, 1688886480, 3560556493, 3911270135,
  4153220287, 467948867, 753322798, 2412009586, 2877304222, 2948704710, 2241942226, 1353812719, 2013496795, 2367773230, 1316660189, 2910030084, 1991744361, 2003456534, 3939370804, 483915853,
  4230035590, 1428312451, 1355268297, 3228342770, 1990283736, 1422738358, 2582518962, 932062306, 1039610805, 3561443256, 2648170087, 2483598893, 1723352177, 2806460196, 1361415641, 2791657131,
  1396660808, 938353342, 2104534847, 166078420, 4237442701, 4196829658, 1570804926, 2322255261, 3135727380, 2237893701, 749637469, 3553169546, 2612288773, 2533825177, 3296687944, 3864455405,
  2336556428, 422082952, 2079022713, 262627370, 981329434, 4063456869, 1528546383, 1952382162, 1505532405, 2603729837, 561366105, 1703535990, 2328665803, 600541173, 2932400044, 1639704457,
  3888669923, 2514421364, 1486573295, 491070390, 3347048833, 1289945043, 812706031, 759266138, 842295780, 923032764, 1683769741, 646657301, 2140419539, 2847313438, 1345767122, 149259408,
  2705945428, 3420181161, 734472620, 1431036352, 3324537484, 4207074235, 605724117, 4284199701, 1441272402, 3381364538, 3881855591, 3386666817, 1461211872, 2129923161, 1266686199, 679719428,
  2597374756, 1818826288, 624269601, 749973869, 801239203, 4161158777, 1260378637, 1855605946, 978258834, 299635649, 1383043347, 1618818556, 895918221, 335017026, 2605652775, 3687672060,
  1157831773, 1444194560, 96847719, 3901351060, 3195388861, 2273252207, 1918703554, 3692602245, 4129746216, 2729688378, 4145685579, 1428358028, 3541752158, 2527415376, 2109689734, 226517011,
  174630900, 3410993664, 2513397483, 1787743546, 4204027994, 307500797, 1945865768, 2888600186, 643626102, 2478185832, 192074720, 744857371, 769760615, 218780519, 3403394963, 930256176,
  2772215612, 2338649607, 902764435, 2634035319, 3088840955, 1728349522, 2136742095, 1972651174, 4178394823, 93806813, 3878243663, 3967471268, 250515107, 3984595098, 4095333964, 2688794807,
  3349510971, 3381550761, 1127673405, 1093965769, 1270584424, 1843761616, 4014387045, 293262552, 3069417216, 516699409, 1118482015, 277240389, 369585287, 1830257388, 3414524540, 630584722,
  1846870698, 745893014, 785875511, 1938386293, 3546066608, 294388257, 3671300206, 2905730976, 2543494553, 1788913325, 1497161875, 1057206284, 2301986996, 1611617920, 1414473384, 3278984122,
  3817339967, 2547348631, 1816931312, 3488052223, 982335173, 1572107021, 2847493896, 2553204203, 1876416056, 2214570580, 900085052, 784526591, 3146672746, 4132004266, 1551149997, 4113781880,
  4026206853, 2844086435, 2831284876, 239453867, 2276463188, 753573856, 69027946, 3855786238, 3222202267, 3010736194, 3393353368, 606604646, 579926456, 3656888689, 1813557349, 1062386154,
  906912029, 4081976272, 943243019, 1290866784, 3532582737, 3122694617, 422347283, 2756933598, 195765865, 1749648311, 445489970, 3509188403, 437122333, 4127390708, 3736619102, 926387752
]
/-- Packed, as the kernel reckons them. -/
def packA : List Nat → Nat
  | [] => 0
  | a :: l => a + 18446744073709551616 * packA l
theorem keyF_a : (keyF 256 (seedP 256)).a = packA keyA := by decide +kernel
theorem keyA_get : ∀ l, l < 256 → (packA keyA >>> (64 * l)) % 4294967296 = keyA.getD l 0 := by decide +kernel
theorem keyA_nodup : keyA.Nodup := by decide +kernel
theorem keyA_zero : ∀ l, l < 256 → keyA.getD l 0 ≠ 0 := by decide +kernel
theorem keyA_length : keyA.length = 256 := by decide +kernel
theorem pk_get (f : Nat → W32) (n l : Nat) (h : l < n) : (pk f n >>> (64 * l)) % 4294967296 = (f l).toNat := by
  apply Nat.eq_of_testBit_eq; intro j
  rw [show (4294967296 : Nat) = 2 ^ 32 from rfl, Nat.testBit_mod_two_pow, Nat.testBit_shiftRight, pk_bit]
  by_cases hj : j < 32
  · rw [show (64 * l + j) / 64 = l from by omega, show (64 * l + j) % 64 = j from by omega]
    simp [hj, h]
  · have : (f l).toNat.testBit j = false := Nat.testBit_lt_two_pow (Nat.lt_of_lt_of_le (f l).isLt (Nat.pow_le_pow_right (by omega) (by omega)))
    simp [hj, this]
theorem keyH_a (l : Nat) (h : l < 256) : (keyH l 33 0).toNat = keyA.getD l 0 := by
  have e := keyF_first 256
  rw [← keyA_get l h, ← keyF_a, e, pk_get _ _ _ h]
theorem key_word (l : Nat) : w4 (keyD 1 (fun _ => BitVec.ofNat 8 l) 0) (keyD 1 (fun _ => BitVec.ofNat 8 l) 1) (keyD 1 (fun _ => BitVec.ofNat 8 l) 2) (keyD 1 (fun _ => BitVec.ofNat 8 l) 3) = keyH l 33 0 :=
  shaD_word (keyText 1 (fun _ => BitVec.ofNat 8 l)) 2048 33 rfl 0
theorem ofNat_self (x : BitVec 8) : BitVec.ofNat 8 x.toNat = x := by simp
theorem keys_apart (x y : BitVec 8) (h : x ≠ y) : ∃ j, j < 32 ∧ keyD 1 (fun _ => x) j ≠ keyD 1 (fun _ => y) j := by
  apply Classical.byContradiction
  intro hn
  have he : ∀ j, j < 32 → keyD 1 (fun _ => x) j = keyD 1 (fun _ => y) j := fun j hj => Classical.byContradiction fun hc => hn ⟨j, hj, hc⟩
  have wx := key_word x.toNat
  have wy := key_word y.toNat
  rw [ofNat_self] at wx wy
  rw [he 0 (by omega), he 1 (by omega), he 2 (by omega), he 3 (by omega), wy] at wx
  have hx := keyH_a x.toNat x.isLt
  have hy := keyH_a y.toNat y.isLt
  rw [← wx, hy] at hx
  apply h
  apply BitVec.eq_of_toNat_eq
  have hl := keyA_length
  have lx := x.isLt
  have ly := y.isLt
  rw [List.getD_eq_getElem?_getD, List.getD_eq_getElem?_getD, List.getElem?_eq_getElem (by omega), List.getElem?_eq_getElem (by omega)] at hx
  simp only [Option.getD_some] at hx
  exact ((List.getElem_inj keyA_nodup).1 hx).symm
theorem key_nonzero (x : BitVec 8) : ∃ j, j < 32 ∧ keyD 1 (fun _ => x) j ≠ 0 := by
  apply Classical.byContradiction
  intro hn
  have he : ∀ j, j < 32 → keyD 1 (fun _ => x) j = 0 := fun j hj => Classical.byContradiction fun hc => hn ⟨j, hj, hc⟩
  have wx := key_word x.toNat
  rw [ofNat_self, he 0 (by omega), he 1 (by omega), he 2 (by omega), he 3 (by omega)] at wx
  have hx := keyH_a x.toNat x.isLt
  rw [← wx] at hx
  exact keyA_zero x.toNat x.isLt (by rw [← hx]; rfl)
end Go.Proofs.YtcampjgemedhlaaDoor
