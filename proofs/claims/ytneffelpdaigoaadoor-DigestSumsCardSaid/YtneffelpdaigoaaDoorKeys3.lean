/- The keys of all seeds of one byte are apart, and none is nought: reckoned. -/
import Derived.Test.YtneffelpdaigoaaDoorKeys2
namespace Go.Proofs.YtneffelpdaigoaaDoor
open Go Sha
def keyA : List Nat := [
  240585522, 2708832913, 3401767383, 3367155698, 3810942773, 469975582, 3171712462, 3882617657, 1332048379, 2564236493, 2225942930, 834339575, 144057415, 1688886480, 3560556493, 3911270135,
  4153220287, 467948867, 753322798, 2412009586, 2877304222, 2948704710, 2241942226, 1353812719, 2013496795, 2367773230, 1316660189, 2910030084, 1991744361, 2003456534, 3939370804, 483915853,
  4230035590, 1428312451, 1355268297, 3228342770, 1990283736, 1422738358, 2582518962, 932062306, 1039610805, 3561443256, 2648170087, 2483598893, 1723352177, 2806460196, 1361415641, 2791657131,
  1396660808, 938353342, 2104534847, 166078420, 4237442701, 4196829658, 1570804926, 2322255261, 3135727380, 2237893701, 749637469, 3553169546, 2612288773, 2533825177, 3296687944, 3864455405,
  2336556428, 422082952, 2079022713, 262627370, 981329434, 4063456869, 1528546383, 1952382162, 1505532405, 2603729837, 561366105, 1703535990, 2328665803, 600541173, 2932400044, 1639704457,
  3888669923, 2514421364, 1486573295, 491070390, 3347048833, 1289945043, 812706031, 759266138, 842295780, 923032764, 1683769741, 646657301, 2140419539, 2847313438, 1345767122, 149259408,
  2705945428, 3420181161, 734472620, 1431036352, 3324537484, 4207074235, 605724117, 4284199701, 1441272402, 3381364538, 3881855591, 3386666817, 1461211872, 2129923161, 1266686199, 679719428,
  2597374756, 1818826288, 624269601, 749973869, 801239203, 4161158777, 1260378637, 1855605946, 978258834, 299635649, 1383043347, 1618818556, 895918221, 335017026, 2605652775, 3687672060,
  1157831773, 1444194560, 96847719, 3901351060, 3195388861, 2273252207, 1918703554, 3692602245, 4129746216, 2729688378, 4145685579, 1428358028, 3541752158, 2527415376, 2109689734, 226517011,
  174630900, 3410993664, 2513397483, 1787743546, 4204027994, 307500797, 1945865768, 2888600186, 643626102, 2478185832, 192074720, 744857371, 769760615, 218780519, 3403394963, 930256176,
  2772215612, 2338649607, 902764435, 2634035319, 3088840955, 1728349522, 2136742095, 1972651174, 4178394823, 93806813, 3878243663, 3967471268, 250515107, 3984595098, 4095333964, 2688794807,
  3349510971, 3381550761, 1127673405, 1093965769, 1270584424, 1843761616, 4014387045, 293262552, 3069417216, 516699409, 1118482015, 277240389, 369585287, 1830257388, 3414524540, 630584722,
  1846870698, 745893014, 785875511, 1938386293, 3546066608, 294388257, 3671300206, 2905730976, 2543494553, 1788913325, 1497161875, 1057206284, 2301986996, 1611617920, 1414473384, 3278984122,
  3817339967, 2547348631, 1816931312, 3488052223, 982335173, 1572107021, 2847493896, 2553204203, 1876416056, 2214570580, 900085052, 784526591, 3146672746, 4132004266, 1551149997, 4113781880,
  4026206853, 2844086435, 2831284876, 239453867, 2276463188, 753573856, 69027946, 3855786238, 3222202267, 3010736194, 3393353368, 606604646, 579926456, 3656888689, 1813557349, 1062386154,
  906912029, 4081976272, 943243019, 1290866784, 3532582737, 3122694617, 422347283, 2756933598, 195765865, 1749648311, 445489970, 3509188403, 437122333, 4127390708, 3736619102, 926387752
]
/-- Packed, as the kernel reckons them. -/
def packA : List Nat → Nat
  | [] => 0
  | a :: l => a + 18446744073709551616 * packA l
theorem keyF_a : (keyF 256 (seedP 256)).a = packA keyA := by decide +kernel
theorem keyA_get : ∀ l, l < 256 → (packA keyA >>> (64 * l)) % 4294967296 = keyA.getD l 0 := by decide +kernel
theorem keyA_nodup : keyA.Nodup := by decide +kernel
theorem keyA_zero : ∀ l, l < 256 → keyA.getD l 0 ≠ 0 := by decide +kernel
theorem keyA_length : keyA.length = 256 := by decide +kernel
theorem pk_get (f : Nat → W32) (n l : Nat) (h : l < n) : (pk f n >>> (64 * l)) % 4294967296 = (f l).toNat := by
  apply Nat.eq_of_testBit_eq; intro j
  rw [show (4294967296 : Nat) = 2 ^ 32 from rfl, Nat.testBit_mod_two_pow, Nat.testBit_shiftRight, pk_bit]
  by_cases hj : j < 32
  · rw [show (64 * l + j) / 64 = l from by omega, show (64 * l + j) % 64 = j from by omega]
    simp [hj, h]
  · have : (f l).toNat.testBit j = false := Nat.testBit_lt_two_pow (Nat.lt_of_lt_of_le (f l).isLt (Nat.pow_le_pow_right (by omega) (by omega)))
    simp [hj, this]
theorem keyH_a (l : Nat) (h : l < 256) : (keyH l 33 0).toNat = keyA.getD l 0 := by
  have e := keyF_first 256
  rw [← keyA_get l h, ← keyF_a, e, pk_get _ _ _ h]
theorem key_word (l : Nat) : w4 (keyD 1 (fun _ => BitVec.ofNat 8 l) 0) (keyD 1 (fun _ => BitVec.ofNat 8 l) 1) (keyD 1 (fun _ => BitVec.ofNat 8 l) 2) (keyD 1 (fun _ => BitVec.ofNat 8 l) 3) = keyH l 33 0 :=
  shaD_word (keyText 1 (fun _ => BitVec.ofNat 8 l)) 2048 33 rfl 0
theorem ofNat_self (x : BitVec 8) : BitVec.ofNat 8 x.toNat = x := by simp
theorem keys_apart (x y : BitVec 8) (h : x ≠ y) : ∃ j, j < 32 ∧ keyD 1 (fun _ => x) j ≠ keyD 1 (fun _ => y) j := by
  apply Classical.byContradiction
  intro hn
  have he : ∀ j, j < 32 → keyD 1 (fun _ => x) j = keyD 1 (fun _ => y) j := fun j hj => Classical.byContradiction fun hc => hn ⟨j, hj, hc⟩
  have wx := key_word x.toNat
  have wy := key_word y.toNat
  rw [ofNat_self] at wx wy
  rw [he 0 (by omega), he 1 (by omega), he 2 (by omega), he 3 (by omega), wy] at wx
  have hx := keyH_a x.toNat x.isLt
  have hy := keyH_a y.toNat y.isLt
  rw [← wx, hy] at hx
  apply h
  apply BitVec.eq_of_toNat_eq
  have hl := keyA_length
  have lx := x.isLt
  have ly := y.isLt
  rw [List.getD_eq_getElem?_getD, List.getD_eq_getElem?_getD, List.getElem?_eq_getElem (by omega), List.getElem?_eq_getElem (by omega)] at hx
  simp only [Option.getD_some] at hx
  exact ((List.getElem_inj keyA_nodup).1 hx).symm
theorem key_nonzero (x : BitVec 8) : ∃ j, j < 32 ∧ keyD 1 (fun _ => x) j ≠ 0 := by
  apply Classical.byContradiction
  intro hn
  have he : ∀ j, j < 32 → keyD 1 (fun _ => x) j = 0 := fun j hj => Classical.byContradiction fun hc => hn ⟨j, hj, hc⟩
  have wx := key_word x.toNat
  rw [ofNat_self, he 0 (by omega), he 1 (by omega), he 2 (by omega), he 3 (by omega)] at wx
  have hx := keyH_a x.toNat x.isLt
  rw [← wx] at hx
  exact keyA_zero x.toNat x.isLt (by rw [← hx]; rfl)
end Go.Proofs.YtneffelpdaigoaaDoor
