/- The keys of all seeds of one byte are apart. -/
import Derived.Test.YtneffelpdaigoaaDoorKeys
import Derived.Test.YtneffelpdaigoaaDoorLam2
import Derived.Test.YtneffelpdaigoaaDoorLaw1
namespace Go.Proofs.YtneffelpdaigoaaDoor
open Go Sha
theorem shaD_blocks (D : Nat → BitVec 8) (n b : Nat) (hb : b = (n + 72) / 64) (j : Nat) : shaD D n j = wordByte (Hb (padB D n b) b) j := by
  have h : (closed (feed run0 D n) n).H = Hb (padB D n b) b := closed_blocks D n b hb
  unfold shaD sumByte
  rw [h]
theorem shaD_word (D : Nat → BitVec 8) (n b : Nat) (hb : b = (n + 72) / 64) (t : Nat) : w4 (shaD D n (4 * t)) (shaD D n (4 * t + 1)) (shaD D n (4 * t + 2)) (shaD D n (4 * t + 3)) = Hb (padB D n b) b t := by
  rw [shaD_blocks D n b hb, shaD_blocks D n b hb, shaD_blocks D n b hb, shaD_blocks D n b hb, w4_word]
/-- The text behind a secret of a seed of one byte. -/
def secT (x : BitVec 8) (i b : Nat) : Nat → BitVec 8 := flat (fun k => if k = 0 then ⟨none, 1, 1, fun _ => x⟩ else ⟨none, 2, 2, two i b⟩) 2
theorem secD_sha (x : BitVec 8) (i b : Nat) : secD 1 (fun _ => x) i b = shaD (secT x i b) 19 := by
  unfold secD secT
  rw [joinD_flat]
  rfl
def secW (x : BitVec 8) (i b : Nat) : Nat → W32
  | 1 => 1
  | 2 => w4 x 0 0 0
  | 4 => w4 2 (BitVec.ofNat 8 i) (BitVec.ofNat 8 b) 0x80
  | 15 => 152
  | _ => 0
theorem lt16 {t : Nat} (h : t < 16) : t = 0 ∨ t = 1 ∨ t = 2 ∨ t = 3 ∨ t = 4 ∨ t = 5 ∨ t = 6 ∨ t = 7 ∨ t = 8 ∨ t = 9 ∨ t = 10 ∨ t = 11 ∨ t = 12 ∨ t = 13 ∨ t = 14 ∨ t = 15 := by omega
def secB (x : BitVec 8) (i b : Nat) (j : Nat) : BitVec 8 := if j = 7 then 1 else if j = 8 then x else if j = 16 then 2 else if j = 17 then BitVec.ofNat 8 i else if j = 18 then BitVec.ofNat 8 b else if j = 19 then 0x80 else if j = 63 then 152 else 0
theorem secT_at (x : BitVec 8) (i b j : Nat) : secT x i b j = if j < 9 then (if j < 0 then 0 else if j < 8 then be8 1 (j - 0) else x) else if j < 17 then be8 2 (j - 9) else two i b (j - 9 - 8) := by kernel_rfl
theorem be8_152 : ∀ k, k < 8 → be8 (8 * 19) k = if k = 7 then 152 else 0 := by decide
theorem secB_eq (x : BitVec 8) (i b j : Nat) (hj : j < 64) : padB (secT x i b) 19 1 j = secB x i b j := by
  unfold padB secB
  by_cases h19 : j < 19
  · rw [if_pos h19, secT_at]
    by_cases h9 : j < 9
    · rw [if_pos h9, if_neg (by omega)]
      by_cases h8 : j < 8
      · rw [if_pos h8, be8_small 1 _ (by omega) (by omega)]
        by_cases h7 : j = 7
        · subst h7; rfl
        · rw [if_neg (by omega), if_neg h7, if_neg (by omega), if_neg (by omega), if_neg (by omega), if_neg (by omega), if_neg (by omega), if_neg (by omega)]
      · rw [if_neg h8, if_neg (by omega), if_pos (by omega)]
    · rw [if_neg h9]
      by_cases h17 : j < 17
      · rw [if_pos h17, be8_small 2 _ (by omega) (by omega)]
        by_cases h16 : j = 16
        · subst h16; rfl
        · rw [if_neg (by omega), if_neg (by omega), if_neg (by omega), if_neg h16, if_neg (by omega), if_neg (by omega), if_neg (by omega), if_neg (by omega)]
      · rw [if_neg h17]
        rcases (show j = 17 ∨ j = 18 by omega) with rfl | rfl <;> rfl
  · rw [if_neg h19]
    by_cases h : j = 19
    · subst h; rfl
    · rw [if_neg h]
      by_cases h56 : j < 64 * 1 - 8
      · rw [if_pos h56, if_neg (by omega), if_neg (by omega), if_neg (by omega), if_neg (by omega), if_neg (by omega), if_neg h, if_neg (by omega)]
      · rw [if_neg h56, be8_152 _ (by omega)]
        by_cases h63 : j = 63
        · subst h63; rfl
        · rw [if_neg (by omega), if_neg (by omega), if_neg (by omega), if_neg (by omega), if_neg (by omega), if_neg (by omega), if_neg h, if_neg h63]
theorem w4_all (a b c d : BitVec 8) (n : Nat) (h : a.toNat * 16777216 + b.toNat * 65536 + c.toNat * 256 + d.toNat = n) : w4 a b c d = BitVec.ofNat 32 n := by unfold w4; rw [h]
theorem sec_block (x : BitVec 8) (i b t : Nat) (ht : t < 16) : pw (fun j => padB (secT x i b) 19 1 (64 * 0 + j)) 64 t = secW x i b t := by
  rw [pw_word _ _ ht, secB_eq _ _ _ _ (by omega), secB_eq _ _ _ _ (by omega), secB_eq _ _ _ _ (by omega), secB_eq _ _ _ _ (by omega)]
  rcases lt16 ht with rfl | rfl | rfl | rfl | rfl | rfl | rfl | rfl | rfl | rfl | rfl | rfl | rfl | rfl | rfl | rfl <;> simp [secB, secW] <;> decide
theorem pad_tail (D : Nat → BitVec 8) (n b j : Nat) (h : n ≤ j) : padB D n b j = if j = n then 0x80 else if j < 64 * b - 8 then 0 else be8 (8 * n) (j - (64 * b - 8)) := by
  unfold padB; rw [if_neg (by omega)]
theorem pk_zero : ∀ n, pk (fun _ => 0) n = 0
  | 0 => rfl
  | n + 1 => by rw [pk, pk_zero n]; rfl
theorem h0P_eq (n : Nat) : h0P n = upH n (fun _ => Hc) := by
  unfold h0P upH up s8
  simp only [pk_const]
  rfl
theorem w4_const (i b : Nat) (hi : i < 256) (hb : b < 256) : (w4 2 (BitVec.ofNat 8 i) (BitVec.ofNat 8 b) 0x80).toNat = 33554560 + i * 65536 + b * 256 := by
  unfold w4
  rw [show (2 : BitVec 8).toNat = 2 from rfl, show (0x80 : BitVec 8).toNat = 128 from rfl]
  simp only [BitVec.toNat_ofNat]
  omega
theorem secL_eq (n i b : Nat) (hi : i < 256) (hb : b < 256) : secL n i b (seedP n) = (List.range 16).map fun t => pk (fun l => pw (fun j => padB (secT (BitVec.ofNat 8 l) i b) 19 1 (64 * 0 + j)) 64 t) n := by
  rw [List.map_congr_left (g := fun t => pk (fun l => secW (BitVec.ofNat 8 l) i b t) n) (fun t ht => pk_congr n (fun l _ => sec_block _ i b t (by simpa using ht)))]
  rw [show List.range 16 = [0, 1, 2, 3, 4, 5, 6, 7, 8, 9, 10, 11, 12, 13, 14, 15] from rfl]
  simp only [List.map, secW]
  unfold secL
  rw [pk_zero, pk_const (w4 2 (BitVec.ofNat 8 i) (BitVec.ofNat 8 b) 0x80), w4_const i b hi hb, pk_const 152]
  have e : pk (fun l => w4 (BitVec.ofNat 8 l) 0 0 0) n = seedP n := pk_congr n (fun l _ => by unfold w4; rw [BitVec.toNat_ofNat, show (0 : BitVec 8).toNat = 0 from rfl]; simp only [Nat.zero_mul, Nat.add_zero])
  rw [e]
  rfl
def leafW (H : Nat → W32) (t : Nat) : W32 := if t < 8 then H t else if t = 8 then 0x80000000 else if t = 15 then 256 else 0
theorem leaf_block (D : Nat → BitVec 8) (H : Nat → W32) (hD : ∀ t, t < 8 → w4 (D (4 * t)) (D (4 * t + 1)) (D (4 * t + 2)) (D (4 * t + 3)) = H t) (t : Nat) (ht : t < 16) : pw (fun j => padB D 32 1 (64 * 0 + j)) 64 t = leafW H t := by
  rw [pw_word _ _ ht]
  by_cases h : t < 8
  · unfold leafW
    rw [if_pos h, ← hD t h]
    unfold padB
    rw [if_pos (by omega), if_pos (by omega), if_pos (by omega), if_pos (by omega), Nat.mul_zero, Nat.zero_add, Nat.zero_add, Nat.zero_add, Nat.zero_add]
  · rw [pad_tail _ _ _ _ (by omega), pad_tail _ _ _ _ (by omega), pad_tail _ _ _ _ (by omega), pad_tail _ _ _ _ (by omega)]
    have k : ∀ t, t < 16 → 8 ≤ t → w4 (if 64 * 0 + 4 * t = 32 then 0x80 else if 64 * 0 + 4 * t < 64 * 1 - 8 then 0 else be8 (8 * 32) (64 * 0 + 4 * t - (64 * 1 - 8)))
        (if 64 * 0 + (4 * t + 1) = 32 then 0x80 else if 64 * 0 + (4 * t + 1) < 64 * 1 - 8 then 0 else be8 (8 * 32) (64 * 0 + (4 * t + 1) - (64 * 1 - 8)))
        (if 64 * 0 + (4 * t + 2) = 32 then 0x80 else if 64 * 0 + (4 * t + 2) < 64 * 1 - 8 then 0 else be8 (8 * 32) (64 * 0 + (4 * t + 2) - (64 * 1 - 8)))
        (if 64 * 0 + (4 * t + 3) = 32 then 0x80 else if 64 * 0 + (4 * t + 3) < 64 * 1 - 8 then 0 else be8 (8 * 32) (64 * 0 + (4 * t + 3) - (64 * 1 - 8))) = if t = 8 then 0x80000000 else if t = 15 then 256 else 0 := by decide +kernel
    rw [k t ht (by omega)]
    unfold leafW
    rw [if_neg h]
theorem up_words (n : Nat) (H : Nat → Nat → W32) : ∀ t, t < 8 → [(upH n H).a, (upH n H).b, (upH n H).c, (upH n H).d, (upH n H).e, (upH n H).f, (upH n H).g, (upH n H).h].getD t 0 = pk (fun l => H l t) n := by
  intro t ht
  rcases (show t = 0 ∨ t = 1 ∨ t = 2 ∨ t = 3 ∨ t = 4 ∨ t = 5 ∨ t = 6 ∨ t = 7 by omega) with rfl | rfl | rfl | rfl | rfl | rfl | rfl | rfl <;> rfl
theorem leafL_eq (n : Nat) (H : Nat → Nat → W32) : leafL n (upH n H) = (List.range 16).map fun t => pk (fun l => leafW (H l) t) n := by
  rw [show List.range 16 = [0, 1, 2, 3, 4, 5, 6, 7, 8, 9, 10, 11, 12, 13, 14, 15] from rfl]
  simp only [List.map]
  have z : ∀ t, t = 9 ∨ t = 10 ∨ t = 11 ∨ t = 12 ∨ t = 13 ∨ t = 14 → ∀ H, leafW H t = 0 := by
    intro t ht H
    rcases ht with rfl | rfl | rfl | rfl | rfl | rfl <;> rfl
  have e8 : pk (fun l : Nat => leafW (H l) 8) n = 2147483648 * one n := pk_const 0x80000000 n
  have e15 : pk (fun l : Nat => leafW (H l) 15) n = 256 * one n := pk_const 256 n
  simp only [z 9 (by omega), z 10 (by omega), z 11 (by omega), z 12 (by omega), z 13 (by omega), z 14 (by omega), pk_zero, e8, e15]
  rfl
theorem leafP_eq (n i b : Nat) (hi : i < 256) (hb : b < 256) : leafP n (seedP n) i b = upH n (fun l => Hb (padB (secD 1 (fun _ => BitVec.ofNat 8 l) i b) 32 1) 1) := by
  unfold leafP
  rw [h0P_eq, compP_pk n (fun _ => Hc) (fun l j => padB (secT (BitVec.ofNat 8 l) i b) 19 1 (64 * 0 + j)) _ (secL_eq n i b hi hb)]
  rw [compP_pk n (fun _ => Hc) (fun l j => padB (secD 1 (fun _ => BitVec.ofNat 8 l) i b) 32 1 (64 * 0 + j)) _ ?_]
  · rfl
  · rw [leafL_eq]
    refine List.map_congr_left (fun t ht => pk_congr n (fun l _ => ?_))
    refine (leaf_block _ _ (fun t _ => ?_) t (by simpa using ht)).symm
    rw [secD_sha, shaD_word _ 19 1 rfl]
    rfl
/-- The words behind t blocks of a key's text. -/
def keyH (l : Nat) : Nat → Nat → W32 := Hb (padB (keyText 1 (fun _ => BitVec.ofNat 8 l)) 2048 33)
theorem key_block (l k t : Nat) (hk : k < 32) (ht : t < 16) : pw (fun j => padB (keyText 1 (fun _ => BitVec.ofNat 8 l)) 2048 33 (64 * k + j)) 64 t = Hb (padB (secD 1 (fun _ => BitVec.ofNat 8 l) k (t / 8)) 32 1) 1 (t % 8) := by
  rw [pw_word _ _ ht, ← shaD_word _ 32 1 rfl]
  have e : ∀ c, c < 4 → padB (keyText 1 (fun _ => BitVec.ofNat 8 l)) 2048 33 (64 * k + (4 * t + c)) = shaD (secD 1 (fun _ => BitVec.ofNat 8 l) k (t / 8)) 32 (4 * (t % 8) + c) := fun c hc => by
    unfold padB keyText leafD
    rw [if_pos (by omega), show (64 * k + (4 * t + c)) / 64 = k from by omega, show (64 * k + (4 * t + c)) % 64 / 32 = t / 8 from by omega, show (64 * k + (4 * t + c)) % 32 = 4 * (t % 8) + c from by omega]
  have e0 := e 0 (by omega)
  rw [Nat.add_zero, Nat.add_zero] at e0
  rw [e0, e 1 (by omega), e 2 (by omega), e 3 (by omega)]
theorem keyP_eq (n : Nat) : ∀ t, t ≤ 32 → keyP n (seedP n) t = upH n (fun l => keyH l t)
  | 0, _ => h0P_eq n
  | t + 1, h => by
    rw [keyP, keyP_eq n t (by omega), leafP_eq n t 0 (by omega) (by omega), leafP_eq n t 1 (by omega) (by omega)]
    rw [compP_pk n (fun l => keyH l t) (fun l j => padB (keyText 1 (fun _ => BitVec.ofNat 8 l)) 2048 33 (64 * t + j)) _ ?_]
    · rfl
    · rw [List.map_congr_left (g := fun w => pk (fun l => Hb (padB (secD 1 (fun _ => BitVec.ofNat 8 l) t (w / 8)) 32 1) 1 (w % 8)) n) (fun w hw => pk_congr n (fun l _ => key_block l t w (by omega) (by simpa using hw)))]
      rfl
def endW (t : Nat) : W32 := if t = 0 then 0x80000000 else if t = 15 then 16384 else 0
theorem end_block (D : Nat → BitVec 8) (t : Nat) (ht : t < 16) : pw (fun j => padB D 2048 33 (64 * 32 + j)) 64 t = endW t := by
  rw [pw_word _ _ ht, pad_tail _ _ _ _ (by omega), pad_tail _ _ _ _ (by omega), pad_tail _ _ _ _ (by omega), pad_tail _ _ _ _ (by omega)]
  have k : ∀ t, t < 16 → w4 (if 64 * 32 + 4 * t = 2048 then 0x80 else if 64 * 32 + 4 * t < 64 * 33 - 8 then 0 else be8 (8 * 2048) (64 * 32 + 4 * t - (64 * 33 - 8)))
        (if 64 * 32 + (4 * t + 1) = 2048 then 0x80 else if 64 * 32 + (4 * t + 1) < 64 * 33 - 8 then 0 else be8 (8 * 2048) (64 * 32 + (4 * t + 1) - (64 * 33 - 8)))
        (if 64 * 32 + (4 * t + 2) = 2048 then 0x80 else if 64 * 32 + (4 * t + 2) < 64 * 33 - 8 then 0 else be8 (8 * 2048) (64 * 32 + (4 * t + 2) - (64 * 33 - 8)))
        (if 64 * 32 + (4 * t + 3) = 2048 then 0x80 else if 64 * 32 + (4 * t + 3) < 64 * 33 - 8 then 0 else be8 (8 * 2048) (64 * 32 + (4 * t + 3) - (64 * 33 - 8))) = endW t := by decide +kernel
  exact k t ht
theorem keyF_eq (n : Nat) : keyF n (seedP n) = upH n (fun l => keyH l 33) := by
  unfold keyF
  rw [keyP_eq n 32 (by omega)]
  rw [compP_pk n (fun l => keyH l 32) (fun l j => padB (keyText 1 (fun _ => BitVec.ofNat 8 l)) 2048 33 (64 * 32 + j)) _ ?_]
  · rfl
  · rw [List.map_congr_left (g := fun t => pk (fun _ => endW t) n) (fun w hw => pk_congr n (fun l _ => end_block _ w (by simpa using hw)))]
    rw [show List.range 16 = [0, 1, 2, 3, 4, 5, 6, 7, 8, 9, 10, 11, 12, 13, 14, 15] from rfl]
    simp only [List.map]
    have e0 : pk (fun _ : Nat => endW 0) n = 2147483648 * one n := pk_const _ n
    have e15 : pk (fun _ : Nat => endW 15) n = 16384 * one n := pk_const _ n
    have z : ∀ t, 1 ≤ t → t ≤ 14 → endW t = 0 := by
      intro t h1 h2
      unfold endW
      rw [if_neg (by omega), if_neg (by omega)]
    simp only [z 1 (by omega) (by omega), z 2 (by omega) (by omega), z 3 (by omega) (by omega), z 4 (by omega) (by omega), z 5 (by omega) (by omega), z 6 (by omega) (by omega), z 7 (by omega) (by omega), z 8 (by omega) (by omega), z 9 (by omega) (by omega), z 10 (by omega) (by omega), z 11 (by omega) (by omega), z 12 (by omega) (by omega), z 13 (by omega) (by omega), z 14 (by omega) (by omega), pk_zero, e0, e15]
theorem keyF_first (n : Nat) : (keyF n (seedP n)).a = pk (fun l => keyH l 33 0) n := by rw [keyF_eq]; rfl
end Go.Proofs.YtneffelpdaigoaaDoor
