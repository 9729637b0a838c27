/- Plain: the words of 32 bits as the walk spells them. Nothing of the program. -/
import Derived.WalkKit
import Derived.Test.YtjdclgnlnehjlaaDoorSha
namespace Go.Proofs.YtjdclgnlnehjlaaDoor
open Go Sha
def u (x : W32) : Int := (x.toNat : Int)
theorem u_lo (x : W32) : 0 ≤ u x := by unfold u; omega
theorem u_hi (x : W32) : u x < 4294967296 := by unfold u; have := x.isLt; omega
def U (x : W32) : Value := .int .u32 (u x)
def v8 (x : BitVec 8) : Int := (x.toNat : Int)
theorem v8_lo (x : BitVec 8) : 0 ≤ v8 x := by unfold v8; omega
theorem v8_hi (x : BitVec 8) : v8 x < 256 := by unfold v8; have := x.isLt; omega
def By (x : BitVec 8) : Value := .int .u8 (v8 x)
theorem ofInt_u (x : W32) : BitVec.ofInt 32 (u x) = x := by
  apply BitVec.eq_of_toNat_eq; rw [BitVec.toNat_ofInt]; unfold u; have := x.isLt; omega
theorem mod_u (x : Int) : x % 4294967296 = u (BitVec.ofInt 32 x) := by
  unfold u; rw [BitVec.toNat_ofInt]; omega
theorem xor_u (a b : W32) : bits .xor .u32 (u a) (u b) = u (a ^^^ b) := by
  unfold u; rw [BitVec.toNat_xor]; exact u32_xor_nat _ _ a.isLt b.isLt
theorem and_u (a b : W32) : bits .and .u32 (u a) (u b) = u (a &&& b) := by
  unfold u; rw [BitVec.toNat_and]; exact u32_and_nat _ _ a.isLt b.isLt
theorem or_u (a b : W32) : bits .or .u32 (u a) (u b) = u (a ||| b) := by
  unfold u; rw [BitVec.toNat_or]; exact u32_or_nat _ _ a.isLt b.isLt
theorem not_u (a : W32) : bits .xor .u32 (if IntKind.u32.signed = true then -1 else IntKind.u32.max) (u a) = u (~~~a) := by
  have e : (if IntKind.u32.signed = true then -1 else IntKind.u32.max) = u (BitVec.allOnes 32) := by decide
  rw [e, xor_u, BitVec.allOnes_xor]
theorem round_t1 (s : S8) (k w : W32) : (u s.h + bits BinOp.xor IntKind.u32 (bits BinOp.xor IntKind.u32 (u (rr s.e 6)) (u (rr s.e 11))) (u (rr s.e 25)) +
      bits BinOp.xor IntKind.u32 (bits BinOp.and IntKind.u32 (u s.e) (u s.f)) (bits BinOp.and IntKind.u32 (bits BinOp.xor IntKind.u32 (if IntKind.u32.signed = true then -1 else IntKind.u32.max) (u s.e)) (u s.g)) + u k + u w) % 4294967296 = u (t1 s k w) := by
  rw [not_u, mod_u]
  simp only [xor_u, and_u, BitVec.ofInt_add, ofInt_u]
  rfl
theorem round_t2 (s : S8) : (bits BinOp.xor IntKind.u32 (bits BinOp.xor IntKind.u32 (u (rr s.a 2)) (u (rr s.a 13))) (u (rr s.a 22)) +
      bits BinOp.xor IntKind.u32 (bits BinOp.xor IntKind.u32 (bits BinOp.and IntKind.u32 (u s.a) (u s.b)) (bits BinOp.and IntKind.u32 (u s.a) (u s.c))) (bits BinOp.and IntKind.u32 (u s.b) (u s.c))) % 4294967296 = u (t2 s) := by
  rw [mod_u]
  simp only [xor_u, and_u, BitVec.ofInt_add, ofInt_u]
  rfl
theorem add_u (a b : W32) : (u a + u b) % 4294967296 = u (a + b) := by
  rw [mod_u]; simp only [BitVec.ofInt_add, ofInt_u]
theorem rr_walk (x : W32) (n : Nat) : bits .or .u32 (u x / 2 ^ n) (u x * 2 ^ (32 - n) % 4294967296) = u (rr x n) := by
  have e1 : u x / 2 ^ n = u (x >>> n) := by
    unfold u; rw [BitVec.toNat_ushiftRight, Nat.shiftRight_eq_div_pow]; simp
  have e2 : u x * 2 ^ (32 - n) % 4294967296 = u (x <<< (32 - n)) := by
    unfold u; rw [BitVec.toNat_shiftLeft, Nat.shiftLeft_eq]; simp
  rw [e1, e2, or_u]; rfl
theorem shl8_or (X : W32) (b : BitVec 8) : bits .or .u32 (u X * 256 % 4294967296) (v8 b % 4294967296) = u (X <<< 8 ||| b.setWidth 32) := by
  have e1 : u X * (256 : Int) % (4294967296 : Int) = u (X <<< 8) := by
    unfold u; rw [BitVec.toNat_shiftLeft, Nat.shiftLeft_eq]; simp
  have e2 : v8 b % (4294967296 : Int) = u (b.setWidth 32) := by
    unfold u v8; rw [BitVec.toNat_setWidth]; simp
  rw [e1, e2, or_u]
theorem ss0_walk (x : W32) : bits BinOp.xor IntKind.u32 (bits BinOp.xor IntKind.u32 (u (rr x 7)) (u (rr x 18))) (u x / (8 : Int)) = u (ss0 x) := by
  have e : u x / (8 : Int) = u (x >>> 3) := by
    unfold u; rw [BitVec.toNat_ushiftRight, Nat.shiftRight_eq_div_pow]; simp
  rw [e, xor_u, xor_u]; rfl
theorem ss1_walk (x : W32) : bits BinOp.xor IntKind.u32 (bits BinOp.xor IntKind.u32 (u (rr x 17)) (u (rr x 19))) (u x / (1024 : Int)) = u (ss1 x) := by
  have e : u x / (1024 : Int) = u (x >>> 10) := by
    unfold u; rw [BitVec.toNat_ushiftRight, Nat.shiftRight_eq_div_pow]; simp
  rw [e, xor_u, xor_u]; rfl
theorem sc_walk (B : Nat → BitVec 8) (t : Nat) (ht : 16 ≤ t) : (bits BinOp.xor IntKind.u32 (bits BinOp.xor IntKind.u32 (u (rr (sc B (t - 16) (t - 2)) 17)) (u (rr (sc B (t - 16) (t - 2)) 19))) (u (sc B (t - 16) (t - 2)) / (1024 : Int)) +
      u (sc B (t - 16) (t - 7)) + bits BinOp.xor IntKind.u32 (bits BinOp.xor IntKind.u32 (u (rr (sc B (t - 16) (t - 15)) 7)) (u (rr (sc B (t - 16) (t - 15)) 18))) (u (sc B (t - 16) (t - 15)) / (8 : Int)) +
      u (sc B (t - 16) (t - 16))) % (4294967296 : Int) = u (sc B (t + 1 - 16) t) := by
  obtain ⟨n, rfl⟩ : ∃ n, t = n + 16 := ⟨t - 16, by omega⟩
  rw [ss0_walk, ss1_walk, mod_u]
  rw [show n + 16 + 1 - 16 = n + 1 from by omega, show n + 16 - 16 = n from by omega, show n + 16 - 2 = n + 14 from by omega, show n + 16 - 7 = n + 9 from by omega, show n + 16 - 15 = n + 1 from by omega]
  simp only [BitVec.ofInt_add, ofInt_u]
  rw [show sc B (n + 1) (n + 16) = ss1 (sc B n (n + 14)) + sc B n (n + 9) + ss0 (sc B n (n + 1)) + sc B n n from by rw [sc, if_pos (by omega)]]
theorem sc_other (B : Nat → BitVec 8) (t j : Nat) (ht : 16 ≤ t) (hj : j ≠ t) : sc B (t + 1 - 16) j = sc B (t - 16) j := by
  obtain ⟨n, rfl⟩ : ∃ n, t = n + 16 := ⟨t - 16, by omega⟩
  rw [show n + 16 + 1 - 16 = n + 1 from by omega, show n + 16 - 16 = n from by omega, sc, if_neg (by omega)]
theorem int_congr {k : IntKind} {a b : Int} (h : a = b) : Value.int k a = Value.int k b := by rw [h]
end Go.Proofs.YtjdclgnlnehjlaaDoor
