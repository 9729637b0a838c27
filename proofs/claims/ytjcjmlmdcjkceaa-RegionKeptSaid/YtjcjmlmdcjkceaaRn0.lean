/- RegionNumbers: of numbers and their bytes; small calls. -/
import Derived.Test.YtjcjmlmdcjkceaaRm7
namespace Go.Proofs.Ytjcjmlmdcjkceaa
open Go Go.RowKit
theorem bit_255 (y : W) (i : Nat) : (y &&& 255#64).getLsbD i = (y.getLsbD i && decide (i < 8)) := by
  rw [BitVec.getLsbD_and]
  congr 1
  by_cases h : i < 64
  · have : ∀ j : Fin 64, (255#64).getLsbD j.val = decide (j.val < 8) := by decide +kernel
    exact this ⟨i, h⟩
  · rw [BitVec.getLsbD_of_ge _ _ (by omega), decide_eq_false (by omega)]
/-- The lowest bytes of a number, put together, are its lowest bits. -/
theorem numF_bit (x : W) (n i : Nat) : (numF (fun j => (x >>> (8 * j)) &&& 255#64) n).getLsbD i = (x.getLsbD i && decide (i < 8 * n)) := by
  induction n with
  | zero => simp [numF]
  | succ n ih =>
    show (numF (fun j => (x >>> (8 * j)) &&& 255#64) n ||| (((x >>> (8 * n)) &&& 255#64) <<< (8 * n))).getLsbD i = _
    rw [BitVec.getLsbD_or, ih, BitVec.getLsbD_shiftLeft, bit_255, BitVec.getLsbD_ushiftRight]
    by_cases h1 : i < 8 * n
    · simp [h1, show i < 8 * (n + 1) by omega]
    · by_cases h2 : i < 64
      · rw [show 8 * n + (i - 8 * n) = i by omega]
        by_cases h3 : i < 8 * (n + 1)
        · simp [h1, h2, h3, show i - 8 * n < 8 by omega]
        · simp [h1, h2, h3, show ¬ i - 8 * n < 8 by omega]
      · rw [BitVec.getLsbD_of_ge x i (by omega)]
        simp [h2]
def wantF (x : W) (k : Nat) : W := if k < 8 then x % (1#64 <<< (8 * k)) else x
theorem want_eq (x : W) (k : Nat) (hk : sizeOk k) : numF (fun j => (x >>> (8 * j)) &&& 255#64) k = wantF x k := by
  apply BitVec.eq_of_getLsbD_eq
  intro i hi
  rw [numF_bit]
  unfold wantF
  by_cases h : k < 8
  · rw [if_pos h]
    have e : (x % (1#64 <<< (8 * k))).getLsbD i = (x.getLsbD i && decide (i < 8 * k)) := by
      have e1 : (x % (1#64 <<< (8 * k))).toNat = x.toNat % 2 ^ (8 * k) := by
        rw [BitVec.toNat_umod]
        congr 1
        rcases hk with rfl | rfl | rfl | rfl <;> first | rfl | omega
      rw [BitVec.getLsbD, e1, Nat.testBit_mod_two_pow]
      rw [Bool.and_comm]; rfl
    rw [e]
  · rw [if_neg h]
    rw [decide_eq_true (by omega), Bool.and_true]
theorem rem256 (y : W) : y % 256#64 = y &&& 255#64 := by
  apply BitVec.eq_of_toNat_eq
  rw [BitVec.toNat_umod, BitVec.toNat_and, show (255#64).toNat = 2 ^ 8 - 1 from rfl, Nat.and_two_pow_sub_one_eq_mod]; rfl
theorem and255_2 (y : W) : (y &&& 255#64) &&& 255#64 = y &&& 255#64 := by rw [BitVec.and_assoc, BitVec.and_self]
def k4 (z : Int) : Nat := if rm z 4 = 0 then 1 else if rm z 4 = 1 then 2 else if rm z 4 = 2 then 4 else 8
theorem k4_ok (z : Int) : sizeOk (k4 z) := by unfold sizeOk k4; split; omega; split; omega; split; omega; omega
theorem k4_sz (z : Int) : sz4 (rm z 4) = ((k4 z : Nat) : Int) := by unfold sz4 k4; split; rfl; split; rfl; split <;> rfl
theorem undI2 : Try.prog.underlying 73 = some (.slice 3) := by kernel_rfl
set_option maxRecDepth 100000 in
set_option maxHeartbeats 2000000 in
theorem Size64_any (z : Int) (w : World) (N : Nat) (hN : Sz w N) : Calls Try.prog 25 #[.int .i64 z] w fun e w' => e = .returned (.int .i64 ((k4 z : Nat) : Int)) ∧ Below N w w' := by
  have hr := rm_lt z 4 (by omega)
  go_enter Try.func25, Try.ntmps25
  go_wp2_with (first
    | (refine wpl_bsn4 rfl rfl N hN ?_; intro w1 hN1 hb1 h1; have c1 : w1.cell? ⟨N, rm z 4, none⟩ = some (.int .i64 ((k4 z : Nat) : Int)) := by rw [← k4_sz]; exact h1.cell (j := rm z 4) hr)
    | (refine wpl_run rfl (Q (BitVec.ofInt 64 z)) _ (run_iu (x := .tmp 4) (z := z) rfl undInt und64 rfl _) ?_)
    | (refine wpl_b rfl rfl (bin_rem _ (BitVec.ofInt 64 z) 4#64 (by decide)) rfl rfl ?_)
    | (refine wpl_run rfl (.int .i64 ((rm z 4 : Nat) : Int)) _ (run_rm (x := .tmp 6) rfl und64 undInt (z := z) (m := 4) (by omega) rfl _) ?_)
    | (refine wpl_run rfl (.pointer (some ⟨N, 0 + rm z 4, none⟩)) _ (run_ixL 73 3 undI2 szI1 (.tmp 3) (.tmp 7) rfl rfl rfl (k := rm z 4) hr _) ?_)
    | fail)
  go_ret
  exact ⟨rfl, hb1⟩
end Go.Proofs.Ytjcjmlmdcjkceaa
