/- The document's Eval. -/
import Derived.Test.YtkljnpdojmcipaaSc3
import Derived.Deep.LoopGhost
namespace Go.Proofs.Ytkljnpdojmcipaa
open Go Go.RowKit
theorem ofNat_next (k : Nat) : BitVec.ofNat 64 k + 1#64 = BitVec.ofNat 64 (k + 1) := by
  apply BitVec.eq_of_toNat_eq; rw [BitVec.toNat_add, BitVec.toNat_ofNat, BitVec.toNat_ofNat, BitVec.toNat_ofNat]; omega
set_option maxRecDepth 100000 in
set_option maxHeartbeats 2000000 in
theorem rev_t_0 (x y : W) (w : World) (N : Nat) (hN : Sz w N) : Calls Try.prog 11 #[.int .i64 0, .bool true, Q x, Q y] w fun e w' => e = .returned (Q (x + y)) ∧ Below N w w' := by
  go_enter Try.func11, Try.ntmps11
  have lo0 : Below N w w := Below.refl N w
  go_upto_region 9 with fail
  refine wp_region_later1 (N) ?_
  try simp only [Act.put, List.setIfInBounds_toArray, List.set_cons_succ, List.set_cons_zero]
  go_big_quiet_step (fail)
  go_big_quiet_step (fail)
  refine later_b (x := (.tmp 22)) (y := (.tmp 23)) rfl (bin_add _ x y) rfl rfl (by rfl) ?_; simp only [Act.put, List.setIfInBounds_toArray, List.set_cons_succ, List.set_cons_zero]
  go_big_quiet_step (fail)
  refine wpQuiet_nil ?_
  rintro xw1 ⟨qxw1, exw1⟩
  have hbxw1 := qxw1.b
  rw [← exw1] at hbxw1
  clear qxw1 exw1
  obtain ⟨M2, hM2⟩ := sz_some xw1
  have lM2 := below_sz hbxw1 hN hM2
  have lo3 := lo0.trans (hbxw1.mono (by omega))
  clear lo0 hbxw1
  go_wp2_with fail
  go_ret
  exact ⟨rfl, lo3⟩
set_option maxRecDepth 100000 in
set_option maxHeartbeats 2000000 in
theorem rev_t_1 (x y : W) (w : World) (N : Nat) (hN : Sz w N) : Calls Try.prog 11 #[.int .i64 1, .bool true, Q x, Q y] w fun e w' => e = .returned (Q (x - y)) ∧ Below N w w' := by
  go_enter Try.func11, Try.ntmps11
  have lo0 : Below N w w := Below.refl N w
  go_upto_region 11 with fail
  refine wp_region_later1 (N) ?_
  try simp only [Act.put, List.setIfInBounds_toArray, List.set_cons_succ, List.set_cons_zero]
  go_big_quiet_step (fail)
  go_big_quiet_step (fail)
  refine later_b (x := (.tmp 27)) (y := (.tmp 28)) rfl (bin_sub _ x y) rfl rfl (by rfl) ?_; simp only [Act.put, List.setIfInBounds_toArray, List.set_cons_succ, List.set_cons_zero]
  go_big_quiet_step (fail)
  refine wpQuiet_nil ?_
  rintro xw1 ⟨qxw1, exw1⟩
  have hbxw1 := qxw1.b
  rw [← exw1] at hbxw1
  clear qxw1 exw1
  obtain ⟨M2, hM2⟩ := sz_some xw1
  have lM2 := below_sz hbxw1 hN hM2
  have lo3 := lo0.trans (hbxw1.mono (by omega))
  clear lo0 hbxw1
  go_wp2_with fail
  go_ret
  exact ⟨rfl, lo3⟩
set_option maxRecDepth 100000 in
set_option maxHeartbeats 2000000 in
theorem rev_t_2 (x y : W) (w : World) (N : Nat) (hN : Sz w N) : Calls Try.prog 11 #[.int .i64 2, .bool true, Q x, Q y] w fun e w' => e = .returned (Q (x * y)) ∧ Below N w w' := by
  go_enter Try.func11, Try.ntmps11
  have lo0 : Below N w w := Below.refl N w
  go_upto_region 13 with fail
  refine wp_region_later1 (N) ?_
  try simp only [Act.put, List.setIfInBounds_toArray, List.set_cons_succ, List.set_cons_zero]
  go_big_quiet_step (fail)
  go_big_quiet_step (fail)
  refine later_b (x := (.tmp 32)) (y := (.tmp 33)) rfl (bin_mul _ x y) rfl rfl (by rfl) ?_; simp only [Act.put, List.setIfInBounds_toArray, List.set_cons_succ, List.set_cons_zero]
  go_big_quiet_step (fail)
  refine wpQuiet_nil ?_
  rintro xw1 ⟨qxw1, exw1⟩
  have hbxw1 := qxw1.b
  rw [← exw1] at hbxw1
  clear qxw1 exw1
  obtain ⟨M2, hM2⟩ := sz_some xw1
  have lM2 := below_sz hbxw1 hN hM2
  have lo3 := lo0.trans (hbxw1.mono (by omega))
  clear lo0 hbxw1
  go_wp2_with fail
  go_ret
  exact ⟨rfl, lo3⟩
set_option maxRecDepth 100000 in
set_option maxHeartbeats 2000000 in
theorem rev_t_4 (x y : W) (w : World) (N : Nat) (hN : Sz w N) : Calls Try.prog 11 #[.int .i64 4, .bool true, Q x, Q y] w fun e w' => e = .returned (Q (x ||| y)) ∧ Below N w w' := by
  go_enter Try.func11, Try.ntmps11
  have lo0 : Below N w w := Below.refl N w
  go_upto_region 18 with fail
  refine wp_region_later1 (N) ?_
  try simp only [Act.put, List.setIfInBounds_toArray, List.set_cons_succ, List.set_cons_zero]
  go_big_quiet_step (fail)
  go_big_quiet_step (fail)
  refine later_b (x := (.tmp 44)) (y := (.tmp 45)) rfl (bin_or _ x y) rfl rfl (by rfl) ?_; simp only [Act.put, List.setIfInBounds_toArray, List.set_cons_succ, List.set_cons_zero]
  go_big_quiet_step (fail)
  refine wpQuiet_nil ?_
  rintro xw1 ⟨qxw1, exw1⟩
  have hbxw1 := qxw1.b
  rw [← exw1] at hbxw1
  clear qxw1 exw1
  obtain ⟨M2, hM2⟩ := sz_some xw1
  have lM2 := below_sz hbxw1 hN hM2
  have lo3 := lo0.trans (hbxw1.mono (by omega))
  clear lo0 hbxw1
  go_wp2_with fail
  go_ret
  exact ⟨rfl, lo3⟩
set_option maxRecDepth 100000 in
set_option maxHeartbeats 2000000 in
theorem rev_t_5 (x y : W) (w : World) (N : Nat) (hN : Sz w N) : Calls Try.prog 11 #[.int .i64 5, .bool true, Q x, Q y] w fun e w' => e = .returned (Q (x &&& y)) ∧ Below N w w' := by
  go_enter Try.func11, Try.ntmps11
  have lo0 : Below N w w := Below.refl N w
  go_upto_region 20 with fail
  refine wp_region_later1 (N) ?_
  try simp only [Act.put, List.setIfInBounds_toArray, List.set_cons_succ, List.set_cons_zero]
  go_big_quiet_step (fail)
  go_big_quiet_step (fail)
  refine later_b (x := (.tmp 49)) (y := (.tmp 50)) rfl (bin_and _ x y) rfl rfl (by rfl) ?_; simp only [Act.put, List.setIfInBounds_toArray, List.set_cons_succ, List.set_cons_zero]
  go_big_quiet_step (fail)
  refine wpQuiet_nil ?_
  rintro xw1 ⟨qxw1, exw1⟩
  have hbxw1 := qxw1.b
  rw [← exw1] at hbxw1
  clear qxw1 exw1
  obtain ⟨M2, hM2⟩ := sz_some xw1
  have lM2 := below_sz hbxw1 hN hM2
  have lo3 := lo0.trans (hbxw1.mono (by omega))
  clear lo0 hbxw1
  go_wp2_with fail
  go_ret
  exact ⟨rfl, lo3⟩
set_option maxRecDepth 100000 in
set_option maxHeartbeats 2000000 in
theorem rev_t_6 (x y : W) (w : World) (N : Nat) (hN : Sz w N) : Calls Try.prog 11 #[.int .i64 6, .bool true, Q x, Q y] w fun e w' => e = .returned (Q (x <<< (y % 64#64).toNat)) ∧ Below N w w' := by
  go_enter Try.func11, Try.ntmps11
  have lo0 : Below N w w := Below.refl N w
  go_upto_region 22 with fail
  refine wp_region_later1 (N) ?_
  try simp only [Act.put, List.setIfInBounds_toArray, List.set_cons_succ, List.set_cons_zero]
  go_big_quiet_step (fail)
  go_big_quiet_step (fail)
  go_big_quiet_step (fail)
  refine later_b (x := (.tmp 55)) (y := (.tmp 56)) rfl (bin_rem _ y 64#64 (by decide)) rfl rfl (by rfl) ?_; simp only [Act.put, List.setIfInBounds_toArray, List.set_cons_succ, List.set_cons_zero]
  refine later_b (x := (.tmp 54)) (y := (.tmp 57)) rfl (bin_shlu _ x (y % 64#64)) rfl rfl (by rfl) ?_; simp only [Act.put, List.setIfInBounds_toArray, List.set_cons_succ, List.set_cons_zero]
  go_big_quiet_step (fail)
  refine wpQuiet_nil ?_
  rintro xw1 ⟨qxw1, exw1⟩
  have hbxw1 := qxw1.b
  rw [← exw1] at hbxw1
  clear qxw1 exw1
  obtain ⟨M2, hM2⟩ := sz_some xw1
  have lM2 := below_sz hbxw1 hN hM2
  have lo3 := lo0.trans (hbxw1.mono (by omega))
  clear lo0 hbxw1
  go_wp2_with fail
  go_ret
  exact ⟨rfl, lo3⟩
set_option maxRecDepth 100000 in
set_option maxHeartbeats 2000000 in
theorem rev_t_7 (x y : W) (w : World) (N : Nat) (hN : Sz w N) : Calls Try.prog 11 #[.int .i64 7, .bool true, Q x, Q y] w fun e w' => e = .returned (Q (x >>> (y % 64#64).toNat)) ∧ Below N w w' := by
  go_enter Try.func11, Try.ntmps11
  have lo0 : Below N w w := Below.refl N w
  go_upto_region 24 with fail
  refine wp_region_later1 (N) ?_
  try simp only [Act.put, List.setIfInBounds_toArray, List.set_cons_succ, List.set_cons_zero]
  go_big_quiet_step (fail)
  go_big_quiet_step (fail)
  go_big_quiet_step (fail)
  refine later_b (x := (.tmp 62)) (y := (.tmp 63)) rfl (bin_rem _ y 64#64 (by decide)) rfl rfl (by rfl) ?_; simp only [Act.put, List.setIfInBounds_toArray, List.set_cons_succ, List.set_cons_zero]
  refine later_b (x := (.tmp 61)) (y := (.tmp 64)) rfl (bin_shru _ x (y % 64#64)) rfl rfl (by rfl) ?_; simp only [Act.put, List.setIfInBounds_toArray, List.set_cons_succ, List.set_cons_zero]
  go_big_quiet_step (fail)
  refine wpQuiet_nil ?_
  rintro xw1 ⟨qxw1, exw1⟩
  have hbxw1 := qxw1.b
  rw [← exw1] at hbxw1
  clear qxw1 exw1
  obtain ⟨M2, hM2⟩ := sz_some xw1
  have lM2 := below_sz hbxw1 hN hM2
  have lo3 := lo0.trans (hbxw1.mono (by omega))
  clear lo0 hbxw1
  go_wp2_with fail
  go_ret
  exact ⟨rfl, lo3⟩
set_option maxRecDepth 100000 in
set_option maxHeartbeats 2000000 in
theorem rev_t_8 (x y : W) (w : World) (N : Nat) (hN : Sz w N) : Calls Try.prog 11 #[.int .i64 8, .bool true, Q x, Q y] w fun e w' => e = .returned (Q (0#64 - x)) ∧ Below N w w' := by
  go_enter Try.func11, Try.ntmps11
  have lo0 : Below N w w := Below.refl N w
  go_upto_region 26 with fail
  refine wp_region_later1 (N) ?_
  try simp only [Act.put, List.setIfInBounds_toArray, List.set_cons_succ, List.set_cons_zero]
  go_big_quiet_step (fail)
  refine later_b (x := (.const (.int .u64 0))) (y := (.tmp 68)) rfl (bin_sub _ 0#64 x) rfl rfl (by rfl) ?_; simp only [Act.put, List.setIfInBounds_toArray, List.set_cons_succ, List.set_cons_zero]
  go_big_quiet_step (fail)
  refine wpQuiet_nil ?_
  rintro xw1 ⟨qxw1, exw1⟩
  have hbxw1 := qxw1.b
  rw [← exw1] at hbxw1
  clear qxw1 exw1
  obtain ⟨M2, hM2⟩ := sz_some xw1
  have lM2 := below_sz hbxw1 hN hM2
  have lo3 := lo0.trans (hbxw1.mono (by omega))
  clear lo0 hbxw1
  go_wp2_with fail
  go_ret
  exact ⟨rfl, lo3⟩
set_option maxRecDepth 100000 in
set_option maxHeartbeats 2000000 in
theorem rev_t_10 (x y : W) (w : World) (N : Nat) (hN : Sz w N) : Calls Try.prog 11 #[.int .i64 10, .bool true, Q x, Q y] w fun e w' => e = .returned (Q (x ^^^ y)) ∧ Below N w w' := by
  go_enter Try.func11, Try.ntmps11
  have lo0 : Below N w w := Below.refl N w
  go_upto_region 32 with fail
  refine wp_region_later1 (N) ?_
  try simp only [Act.put, List.setIfInBounds_toArray, List.set_cons_succ, List.set_cons_zero]
  go_big_quiet_step (fail)
  go_big_quiet_step (fail)
  refine later_b (x := (.tmp 80)) (y := (.tmp 81)) rfl (bin_xor _ x y) rfl rfl (by rfl) ?_; simp only [Act.put, List.setIfInBounds_toArray, List.set_cons_succ, List.set_cons_zero]
  go_big_quiet_step (fail)
  refine wpQuiet_nil ?_
  rintro xw1 ⟨qxw1, exw1⟩
  have hbxw1 := qxw1.b
  rw [← exw1] at hbxw1
  clear qxw1 exw1
  obtain ⟨M2, hM2⟩ := sz_some xw1
  have lM2 := below_sz hbxw1 hN hM2
  have lo3 := lo0.trans (hbxw1.mono (by omega))
  clear lo0 hbxw1
  go_wp2_with fail
  go_ret
  exact ⟨rfl, lo3⟩
set_option maxRecDepth 100000 in
set_option maxHeartbeats 2000000 in
theorem rev_t_11 (x y : W) (w : World) (N : Nat) (hN : Sz w N) : Calls Try.prog 11 #[.int .i64 11, .bool true, Q x, Q y] w fun e w' => e = .returned (Q (y)) ∧ Below N w w' := by
  go_enter Try.func11, Try.ntmps11
  have lo0 : Below N w w := Below.refl N w
  go_upto_region 34 with fail
  refine wp_region_later1 (N) ?_
  try simp only [Act.put, List.setIfInBounds_toArray, List.set_cons_succ, List.set_cons_zero]
  go_big_quiet_step (fail)
  go_big_quiet_step (fail)
  refine wpQuiet_nil ?_
  rintro xw1 ⟨qxw1, exw1⟩
  have hbxw1 := qxw1.b
  rw [← exw1] at hbxw1
  clear qxw1 exw1
  obtain ⟨M2, hM2⟩ := sz_some xw1
  have lM2 := below_sz hbxw1 hN hM2
  have lo3 := lo0.trans (hbxw1.mono (by omega))
  clear lo0 hbxw1
  go_wp2_with fail
  go_ret
  exact ⟨rfl, lo3⟩
set_option maxRecDepth 100000 in
set_option maxHeartbeats 2000000 in
theorem rev_t_3 (x y : W) (w : World) (N : Nat) (hN : Sz w N) : Calls Try.prog 11 #[.int .i64 3, .bool true, Q x, Q y] w fun e w' => e = .returned (Q (x / y)) ∧ Below N w w' := by
  cases hy : (y == 0#64)
  · have Hy : Hid ((y != 0#64) = true) := hid (by rw [bne, hy]; rfl)
    have Hn := hid (show y ≠ 0#64 from fun e => by rw [e] at hy; cases hy)
    clear hy
    go_enter Try.func11, Try.ntmps11
    have lo0 : Below N w w := Below.refl N w
    go_upto_region 15 with fail
    refine wp_region_later1 (N) ?_
    try simp only [Act.put, List.setIfInBounds_toArray, List.set_cons_succ, List.set_cons_zero]
    go_big_quiet_step (fail)
    refine later_b (x := (.tmp 37)) (y := (.const (.int .u64 0))) rfl (BinRun.is Hy.out (bin_neq _ y 0#64)) rfl rfl (by rfl) ?_; simp only [Act.put, List.setIfInBounds_toArray, List.set_cons_succ, List.set_cons_zero]
    refine wpQuiet_nil ?_
    rintro xw1 ⟨qxw1, exw1⟩
    have hbxw1 := qxw1.b
    rw [← exw1] at hbxw1
    clear qxw1 exw1
    obtain ⟨M2, hM2⟩ := sz_some xw1
    have lM2 := below_sz hbxw1 hN hM2
    have lo3 := lo0.trans (hbxw1.mono (by omega))
    clear lo0 hbxw1
    go_upto_region 16 with fail
    refine wp_region_later1 (M2) ?_
    try simp only [Act.put, List.setIfInBounds_toArray, List.set_cons_succ, List.set_cons_zero]
    go_big_quiet_step (fail)
    go_big_quiet_step (fail)
    refine later_b (x := (.tmp 39)) (y := (.tmp 40)) rfl (bin_quo _ x y Hn.out) rfl rfl (by rfl) ?_; simp only [Act.put, List.setIfInBounds_toArray, List.set_cons_succ, List.set_cons_zero]
    go_big_quiet_step (fail)
    refine wpQuiet_nil ?_
    rintro xw4 ⟨qxw4, exw4⟩
    have hbxw4 := qxw4.b
    rw [← exw4] at hbxw4
    clear qxw4 exw4
    obtain ⟨M5, hM5⟩ := sz_some xw4
    have lM5 := below_sz hbxw4 hM2 hM5
    have lo6 := lo3.trans (hbxw4.mono (by omega))
    clear lo3 hbxw4
    go_wp2_with fail
    go_ret
    exact ⟨rfl, lo6⟩
  · have Hy : Hid ((y != 0#64) = false) := hid (by rw [bne, hy]; rfl)
    have E := hid (show x / y = 0#64 by rw [beq_iff_eq.1 hy]; exact BitVec.udiv_zero)
    clear hy
    go_enter Try.func11, Try.ntmps11
    have lo0 : Below N w w := Below.refl N w
    go_upto_region 15 with fail
    refine wp_region_later1 (N) ?_
    try simp only [Act.put, List.setIfInBounds_toArray, List.set_cons_succ, List.set_cons_zero]
    go_big_quiet_step (fail)
    refine later_b (x := (.tmp 37)) (y := (.const (.int .u64 0))) rfl (BinRun.is Hy.out (bin_neq _ y 0#64)) rfl rfl (by rfl) ?_; simp only [Act.put, List.setIfInBounds_toArray, List.set_cons_succ, List.set_cons_zero]
    refine wpQuiet_nil ?_
    rintro xw1 ⟨qxw1, exw1⟩
    have hbxw1 := qxw1.b
    rw [← exw1] at hbxw1
    clear qxw1 exw1
    obtain ⟨M2, hM2⟩ := sz_some xw1
    have lM2 := below_sz hbxw1 hN hM2
    have lo3 := lo0.trans (hbxw1.mono (by omega))
    clear lo0 hbxw1
    go_wp2_with fail
    go_ret
    exact ⟨by rw [E.out]; rfl, lo3⟩
set_option maxRecDepth 100000 in
set_option maxHeartbeats 2000000 in
theorem rev_t_9 (x y : W) (w : World) (N : Nat) (hN : Sz w N) : Calls Try.prog 11 #[.int .i64 9, .bool true, Q x, Q y] w fun e w' => e = .returned (Q (x % y)) ∧ Below N w w' := by
  cases hy : (y == 0#64)
  · have Hy : Hid ((y != 0#64) = true) := hid (by rw [bne, hy]; rfl)
    have Hn := hid (show y ≠ 0#64 from fun e => by rw [e] at hy; cases hy)
    clear hy
    go_enter Try.func11, Try.ntmps11
    have lo0 : Below N w w := Below.refl N w
    go_upto_region 28 with fail
    refine wp_region_later1 (N) ?_
    try simp only [Act.put, List.setIfInBounds_toArray, List.set_cons_succ, List.set_cons_zero]
    go_big_quiet_step (fail)
    go_big_quiet_step (fail)
    refine wpQuiet_nil ?_
    rintro xw1 ⟨qxw1, exw1⟩
    have hbxw1 := qxw1.b
    rw [← exw1] at hbxw1
    clear qxw1 exw1
    obtain ⟨M2, hM2⟩ := sz_some xw1
    have lM2 := below_sz hbxw1 hN hM2
    have lo3 := lo0.trans (hbxw1.mono (by omega))
    clear lo0 hbxw1
    go_upto_region 29 with fail
    refine wp_region_later1 (M2) ?_
    try simp only [Act.put, List.setIfInBounds_toArray, List.set_cons_succ, List.set_cons_zero]
    go_big_quiet_step (fail)
    refine later_b (x := (.tmp 73)) (y := (.const (.int .u64 0))) rfl (BinRun.is Hy.out (bin_neq _ y 0#64)) rfl rfl (by rfl) ?_; simp only [Act.put, List.setIfInBounds_toArray, List.set_cons_succ, List.set_cons_zero]
    refine wpQuiet_nil ?_
    rintro xw4 ⟨qxw4, exw4⟩
    have hbxw4 := qxw4.b
    rw [← exw4] at hbxw4
    clear qxw4 exw4
    obtain ⟨M5, hM5⟩ := sz_some xw4
    have lM5 := below_sz hbxw4 hM2 hM5
    have lo6 := lo3.trans (hbxw4.mono (by omega))
    clear lo3 hbxw4
    go_upto_region 30 with fail
    refine wp_region_later1 (M5) ?_
    try simp only [Act.put, List.setIfInBounds_toArray, List.set_cons_succ, List.set_cons_zero]
    go_big_quiet_step (fail)
    go_big_quiet_step (fail)
    refine later_b (x := (.tmp 75)) (y := (.tmp 76)) rfl (bin_rem _ x y Hn.out) rfl rfl (by rfl) ?_; simp only [Act.put, List.setIfInBounds_toArray, List.set_cons_succ, List.set_cons_zero]
    go_big_quiet_step (fail)
    refine wpQuiet_nil ?_
    rintro xw7 ⟨qxw7, exw7⟩
    have hbxw7 := qxw7.b
    rw [← exw7] at hbxw7
    clear qxw7 exw7
    obtain ⟨M8, hM8⟩ := sz_some xw7
    have lM8 := below_sz hbxw7 hM5 hM8
    have lo9 := lo6.trans (hbxw7.mono (by omega))
    clear lo6 hbxw7
    go_wp2_with fail
    go_ret
    exact ⟨rfl, lo9⟩
  · have Hy : Hid ((y != 0#64) = false) := hid (by rw [bne, hy]; rfl)
    have E := hid (show x % y = x by rw [beq_iff_eq.1 hy]; exact BitVec.umod_zero)
    clear hy
    go_enter Try.func11, Try.ntmps11
    have lo0 : Below N w w := Below.refl N w
    go_upto_region 28 with fail
    refine wp_region_later1 (N) ?_
    try simp only [Act.put, List.setIfInBounds_toArray, List.set_cons_succ, List.set_cons_zero]
    go_big_quiet_step (fail)
    go_big_quiet_step (fail)
    refine wpQuiet_nil ?_
    rintro xw1 ⟨qxw1, exw1⟩
    have hbxw1 := qxw1.b
    rw [← exw1] at hbxw1
    clear qxw1 exw1
    obtain ⟨M2, hM2⟩ := sz_some xw1
    have lM2 := below_sz hbxw1 hN hM2
    have lo3 := lo0.trans (hbxw1.mono (by omega))
    clear lo0 hbxw1
    go_upto_region 29 with fail
    refine wp_region_later1 (M2) ?_
    try simp only [Act.put, List.setIfInBounds_toArray, List.set_cons_succ, List.set_cons_zero]
    go_big_quiet_step (fail)
    refine later_b (x := (.tmp 73)) (y := (.const (.int .u64 0))) rfl (BinRun.is Hy.out (bin_neq _ y 0#64)) rfl rfl (by rfl) ?_; simp only [Act.put, List.setIfInBounds_toArray, List.set_cons_succ, List.set_cons_zero]
    refine wpQuiet_nil ?_
    rintro xw4 ⟨qxw4, exw4⟩
    have hbxw4 := qxw4.b
    rw [← exw4] at hbxw4
    clear qxw4 exw4
    obtain ⟨M5, hM5⟩ := sz_some xw4
    have lM5 := below_sz hbxw4 hM2 hM5
    have lo6 := lo3.trans (hbxw4.mono (by omega))
    clear lo3 hbxw4
    go_wp2_with fail
    go_ret
    exact ⟨by rw [E.out]; rfl, lo6⟩
set_option maxRecDepth 100000 in
set_option maxHeartbeats 2000000 in
theorem rev_t_o (x y : W) (op : Int) (h0 : (op == 0) = false) (h1 : (op == 1) = false) (h2 : (op == 2) = false) (h3 : (op == 3) = false) (h4 : (op == 4) = false) (h5 : (op == 5) = false) (h6 : (op == 6) = false) (h7 : (op == 7) = false) (h8 : (op == 8) = false) (h9 : (op == 9) = false) (h10 : (op == 10) = false) (h11 : (op == 11) = false) (h12 : (op == 12) = false) (w : World) (N : Nat) (hN : Sz w N) : Calls Try.prog 11 #[.int .i64 op, .bool true, Q x, Q y] w fun e w' => e = .returned (Q (0#64)) ∧ Below N w w' := by
  go_enter Try.func11, Try.ntmps11
  have lo0 : Below N w w := Below.refl N w
  go_wp2_with fail
  go_ret
  exact ⟨rfl, lo0⟩
set_option maxRecDepth 100000 in
set_option maxHeartbeats 2000000 in
theorem rev_t_12 (x y : W) (w : World) (N : Nat) (hN : Sz w N) : Calls Try.prog 11 #[.int .i64 12, .bool true, Q x, Q y] w fun e w' => e = .returned (Q (if x.getLsbD 63 then arN (x >>> (y % 64#64).toNat) 64#64 (y % 64#64).toNat else (x >>> (y % 64#64).toNat))) ∧ Below N w w' := by
  have hm := msb_bit x 64#64 64 rfl (by omega) (by omega)
  cases hb : x.getLsbD 63
  · rw [hb] at hm
    have Hm := hid hm
    clear hm hb
    go_enter Try.func11, Try.ntmps11
    have lo0 : Below N w w := Below.refl N w
    go_upto_region 36 with fail
    refine wp_region_later1 (N) ?_
    try simp only [Act.put, List.setIfInBounds_toArray, List.set_cons_succ, List.set_cons_zero]
    go_big_quiet_step (fail)
    go_big_quiet_step (fail)
    go_big_quiet_step (fail)
    refine later_b (x := (.tmp 89)) (y := (.tmp 90)) rfl (bin_rem _ y 64#64 (by decide)) rfl rfl (by rfl) ?_; simp only [Act.put, List.setIfInBounds_toArray, List.set_cons_succ, List.set_cons_zero]
    refine later_b (x := (.tmp 88)) (y := (.tmp 91)) rfl (bin_shru _ x (y % 64#64)) rfl rfl (by rfl) ?_; simp only [Act.put, List.setIfInBounds_toArray, List.set_cons_succ, List.set_cons_zero]
    go_big_quiet_step (fail)
    refine wpQuiet_nil ?_
    rintro xw1 ⟨qxw1, exw1⟩
    have hbxw1 := qxw1.b
    rw [← exw1] at hbxw1
    clear qxw1 exw1
    obtain ⟨M2, hM2⟩ := sz_some xw1
    have lM2 := below_sz hbxw1 hN hM2
    have lo3 := lo0.trans (hbxw1.mono (by omega))
    clear lo0 hbxw1
    go_upto_region 37 with fail
    refine wp_region_later1 (M2) ?_
    try simp only [Act.put, List.setIfInBounds_toArray, List.set_cons_succ, List.set_cons_zero]
    go_big_quiet_step (fail)
    go_big_quiet_step (fail)
    refine later_b (x := (.tmp 94)) (y := (.const (.int .u64 1))) rfl (bin_sub _ 64#64 1#64) rfl rfl (by rfl) ?_; simp only [Act.put, List.setIfInBounds_toArray, List.set_cons_succ, List.set_cons_zero]
    refine later_b (x := (.tmp 93)) (y := (.tmp 95)) rfl (bin_shru _ x (64#64 - 1#64)) rfl rfl (by rfl) ?_; simp only [Act.put, List.setIfInBounds_toArray, List.set_cons_succ, List.set_cons_zero]
    refine later_b (x := (.tmp 96)) (y := (.const (.int .u64 1))) rfl (bin_and _ (x >>> ((64#64 - 1#64)).toNat) 1#64) rfl rfl (by rfl) ?_; simp only [Act.put, List.setIfInBounds_toArray, List.set_cons_succ, List.set_cons_zero]
    refine later_b (x := (.tmp 97)) (y := (.const (.int .u64 1))) rfl (BinRun.is Hm.out (bin_eql _ ((x >>> ((64#64 - 1#64)).toNat) &&& 1#64) 1#64)) rfl rfl (by rfl) ?_; simp only [Act.put, List.setIfInBounds_toArray, List.set_cons_succ, List.set_cons_zero]
    refine wpQuiet_nil ?_
    rintro xw4 ⟨qxw4, exw4⟩
    have hbxw4 := qxw4.b
    rw [← exw4] at hbxw4
    clear qxw4 exw4
    obtain ⟨M5, hM5⟩ := sz_some xw4
    have lM5 := below_sz hbxw4 hM2 hM5
    have lo6 := lo3.trans (hbxw4.mono (by omega))
    clear lo3 hbxw4
    go_wp2_with fail
    go_ret
    exact ⟨rfl, lo6⟩
  · rw [hb] at hm
    have Hm := hid hm
    clear hm
    obtain ⟨R, hR⟩ : ∃ R, R = (if x.getLsbD 63 then arN (x >>> (y % 64#64).toNat) 64#64 (y % 64#64).toNat else (x >>> (y % 64#64).toNat)) := ⟨_, rfl⟩
    rw [hb] at hR
    rw [if_pos rfl] at hR
    rw [if_pos rfl, ← hR]
    clear hb
    have hn : (y % 64#64).toNat < 64 := by rw [BitVec.toNat_umod]; exact Nat.mod_lt _ (by decide)
    obtain ⟨n, en⟩ : ∃ n, n = (y % 64#64).toNat := ⟨_, rfl⟩
    rw [← en] at hn
    rw [← en] at hR
    have ER := hid hR
    have En := hid en
    clear en hR
    go_enter Try.func11, Try.ntmps11
    have lo0 : Below N w w := Below.refl N w
    go_upto_region 36 with fail
    refine wp_region_later1 (N) ?_
    try simp only [Act.put, List.setIfInBounds_toArray, List.set_cons_succ, List.set_cons_zero]
    go_big_quiet_step (fail)
    go_big_quiet_step (fail)
    go_big_quiet_step (fail)
    refine later_b (x := (.tmp 89)) (y := (.tmp 90)) rfl (bin_rem _ y 64#64 (by decide)) rfl rfl (by rfl) ?_; simp only [Act.put, List.setIfInBounds_toArray, List.set_cons_succ, List.set_cons_zero]
    refine later_b (x := (.tmp 88)) (y := (.tmp 91)) rfl (bin_shru _ x (y % 64#64)) rfl rfl (by rfl) ?_; simp only [Act.put, List.setIfInBounds_toArray, List.set_cons_succ, List.set_cons_zero]
    go_big_quiet_step (fail)
    refine wpQuiet_nil ?_
    rintro xw1 ⟨qxw1, exw1⟩
    have hbxw1 := qxw1.b
    rw [← exw1] at hbxw1
    clear qxw1 exw1
    obtain ⟨M2, hM2⟩ := sz_some xw1
    have lM2 := below_sz hbxw1 hN hM2
    have lo3 := lo0.trans (hbxw1.mono (by omega))
    clear lo0 hbxw1
    go_upto_region 37 with fail
    refine wp_region_later1 (M2) ?_
    try simp only [Act.put, List.setIfInBounds_toArray, List.set_cons_succ, List.set_cons_zero]
    go_big_quiet_step (fail)
    go_big_quiet_step (fail)
    refine later_b (x := (.tmp 94)) (y := (.const (.int .u64 1))) rfl (bin_sub _ 64#64 1#64) rfl rfl (by rfl) ?_; simp only [Act.put, List.setIfInBounds_toArray, List.set_cons_succ, List.set_cons_zero]
    refine later_b (x := (.tmp 93)) (y := (.tmp 95)) rfl (bin_shru _ x (64#64 - 1#64)) rfl rfl (by rfl) ?_; simp only [Act.put, List.setIfInBounds_toArray, List.set_cons_succ, List.set_cons_zero]
    refine later_b (x := (.tmp 96)) (y := (.const (.int .u64 1))) rfl (bin_and _ (x >>> ((64#64 - 1#64)).toNat) 1#64) rfl rfl (by rfl) ?_; simp only [Act.put, List.setIfInBounds_toArray, List.set_cons_succ, List.set_cons_zero]
    refine later_b (x := (.tmp 97)) (y := (.const (.int .u64 1))) rfl (BinRun.is Hm.out (bin_eql _ ((x >>> ((64#64 - 1#64)).toNat) &&& 1#64) 1#64)) rfl rfl (by rfl) ?_; simp only [Act.put, List.setIfInBounds_toArray, List.set_cons_succ, List.set_cons_zero]
    refine wpQuiet_nil ?_
    rintro xw4 ⟨qxw4, exw4⟩
    have hbxw4 := qxw4.b
    rw [← exw4] at hbxw4
    clear qxw4 exw4
    obtain ⟨M5, hM5⟩ := sz_some xw4
    have lM5 := below_sz hbxw4 hM2 hM5
    have lo6 := lo3.trans (hbxw4.mono (by omega))
    clear lo3 hbxw4
    rw [← En.out]
    go_wp2_with fail
    go_loopg [10, 11] (n) (fun g x10 x11 wr => ∃ k : Nat, k ≤ n ∧ g = n - k ∧ x11 = Q (BitVec.ofNat 64 k) ∧ x10 = Q (arN (x >>> n) 64#64 k) ∧ Below N w wr)
    case atStart => exact ⟨0, by omega, rfl, rfl, rfl, lo6⟩
    case round =>
      clear lo6
      obtain ⟨k, hk, rfl, rfl, rfl, lor⟩ := hrel
      obtain ⟨Mr, hMr⟩ := sz_some wr
      have lMr := below_sz lor hN hMr
      have hult : (BitVec.ult (BitVec.ofNat 64 k) (y % 64#64)) = decide (k < n) := by unfold BitVec.ult; rw [← En.out, BitVec.toNat_ofNat, Nat.mod_eq_of_lt (show k < 2 ^ 64 by omega)]
      by_cases hlt : k < n
      · rw [decide_eq_true hlt] at hult
        have Hu := hid hult
        clear hult
        go_upto_region 39 with fail
        refine wp_region_later1 (Mr) ?_
        try simp only [Act.put, List.setIfInBounds_toArray, List.set_cons_succ, List.set_cons_zero]
        go_big_quiet_step (fail)
        go_big_quiet_step (fail)
        go_big_quiet_step (fail)
        refine later_b (x := (.tmp 100)) (y := (.tmp 101)) rfl (bin_rem _ y 64#64 (by decide)) rfl rfl (by rfl) ?_; simp only [Act.put, List.setIfInBounds_toArray, List.set_cons_succ, List.set_cons_zero]
        refine later_b (x := (.tmp 99)) (y := (.tmp 102)) rfl (BinRun.is Hu.out (bin_lss _ (BitVec.ofNat 64 k) (y % 64#64))) rfl rfl (by rfl) ?_; simp only [Act.put, List.setIfInBounds_toArray, List.set_cons_succ, List.set_cons_zero]
        refine wpQuiet_nil ?_
        rintro xw7 ⟨qxw7, exw7⟩
        have hbxw7 := qxw7.b
        rw [← exw7] at hbxw7
        clear qxw7 exw7
        obtain ⟨M8, hM8⟩ := sz_some xw7
        have lM8 := below_sz hbxw7 hMr hM8
        have lo9 := lor.trans (hbxw7.mono (by omega))
        clear lor hbxw7
        go_upto_region 41 with fail
        refine wp_region_later1 (M8) ?_
        try simp only [Act.put, List.setIfInBounds_toArray, List.set_cons_succ, List.set_cons_zero]
        go_big_quiet_step (fail)
        go_big_quiet_step (fail)
        refine later_b (x := (.tmp 107)) (y := (.const (.int .u64 1))) rfl (bin_sub _ 64#64 1#64) rfl rfl (by rfl) ?_; simp only [Act.put, List.setIfInBounds_toArray, List.set_cons_succ, List.set_cons_zero]
        go_big_quiet_step (fail)
        refine later_b (x := (.tmp 108)) (y := (.tmp 109)) rfl (bin_sub _ (64#64 - 1#64) (BitVec.ofNat 64 k)) rfl rfl (by rfl) ?_; simp only [Act.put, List.setIfInBounds_toArray, List.set_cons_succ, List.set_cons_zero]
        refine later_b (x := (.const (.int .u64 1))) (y := (.tmp 110)) rfl (bin_shlu _ 1#64 ((64#64 - 1#64) - (BitVec.ofNat 64 k))) rfl rfl (by rfl) ?_; simp only [Act.put, List.setIfInBounds_toArray, List.set_cons_succ, List.set_cons_zero]
        refine later_b (x := (.tmp 106)) (y := (.tmp 111)) rfl (bin_or _ (arN (x >>> n) 64#64 k) (1#64 <<< (((64#64 - 1#64) - (BitVec.ofNat 64 k))).toNat)) rfl rfl (by rfl) ?_; simp only [Act.put, List.setIfInBounds_toArray, List.set_cons_succ, List.set_cons_zero]
        go_big_quiet_step (fail)
        refine wpQuiet_nil ?_
        rintro xw10 ⟨qxw10, exw10⟩
        have hbxw10 := qxw10.b
        rw [← exw10] at hbxw10
        clear qxw10 exw10
        obtain ⟨M11, hM11⟩ := sz_some xw10
        have lM11 := below_sz hbxw10 hM8 hM11
        have lo12 := lo9.trans (hbxw10.mono (by omega))
        clear lo9 hbxw10
        go_upto_region 40 with fail
        refine wp_region_later1 (M11) ?_
        try simp only [Act.put, List.setIfInBounds_toArray, List.set_cons_succ, List.set_cons_zero]
        go_big_quiet_step (fail)
        refine later_b (x := (.tmp 104)) (y := (.const (.int .u64 1))) rfl (bin_add _ (BitVec.ofNat 64 k) 1#64) rfl rfl (by rfl) ?_; simp only [Act.put, List.setIfInBounds_toArray, List.set_cons_succ, List.set_cons_zero]
        go_big_quiet_step (fail)
        refine wpQuiet_nil ?_
        rintro xw13 ⟨qxw13, exw13⟩
        have hbxw13 := qxw13.b
        rw [← exw13] at hbxw13
        clear qxw13 exw13
        obtain ⟨M14, hM14⟩ := sz_some xw13
        have lM14 := below_sz hbxw13 hM11 hM14
        have lo15 := lo12.trans (hbxw13.mono (by omega))
        clear lo12 hbxw13
        go_wp2_with fail
        go_roundg (n - (k + 1))
        case rel => exact ⟨k + 1, by omega, rfl, by rw [ofNat_next], rfl, lo15⟩
        case measure => omega
      · rw [decide_eq_false hlt] at hult
        have Hu := hid hult
        clear hult
        have ek : k = n := by omega
        subst ek
        go_upto_region 39 with fail
        refine wp_region_later1 (Mr) ?_
        try simp only [Act.put, List.setIfInBounds_toArray, List.set_cons_succ, List.set_cons_zero]
        go_big_quiet_step (fail)
        go_big_quiet_step (fail)
        go_big_quiet_step (fail)
        refine later_b (x := (.tmp 100)) (y := (.tmp 101)) rfl (bin_rem _ y 64#64 (by decide)) rfl rfl (by rfl) ?_; simp only [Act.put, List.setIfInBounds_toArray, List.set_cons_succ, List.set_cons_zero]
        refine later_b (x := (.tmp 99)) (y := (.tmp 102)) rfl (BinRun.is Hu.out (bin_lss _ (BitVec.ofNat 64 k) (y % 64#64))) rfl rfl (by rfl) ?_; simp only [Act.put, List.setIfInBounds_toArray, List.set_cons_succ, List.set_cons_zero]
        refine wpQuiet_nil ?_
        rintro xw7 ⟨qxw7, exw7⟩
        have hbxw7 := qxw7.b
        rw [← exw7] at hbxw7
        clear qxw7 exw7
        obtain ⟨M8, hM8⟩ := sz_some xw7
        have lM8 := below_sz hbxw7 hMr hM8
        have lo9 := lor.trans (hbxw7.mono (by omega))
        clear lor hbxw7
        go_wp2_with fail
        go_ret
        exact ⟨by rw [ER.out]; rfl, lo9⟩
set_option maxRecDepth 100000 in
set_option maxHeartbeats 2000000 in
theorem rev_f_0 (x y : W) (w : World) (N : Nat) (hN : Sz w N) : Calls Try.prog 11 #[.int .i64 0, .bool false, Q x, Q y] w fun e w' => e = .returned (Q ((((x % 4294967296#64) + (y % 4294967296#64)) % 4294967296#64))) ∧ Below N w w' := by
  go_enter Try.func11, Try.ntmps11
  go_upto_region 2 with fail
  have lo0 : Below N w w := Below.refl N w
  refine wp_region_later1 (N) ?_
  try simp only [Act.put, List.setIfInBounds_toArray, List.set_cons_succ, List.set_cons_zero]
  go_big_quiet_step (fail)
  refine later_b (x := (.tmp 14)) (y := (.const (.int .u64 4294967296))) rfl (bin_rem _ x 4294967296#64 (by decide)) rfl rfl (by rfl) ?_; simp only [Act.put, List.setIfInBounds_toArray, List.set_cons_succ, List.set_cons_zero]
  go_big_quiet_step (fail)
  refine later_b (x := (.tmp 16)) (y := (.const (.int .u64 4294967296))) rfl (bin_rem _ y 4294967296#64 (by decide)) rfl rfl (by rfl) ?_; simp only [Act.put, List.setIfInBounds_toArray, List.set_cons_succ, List.set_cons_zero]
  go_big_quiet_step (fail)
  go_big_quiet_step (fail)
  refine wpQuiet_nil ?_
  rintro xw1 ⟨qxw1, exw1⟩
  have hbxw1 := qxw1.b
  rw [← exw1] at hbxw1
  clear qxw1 exw1
  obtain ⟨M2, hM2⟩ := sz_some xw1
  have lM2 := below_sz hbxw1 hN hM2
  have lo3 := lo0.trans (hbxw1.mono (by omega))
  clear lo0 hbxw1
  go_upto_region 9 with fail
  refine wp_region_later1 (M2) ?_
  try simp only [Act.put, List.setIfInBounds_toArray, List.set_cons_succ, List.set_cons_zero]
  go_big_quiet_step (fail)
  go_big_quiet_step (fail)
  refine later_b (x := (.tmp 22)) (y := (.tmp 23)) rfl (bin_add _ (x % 4294967296#64) (y % 4294967296#64)) rfl rfl (by rfl) ?_; simp only [Act.put, List.setIfInBounds_toArray, List.set_cons_succ, List.set_cons_zero]
  go_big_quiet_step (fail)
  refine wpQuiet_nil ?_
  rintro xw4 ⟨qxw4, exw4⟩
  have hbxw4 := qxw4.b
  rw [← exw4] at hbxw4
  clear qxw4 exw4
  obtain ⟨M5, hM5⟩ := sz_some xw4
  have lM5 := below_sz hbxw4 hM2 hM5
  have lo6 := lo3.trans (hbxw4.mono (by omega))
  clear lo3 hbxw4
  go_upto_region 43 with fail
  refine wp_region_later1 (M5) ?_
  try simp only [Act.put, List.setIfInBounds_toArray, List.set_cons_succ, List.set_cons_zero]
  go_big_quiet_step (fail)
  refine later_b (x := (.tmp 115)) (y := (.const (.int .u64 4294967296))) rfl (bin_rem _ ((x % 4294967296#64) + (y % 4294967296#64)) 4294967296#64 (by decide)) rfl rfl (by rfl) ?_; simp only [Act.put, List.setIfInBounds_toArray, List.set_cons_succ, List.set_cons_zero]
  go_big_quiet_step (fail)
  refine wpQuiet_nil ?_
  rintro xw7 ⟨qxw7, exw7⟩
  have hbxw7 := qxw7.b
  rw [← exw7] at hbxw7
  clear qxw7 exw7
  obtain ⟨M8, hM8⟩ := sz_some xw7
  have lM8 := below_sz hbxw7 hM5 hM8
  have lo9 := lo6.trans (hbxw7.mono (by omega))
  clear lo6 hbxw7
  go_wp2_with fail
  go_ret
  exact ⟨rfl, lo9⟩
set_option maxRecDepth 100000 in
set_option maxHeartbeats 2000000 in
theorem rev_f_1 (x y : W) (w : World) (N : Nat) (hN : Sz w N) : Calls Try.prog 11 #[.int .i64 1, .bool false, Q x, Q y] w fun e w' => e = .returned (Q ((((x % 4294967296#64) - (y % 4294967296#64)) % 4294967296#64))) ∧ Below N w w' := by
  go_enter Try.func11, Try.ntmps11
  go_upto_region 2 with fail
  have lo0 : Below N w w := Below.refl N w
  refine wp_region_later1 (N) ?_
  try simp only [Act.put, List.setIfInBounds_toArray, List.set_cons_succ, List.set_cons_zero]
  go_big_quiet_step (fail)
  refine later_b (x := (.tmp 14)) (y := (.const (.int .u64 4294967296))) rfl (bin_rem _ x 4294967296#64 (by decide)) rfl rfl (by rfl) ?_; simp only [Act.put, List.setIfInBounds_toArray, List.set_cons_succ, List.set_cons_zero]
  go_big_quiet_step (fail)
  refine later_b (x := (.tmp 16)) (y := (.const (.int .u64 4294967296))) rfl (bin_rem _ y 4294967296#64 (by decide)) rfl rfl (by rfl) ?_; simp only [Act.put, List.setIfInBounds_toArray, List.set_cons_succ, List.set_cons_zero]
  go_big_quiet_step (fail)
  go_big_quiet_step (fail)
  refine wpQuiet_nil ?_
  rintro xw1 ⟨qxw1, exw1⟩
  have hbxw1 := qxw1.b
  rw [← exw1] at hbxw1
  clear qxw1 exw1
  obtain ⟨M2, hM2⟩ := sz_some xw1
  have lM2 := below_sz hbxw1 hN hM2
  have lo3 := lo0.trans (hbxw1.mono (by omega))
  clear lo0 hbxw1
  go_upto_region 11 with fail
  refine wp_region_later1 (M2) ?_
  try simp only [Act.put, List.setIfInBounds_toArray, List.set_cons_succ, List.set_cons_zero]
  go_big_quiet_step (fail)
  go_big_quiet_step (fail)
  refine later_b (x := (.tmp 27)) (y := (.tmp 28)) rfl (bin_sub _ (x % 4294967296#64) (y % 4294967296#64)) rfl rfl (by rfl) ?_; simp only [Act.put, List.setIfInBounds_toArray, List.set_cons_succ, List.set_cons_zero]
  go_big_quiet_step (fail)
  refine wpQuiet_nil ?_
  rintro xw4 ⟨qxw4, exw4⟩
  have hbxw4 := qxw4.b
  rw [← exw4] at hbxw4
  clear qxw4 exw4
  obtain ⟨M5, hM5⟩ := sz_some xw4
  have lM5 := below_sz hbxw4 hM2 hM5
  have lo6 := lo3.trans (hbxw4.mono (by omega))
  clear lo3 hbxw4
  go_upto_region 43 with fail
  refine wp_region_later1 (M5) ?_
  try simp only [Act.put, List.setIfInBounds_toArray, List.set_cons_succ, List.set_cons_zero]
  go_big_quiet_step (fail)
  refine later_b (x := (.tmp 115)) (y := (.const (.int .u64 4294967296))) rfl (bin_rem _ ((x % 4294967296#64) - (y % 4294967296#64)) 4294967296#64 (by decide)) rfl rfl (by rfl) ?_; simp only [Act.put, List.setIfInBounds_toArray, List.set_cons_succ, List.set_cons_zero]
  go_big_quiet_step (fail)
  refine wpQuiet_nil ?_
  rintro xw7 ⟨qxw7, exw7⟩
  have hbxw7 := qxw7.b
  rw [← exw7] at hbxw7
  clear qxw7 exw7
  obtain ⟨M8, hM8⟩ := sz_some xw7
  have lM8 := below_sz hbxw7 hM5 hM8
  have lo9 := lo6.trans (hbxw7.mono (by omega))
  clear lo6 hbxw7
  go_wp2_with fail
  go_ret
  exact ⟨rfl, lo9⟩
set_option maxRecDepth 100000 in
set_option maxHeartbeats 2000000 in
theorem rev_f_2 (x y : W) (w : World) (N : Nat) (hN : Sz w N) : Calls Try.prog 11 #[.int .i64 2, .bool false, Q x, Q y] w fun e w' => e = .returned (Q ((((x % 4294967296#64) * (y % 4294967296#64)) % 4294967296#64))) ∧ Below N w w' := by
  go_enter Try.func11, Try.ntmps11
  go_upto_region 2 with fail
  have lo0 : Below N w w := Below.refl N w
  refine wp_region_later1 (N) ?_
  try simp only [Act.put, List.setIfInBounds_toArray, List.set_cons_succ, List.set_cons_zero]
  go_big_quiet_step (fail)
  refine later_b (x := (.tmp 14)) (y := (.const (.int .u64 4294967296))) rfl (bin_rem _ x 4294967296#64 (by decide)) rfl rfl (by rfl) ?_; simp only [Act.put, List.setIfInBounds_toArray, List.set_cons_succ, List.set_cons_zero]
  go_big_quiet_step (fail)
  refine later_b (x := (.tmp 16)) (y := (.const (.int .u64 4294967296))) rfl (bin_rem _ y 4294967296#64 (by decide)) rfl rfl (by rfl) ?_; simp only [Act.put, List.setIfInBounds_toArray, List.set_cons_succ, List.set_cons_zero]
  go_big_quiet_step (fail)
  go_big_quiet_step (fail)
  refine wpQuiet_nil ?_
  rintro xw1 ⟨qxw1, exw1⟩
  have hbxw1 := qxw1.b
  rw [← exw1] at hbxw1
  clear qxw1 exw1
  obtain ⟨M2, hM2⟩ := sz_some xw1
  have lM2 := below_sz hbxw1 hN hM2
  have lo3 := lo0.trans (hbxw1.mono (by omega))
  clear lo0 hbxw1
  go_upto_region 13 with fail
  refine wp_region_later1 (M2) ?_
  try simp only [Act.put, List.setIfInBounds_toArray, List.set_cons_succ, List.set_cons_zero]
  go_big_quiet_step (fail)
  go_big_quiet_step (fail)
  refine later_b (x := (.tmp 32)) (y := (.tmp 33)) rfl (bin_mul _ (x % 4294967296#64) (y % 4294967296#64)) rfl rfl (by rfl) ?_; simp only [Act.put, List.setIfInBounds_toArray, List.set_cons_succ, List.set_cons_zero]
  go_big_quiet_step (fail)
  refine wpQuiet_nil ?_
  rintro xw4 ⟨qxw4, exw4⟩
  have hbxw4 := qxw4.b
  rw [← exw4] at hbxw4
  clear qxw4 exw4
  obtain ⟨M5, hM5⟩ := sz_some xw4
  have lM5 := below_sz hbxw4 hM2 hM5
  have lo6 := lo3.trans (hbxw4.mono (by omega))
  clear lo3 hbxw4
  go_upto_region 43 with fail
  refine wp_region_later1 (M5) ?_
  try simp only [Act.put, List.setIfInBounds_toArray, List.set_cons_succ, List.set_cons_zero]
  go_big_quiet_step (fail)
  refine later_b (x := (.tmp 115)) (y := (.const (.int .u64 4294967296))) rfl (bin_rem _ ((x % 4294967296#64) * (y % 4294967296#64)) 4294967296#64 (by decide)) rfl rfl (by rfl) ?_; simp only [Act.put, List.setIfInBounds_toArray, List.set_cons_succ, List.set_cons_zero]
  go_big_quiet_step (fail)
  refine wpQuiet_nil ?_
  rintro xw7 ⟨qxw7, exw7⟩
  have hbxw7 := qxw7.b
  rw [← exw7] at hbxw7
  clear qxw7 exw7
  obtain ⟨M8, hM8⟩ := sz_some xw7
  have lM8 := below_sz hbxw7 hM5 hM8
  have lo9 := lo6.trans (hbxw7.mono (by omega))
  clear lo6 hbxw7
  go_wp2_with fail
  go_ret
  exact ⟨rfl, lo9⟩
set_option maxRecDepth 100000 in
set_option maxHeartbeats 2000000 in
theorem rev_f_4 (x y : W) (w : World) (N : Nat) (hN : Sz w N) : Calls Try.prog 11 #[.int .i64 4, .bool false, Q x, Q y] w fun e w' => e = .returned (Q ((((x % 4294967296#64) ||| (y % 4294967296#64)) % 4294967296#64))) ∧ Below N w w' := by
  go_enter Try.func11, Try.ntmps11
  go_upto_region 2 with fail
  have lo0 : Below N w w := Below.refl N w
  refine wp_region_later1 (N) ?_
  try simp only [Act.put, List.setIfInBounds_toArray, List.set_cons_succ, List.set_cons_zero]
  go_big_quiet_step (fail)
  refine later_b (x := (.tmp 14)) (y := (.const (.int .u64 4294967296))) rfl (bin_rem _ x 4294967296#64 (by decide)) rfl rfl (by rfl) ?_; simp only [Act.put, List.setIfInBounds_toArray, List.set_cons_succ, List.set_cons_zero]
  go_big_quiet_step (fail)
  refine later_b (x := (.tmp 16)) (y := (.const (.int .u64 4294967296))) rfl (bin_rem _ y 4294967296#64 (by decide)) rfl rfl (by rfl) ?_; simp only [Act.put, List.setIfInBounds_toArray, List.set_cons_succ, List.set_cons_zero]
  go_big_quiet_step (fail)
  go_big_quiet_step (fail)
  refine wpQuiet_nil ?_
  rintro xw1 ⟨qxw1, exw1⟩
  have hbxw1 := qxw1.b
  rw [← exw1] at hbxw1
  clear qxw1 exw1
  obtain ⟨M2, hM2⟩ := sz_some xw1
  have lM2 := below_sz hbxw1 hN hM2
  have lo3 := lo0.trans (hbxw1.mono (by omega))
  clear lo0 hbxw1
  go_upto_region 18 with fail
  refine wp_region_later1 (M2) ?_
  try simp only [Act.put, List.setIfInBounds_toArray, List.set_cons_succ, List.set_cons_zero]
  go_big_quiet_step (fail)
  go_big_quiet_step (fail)
  refine later_b (x := (.tmp 44)) (y := (.tmp 45)) rfl (bin_or _ (x % 4294967296#64) (y % 4294967296#64)) rfl rfl (by rfl) ?_; simp only [Act.put, List.setIfInBounds_toArray, List.set_cons_succ, List.set_cons_zero]
  go_big_quiet_step (fail)
  refine wpQuiet_nil ?_
  rintro xw4 ⟨qxw4, exw4⟩
  have hbxw4 := qxw4.b
  rw [← exw4] at hbxw4
  clear qxw4 exw4
  obtain ⟨M5, hM5⟩ := sz_some xw4
  have lM5 := below_sz hbxw4 hM2 hM5
  have lo6 := lo3.trans (hbxw4.mono (by omega))
  clear lo3 hbxw4
  go_upto_region 43 with fail
  refine wp_region_later1 (M5) ?_
  try simp only [Act.put, List.setIfInBounds_toArray, List.set_cons_succ, List.set_cons_zero]
  go_big_quiet_step (fail)
  refine later_b (x := (.tmp 115)) (y := (.const (.int .u64 4294967296))) rfl (bin_rem _ ((x % 4294967296#64) ||| (y % 4294967296#64)) 4294967296#64 (by decide)) rfl rfl (by rfl) ?_; simp only [Act.put, List.setIfInBounds_toArray, List.set_cons_succ, List.set_cons_zero]
  go_big_quiet_step (fail)
  refine wpQuiet_nil ?_
  rintro xw7 ⟨qxw7, exw7⟩
  have hbxw7 := qxw7.b
  rw [← exw7] at hbxw7
  clear qxw7 exw7
  obtain ⟨M8, hM8⟩ := sz_some xw7
  have lM8 := below_sz hbxw7 hM5 hM8
  have lo9 := lo6.trans (hbxw7.mono (by omega))
  clear lo6 hbxw7
  go_wp2_with fail
  go_ret
  exact ⟨rfl, lo9⟩
set_option maxRecDepth 100000 in
set_option maxHeartbeats 2000000 in
theorem rev_f_5 (x y : W) (w : World) (N : Nat) (hN : Sz w N) : Calls Try.prog 11 #[.int .i64 5, .bool false, Q x, Q y] w fun e w' => e = .returned (Q ((((x % 4294967296#64) &&& (y % 4294967296#64)) % 4294967296#64))) ∧ Below N w w' := by
  go_enter Try.func11, Try.ntmps11
  go_upto_region 2 with fail
  have lo0 : Below N w w := Below.refl N w
  refine wp_region_later1 (N) ?_
  try simp only [Act.put, List.setIfInBounds_toArray, List.set_cons_succ, List.set_cons_zero]
  go_big_quiet_step (fail)
  refine later_b (x := (.tmp 14)) (y := (.const (.int .u64 4294967296))) rfl (bin_rem _ x 4294967296#64 (by decide)) rfl rfl (by rfl) ?_; simp only [Act.put, List.setIfInBounds_toArray, List.set_cons_succ, List.set_cons_zero]
  go_big_quiet_step (fail)
  refine later_b (x := (.tmp 16)) (y := (.const (.int .u64 4294967296))) rfl (bin_rem _ y 4294967296#64 (by decide)) rfl rfl (by rfl) ?_; simp only [Act.put, List.setIfInBounds_toArray, List.set_cons_succ, List.set_cons_zero]
  go_big_quiet_step (fail)
  go_big_quiet_step (fail)
  refine wpQuiet_nil ?_
  rintro xw1 ⟨qxw1, exw1⟩
  have hbxw1 := qxw1.b
  rw [← exw1] at hbxw1
  clear qxw1 exw1
  obtain ⟨M2, hM2⟩ := sz_some xw1
  have lM2 := below_sz hbxw1 hN hM2
  have lo3 := lo0.trans (hbxw1.mono (by omega))
  clear lo0 hbxw1
  go_upto_region 20 with fail
  refine wp_region_later1 (M2) ?_
  try simp only [Act.put, List.setIfInBounds_toArray, List.set_cons_succ, List.set_cons_zero]
  go_big_quiet_step (fail)
  go_big_quiet_step (fail)
  refine later_b (x := (.tmp 49)) (y := (.tmp 50)) rfl (bin_and _ (x % 4294967296#64) (y % 4294967296#64)) rfl rfl (by rfl) ?_; simp only [Act.put, List.setIfInBounds_toArray, List.set_cons_succ, List.set_cons_zero]
  go_big_quiet_step (fail)
  refine wpQuiet_nil ?_
  rintro xw4 ⟨qxw4, exw4⟩
  have hbxw4 := qxw4.b
  rw [← exw4] at hbxw4
  clear qxw4 exw4
  obtain ⟨M5, hM5⟩ := sz_some xw4
  have lM5 := below_sz hbxw4 hM2 hM5
  have lo6 := lo3.trans (hbxw4.mono (by omega))
  clear lo3 hbxw4
  go_upto_region 43 with fail
  refine wp_region_later1 (M5) ?_
  try simp only [Act.put, List.setIfInBounds_toArray, List.set_cons_succ, List.set_cons_zero]
  go_big_quiet_step (fail)
  refine later_b (x := (.tmp 115)) (y := (.const (.int .u64 4294967296))) rfl (bin_rem _ ((x % 4294967296#64) &&& (y % 4294967296#64)) 4294967296#64 (by decide)) rfl rfl (by rfl) ?_; simp only [Act.put, List.setIfInBounds_toArray, List.set_cons_succ, List.set_cons_zero]
  go_big_quiet_step (fail)
  refine wpQuiet_nil ?_
  rintro xw7 ⟨qxw7, exw7⟩
  have hbxw7 := qxw7.b
  rw [← exw7] at hbxw7
  clear qxw7 exw7
  obtain ⟨M8, hM8⟩ := sz_some xw7
  have lM8 := below_sz hbxw7 hM5 hM8
  have lo9 := lo6.trans (hbxw7.mono (by omega))
  clear lo6 hbxw7
  go_wp2_with fail
  go_ret
  exact ⟨rfl, lo9⟩
set_option maxRecDepth 100000 in
set_option maxHeartbeats 2000000 in
theorem rev_f_6 (x y : W) (w : World) (N : Nat) (hN : Sz w N) : Calls Try.prog 11 #[.int .i64 6, .bool false, Q x, Q y] w fun e w' => e = .returned (Q ((((x % 4294967296#64) <<< ((y % 4294967296#64) % 32#64).toNat) % 4294967296#64))) ∧ Below N w w' := by
  go_enter Try.func11, Try.ntmps11
  go_upto_region 2 with fail
  have lo0 : Below N w w := Below.refl N w
  refine wp_region_later1 (N) ?_
  try simp only [Act.put, List.setIfInBounds_toArray, List.set_cons_succ, List.set_cons_zero]
  go_big_quiet_step (fail)
  refine later_b (x := (.tmp 14)) (y := (.const (.int .u64 4294967296))) rfl (bin_rem _ x 4294967296#64 (by decide)) rfl rfl (by rfl) ?_; simp only [Act.put, List.setIfInBounds_toArray, List.set_cons_succ, List.set_cons_zero]
  go_big_quiet_step (fail)
  refine later_b (x := (.tmp 16)) (y := (.const (.int .u64 4294967296))) rfl (bin_rem _ y 4294967296#64 (by decide)) rfl rfl (by rfl) ?_; simp only [Act.put, List.setIfInBounds_toArray, List.set_cons_succ, List.set_cons_zero]
  go_big_quiet_step (fail)
  go_big_quiet_step (fail)
  refine wpQuiet_nil ?_
  rintro xw1 ⟨qxw1, exw1⟩
  have hbxw1 := qxw1.b
  rw [← exw1] at hbxw1
  clear qxw1 exw1
  obtain ⟨M2, hM2⟩ := sz_some xw1
  have lM2 := below_sz hbxw1 hN hM2
  have lo3 := lo0.trans (hbxw1.mono (by omega))
  clear lo0 hbxw1
  go_upto_region 22 with fail
  refine wp_region_later1 (M2) ?_
  try simp only [Act.put, List.setIfInBounds_toArray, List.set_cons_succ, List.set_cons_zero]
  go_big_quiet_step (fail)
  go_big_quiet_step (fail)
  go_big_quiet_step (fail)
  refine later_b (x := (.tmp 55)) (y := (.tmp 56)) rfl (bin_rem _ (y % 4294967296#64) 32#64 (by decide)) rfl rfl (by rfl) ?_; simp only [Act.put, List.setIfInBounds_toArray, List.set_cons_succ, List.set_cons_zero]
  refine later_b (x := (.tmp 54)) (y := (.tmp 57)) rfl (bin_shlu _ (x % 4294967296#64) ((y % 4294967296#64) % 32#64)) rfl rfl (by rfl) ?_; simp only [Act.put, List.setIfInBounds_toArray, List.set_cons_succ, List.set_cons_zero]
  go_big_quiet_step (fail)
  refine wpQuiet_nil ?_
  rintro xw4 ⟨qxw4, exw4⟩
  have hbxw4 := qxw4.b
  rw [← exw4] at hbxw4
  clear qxw4 exw4
  obtain ⟨M5, hM5⟩ := sz_some xw4
  have lM5 := below_sz hbxw4 hM2 hM5
  have lo6 := lo3.trans (hbxw4.mono (by omega))
  clear lo3 hbxw4
  go_upto_region 43 with fail
  refine wp_region_later1 (M5) ?_
  try simp only [Act.put, List.setIfInBounds_toArray, List.set_cons_succ, List.set_cons_zero]
  go_big_quiet_step (fail)
  refine later_b (x := (.tmp 115)) (y := (.const (.int .u64 4294967296))) rfl (bin_rem _ ((x % 4294967296#64) <<< (((y % 4294967296#64) % 32#64)).toNat) 4294967296#64 (by decide)) rfl rfl (by rfl) ?_; simp only [Act.put, List.setIfInBounds_toArray, List.set_cons_succ, List.set_cons_zero]
  go_big_quiet_step (fail)
  refine wpQuiet_nil ?_
  rintro xw7 ⟨qxw7, exw7⟩
  have hbxw7 := qxw7.b
  rw [← exw7] at hbxw7
  clear qxw7 exw7
  obtain ⟨M8, hM8⟩ := sz_some xw7
  have lM8 := below_sz hbxw7 hM5 hM8
  have lo9 := lo6.trans (hbxw7.mono (by omega))
  clear lo6 hbxw7
  go_wp2_with fail
  go_ret
  exact ⟨rfl, lo9⟩
set_option maxRecDepth 100000 in
set_option maxHeartbeats 2000000 in
theorem rev_f_7 (x y : W) (w : World) (N : Nat) (hN : Sz w N) : Calls Try.prog 11 #[.int .i64 7, .bool false, Q x, Q y] w fun e w' => e = .returned (Q ((((x % 4294967296#64) >>> ((y % 4294967296#64) % 32#64).toNat) % 4294967296#64))) ∧ Below N w w' := by
  go_enter Try.func11, Try.ntmps11
  go_upto_region 2 with fail
  have lo0 : Below N w w := Below.refl N w
  refine wp_region_later1 (N) ?_
  try simp only [Act.put, List.setIfInBounds_toArray, List.set_cons_succ, List.set_cons_zero]
  go_big_quiet_step (fail)
  refine later_b (x := (.tmp 14)) (y := (.const (.int .u64 4294967296))) rfl (bin_rem _ x 4294967296#64 (by decide)) rfl rfl (by rfl) ?_; simp only [Act.put, List.setIfInBounds_toArray, List.set_cons_succ, List.set_cons_zero]
  go_big_quiet_step (fail)
  refine later_b (x := (.tmp 16)) (y := (.const (.int .u64 4294967296))) rfl (bin_rem _ y 4294967296#64 (by decide)) rfl rfl (by rfl) ?_; simp only [Act.put, List.setIfInBounds_toArray, List.set_cons_succ, List.set_cons_zero]
  go_big_quiet_step (fail)
  go_big_quiet_step (fail)
  refine wpQuiet_nil ?_
  rintro xw1 ⟨qxw1, exw1⟩
  have hbxw1 := qxw1.b
  rw [← exw1] at hbxw1
  clear qxw1 exw1
  obtain ⟨M2, hM2⟩ := sz_some xw1
  have lM2 := below_sz hbxw1 hN hM2
  have lo3 := lo0.trans (hbxw1.mono (by omega))
  clear lo0 hbxw1
  go_upto_region 24 with fail
  refine wp_region_later1 (M2) ?_
  try simp only [Act.put, List.setIfInBounds_toArray, List.set_cons_succ, List.set_cons_zero]
  go_big_quiet_step (fail)
  go_big_quiet_step (fail)
  go_big_quiet_step (fail)
  refine later_b (x := (.tmp 62)) (y := (.tmp 63)) rfl (bin_rem _ (y % 4294967296#64) 32#64 (by decide)) rfl rfl (by rfl) ?_; simp only [Act.put, List.setIfInBounds_toArray, List.set_cons_succ, List.set_cons_zero]
  refine later_b (x := (.tmp 61)) (y := (.tmp 64)) rfl (bin_shru _ (x % 4294967296#64) ((y % 4294967296#64) % 32#64)) rfl rfl (by rfl) ?_; simp only [Act.put, List.setIfInBounds_toArray, List.set_cons_succ, List.set_cons_zero]
  go_big_quiet_step (fail)
  refine wpQuiet_nil ?_
  rintro xw4 ⟨qxw4, exw4⟩
  have hbxw4 := qxw4.b
  rw [← exw4] at hbxw4
  clear qxw4 exw4
  obtain ⟨M5, hM5⟩ := sz_some xw4
  have lM5 := below_sz hbxw4 hM2 hM5
  have lo6 := lo3.trans (hbxw4.mono (by omega))
  clear lo3 hbxw4
  go_upto_region 43 with fail
  refine wp_region_later1 (M5) ?_
  try simp only [Act.put, List.setIfInBounds_toArray, List.set_cons_succ, List.set_cons_zero]
  go_big_quiet_step (fail)
  refine later_b (x := (.tmp 115)) (y := (.const (.int .u64 4294967296))) rfl (bin_rem _ ((x % 4294967296#64) >>> (((y % 4294967296#64) % 32#64)).toNat) 4294967296#64 (by decide)) rfl rfl (by rfl) ?_; simp only [Act.put, List.setIfInBounds_toArray, List.set_cons_succ, List.set_cons_zero]
  go_big_quiet_step (fail)
  refine wpQuiet_nil ?_
  rintro xw7 ⟨qxw7, exw7⟩
  have hbxw7 := qxw7.b
  rw [← exw7] at hbxw7
  clear qxw7 exw7
  obtain ⟨M8, hM8⟩ := sz_some xw7
  have lM8 := below_sz hbxw7 hM5 hM8
  have lo9 := lo6.trans (hbxw7.mono (by omega))
  clear lo6 hbxw7
  go_wp2_with fail
  go_ret
  exact ⟨rfl, lo9⟩
set_option maxRecDepth 100000 in
set_option maxHeartbeats 2000000 in
theorem rev_f_8 (x y : W) (w : World) (N : Nat) (hN : Sz w N) : Calls Try.prog 11 #[.int .i64 8, .bool false, Q x, Q y] w fun e w' => e = .returned (Q (((0#64 - (x % 4294967296#64)) % 4294967296#64))) ∧ Below N w w' := by
  go_enter Try.func11, Try.ntmps11
  go_upto_region 2 with fail
  have lo0 : Below N w w := Below.refl N w
  refine wp_region_later1 (N) ?_
  try simp only [Act.put, List.setIfInBounds_toArray, List.set_cons_succ, List.set_cons_zero]
  go_big_quiet_step (fail)
  refine later_b (x := (.tmp 14)) (y := (.const (.int .u64 4294967296))) rfl (bin_rem _ x 4294967296#64 (by decide)) rfl rfl (by rfl) ?_; simp only [Act.put, List.setIfInBounds_toArray, List.set_cons_succ, List.set_cons_zero]
  go_big_quiet_step (fail)
  refine later_b (x := (.tmp 16)) (y := (.const (.int .u64 4294967296))) rfl (bin_rem _ y 4294967296#64 (by decide)) rfl rfl (by rfl) ?_; simp only [Act.put, List.setIfInBounds_toArray, List.set_cons_succ, List.set_cons_zero]
  go_big_quiet_step (fail)
  go_big_quiet_step (fail)
  refine wpQuiet_nil ?_
  rintro xw1 ⟨qxw1, exw1⟩
  have hbxw1 := qxw1.b
  rw [← exw1] at hbxw1
  clear qxw1 exw1
  obtain ⟨M2, hM2⟩ := sz_some xw1
  have lM2 := below_sz hbxw1 hN hM2
  have lo3 := lo0.trans (hbxw1.mono (by omega))
  clear lo0 hbxw1
  go_upto_region 26 with fail
  refine wp_region_later1 (M2) ?_
  try simp only [Act.put, List.setIfInBounds_toArray, List.set_cons_succ, List.set_cons_zero]
  go_big_quiet_step (fail)
  refine later_b (x := (.const (.int .u64 0))) (y := (.tmp 68)) rfl (bin_sub _ 0#64 (x % 4294967296#64)) rfl rfl (by rfl) ?_; simp only [Act.put, List.setIfInBounds_toArray, List.set_cons_succ, List.set_cons_zero]
  go_big_quiet_step (fail)
  refine wpQuiet_nil ?_
  rintro xw4 ⟨qxw4, exw4⟩
  have hbxw4 := qxw4.b
  rw [← exw4] at hbxw4
  clear qxw4 exw4
  obtain ⟨M5, hM5⟩ := sz_some xw4
  have lM5 := below_sz hbxw4 hM2 hM5
  have lo6 := lo3.trans (hbxw4.mono (by omega))
  clear lo3 hbxw4
  go_upto_region 43 with fail
  refine wp_region_later1 (M5) ?_
  try simp only [Act.put, List.setIfInBounds_toArray, List.set_cons_succ, List.set_cons_zero]
  go_big_quiet_step (fail)
  refine later_b (x := (.tmp 115)) (y := (.const (.int .u64 4294967296))) rfl (bin_rem _ (0#64 - (x % 4294967296#64)) 4294967296#64 (by decide)) rfl rfl (by rfl) ?_; simp only [Act.put, List.setIfInBounds_toArray, List.set_cons_succ, List.set_cons_zero]
  go_big_quiet_step (fail)
  refine wpQuiet_nil ?_
  rintro xw7 ⟨qxw7, exw7⟩
  have hbxw7 := qxw7.b
  rw [← exw7] at hbxw7
  clear qxw7 exw7
  obtain ⟨M8, hM8⟩ := sz_some xw7
  have lM8 := below_sz hbxw7 hM5 hM8
  have lo9 := lo6.trans (hbxw7.mono (by omega))
  clear lo6 hbxw7
  go_wp2_with fail
  go_ret
  exact ⟨rfl, lo9⟩
set_option maxRecDepth 100000 in
set_option maxHeartbeats 2000000 in
theorem rev_f_10 (x y : W) (w : World) (N : Nat) (hN : Sz w N) : Calls Try.prog 11 #[.int .i64 10, .bool false, Q x, Q y] w fun e w' => e = .returned (Q ((((x % 4294967296#64) ^^^ (y % 4294967296#64)) % 4294967296#64))) ∧ Below N w w' := by
  go_enter Try.func11, Try.ntmps11
  go_upto_region 2 with fail
  have lo0 : Below N w w := Below.refl N w
  refine wp_region_later1 (N) ?_
  try simp only [Act.put, List.setIfInBounds_toArray, List.set_cons_succ, List.set_cons_zero]
  go_big_quiet_step (fail)
  refine later_b (x := (.tmp 14)) (y := (.const (.int .u64 4294967296))) rfl (bin_rem _ x 4294967296#64 (by decide)) rfl rfl (by rfl) ?_; simp only [Act.put, List.setIfInBounds_toArray, List.set_cons_succ, List.set_cons_zero]
  go_big_quiet_step (fail)
  refine later_b (x := (.tmp 16)) (y := (.const (.int .u64 4294967296))) rfl (bin_rem _ y 4294967296#64 (by decide)) rfl rfl (by rfl) ?_; simp only [Act.put, List.setIfInBounds_toArray, List.set_cons_succ, List.set_cons_zero]
  go_big_quiet_step (fail)
  go_big_quiet_step (fail)
  refine wpQuiet_nil ?_
  rintro xw1 ⟨qxw1, exw1⟩
  have hbxw1 := qxw1.b
  rw [← exw1] at hbxw1
  clear qxw1 exw1
  obtain ⟨M2, hM2⟩ := sz_some xw1
  have lM2 := below_sz hbxw1 hN hM2
  have lo3 := lo0.trans (hbxw1.mono (by omega))
  clear lo0 hbxw1
  go_upto_region 32 with fail
  refine wp_region_later1 (M2) ?_
  try simp only [Act.put, List.setIfInBounds_toArray, List.set_cons_succ, List.set_cons_zero]
  go_big_quiet_step (fail)
  go_big_quiet_step (fail)
  refine later_b (x := (.tmp 80)) (y := (.tmp 81)) rfl (bin_xor _ (x % 4294967296#64) (y % 4294967296#64)) rfl rfl (by rfl) ?_; simp only [Act.put, List.setIfInBounds_toArray, List.set_cons_succ, List.set_cons_zero]
  go_big_quiet_step (fail)
  refine wpQuiet_nil ?_
  rintro xw4 ⟨qxw4, exw4⟩
  have hbxw4 := qxw4.b
  rw [← exw4] at hbxw4
  clear qxw4 exw4
  obtain ⟨M5, hM5⟩ := sz_some xw4
  have lM5 := below_sz hbxw4 hM2 hM5
  have lo6 := lo3.trans (hbxw4.mono (by omega))
  clear lo3 hbxw4
  go_upto_region 43 with fail
  refine wp_region_later1 (M5) ?_
  try simp only [Act.put, List.setIfInBounds_toArray, List.set_cons_succ, List.set_cons_zero]
  go_big_quiet_step (fail)
  refine later_b (x := (.tmp 115)) (y := (.const (.int .u64 4294967296))) rfl (bin_rem _ ((x % 4294967296#64) ^^^ (y % 4294967296#64)) 4294967296#64 (by decide)) rfl rfl (by rfl) ?_; simp only [Act.put, List.setIfInBounds_toArray, List.set_cons_succ, List.set_cons_zero]
  go_big_quiet_step (fail)
  refine wpQuiet_nil ?_
  rintro xw7 ⟨qxw7, exw7⟩
  have hbxw7 := qxw7.b
  rw [← exw7] at hbxw7
  clear qxw7 exw7
  obtain ⟨M8, hM8⟩ := sz_some xw7
  have lM8 := below_sz hbxw7 hM5 hM8
  have lo9 := lo6.trans (hbxw7.mono (by omega))
  clear lo6 hbxw7
  go_wp2_with fail
  go_ret
  exact ⟨rfl, lo9⟩
set_option maxRecDepth 100000 in
set_option maxHeartbeats 2000000 in
theorem rev_f_11 (x y : W) (w : World) (N : Nat) (hN : Sz w N) : Calls Try.prog 11 #[.int .i64 11, .bool false, Q x, Q y] w fun e w' => e = .returned (Q ((((y % 4294967296#64)) % 4294967296#64))) ∧ Below N w w' := by
  go_enter Try.func11, Try.ntmps11
  go_upto_region 2 with fail
  have lo0 : Below N w w := Below.refl N w
  refine wp_region_later1 (N) ?_
  try simp only [Act.put, List.setIfInBounds_toArray, List.set_cons_succ, List.set_cons_zero]
  go_big_quiet_step (fail)
  refine later_b (x := (.tmp 14)) (y := (.const (.int .u64 4294967296))) rfl (bin_rem _ x 4294967296#64 (by decide)) rfl rfl (by rfl) ?_; simp only [Act.put, List.setIfInBounds_toArray, List.set_cons_succ, List.set_cons_zero]
  go_big_quiet_step (fail)
  refine later_b (x := (.tmp 16)) (y := (.const (.int .u64 4294967296))) rfl (bin_rem _ y 4294967296#64 (by decide)) rfl rfl (by rfl) ?_; simp only [Act.put, List.setIfInBounds_toArray, List.set_cons_succ, List.set_cons_zero]
  go_big_quiet_step (fail)
  go_big_quiet_step (fail)
  refine wpQuiet_nil ?_
  rintro xw1 ⟨qxw1, exw1⟩
  have hbxw1 := qxw1.b
  rw [← exw1] at hbxw1
  clear qxw1 exw1
  obtain ⟨M2, hM2⟩ := sz_some xw1
  have lM2 := below_sz hbxw1 hN hM2
  have lo3 := lo0.trans (hbxw1.mono (by omega))
  clear lo0 hbxw1
  go_upto_region 34 with fail
  refine wp_region_later1 (M2) ?_
  try simp only [Act.put, List.setIfInBounds_toArray, List.set_cons_succ, List.set_cons_zero]
  go_big_quiet_step (fail)
  go_big_quiet_step (fail)
  refine wpQuiet_nil ?_
  rintro xw4 ⟨qxw4, exw4⟩
  have hbxw4 := qxw4.b
  rw [← exw4] at hbxw4
  clear qxw4 exw4
  obtain ⟨M5, hM5⟩ := sz_some xw4
  have lM5 := below_sz hbxw4 hM2 hM5
  have lo6 := lo3.trans (hbxw4.mono (by omega))
  clear lo3 hbxw4
  go_upto_region 43 with fail
  refine wp_region_later1 (M5) ?_
  try simp only [Act.put, List.setIfInBounds_toArray, List.set_cons_succ, List.set_cons_zero]
  go_big_quiet_step (fail)
  refine later_b (x := (.tmp 115)) (y := (.const (.int .u64 4294967296))) rfl (bin_rem _ (y % 4294967296#64) 4294967296#64 (by decide)) rfl rfl (by rfl) ?_; simp only [Act.put, List.setIfInBounds_toArray, List.set_cons_succ, List.set_cons_zero]
  go_big_quiet_step (fail)
  refine wpQuiet_nil ?_
  rintro xw7 ⟨qxw7, exw7⟩
  have hbxw7 := qxw7.b
  rw [← exw7] at hbxw7
  clear qxw7 exw7
  obtain ⟨M8, hM8⟩ := sz_some xw7
  have lM8 := below_sz hbxw7 hM5 hM8
  have lo9 := lo6.trans (hbxw7.mono (by omega))
  clear lo6 hbxw7
  go_wp2_with fail
  go_ret
  exact ⟨rfl, lo9⟩
set_option maxRecDepth 100000 in
set_option maxHeartbeats 2000000 in
theorem rev_f_3 (x y : W) (w : World) (N : Nat) (hN : Sz w N) : Calls Try.prog 11 #[.int .i64 3, .bool false, Q x, Q y] w fun e w' => e = .returned (Q ((((x % 4294967296#64) / (y % 4294967296#64)) % 4294967296#64))) ∧ Below N w w' := by
  cases hy : ((y % 4294967296#64) == 0#64)
  · have Hy : Hid (((y % 4294967296#64) != 0#64) = true) := hid (by rw [bne, hy]; rfl)
    have Hn := hid (show (y % 4294967296#64) ≠ 0#64 from fun e => by rw [e] at hy; cases hy)
    clear hy
    go_enter Try.func11, Try.ntmps11
    go_upto_region 2 with fail
    have lo0 : Below N w w := Below.refl N w
    refine wp_region_later1 (N) ?_
    try simp only [Act.put, List.setIfInBounds_toArray, List.set_cons_succ, List.set_cons_zero]
    go_big_quiet_step (fail)
    refine later_b (x := (.tmp 14)) (y := (.const (.int .u64 4294967296))) rfl (bin_rem _ x 4294967296#64 (by decide)) rfl rfl (by rfl) ?_; simp only [Act.put, List.setIfInBounds_toArray, List.set_cons_succ, List.set_cons_zero]
    go_big_quiet_step (fail)
    refine later_b (x := (.tmp 16)) (y := (.const (.int .u64 4294967296))) rfl (bin_rem _ y 4294967296#64 (by decide)) rfl rfl (by rfl) ?_; simp only [Act.put, List.setIfInBounds_toArray, List.set_cons_succ, List.set_cons_zero]
    go_big_quiet_step (fail)
    go_big_quiet_step (fail)
    refine wpQuiet_nil ?_
    rintro xw1 ⟨qxw1, exw1⟩
    have hbxw1 := qxw1.b
    rw [← exw1] at hbxw1
    clear qxw1 exw1
    obtain ⟨M2, hM2⟩ := sz_some xw1
    have lM2 := below_sz hbxw1 hN hM2
    have lo3 := lo0.trans (hbxw1.mono (by omega))
    clear lo0 hbxw1
    go_upto_region 15 with fail
    refine wp_region_later1 (M2) ?_
    try simp only [Act.put, List.setIfInBounds_toArray, List.set_cons_succ, List.set_cons_zero]
    go_big_quiet_step (fail)
    refine later_b (x := (.tmp 37)) (y := (.const (.int .u64 0))) rfl (BinRun.is Hy.out (bin_neq _ (y % 4294967296#64) 0#64)) rfl rfl (by rfl) ?_; simp only [Act.put, List.setIfInBounds_toArray, List.set_cons_succ, List.set_cons_zero]
    refine wpQuiet_nil ?_
    rintro xw4 ⟨qxw4, exw4⟩
    have hbxw4 := qxw4.b
    rw [← exw4] at hbxw4
    clear qxw4 exw4
    obtain ⟨M5, hM5⟩ := sz_some xw4
    have lM5 := below_sz hbxw4 hM2 hM5
    have lo6 := lo3.trans (hbxw4.mono (by omega))
    clear lo3 hbxw4
    go_upto_region 16 with fail
    refine wp_region_later1 (M5) ?_
    try simp only [Act.put, List.setIfInBounds_toArray, List.set_cons_succ, List.set_cons_zero]
    go_big_quiet_step (fail)
    go_big_quiet_step (fail)
    refine later_b (x := (.tmp 39)) (y := (.tmp 40)) rfl (bin_quo _ (x % 4294967296#64) (y % 4294967296#64) Hn.out) rfl rfl (by rfl) ?_; simp only [Act.put, List.setIfInBounds_toArray, List.set_cons_succ, List.set_cons_zero]
    go_big_quiet_step (fail)
    refine wpQuiet_nil ?_
    rintro xw7 ⟨qxw7, exw7⟩
    have hbxw7 := qxw7.b
    rw [← exw7] at hbxw7
    clear qxw7 exw7
    obtain ⟨M8, hM8⟩ := sz_some xw7
    have lM8 := below_sz hbxw7 hM5 hM8
    have lo9 := lo6.trans (hbxw7.mono (by omega))
    clear lo6 hbxw7
    go_upto_region 43 with fail
    refine wp_region_later1 (M8) ?_
    try simp only [Act.put, List.setIfInBounds_toArray, List.set_cons_succ, List.set_cons_zero]
    go_big_quiet_step (fail)
    refine later_b (x := (.tmp 115)) (y := (.const (.int .u64 4294967296))) rfl (bin_rem _ ((x % 4294967296#64) / (y % 4294967296#64)) 4294967296#64 (by decide)) rfl rfl (by rfl) ?_; simp only [Act.put, List.setIfInBounds_toArray, List.set_cons_succ, List.set_cons_zero]
    go_big_quiet_step (fail)
    refine wpQuiet_nil ?_
    rintro xw10 ⟨qxw10, exw10⟩
    have hbxw10 := qxw10.b
    rw [← exw10] at hbxw10
    clear qxw10 exw10
    obtain ⟨M11, hM11⟩ := sz_some xw10
    have lM11 := below_sz hbxw10 hM8 hM11
    have lo12 := lo9.trans (hbxw10.mono (by omega))
    clear lo9 hbxw10
    go_wp2_with fail
    go_ret
    exact ⟨rfl, lo12⟩
  · have Hy : Hid (((y % 4294967296#64) != 0#64) = false) := hid (by rw [bne, hy]; rfl)
    have E := hid (show (x % 4294967296#64) / (y % 4294967296#64) = 0#64 by rw [beq_iff_eq.1 hy]; exact BitVec.udiv_zero)
    clear hy
    go_enter Try.func11, Try.ntmps11
    go_upto_region 2 with fail
    have lo0 : Below N w w := Below.refl N w
    refine wp_region_later1 (N) ?_
    try simp only [Act.put, List.setIfInBounds_toArray, List.set_cons_succ, List.set_cons_zero]
    go_big_quiet_step (fail)
    refine later_b (x := (.tmp 14)) (y := (.const (.int .u64 4294967296))) rfl (bin_rem _ x 4294967296#64 (by decide)) rfl rfl (by rfl) ?_; simp only [Act.put, List.setIfInBounds_toArray, List.set_cons_succ, List.set_cons_zero]
    go_big_quiet_step (fail)
    refine later_b (x := (.tmp 16)) (y := (.const (.int .u64 4294967296))) rfl (bin_rem _ y 4294967296#64 (by decide)) rfl rfl (by rfl) ?_; simp only [Act.put, List.setIfInBounds_toArray, List.set_cons_succ, List.set_cons_zero]
    go_big_quiet_step (fail)
    go_big_quiet_step (fail)
    refine wpQuiet_nil ?_
    rintro xw1 ⟨qxw1, exw1⟩
    have hbxw1 := qxw1.b
    rw [← exw1] at hbxw1
    clear qxw1 exw1
    obtain ⟨M2, hM2⟩ := sz_some xw1
    have lM2 := below_sz hbxw1 hN hM2
    have lo3 := lo0.trans (hbxw1.mono (by omega))
    clear lo0 hbxw1
    go_upto_region 15 with fail
    refine wp_region_later1 (M2) ?_
    try simp only [Act.put, List.setIfInBounds_toArray, List.set_cons_succ, List.set_cons_zero]
    go_big_quiet_step (fail)
    refine later_b (x := (.tmp 37)) (y := (.const (.int .u64 0))) rfl (BinRun.is Hy.out (bin_neq _ (y % 4294967296#64) 0#64)) rfl rfl (by rfl) ?_; simp only [Act.put, List.setIfInBounds_toArray, List.set_cons_succ, List.set_cons_zero]
    refine wpQuiet_nil ?_
    rintro xw4 ⟨qxw4, exw4⟩
    have hbxw4 := qxw4.b
    rw [← exw4] at hbxw4
    clear qxw4 exw4
    obtain ⟨M5, hM5⟩ := sz_some xw4
    have lM5 := below_sz hbxw4 hM2 hM5
    have lo6 := lo3.trans (hbxw4.mono (by omega))
    clear lo3 hbxw4
    go_upto_region 43 with fail
    refine wp_region_later1 (M5) ?_
    try simp only [Act.put, List.setIfInBounds_toArray, List.set_cons_succ, List.set_cons_zero]
    go_big_quiet_step (fail)
    refine later_b (x := (.tmp 115)) (y := (.const (.int .u64 4294967296))) rfl (bin_rem _ 0#64 4294967296#64 (by decide)) rfl rfl (by rfl) ?_; simp only [Act.put, List.setIfInBounds_toArray, List.set_cons_succ, List.set_cons_zero]
    go_big_quiet_step (fail)
    refine wpQuiet_nil ?_
    rintro xw7 ⟨qxw7, exw7⟩
    have hbxw7 := qxw7.b
    rw [← exw7] at hbxw7
    clear qxw7 exw7
    obtain ⟨M8, hM8⟩ := sz_some xw7
    have lM8 := below_sz hbxw7 hM5 hM8
    have lo9 := lo6.trans (hbxw7.mono (by omega))
    clear lo6 hbxw7
    go_wp2_with fail
    go_ret
    exact ⟨by rw [E.out]; rfl, lo9⟩
set_option maxRecDepth 100000 in
set_option maxHeartbeats 2000000 in
theorem rev_f_9 (x y : W) (w : World) (N : Nat) (hN : Sz w N) : Calls Try.prog 11 #[.int .i64 9, .bool false, Q x, Q y] w fun e w' => e = .returned (Q ((((x % 4294967296#64) % (y % 4294967296#64)) % 4294967296#64))) ∧ Below N w w' := by
  cases hy : ((y % 4294967296#64) == 0#64)
  · have Hy : Hid (((y % 4294967296#64) != 0#64) = true) := hid (by rw [bne, hy]; rfl)
    have Hn := hid (show (y % 4294967296#64) ≠ 0#64 from fun e => by rw [e] at hy; cases hy)
    clear hy
    go_enter Try.func11, Try.ntmps11
    go_upto_region 2 with fail
    have lo0 : Below N w w := Below.refl N w
    refine wp_region_later1 (N) ?_
    try simp only [Act.put, List.setIfInBounds_toArray, List.set_cons_succ, List.set_cons_zero]
    go_big_quiet_step (fail)
    refine later_b (x := (.tmp 14)) (y := (.const (.int .u64 4294967296))) rfl (bin_rem _ x 4294967296#64 (by decide)) rfl rfl (by rfl) ?_; simp only [Act.put, List.setIfInBounds_toArray, List.set_cons_succ, List.set_cons_zero]
    go_big_quiet_step (fail)
    refine later_b (x := (.tmp 16)) (y := (.const (.int .u64 4294967296))) rfl (bin_rem _ y 4294967296#64 (by decide)) rfl rfl (by rfl) ?_; simp only [Act.put, List.setIfInBounds_toArray, List.set_cons_succ, List.set_cons_zero]
    go_big_quiet_step (fail)
    go_big_quiet_step (fail)
    refine wpQuiet_nil ?_
    rintro xw1 ⟨qxw1, exw1⟩
    have hbxw1 := qxw1.b
    rw [← exw1] at hbxw1
    clear qxw1 exw1
    obtain ⟨M2, hM2⟩ := sz_some xw1
    have lM2 := below_sz hbxw1 hN hM2
    have lo3 := lo0.trans (hbxw1.mono (by omega))
    clear lo0 hbxw1
    go_upto_region 28 with fail
    refine wp_region_later1 (M2) ?_
    try simp only [Act.put, List.setIfInBounds_toArray, List.set_cons_succ, List.set_cons_zero]
    go_big_quiet_step (fail)
    go_big_quiet_step (fail)
    refine wpQuiet_nil ?_
    rintro xw4 ⟨qxw4, exw4⟩
    have hbxw4 := qxw4.b
    rw [← exw4] at hbxw4
    clear qxw4 exw4
    obtain ⟨M5, hM5⟩ := sz_some xw4
    have lM5 := below_sz hbxw4 hM2 hM5
    have lo6 := lo3.trans (hbxw4.mono (by omega))
    clear lo3 hbxw4
    go_upto_region 29 with fail
    refine wp_region_later1 (M5) ?_
    try simp only [Act.put, List.setIfInBounds_toArray, List.set_cons_succ, List.set_cons_zero]
    go_big_quiet_step (fail)
    refine later_b (x := (.tmp 73)) (y := (.const (.int .u64 0))) rfl (BinRun.is Hy.out (bin_neq _ (y % 4294967296#64) 0#64)) rfl rfl (by rfl) ?_; simp only [Act.put, List.setIfInBounds_toArray, List.set_cons_succ, List.set_cons_zero]
    refine wpQuiet_nil ?_
    rintro xw7 ⟨qxw7, exw7⟩
    have hbxw7 := qxw7.b
    rw [← exw7] at hbxw7
    clear qxw7 exw7
    obtain ⟨M8, hM8⟩ := sz_some xw7
    have lM8 := below_sz hbxw7 hM5 hM8
    have lo9 := lo6.trans (hbxw7.mono (by omega))
    clear lo6 hbxw7
    go_upto_region 30 with fail
    refine wp_region_later1 (M8) ?_
    try simp only [Act.put, List.setIfInBounds_toArray, List.set_cons_succ, List.set_cons_zero]
    go_big_quiet_step (fail)
    go_big_quiet_step (fail)
    refine later_b (x := (.tmp 75)) (y := (.tmp 76)) rfl (bin_rem _ (x % 4294967296#64) (y % 4294967296#64) Hn.out) rfl rfl (by rfl) ?_; simp only [Act.put, List.setIfInBounds_toArray, List.set_cons_succ, List.set_cons_zero]
    go_big_quiet_step (fail)
    refine wpQuiet_nil ?_
    rintro xw10 ⟨qxw10, exw10⟩
    have hbxw10 := qxw10.b
    rw [← exw10] at hbxw10
    clear qxw10 exw10
    obtain ⟨M11, hM11⟩ := sz_some xw10
    have lM11 := below_sz hbxw10 hM8 hM11
    have lo12 := lo9.trans (hbxw10.mono (by omega))
    clear lo9 hbxw10
    go_upto_region 43 with fail
    refine wp_region_later1 (M11) ?_
    try simp only [Act.put, List.setIfInBounds_toArray, List.set_cons_succ, List.set_cons_zero]
    go_big_quiet_step (fail)
    refine later_b (x := (.tmp 115)) (y := (.const (.int .u64 4294967296))) rfl (bin_rem _ ((x % 4294967296#64) % (y % 4294967296#64)) 4294967296#64 (by decide)) rfl rfl (by rfl) ?_; simp only [Act.put, List.setIfInBounds_toArray, List.set_cons_succ, List.set_cons_zero]
    go_big_quiet_step (fail)
    refine wpQuiet_nil ?_
    rintro xw13 ⟨qxw13, exw13⟩
    have hbxw13 := qxw13.b
    rw [← exw13] at hbxw13
    clear qxw13 exw13
    obtain ⟨M14, hM14⟩ := sz_some xw13
    have lM14 := below_sz hbxw13 hM11 hM14
    have lo15 := lo12.trans (hbxw13.mono (by omega))
    clear lo12 hbxw13
    go_wp2_with fail
    go_ret
    exact ⟨rfl, lo15⟩
  · have Hy : Hid (((y % 4294967296#64) != 0#64) = false) := hid (by rw [bne, hy]; rfl)
    have E := hid (show (x % 4294967296#64) % (y % 4294967296#64) = (x % 4294967296#64) by rw [beq_iff_eq.1 hy]; exact BitVec.umod_zero)
    clear hy
    go_enter Try.func11, Try.ntmps11
    go_upto_region 2 with fail
    have lo0 : Below N w w := Below.refl N w
    refine wp_region_later1 (N) ?_
    try simp only [Act.put, List.setIfInBounds_toArray, List.set_cons_succ, List.set_cons_zero]
    go_big_quiet_step (fail)
    refine later_b (x := (.tmp 14)) (y := (.const (.int .u64 4294967296))) rfl (bin_rem _ x 4294967296#64 (by decide)) rfl rfl (by rfl) ?_; simp only [Act.put, List.setIfInBounds_toArray, List.set_cons_succ, List.set_cons_zero]
    go_big_quiet_step (fail)
    refine later_b (x := (.tmp 16)) (y := (.const (.int .u64 4294967296))) rfl (bin_rem _ y 4294967296#64 (by decide)) rfl rfl (by rfl) ?_; simp only [Act.put, List.setIfInBounds_toArray, List.set_cons_succ, List.set_cons_zero]
    go_big_quiet_step (fail)
    go_big_quiet_step (fail)
    refine wpQuiet_nil ?_
    rintro xw1 ⟨qxw1, exw1⟩
    have hbxw1 := qxw1.b
    rw [← exw1] at hbxw1
    clear qxw1 exw1
    obtain ⟨M2, hM2⟩ := sz_some xw1
    have lM2 := below_sz hbxw1 hN hM2
    have lo3 := lo0.trans (hbxw1.mono (by omega))
    clear lo0 hbxw1
    go_upto_region 28 with fail
    refine wp_region_later1 (M2) ?_
    try simp only [Act.put, List.setIfInBounds_toArray, List.set_cons_succ, List.set_cons_zero]
    go_big_quiet_step (fail)
    go_big_quiet_step (fail)
    refine wpQuiet_nil ?_
    rintro xw4 ⟨qxw4, exw4⟩
    have hbxw4 := qxw4.b
    rw [← exw4] at hbxw4
    clear qxw4 exw4
    obtain ⟨M5, hM5⟩ := sz_some xw4
    have lM5 := below_sz hbxw4 hM2 hM5
    have lo6 := lo3.trans (hbxw4.mono (by omega))
    clear lo3 hbxw4
    go_upto_region 29 with fail
    refine wp_region_later1 (M5) ?_
    try simp only [Act.put, List.setIfInBounds_toArray, List.set_cons_succ, List.set_cons_zero]
    go_big_quiet_step (fail)
    refine later_b (x := (.tmp 73)) (y := (.const (.int .u64 0))) rfl (BinRun.is Hy.out (bin_neq _ (y % 4294967296#64) 0#64)) rfl rfl (by rfl) ?_; simp only [Act.put, List.setIfInBounds_toArray, List.set_cons_succ, List.set_cons_zero]
    refine wpQuiet_nil ?_
    rintro xw7 ⟨qxw7, exw7⟩
    have hbxw7 := qxw7.b
    rw [← exw7] at hbxw7
    clear qxw7 exw7
    obtain ⟨M8, hM8⟩ := sz_some xw7
    have lM8 := below_sz hbxw7 hM5 hM8
    have lo9 := lo6.trans (hbxw7.mono (by omega))
    clear lo6 hbxw7
    go_upto_region 43 with fail
    refine wp_region_later1 (M8) ?_
    try simp only [Act.put, List.setIfInBounds_toArray, List.set_cons_succ, List.set_cons_zero]
    go_big_quiet_step (fail)
    refine later_b (x := (.tmp 115)) (y := (.const (.int .u64 4294967296))) rfl (bin_rem _ (x % 4294967296#64) 4294967296#64 (by decide)) rfl rfl (by rfl) ?_; simp only [Act.put, List.setIfInBounds_toArray, List.set_cons_succ, List.set_cons_zero]
    go_big_quiet_step (fail)
    refine wpQuiet_nil ?_
    rintro xw10 ⟨qxw10, exw10⟩
    have hbxw10 := qxw10.b
    rw [← exw10] at hbxw10
    clear qxw10 exw10
    obtain ⟨M11, hM11⟩ := sz_some xw10
    have lM11 := below_sz hbxw10 hM8 hM11
    have lo12 := lo9.trans (hbxw10.mono (by omega))
    clear lo9 hbxw10
    go_wp2_with fail
    go_ret
    exact ⟨by rw [E.out]; rfl, lo12⟩
set_option maxRecDepth 100000 in
set_option maxHeartbeats 2000000 in
theorem rev_f_o (x y : W) (op : Int) (h0 : (op == 0) = false) (h1 : (op == 1) = false) (h2 : (op == 2) = false) (h3 : (op == 3) = false) (h4 : (op == 4) = false) (h5 : (op == 5) = false) (h6 : (op == 6) = false) (h7 : (op == 7) = false) (h8 : (op == 8) = false) (h9 : (op == 9) = false) (h10 : (op == 10) = false) (h11 : (op == 11) = false) (h12 : (op == 12) = false) (w : World) (N : Nat) (hN : Sz w N) : Calls Try.prog 11 #[.int .i64 op, .bool false, Q x, Q y] w fun e w' => e = .returned (Q (((0#64) % 4294967296#64))) ∧ Below N w w' := by
  go_enter Try.func11, Try.ntmps11
  go_upto_region 2 with fail
  have lo0 : Below N w w := Below.refl N w
  refine wp_region_later1 (N) ?_
  try simp only [Act.put, List.setIfInBounds_toArray, List.set_cons_succ, List.set_cons_zero]
  go_big_quiet_step (fail)
  refine later_b (x := (.tmp 14)) (y := (.const (.int .u64 4294967296))) rfl (bin_rem _ x 4294967296#64 (by decide)) rfl rfl (by rfl) ?_; simp only [Act.put, List.setIfInBounds_toArray, List.set_cons_succ, List.set_cons_zero]
  go_big_quiet_step (fail)
  refine later_b (x := (.tmp 16)) (y := (.const (.int .u64 4294967296))) rfl (bin_rem _ y 4294967296#64 (by decide)) rfl rfl (by rfl) ?_; simp only [Act.put, List.setIfInBounds_toArray, List.set_cons_succ, List.set_cons_zero]
  go_big_quiet_step (fail)
  go_big_quiet_step (fail)
  refine wpQuiet_nil ?_
  rintro xw1 ⟨qxw1, exw1⟩
  have hbxw1 := qxw1.b
  rw [← exw1] at hbxw1
  clear qxw1 exw1
  obtain ⟨M2, hM2⟩ := sz_some xw1
  have lM2 := below_sz hbxw1 hN hM2
  have lo3 := lo0.trans (hbxw1.mono (by omega))
  clear lo0 hbxw1
  go_upto_region 43 with fail
  refine wp_region_later1 (M2) ?_
  try simp only [Act.put, List.setIfInBounds_toArray, List.set_cons_succ, List.set_cons_zero]
  go_big_quiet_step (fail)
  refine later_b (x := (.tmp 115)) (y := (.const (.int .u64 4294967296))) rfl (bin_rem _ 0#64 4294967296#64 (by decide)) rfl rfl (by rfl) ?_; simp only [Act.put, List.setIfInBounds_toArray, List.set_cons_succ, List.set_cons_zero]
  go_big_quiet_step (fail)
  refine wpQuiet_nil ?_
  rintro xw4 ⟨qxw4, exw4⟩
  have hbxw4 := qxw4.b
  rw [← exw4] at hbxw4
  clear qxw4 exw4
  obtain ⟨M5, hM5⟩ := sz_some xw4
  have lM5 := below_sz hbxw4 hM2 hM5
  have lo6 := lo3.trans (hbxw4.mono (by omega))
  clear lo3 hbxw4
  go_wp2_with fail
  go_ret
  exact ⟨rfl, lo6⟩
set_option maxRecDepth 100000 in
set_option maxHeartbeats 2000000 in
theorem rev_f_12 (x y : W) (w : World) (N : Nat) (hN : Sz w N) : Calls Try.prog 11 #[.int .i64 12, .bool false, Q x, Q y] w fun e w' => e = .returned (Q (((if (x % 4294967296#64).getLsbD 31 then arN ((x % 4294967296#64) >>> ((y % 4294967296#64) % 32#64).toNat) 32#64 ((y % 4294967296#64) % 32#64).toNat else ((x % 4294967296#64) >>> ((y % 4294967296#64) % 32#64).toNat)) % 4294967296#64))) ∧ Below N w w' := by
  have hm := msb_bit (x % 4294967296#64) 32#64 32 rfl (by omega) (by omega)
  cases hb : (x % 4294967296#64).getLsbD 31
  · rw [hb] at hm
    have Hm := hid hm
    clear hm hb
    go_enter Try.func11, Try.ntmps11
    go_upto_region 2 with fail
    have lo0 : Below N w w := Below.refl N w
    refine wp_region_later1 (N) ?_
    try simp only [Act.put, List.setIfInBounds_toArray, List.set_cons_succ, List.set_cons_zero]
    go_big_quiet_step (fail)
    refine later_b (x := (.tmp 14)) (y := (.const (.int .u64 4294967296))) rfl (bin_rem _ x 4294967296#64 (by decide)) rfl rfl (by rfl) ?_; simp only [Act.put, List.setIfInBounds_toArray, List.set_cons_succ, List.set_cons_zero]
    go_big_quiet_step (fail)
    refine later_b (x := (.tmp 16)) (y := (.const (.int .u64 4294967296))) rfl (bin_rem _ y 4294967296#64 (by decide)) rfl rfl (by rfl) ?_; simp only [Act.put, List.setIfInBounds_toArray, List.set_cons_succ, List.set_cons_zero]
    go_big_quiet_step (fail)
    go_big_quiet_step (fail)
    refine wpQuiet_nil ?_
    rintro xw1 ⟨qxw1, exw1⟩
    have hbxw1 := qxw1.b
    rw [← exw1] at hbxw1
    clear qxw1 exw1
    obtain ⟨M2, hM2⟩ := sz_some xw1
    have lM2 := below_sz hbxw1 hN hM2
    have lo3 := lo0.trans (hbxw1.mono (by omega))
    clear lo0 hbxw1
    go_upto_region 36 with fail
    refine wp_region_later1 (M2) ?_
    try simp only [Act.put, List.setIfInBounds_toArray, List.set_cons_succ, List.set_cons_zero]
    go_big_quiet_step (fail)
    go_big_quiet_step (fail)
    go_big_quiet_step (fail)
    refine later_b (x := (.tmp 89)) (y := (.tmp 90)) rfl (bin_rem _ (y % 4294967296#64) 32#64 (by decide)) rfl rfl (by rfl) ?_; simp only [Act.put, List.setIfInBounds_toArray, List.set_cons_succ, List.set_cons_zero]
    refine later_b (x := (.tmp 88)) (y := (.tmp 91)) rfl (bin_shru _ (x % 4294967296#64) ((y % 4294967296#64) % 32#64)) rfl rfl (by rfl) ?_; simp only [Act.put, List.setIfInBounds_toArray, List.set_cons_succ, List.set_cons_zero]
    go_big_quiet_step (fail)
    refine wpQuiet_nil ?_
    rintro xw4 ⟨qxw4, exw4⟩
    have hbxw4 := qxw4.b
    rw [← exw4] at hbxw4
    clear qxw4 exw4
    obtain ⟨M5, hM5⟩ := sz_some xw4
    have lM5 := below_sz hbxw4 hM2 hM5
    have lo6 := lo3.trans (hbxw4.mono (by omega))
    clear lo3 hbxw4
    go_upto_region 37 with fail
    refine wp_region_later1 (M5) ?_
    try simp only [Act.put, List.setIfInBounds_toArray, List.set_cons_succ, List.set_cons_zero]
    go_big_quiet_step (fail)
    go_big_quiet_step (fail)
    refine later_b (x := (.tmp 94)) (y := (.const (.int .u64 1))) rfl (bin_sub _ 32#64 1#64) rfl rfl (by rfl) ?_; simp only [Act.put, List.setIfInBounds_toArray, List.set_cons_succ, List.set_cons_zero]
    refine later_b (x := (.tmp 93)) (y := (.tmp 95)) rfl (bin_shru _ (x % 4294967296#64) (32#64 - 1#64)) rfl rfl (by rfl) ?_; simp only [Act.put, List.setIfInBounds_toArray, List.set_cons_succ, List.set_cons_zero]
    refine later_b (x := (.tmp 96)) (y := (.const (.int .u64 1))) rfl (bin_and _ ((x % 4294967296#64) >>> ((32#64 - 1#64)).toNat) 1#64) rfl rfl (by rfl) ?_; simp only [Act.put, List.setIfInBounds_toArray, List.set_cons_succ, List.set_cons_zero]
    refine later_b (x := (.tmp 97)) (y := (.const (.int .u64 1))) rfl (BinRun.is Hm.out (bin_eql _ (((x % 4294967296#64) >>> ((32#64 - 1#64)).toNat) &&& 1#64) 1#64)) rfl rfl (by rfl) ?_; simp only [Act.put, List.setIfInBounds_toArray, List.set_cons_succ, List.set_cons_zero]
    refine wpQuiet_nil ?_
    rintro xw7 ⟨qxw7, exw7⟩
    have hbxw7 := qxw7.b
    rw [← exw7] at hbxw7
    clear qxw7 exw7
    obtain ⟨M8, hM8⟩ := sz_some xw7
    have lM8 := below_sz hbxw7 hM5 hM8
    have lo9 := lo6.trans (hbxw7.mono (by omega))
    clear lo6 hbxw7
    go_upto_region 43 with fail
    refine wp_region_later1 (M8) ?_
    try simp only [Act.put, List.setIfInBounds_toArray, List.set_cons_succ, List.set_cons_zero]
    go_big_quiet_step (fail)
    refine later_b (x := (.tmp 115)) (y := (.const (.int .u64 4294967296))) rfl (bin_rem _ ((x % 4294967296#64) >>> (((y % 4294967296#64) % 32#64)).toNat) 4294967296#64 (by decide)) rfl rfl (by rfl) ?_; simp only [Act.put, List.setIfInBounds_toArray, List.set_cons_succ, List.set_cons_zero]
    go_big_quiet_step (fail)
    refine wpQuiet_nil ?_
    rintro xw10 ⟨qxw10, exw10⟩
    have hbxw10 := qxw10.b
    rw [← exw10] at hbxw10
    clear qxw10 exw10
    obtain ⟨M11, hM11⟩ := sz_some xw10
    have lM11 := below_sz hbxw10 hM8 hM11
    have lo12 := lo9.trans (hbxw10.mono (by omega))
    clear lo9 hbxw10
    go_wp2_with fail
    go_ret
    exact ⟨rfl, lo12⟩
  · rw [hb] at hm
    have Hm := hid hm
    clear hm
    obtain ⟨R, hR⟩ : ∃ R, R = (((if (x % 4294967296#64).getLsbD 31 then arN ((x % 4294967296#64) >>> ((y % 4294967296#64) % 32#64).toNat) 32#64 ((y % 4294967296#64) % 32#64).toNat else ((x % 4294967296#64) >>> ((y % 4294967296#64) % 32#64).toNat)) % 4294967296#64)) := ⟨_, rfl⟩
    rw [hb] at hR
    rw [if_pos rfl] at hR
    rw [if_pos rfl, ← hR]
    clear hb
    have hn : ((y % 4294967296#64) % 32#64).toNat < 32 := by rw [BitVec.toNat_umod]; exact Nat.mod_lt _ (by decide)
    obtain ⟨n, en⟩ : ∃ n, n = ((y % 4294967296#64) % 32#64).toNat := ⟨_, rfl⟩
    rw [← en] at hn
    rw [← en] at hR
    have ER := hid hR
    have En := hid en
    clear en hR
    go_enter Try.func11, Try.ntmps11
    go_upto_region 2 with fail
    have lo0 : Below N w w := Below.refl N w
    refine wp_region_later1 (N) ?_
    try simp only [Act.put, List.setIfInBounds_toArray, List.set_cons_succ, List.set_cons_zero]
    go_big_quiet_step (fail)
    refine later_b (x := (.tmp 14)) (y := (.const (.int .u64 4294967296))) rfl (bin_rem _ x 4294967296#64 (by decide)) rfl rfl (by rfl) ?_; simp only [Act.put, List.setIfInBounds_toArray, List.set_cons_succ, List.set_cons_zero]
    go_big_quiet_step (fail)
    refine later_b (x := (.tmp 16)) (y := (.const (.int .u64 4294967296))) rfl (bin_rem _ y 4294967296#64 (by decide)) rfl rfl (by rfl) ?_; simp only [Act.put, List.setIfInBounds_toArray, List.set_cons_succ, List.set_cons_zero]
    go_big_quiet_step (fail)
    go_big_quiet_step (fail)
    refine wpQuiet_nil ?_
    rintro xw1 ⟨qxw1, exw1⟩
    have hbxw1 := qxw1.b
    rw [← exw1] at hbxw1
    clear qxw1 exw1
    obtain ⟨M2, hM2⟩ := sz_some xw1
    have lM2 := below_sz hbxw1 hN hM2
    have lo3 := lo0.trans (hbxw1.mono (by omega))
    clear lo0 hbxw1
    go_upto_region 36 with fail
    refine wp_region_later1 (M2) ?_
    try simp only [Act.put, List.setIfInBounds_toArray, List.set_cons_succ, List.set_cons_zero]
    go_big_quiet_step (fail)
    go_big_quiet_step (fail)
    go_big_quiet_step (fail)
    refine later_b (x := (.tmp 89)) (y := (.tmp 90)) rfl (bin_rem _ (y % 4294967296#64) 32#64 (by decide)) rfl rfl (by rfl) ?_; simp only [Act.put, List.setIfInBounds_toArray, List.set_cons_succ, List.set_cons_zero]
    refine later_b (x := (.tmp 88)) (y := (.tmp 91)) rfl (bin_shru _ (x % 4294967296#64) ((y % 4294967296#64) % 32#64)) rfl rfl (by rfl) ?_; simp only [Act.put, List.setIfInBounds_toArray, List.set_cons_succ, List.set_cons_zero]
    go_big_quiet_step (fail)
    refine wpQuiet_nil ?_
    rintro xw4 ⟨qxw4, exw4⟩
    have hbxw4 := qxw4.b
    rw [← exw4] at hbxw4
    clear qxw4 exw4
    obtain ⟨M5, hM5⟩ := sz_some xw4
    have lM5 := below_sz hbxw4 hM2 hM5
    have lo6 := lo3.trans (hbxw4.mono (by omega))
    clear lo3 hbxw4
    go_upto_region 37 with fail
    refine wp_region_later1 (M5) ?_
    try simp only [Act.put, List.setIfInBounds_toArray, List.set_cons_succ, List.set_cons_zero]
    go_big_quiet_step (fail)
    go_big_quiet_step (fail)
    refine later_b (x := (.tmp 94)) (y := (.const (.int .u64 1))) rfl (bin_sub _ 32#64 1#64) rfl rfl (by rfl) ?_; simp only [Act.put, List.setIfInBounds_toArray, List.set_cons_succ, List.set_cons_zero]
    refine later_b (x := (.tmp 93)) (y := (.tmp 95)) rfl (bin_shru _ (x % 4294967296#64) (32#64 - 1#64)) rfl rfl (by rfl) ?_; simp only [Act.put, List.setIfInBounds_toArray, List.set_cons_succ, List.set_cons_zero]
    refine later_b (x := (.tmp 96)) (y := (.const (.int .u64 1))) rfl (bin_and _ ((x % 4294967296#64) >>> ((32#64 - 1#64)).toNat) 1#64) rfl rfl (by rfl) ?_; simp only [Act.put, List.setIfInBounds_toArray, List.set_cons_succ, List.set_cons_zero]
    refine later_b (x := (.tmp 97)) (y := (.const (.int .u64 1))) rfl (BinRun.is Hm.out (bin_eql _ (((x % 4294967296#64) >>> ((32#64 - 1#64)).toNat) &&& 1#64) 1#64)) rfl rfl (by rfl) ?_; simp only [Act.put, List.setIfInBounds_toArray, List.set_cons_succ, List.set_cons_zero]
    refine wpQuiet_nil ?_
    rintro xw7 ⟨qxw7, exw7⟩
    have hbxw7 := qxw7.b
    rw [← exw7] at hbxw7
    clear qxw7 exw7
    obtain ⟨M8, hM8⟩ := sz_some xw7
    have lM8 := below_sz hbxw7 hM5 hM8
    have lo9 := lo6.trans (hbxw7.mono (by omega))
    clear lo6 hbxw7
    rw [← En.out]
    go_wp2_with fail
    go_loopg [10, 11] (n) (fun g x10 x11 wr => ∃ k : Nat, k ≤ n ∧ g = n - k ∧ x11 = Q (BitVec.ofNat 64 k) ∧ x10 = Q (arN ((x % 4294967296#64) >>> n) 32#64 k) ∧ Below N w wr)
    case atStart => exact ⟨0, by omega, rfl, rfl, rfl, lo9⟩
    case round =>
      clear lo9
      obtain ⟨k, hk, rfl, rfl, rfl, lor⟩ := hrel
      obtain ⟨Mr, hMr⟩ := sz_some wr
      have lMr := below_sz lor hN hMr
      have hult : (BitVec.ult (BitVec.ofNat 64 k) ((y % 4294967296#64) % 32#64)) = decide (k < n) := by unfold BitVec.ult; rw [← En.out, BitVec.toNat_ofNat, Nat.mod_eq_of_lt (show k < 2 ^ 64 by omega)]
      by_cases hlt : k < n
      · rw [decide_eq_true hlt] at hult
        have Hu := hid hult
        clear hult
        go_upto_region 39 with fail
        refine wp_region_later1 (Mr) ?_
        try simp only [Act.put, List.setIfInBounds_toArray, List.set_cons_succ, List.set_cons_zero]
        go_big_quiet_step (fail)
        go_big_quiet_step (fail)
        go_big_quiet_step (fail)
        refine later_b (x := (.tmp 100)) (y := (.tmp 101)) rfl (bin_rem _ (y % 4294967296#64) 32#64 (by decide)) rfl rfl (by rfl) ?_; simp only [Act.put, List.setIfInBounds_toArray, List.set_cons_succ, List.set_cons_zero]
        refine later_b (x := (.tmp 99)) (y := (.tmp 102)) rfl (BinRun.is Hu.out (bin_lss _ (BitVec.ofNat 64 k) ((y % 4294967296#64) % 32#64))) rfl rfl (by rfl) ?_; simp only [Act.put, List.setIfInBounds_toArray, List.set_cons_succ, List.set_cons_zero]
        refine wpQuiet_nil ?_
        rintro xw10 ⟨qxw10, exw10⟩
        have hbxw10 := qxw10.b
        rw [← exw10] at hbxw10
        clear qxw10 exw10
        obtain ⟨M11, hM11⟩ := sz_some xw10
        have lM11 := below_sz hbxw10 hMr hM11
        have lo12 := lor.trans (hbxw10.mono (by omega))
        clear lor hbxw10
        go_upto_region 41 with fail
        refine wp_region_later1 (M11) ?_
        try simp only [Act.put, List.setIfInBounds_toArray, List.set_cons_succ, List.set_cons_zero]
        go_big_quiet_step (fail)
        go_big_quiet_step (fail)
        refine later_b (x := (.tmp 107)) (y := (.const (.int .u64 1))) rfl (bin_sub _ 32#64 1#64) rfl rfl (by rfl) ?_; simp only [Act.put, List.setIfInBounds_toArray, List.set_cons_succ, List.set_cons_zero]
        go_big_quiet_step (fail)
        refine later_b (x := (.tmp 108)) (y := (.tmp 109)) rfl (bin_sub _ (32#64 - 1#64) (BitVec.ofNat 64 k)) rfl rfl (by rfl) ?_; simp only [Act.put, List.setIfInBounds_toArray, List.set_cons_succ, List.set_cons_zero]
        refine later_b (x := (.const (.int .u64 1))) (y := (.tmp 110)) rfl (bin_shlu _ 1#64 ((32#64 - 1#64) - (BitVec.ofNat 64 k))) rfl rfl (by rfl) ?_; simp only [Act.put, List.setIfInBounds_toArray, List.set_cons_succ, List.set_cons_zero]
        refine later_b (x := (.tmp 106)) (y := (.tmp 111)) rfl (bin_or _ (arN ((x % 4294967296#64) >>> n) 32#64 k) (1#64 <<< (((32#64 - 1#64) - (BitVec.ofNat 64 k))).toNat)) rfl rfl (by rfl) ?_; simp only [Act.put, List.setIfInBounds_toArray, List.set_cons_succ, List.set_cons_zero]
        go_big_quiet_step (fail)
        refine wpQuiet_nil ?_
        rintro xw13 ⟨qxw13, exw13⟩
        have hbxw13 := qxw13.b
        rw [← exw13] at hbxw13
        clear qxw13 exw13
        obtain ⟨M14, hM14⟩ := sz_some xw13
        have lM14 := below_sz hbxw13 hM11 hM14
        have lo15 := lo12.trans (hbxw13.mono (by omega))
        clear lo12 hbxw13
        go_upto_region 40 with fail
        refine wp_region_later1 (M14) ?_
        try simp only [Act.put, List.setIfInBounds_toArray, List.set_cons_succ, List.set_cons_zero]
        go_big_quiet_step (fail)
        refine later_b (x := (.tmp 104)) (y := (.const (.int .u64 1))) rfl (bin_add _ (BitVec.ofNat 64 k) 1#64) rfl rfl (by rfl) ?_; simp only [Act.put, List.setIfInBounds_toArray, List.set_cons_succ, List.set_cons_zero]
        go_big_quiet_step (fail)
        refine wpQuiet_nil ?_
        rintro xw16 ⟨qxw16, exw16⟩
        have hbxw16 := qxw16.b
        rw [← exw16] at hbxw16
        clear qxw16 exw16
        obtain ⟨M17, hM17⟩ := sz_some xw16
        have lM17 := below_sz hbxw16 hM14 hM17
        have lo18 := lo15.trans (hbxw16.mono (by omega))
        clear lo15 hbxw16
        go_wp2_with fail
        go_roundg (n - (k + 1))
        case rel => exact ⟨k + 1, by omega, rfl, by rw [ofNat_next], rfl, lo18⟩
        case measure => omega
      · rw [decide_eq_false hlt] at hult
        have Hu := hid hult
        clear hult
        have ek : k = n := by omega
        subst ek
        go_upto_region 39 with fail
        refine wp_region_later1 (Mr) ?_
        try simp only [Act.put, List.setIfInBounds_toArray, List.set_cons_succ, List.set_cons_zero]
        go_big_quiet_step (fail)
        go_big_quiet_step (fail)
        go_big_quiet_step (fail)
        refine later_b (x := (.tmp 100)) (y := (.tmp 101)) rfl (bin_rem _ (y % 4294967296#64) 32#64 (by decide)) rfl rfl (by rfl) ?_; simp only [Act.put, List.setIfInBounds_toArray, List.set_cons_succ, List.set_cons_zero]
        refine later_b (x := (.tmp 99)) (y := (.tmp 102)) rfl (BinRun.is Hu.out (bin_lss _ (BitVec.ofNat 64 k) ((y % 4294967296#64) % 32#64))) rfl rfl (by rfl) ?_; simp only [Act.put, List.setIfInBounds_toArray, List.set_cons_succ, List.set_cons_zero]
        refine wpQuiet_nil ?_
        rintro xw10 ⟨qxw10, exw10⟩
        have hbxw10 := qxw10.b
        rw [← exw10] at hbxw10
        clear qxw10 exw10
        obtain ⟨M11, hM11⟩ := sz_some xw10
        have lM11 := below_sz hbxw10 hMr hM11
        have lo12 := lor.trans (hbxw10.mono (by omega))
        clear lor hbxw10
        go_upto_region 43 with fail
        refine wp_region_later1 (M11) ?_
        try simp only [Act.put, List.setIfInBounds_toArray, List.set_cons_succ, List.set_cons_zero]
        go_big_quiet_step (fail)
        refine later_b (x := (.tmp 115)) (y := (.const (.int .u64 4294967296))) rfl (bin_rem _ (arN ((x % 4294967296#64) >>> k) 32#64 k) 4294967296#64 (by decide)) rfl rfl (by rfl) ?_; simp only [Act.put, List.setIfInBounds_toArray, List.set_cons_succ, List.set_cons_zero]
        go_big_quiet_step (fail)
        refine wpQuiet_nil ?_
        rintro xw13 ⟨qxw13, exw13⟩
        have hbxw13 := qxw13.b
        rw [← exw13] at hbxw13
        clear qxw13 exw13
        obtain ⟨M14, hM14⟩ := sz_some xw13
        have lM14 := below_sz hbxw13 hM11 hM14
        have lo15 := lo12.trans (hbxw13.mono (by omega))
        clear lo12 hbxw13
        go_wp2_with fail
        go_ret
        exact ⟨by rw [ER.out]; rfl, lo15⟩
end Go.Proofs.Ytkljnpdojmcipaa
