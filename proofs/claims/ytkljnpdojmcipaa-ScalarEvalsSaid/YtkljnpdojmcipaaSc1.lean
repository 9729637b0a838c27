/- What operations of 64 bits make. -/
import Derived.Test.YtkljnpdojmcipaaSc0
namespace Go.Proofs.Ytkljnpdojmcipaa
open Go Go.RowKit
set_option maxRecDepth 100000 in
set_option maxHeartbeats 1000000 in
theorem Quo_any (x y : W) (w : World) (N : Nat) (hN : Sz w N) : Calls Try.prog 38 #[Q x, Q y] w fun e w' => e = .returned (Q (x / y)) ∧ Below N w w' := by
  cases hy : (y == 0#64)
  · have Hy := hid hy
    have Hn := hid (show y ≠ 0#64 from fun e => by rw [e] at hy; cases hy)
    clear hy
    go_enter Try.func38, Try.ntmps38
    go_upto_region 1 with fail
    have lo0 : Below N w w := Below.refl N w
    refine wp_region_later1 (N) ?_
    try simp only [Act.put, List.setIfInBounds_toArray, List.set_cons_succ, List.set_cons_zero]
    go_big_quiet_step (fail)
    refine later_b (x := (.tmp 5)) (y := (.const (.int .u64 0))) rfl (BinRun.is Hy.out (bin_eql _ y 0#64)) rfl rfl (by rfl) ?_; simp only [Act.put, List.setIfInBounds_toArray, List.set_cons_succ, List.set_cons_zero]
    refine wpQuiet_nil ?_
    rintro xw1 ⟨qxw1, exw1⟩
    have hbxw1 := qxw1.b
    rw [← exw1] at hbxw1
    clear qxw1 exw1
    obtain ⟨M2, hM2⟩ := sz_some xw1
    have lM2 := below_sz hbxw1 hN hM2
    have lo3 := lo0.trans (hbxw1.mono (by omega))
    clear lo0 hbxw1
    go_upto_region 3 with fail
    refine wp_region_later1 (M2) ?_
    try simp only [Act.put, List.setIfInBounds_toArray, List.set_cons_succ, List.set_cons_zero]
    go_big_quiet_step (fail)
    go_big_quiet_step (fail)
    refine later_b (x := (.tmp 7)) (y := (.tmp 8)) rfl (bin_quo _ x y Hn.out) rfl rfl (by rfl) ?_; simp only [Act.put, List.setIfInBounds_toArray, List.set_cons_succ, List.set_cons_zero]
    go_big_quiet_step (fail)
    refine wpQuiet_nil ?_
    rintro xw4 ⟨qxw4, exw4⟩
    have hbxw4 := qxw4.b
    rw [← exw4] at hbxw4
    clear qxw4 exw4
    obtain ⟨M5, hM5⟩ := sz_some xw4
    have lM5 := below_sz hbxw4 hM2 hM5
    have lo6 := lo3.trans (hbxw4.mono (by omega))
    clear lo3 hbxw4
    go_wp2_with fail
    go_ret
    exact ⟨rfl, lo6⟩
  · have Hy := hid hy
    have E := hid (show x / y = 0#64 by rw [beq_iff_eq.1 hy]; exact BitVec.udiv_zero)
    clear hy
    go_enter Try.func38, Try.ntmps38
    go_upto_region 1 with fail
    have lo0 : Below N w w := Below.refl N w
    refine wp_region_later1 (N) ?_
    try simp only [Act.put, List.setIfInBounds_toArray, List.set_cons_succ, List.set_cons_zero]
    go_big_quiet_step (fail)
    refine later_b (x := (.tmp 5)) (y := (.const (.int .u64 0))) rfl (BinRun.is Hy.out (bin_eql _ y 0#64)) rfl rfl (by rfl) ?_; simp only [Act.put, List.setIfInBounds_toArray, List.set_cons_succ, List.set_cons_zero]
    refine wpQuiet_nil ?_
    rintro xw1 ⟨qxw1, exw1⟩
    have hbxw1 := qxw1.b
    rw [← exw1] at hbxw1
    clear qxw1 exw1
    obtain ⟨M2, hM2⟩ := sz_some xw1
    have lM2 := below_sz hbxw1 hN hM2
    have lo3 := lo0.trans (hbxw1.mono (by omega))
    clear lo0 hbxw1
    go_wp2_with fail
    go_ret
    exact ⟨by rw [E.out]; rfl, lo3⟩
set_option maxRecDepth 100000 in
set_option maxHeartbeats 1000000 in
theorem Rest_any (x y : W) (w : World) (N : Nat) (hN : Sz w N) : Calls Try.prog 39 #[Q x, Q y] w fun e w' => e = .returned (Q (x % y)) ∧ Below N w w' := by
  cases hy : (y == 0#64)
  · have Hy := hid hy
    have Hn := hid (show y ≠ 0#64 from fun e => by rw [e] at hy; cases hy)
    clear hy
    go_enter Try.func39, Try.ntmps39
    go_upto_region 1 with fail
    have lo0 : Below N w w := Below.refl N w
    refine wp_region_later1 (N) ?_
    try simp only [Act.put, List.setIfInBounds_toArray, List.set_cons_succ, List.set_cons_zero]
    go_big_quiet_step (fail)
    refine later_b (x := (.tmp 5)) (y := (.const (.int .u64 0))) rfl (BinRun.is Hy.out (bin_eql _ y 0#64)) rfl rfl (by rfl) ?_; simp only [Act.put, List.setIfInBounds_toArray, List.set_cons_succ, List.set_cons_zero]
    refine wpQuiet_nil ?_
    rintro xw1 ⟨qxw1, exw1⟩
    have hbxw1 := qxw1.b
    rw [← exw1] at hbxw1
    clear qxw1 exw1
    obtain ⟨M2, hM2⟩ := sz_some xw1
    have lM2 := below_sz hbxw1 hN hM2
    have lo3 := lo0.trans (hbxw1.mono (by omega))
    clear lo0 hbxw1
    go_upto_region 3 with fail
    refine wp_region_later1 (M2) ?_
    try simp only [Act.put, List.setIfInBounds_toArray, List.set_cons_succ, List.set_cons_zero]
    go_big_quiet_step (fail)
    go_big_quiet_step (fail)
    refine later_b (x := (.tmp 8)) (y := (.tmp 9)) rfl (bin_rem _ x y Hn.out) rfl rfl (by rfl) ?_; simp only [Act.put, List.setIfInBounds_toArray, List.set_cons_succ, List.set_cons_zero]
    go_big_quiet_step (fail)
    refine wpQuiet_nil ?_
    rintro xw4 ⟨qxw4, exw4⟩
    have hbxw4 := qxw4.b
    rw [← exw4] at hbxw4
    clear qxw4 exw4
    obtain ⟨M5, hM5⟩ := sz_some xw4
    have lM5 := below_sz hbxw4 hM2 hM5
    have lo6 := lo3.trans (hbxw4.mono (by omega))
    clear lo3 hbxw4
    go_wp2_with fail
    go_ret
    exact ⟨rfl, lo6⟩
  · have Hy := hid hy
    have E := hid (show x % y = x by rw [beq_iff_eq.1 hy]; exact BitVec.umod_zero)
    clear hy
    go_enter Try.func39, Try.ntmps39
    go_upto_region 1 with fail
    have lo0 : Below N w w := Below.refl N w
    refine wp_region_later1 (N) ?_
    try simp only [Act.put, List.setIfInBounds_toArray, List.set_cons_succ, List.set_cons_zero]
    go_big_quiet_step (fail)
    refine later_b (x := (.tmp 5)) (y := (.const (.int .u64 0))) rfl (BinRun.is Hy.out (bin_eql _ y 0#64)) rfl rfl (by rfl) ?_; simp only [Act.put, List.setIfInBounds_toArray, List.set_cons_succ, List.set_cons_zero]
    refine wpQuiet_nil ?_
    rintro xw1 ⟨qxw1, exw1⟩
    have hbxw1 := qxw1.b
    rw [← exw1] at hbxw1
    clear qxw1 exw1
    obtain ⟨M2, hM2⟩ := sz_some xw1
    have lM2 := below_sz hbxw1 hN hM2
    have lo3 := lo0.trans (hbxw1.mono (by omega))
    clear lo0 hbxw1
    go_wp2_with fail
    go_ret
    exact ⟨by rw [E.out]; rfl, lo3⟩
theorem sh_lt64 (y : W) : (y % 64#64).toNat < 64 := by rw [BitVec.toNat_umod]; exact Nat.mod_lt _ (by decide)
/-- What an operation of 64 bits makes. -/
def evL (op : Int) (x y : W) : W := if op = 0 then x + y else if op = 1 then x - y else if op = 2 then x * y else if op = 3 then x / y else if op = 4 then x ||| y else if op = 5 then x &&& y else if op = 6 then x <<< (y % 64#64).toNat else if op = 7 then x >>> (y % 64#64).toNat else if op = 8 then -x else if op = 9 then x % y else if op = 10 then x ^^^ y else if op = 11 then y else if op = 12 then x.sshiftRight (y % 64#64).toNat else 0#64
set_option maxRecDepth 100000 in
set_option maxHeartbeats 1000000 in
theorem long_0 (x y : W) (w : World) (N : Nat) (hN : Sz w N) : Calls Try.prog 23 #[.int .i64 0, Q x, Q y] w fun e w' => e = .returned (Q (x + y)) ∧ Below N w w' := by
  go_enter Try.func23, Try.ntmps23
  go_upto_region 3 with fail
  have lo0 : Below N w w := Below.refl N w
  refine wp_region_later1 (N) ?_
  try simp only [Act.put, List.setIfInBounds_toArray, List.set_cons_succ, List.set_cons_zero]
  go_big_quiet_step (fail)
  go_big_quiet_step (fail)
  refine later_b (x := (.tmp 10)) (y := (.tmp 11)) rfl (bin_add _ x y) rfl rfl (by rfl) ?_; simp only [Act.put, List.setIfInBounds_toArray, List.set_cons_succ, List.set_cons_zero]
  go_big_quiet_step (fail)
  refine wpQuiet_nil ?_
  rintro xw1 ⟨qxw1, exw1⟩
  have hbxw1 := qxw1.b
  rw [← exw1] at hbxw1
  clear qxw1 exw1
  obtain ⟨M2, hM2⟩ := sz_some xw1
  have lM2 := below_sz hbxw1 hN hM2
  have lo3 := lo0.trans (hbxw1.mono (by omega))
  clear lo0 hbxw1
  go_wp2_with fail
  go_ret
  exact ⟨rfl, lo3⟩
set_option maxRecDepth 100000 in
set_option maxHeartbeats 1000000 in
theorem long_1 (x y : W) (w : World) (N : Nat) (hN : Sz w N) : Calls Try.prog 23 #[.int .i64 1, Q x, Q y] w fun e w' => e = .returned (Q (x - y)) ∧ Below N w w' := by
  go_enter Try.func23, Try.ntmps23
  go_upto_region 5 with fail
  have lo0 : Below N w w := Below.refl N w
  refine wp_region_later1 (N) ?_
  try simp only [Act.put, List.setIfInBounds_toArray, List.set_cons_succ, List.set_cons_zero]
  go_big_quiet_step (fail)
  go_big_quiet_step (fail)
  refine later_b (x := (.tmp 15)) (y := (.tmp 16)) rfl (bin_sub _ x y) rfl rfl (by rfl) ?_; simp only [Act.put, List.setIfInBounds_toArray, List.set_cons_succ, List.set_cons_zero]
  go_big_quiet_step (fail)
  refine wpQuiet_nil ?_
  rintro xw1 ⟨qxw1, exw1⟩
  have hbxw1 := qxw1.b
  rw [← exw1] at hbxw1
  clear qxw1 exw1
  obtain ⟨M2, hM2⟩ := sz_some xw1
  have lM2 := below_sz hbxw1 hN hM2
  have lo3 := lo0.trans (hbxw1.mono (by omega))
  clear lo0 hbxw1
  go_wp2_with fail
  go_ret
  exact ⟨rfl, lo3⟩
set_option maxRecDepth 100000 in
set_option maxHeartbeats 1000000 in
theorem long_2 (x y : W) (w : World) (N : Nat) (hN : Sz w N) : Calls Try.prog 23 #[.int .i64 2, Q x, Q y] w fun e w' => e = .returned (Q (x * y)) ∧ Below N w w' := by
  go_enter Try.func23, Try.ntmps23
  go_upto_region 7 with fail
  have lo0 : Below N w w := Below.refl N w
  refine wp_region_later1 (N) ?_
  try simp only [Act.put, List.setIfInBounds_toArray, List.set_cons_succ, List.set_cons_zero]
  go_big_quiet_step (fail)
  go_big_quiet_step (fail)
  refine later_b (x := (.tmp 20)) (y := (.tmp 21)) rfl (bin_mul _ x y) rfl rfl (by rfl) ?_; simp only [Act.put, List.setIfInBounds_toArray, List.set_cons_succ, List.set_cons_zero]
  go_big_quiet_step (fail)
  refine wpQuiet_nil ?_
  rintro xw1 ⟨qxw1, exw1⟩
  have hbxw1 := qxw1.b
  rw [← exw1] at hbxw1
  clear qxw1 exw1
  obtain ⟨M2, hM2⟩ := sz_some xw1
  have lM2 := below_sz hbxw1 hN hM2
  have lo3 := lo0.trans (hbxw1.mono (by omega))
  clear lo0 hbxw1
  go_wp2_with fail
  go_ret
  exact ⟨rfl, lo3⟩
set_option maxRecDepth 100000 in
set_option maxHeartbeats 1000000 in
theorem long_3 (x y : W) (w : World) (N : Nat) (hN : Sz w N) : Calls Try.prog 23 #[.int .i64 3, Q x, Q y] w fun e w' => e = .returned (Q (x / y)) ∧ Below N w w' := by
  go_enter Try.func23, Try.ntmps23
  go_upto_region 9 with fail
  have lo0 : Below N w w := Below.refl N w
  refine wp_region_later1 (N) ?_
  try simp only [Act.put, List.setIfInBounds_toArray, List.set_cons_succ, List.set_cons_zero]
  go_big_quiet_step (fail)
  go_big_quiet_step (fail)
  go_big_quiet_step ((go_at_call 38; exact later_of hN _ (fun K hK hKN => Quo_any x y _ K hK)))
  go_big_quiet_step (fail)
  refine wpQuiet_nil ?_
  rintro xw1 ⟨qxw1, exw1⟩
  have hbxw1 := qxw1.b
  rw [← exw1] at hbxw1
  clear qxw1 exw1
  obtain ⟨M2, hM2⟩ := sz_some xw1
  have lM2 := below_sz hbxw1 hN hM2
  have lo3 := lo0.trans (hbxw1.mono (by omega))
  clear lo0 hbxw1
  go_wp2_with fail
  go_ret
  exact ⟨rfl, lo3⟩
set_option maxRecDepth 100000 in
set_option maxHeartbeats 1000000 in
theorem long_4 (x y : W) (w : World) (N : Nat) (hN : Sz w N) : Calls Try.prog 23 #[.int .i64 4, Q x, Q y] w fun e w' => e = .returned (Q (x ||| y)) ∧ Below N w w' := by
  go_enter Try.func23, Try.ntmps23
  go_upto_region 11 with fail
  have lo0 : Below N w w := Below.refl N w
  refine wp_region_later1 (N) ?_
  try simp only [Act.put, List.setIfInBounds_toArray, List.set_cons_succ, List.set_cons_zero]
  go_big_quiet_step (fail)
  go_big_quiet_step (fail)
  refine later_b (x := (.tmp 30)) (y := (.tmp 31)) rfl (bin_or _ x y) rfl rfl (by rfl) ?_; simp only [Act.put, List.setIfInBounds_toArray, List.set_cons_succ, List.set_cons_zero]
  go_big_quiet_step (fail)
  refine wpQuiet_nil ?_
  rintro xw1 ⟨qxw1, exw1⟩
  have hbxw1 := qxw1.b
  rw [← exw1] at hbxw1
  clear qxw1 exw1
  obtain ⟨M2, hM2⟩ := sz_some xw1
  have lM2 := below_sz hbxw1 hN hM2
  have lo3 := lo0.trans (hbxw1.mono (by omega))
  clear lo0 hbxw1
  go_wp2_with fail
  go_ret
  exact ⟨rfl, lo3⟩
set_option maxRecDepth 100000 in
set_option maxHeartbeats 1000000 in
theorem long_5 (x y : W) (w : World) (N : Nat) (hN : Sz w N) : Calls Try.prog 23 #[.int .i64 5, Q x, Q y] w fun e w' => e = .returned (Q (x &&& y)) ∧ Below N w w' := by
  go_enter Try.func23, Try.ntmps23
  go_upto_region 13 with fail
  have lo0 : Below N w w := Below.refl N w
  refine wp_region_later1 (N) ?_
  try simp only [Act.put, List.setIfInBounds_toArray, List.set_cons_succ, List.set_cons_zero]
  go_big_quiet_step (fail)
  go_big_quiet_step (fail)
  refine later_b (x := (.tmp 35)) (y := (.tmp 36)) rfl (bin_and _ x y) rfl rfl (by rfl) ?_; simp only [Act.put, List.setIfInBounds_toArray, List.set_cons_succ, List.set_cons_zero]
  go_big_quiet_step (fail)
  refine wpQuiet_nil ?_
  rintro xw1 ⟨qxw1, exw1⟩
  have hbxw1 := qxw1.b
  rw [← exw1] at hbxw1
  clear qxw1 exw1
  obtain ⟨M2, hM2⟩ := sz_some xw1
  have lM2 := below_sz hbxw1 hN hM2
  have lo3 := lo0.trans (hbxw1.mono (by omega))
  clear lo0 hbxw1
  go_wp2_with fail
  go_ret
  exact ⟨rfl, lo3⟩
set_option maxRecDepth 100000 in
set_option maxHeartbeats 1000000 in
theorem long_6 (x y : W) (w : World) (N : Nat) (hN : Sz w N) : Calls Try.prog 23 #[.int .i64 6, Q x, Q y] w fun e w' => e = .returned (Q (x <<< (y % 64#64).toNat)) ∧ Below N w w' := by
  go_enter Try.func23, Try.ntmps23
  go_upto_region 15 with fail
  have lo0 : Below N w w := Below.refl N w
  refine wp_region_later1 (N) ?_
  try simp only [Act.put, List.setIfInBounds_toArray, List.set_cons_succ, List.set_cons_zero]
  go_big_quiet_step (fail)
  go_big_quiet_step (fail)
  refine later_b (x := (.tmp 41)) (y := (.const (.int .u64 64))) rfl (bin_rem _ y 64#64 (by decide)) rfl rfl (by rfl) ?_; simp only [Act.put, List.setIfInBounds_toArray, List.set_cons_succ, List.set_cons_zero]
  refine later_b (x := (.tmp 40)) (y := (.tmp 42)) rfl (bin_shlu _ x (y % 64#64)) rfl rfl (by rfl) ?_; simp only [Act.put, List.setIfInBounds_toArray, List.set_cons_succ, List.set_cons_zero]
  go_big_quiet_step (fail)
  refine wpQuiet_nil ?_
  rintro xw1 ⟨qxw1, exw1⟩
  have hbxw1 := qxw1.b
  rw [← exw1] at hbxw1
  clear qxw1 exw1
  obtain ⟨M2, hM2⟩ := sz_some xw1
  have lM2 := below_sz hbxw1 hN hM2
  have lo3 := lo0.trans (hbxw1.mono (by omega))
  clear lo0 hbxw1
  go_wp2_with fail
  go_ret
  exact ⟨rfl, lo3⟩
set_option maxRecDepth 100000 in
set_option maxHeartbeats 1000000 in
theorem long_7 (x y : W) (w : World) (N : Nat) (hN : Sz w N) : Calls Try.prog 23 #[.int .i64 7, Q x, Q y] w fun e w' => e = .returned (Q (x >>> (y % 64#64).toNat)) ∧ Below N w w' := by
  go_enter Try.func23, Try.ntmps23
  go_upto_region 17 with fail
  have lo0 : Below N w w := Below.refl N w
  refine wp_region_later1 (N) ?_
  try simp only [Act.put, List.setIfInBounds_toArray, List.set_cons_succ, List.set_cons_zero]
  go_big_quiet_step (fail)
  go_big_quiet_step (fail)
  refine later_b (x := (.tmp 47)) (y := (.const (.int .u64 64))) rfl (bin_rem _ y 64#64 (by decide)) rfl rfl (by rfl) ?_; simp only [Act.put, List.setIfInBounds_toArray, List.set_cons_succ, List.set_cons_zero]
  refine later_b (x := (.tmp 46)) (y := (.tmp 48)) rfl (bin_shru _ x (y % 64#64)) rfl rfl (by rfl) ?_; simp only [Act.put, List.setIfInBounds_toArray, List.set_cons_succ, List.set_cons_zero]
  go_big_quiet_step (fail)
  refine wpQuiet_nil ?_
  rintro xw1 ⟨qxw1, exw1⟩
  have hbxw1 := qxw1.b
  rw [← exw1] at hbxw1
  clear qxw1 exw1
  obtain ⟨M2, hM2⟩ := sz_some xw1
  have lM2 := below_sz hbxw1 hN hM2
  have lo3 := lo0.trans (hbxw1.mono (by omega))
  clear lo0 hbxw1
  go_wp2_with fail
  go_ret
  exact ⟨rfl, lo3⟩
set_option maxRecDepth 100000 in
set_option maxHeartbeats 1000000 in
theorem long_8 (x y : W) (w : World) (N : Nat) (hN : Sz w N) : Calls Try.prog 23 #[.int .i64 8, Q x, Q y] w fun e w' => e = .returned (Q (-x)) ∧ Below N w w' := by
  go_enter Try.func23, Try.ntmps23
  go_upto_region 19 with fail
  have lo0 : Below N w w := Below.refl N w
  refine wp_region_later1 (N) ?_
  try simp only [Act.put, List.setIfInBounds_toArray, List.set_cons_succ, List.set_cons_zero]
  go_big_quiet_step (fail)
  refine later_val (fun q => run_neg (x := (.tmp 52)) rfl rfl q.w') (by rfl) ?_; simp only [Act.put, List.setIfInBounds_toArray, List.set_cons_succ, List.set_cons_zero]
  go_big_quiet_step (fail)
  refine wpQuiet_nil ?_
  rintro xw1 ⟨qxw1, exw1⟩
  have hbxw1 := qxw1.b
  rw [← exw1] at hbxw1
  clear qxw1 exw1
  obtain ⟨M2, hM2⟩ := sz_some xw1
  have lM2 := below_sz hbxw1 hN hM2
  have lo3 := lo0.trans (hbxw1.mono (by omega))
  clear lo0 hbxw1
  go_wp2_with fail
  go_ret
  exact ⟨rfl, lo3⟩
set_option maxRecDepth 100000 in
set_option maxHeartbeats 1000000 in
theorem long_9 (x y : W) (w : World) (N : Nat) (hN : Sz w N) : Calls Try.prog 23 #[.int .i64 9, Q x, Q y] w fun e w' => e = .returned (Q (x % y)) ∧ Below N w w' := by
  go_enter Try.func23, Try.ntmps23
  go_upto_region 21 with fail
  have lo0 : Below N w w := Below.refl N w
  refine wp_region_later1 (N) ?_
  try simp only [Act.put, List.setIfInBounds_toArray, List.set_cons_succ, List.set_cons_zero]
  go_big_quiet_step (fail)
  go_big_quiet_step (fail)
  go_big_quiet_step ((go_at_call 39; exact later_of hN _ (fun K hK hKN => Rest_any x y _ K hK)))
  go_big_quiet_step (fail)
  refine wpQuiet_nil ?_
  rintro xw1 ⟨qxw1, exw1⟩
  have hbxw1 := qxw1.b
  rw [← exw1] at hbxw1
  clear qxw1 exw1
  obtain ⟨M2, hM2⟩ := sz_some xw1
  have lM2 := below_sz hbxw1 hN hM2
  have lo3 := lo0.trans (hbxw1.mono (by omega))
  clear lo0 hbxw1
  go_wp2_with fail
  go_ret
  exact ⟨rfl, lo3⟩
set_option maxRecDepth 100000 in
set_option maxHeartbeats 1000000 in
theorem long_10 (x y : W) (w : World) (N : Nat) (hN : Sz w N) : Calls Try.prog 23 #[.int .i64 10, Q x, Q y] w fun e w' => e = .returned (Q (x ^^^ y)) ∧ Below N w w' := by
  go_enter Try.func23, Try.ntmps23
  go_upto_region 23 with fail
  have lo0 : Below N w w := Below.refl N w
  refine wp_region_later1 (N) ?_
  try simp only [Act.put, List.setIfInBounds_toArray, List.set_cons_succ, List.set_cons_zero]
  go_big_quiet_step (fail)
  go_big_quiet_step (fail)
  refine later_b (x := (.tmp 61)) (y := (.tmp 62)) rfl (bin_xor _ x y) rfl rfl (by rfl) ?_; simp only [Act.put, List.setIfInBounds_toArray, List.set_cons_succ, List.set_cons_zero]
  go_big_quiet_step (fail)
  refine wpQuiet_nil ?_
  rintro xw1 ⟨qxw1, exw1⟩
  have hbxw1 := qxw1.b
  rw [← exw1] at hbxw1
  clear qxw1 exw1
  obtain ⟨M2, hM2⟩ := sz_some xw1
  have lM2 := below_sz hbxw1 hN hM2
  have lo3 := lo0.trans (hbxw1.mono (by omega))
  clear lo0 hbxw1
  go_wp2_with fail
  go_ret
  exact ⟨rfl, lo3⟩
set_option maxRecDepth 100000 in
set_option maxHeartbeats 1000000 in
theorem long_11 (x y : W) (w : World) (N : Nat) (hN : Sz w N) : Calls Try.prog 23 #[.int .i64 11, Q x, Q y] w fun e w' => e = .returned (Q (y)) ∧ Below N w w' := by
  go_enter Try.func23, Try.ntmps23
  go_upto_region 25 with fail
  have lo0 : Below N w w := Below.refl N w
  refine wp_region_later1 (N) ?_
  try simp only [Act.put, List.setIfInBounds_toArray, List.set_cons_succ, List.set_cons_zero]
  go_big_quiet_step (fail)
  go_big_quiet_step (fail)
  refine wpQuiet_nil ?_
  rintro xw1 ⟨qxw1, exw1⟩
  have hbxw1 := qxw1.b
  rw [← exw1] at hbxw1
  clear qxw1 exw1
  obtain ⟨M2, hM2⟩ := sz_some xw1
  have lM2 := below_sz hbxw1 hN hM2
  have lo3 := lo0.trans (hbxw1.mono (by omega))
  clear lo0 hbxw1
  go_wp2_with fail
  go_ret
  exact ⟨rfl, lo3⟩
set_option maxRecDepth 100000 in
set_option maxHeartbeats 1000000 in
theorem long_12 (x y : W) (w : World) (N : Nat) (hN : Sz w N) : Calls Try.prog 23 #[.int .i64 12, Q x, Q y] w fun e w' => e = .returned (Q (x.sshiftRight (y % 64#64).toNat)) ∧ Below N w w' := by
  go_enter Try.func23, Try.ntmps23
  go_upto_region 27 with fail
  have lo0 : Below N w w := Below.refl N w
  have hlt := hid (sh_lt64 y)
  refine wp_region_later1 (N) ?_
  try simp only [Act.put, List.setIfInBounds_toArray, List.set_cons_succ, List.set_cons_zero]
  go_big_quiet_step (fail)
  refine later_val (fun q => run_us (x := (.tmp 69)) rfl und64 undI64 rfl q.w') (by rfl) ?_; simp only [Act.put, List.setIfInBounds_toArray, List.set_cons_succ, List.set_cons_zero]
  go_big_quiet_step (fail)
  refine later_b (x := (.tmp 71)) (y := (.const (.int .u64 64))) rfl (bin_rem _ y 64#64 (by decide)) rfl rfl (by rfl) ?_; simp only [Act.put, List.setIfInBounds_toArray, List.set_cons_succ, List.set_cons_zero]
  refine later_b (x := (.tmp 70)) (y := (.tmp 72)) rfl (bin_sshr _ x (y % 64#64) hlt.out) rfl rfl (by rfl) ?_; simp only [Act.put, List.setIfInBounds_toArray, List.set_cons_succ, List.set_cons_zero]
  refine later_val (fun q => run_su (x := (.tmp 73)) rfl undI64 und64 rfl q.w') (by rfl) ?_; simp only [Act.put, List.setIfInBounds_toArray, List.set_cons_succ, List.set_cons_zero]
  go_big_quiet_step (fail)
  refine wpQuiet_nil ?_
  rintro xw1 ⟨qxw1, exw1⟩
  have hbxw1 := qxw1.b
  rw [← exw1] at hbxw1
  clear qxw1 exw1
  obtain ⟨M2, hM2⟩ := sz_some xw1
  have lM2 := below_sz hbxw1 hN hM2
  have lo3 := lo0.trans (hbxw1.mono (by omega))
  clear lo0 hbxw1
  go_wp2_with fail
  go_ret
  exact ⟨rfl, lo3⟩
set_option maxRecDepth 100000 in
set_option maxHeartbeats 1000000 in
theorem long_o (op : Int) (x y : W) (w : World) (N : Nat) (hN : Sz w N) (h0 : (op == 0) = false) (h1 : (op == 1) = false) (h2 : (op == 2) = false) (h3 : (op == 3) = false) (h4 : (op == 4) = false) (h5 : (op == 5) = false) (h6 : (op == 6) = false) (h7 : (op == 7) = false) (h8 : (op == 8) = false) (h9 : (op == 9) = false) (h10 : (op == 10) = false) (h11 : (op == 11) = false) (h12 : (op == 12) = false) : Calls Try.prog 23 #[.int .i64 op, Q x, Q y] w fun e w' => e = .returned (Q 0#64) ∧ Below N w w' := by
  go_enter Try.func23, Try.ntmps23
  go_wp2
  go_ret
  exact ⟨rfl, Below.refl N w⟩
theorem Long_any (op : Int) (x y : W) (w : World) (N : Nat) (hN : Sz w N) : Calls Try.prog 23 #[.int .i64 op, Q x, Q y] w fun e w' => e = .returned (Q (evL op x y)) ∧ Below N w w' := by
  by_cases h0 : op = 0
  · subst h0; exact long_0 x y w N hN
  by_cases h1 : op = 1
  · subst h1; exact long_1 x y w N hN
  by_cases h2 : op = 2
  · subst h2; exact long_2 x y w N hN
  by_cases h3 : op = 3
  · subst h3; exact long_3 x y w N hN
  by_cases h4 : op = 4
  · subst h4; exact long_4 x y w N hN
  by_cases h5 : op = 5
  · subst h5; exact long_5 x y w N hN
  by_cases h6 : op = 6
  · subst h6; exact long_6 x y w N hN
  by_cases h7 : op = 7
  · subst h7; exact long_7 x y w N hN
  by_cases h8 : op = 8
  · subst h8; exact long_8 x y w N hN
  by_cases h9 : op = 9
  · subst h9; exact long_9 x y w N hN
  by_cases h10 : op = 10
  · subst h10; exact long_10 x y w N hN
  by_cases h11 : op = 11
  · subst h11; exact long_11 x y w N hN
  by_cases h12 : op = 12
  · subst h12; exact long_12 x y w N hN
  rw [show evL op x y = 0#64 from by unfold evL; rw [if_neg h0, if_neg h1, if_neg h2, if_neg h3, if_neg h4, if_neg h5, if_neg h6, if_neg h7, if_neg h8, if_neg h9, if_neg h10, if_neg h11, if_neg h12]]
  exact long_o op x y w N hN (beq_eq_false_iff_ne.2 h0) (beq_eq_false_iff_ne.2 h1) (beq_eq_false_iff_ne.2 h2) (beq_eq_false_iff_ne.2 h3) (beq_eq_false_iff_ne.2 h4) (beq_eq_false_iff_ne.2 h5) (beq_eq_false_iff_ne.2 h6) (beq_eq_false_iff_ne.2 h7) (beq_eq_false_iff_ne.2 h8) (beq_eq_false_iff_ne.2 h9) (beq_eq_false_iff_ne.2 h10) (beq_eq_false_iff_ne.2 h11) (beq_eq_false_iff_ne.2 h12)
end Go.Proofs.Ytkljnpdojmcipaa
