/- Contracts of what a jump tells: the opposite, as long. -/
import Derived.Test.YtbbfdehipgkjmaaDoorBr4
namespace Go.Proofs.YtbbfdehipgkjmaaDoor
open Go Go.RowKit
def opp1  : Int :=
  5
set_option maxRecDepth 100000 in
set_option maxHeartbeats 4000000 in
theorem Opp_1  (w : World) (N : Nat) (hN : Sz w N) : Calls Tryd.prog 28 #[(Value.int .i64 1)] w fun e w' => e = .returned (.int .i64 opp1) ∧ Below N w w' := by
  obtain ⟨rr, er⟩ : ∃ rr, rr = opp1 := ⟨_, rfl⟩
  rw [← er]
  have ER := hid er
  clear er
  go_enter Tryd.func28, Tryd.ntmps28
  have lo0 : Below N w w := Below.refl N w
  go_wp2_with fail
  go_ret
  exact ⟨by rw [ER.out]; first | rfl | (simp only [opp1, bB] <;> rfl), lo0⟩
def opp2  : Int :=
  11
set_option maxRecDepth 100000 in
set_option maxHeartbeats 4000000 in
theorem Opp_2  (w : World) (N : Nat) (hN : Sz w N) : Calls Tryd.prog 28 #[(Value.int .i64 2)] w fun e w' => e = .returned (.int .i64 opp2) ∧ Below N w w' := by
  obtain ⟨rr, er⟩ : ∃ rr, rr = opp2 := ⟨_, rfl⟩
  rw [← er]
  have ER := hid er
  clear er
  go_enter Tryd.func28, Tryd.ntmps28
  have lo0 : Below N w w := Below.refl N w
  go_wp2_with fail
  go_ret
  exact ⟨by rw [ER.out]; first | rfl | (simp only [opp2, bB] <;> rfl), lo0⟩
def opp3  : Int :=
  10
set_option maxRecDepth 100000 in
set_option maxHeartbeats 4000000 in
theorem Opp_3  (w : World) (N : Nat) (hN : Sz w N) : Calls Tryd.prog 28 #[(Value.int .i64 3)] w fun e w' => e = .returned (.int .i64 opp3) ∧ Below N w w' := by
  obtain ⟨rr, er⟩ : ∃ rr, rr = opp3 := ⟨_, rfl⟩
  rw [← er]
  have ER := hid er
  clear er
  go_enter Tryd.func28, Tryd.ntmps28
  have lo0 : Below N w w := Below.refl N w
  go_wp2_with fail
  go_ret
  exact ⟨by rw [ER.out]; first | rfl | (simp only [opp3, bB] <;> rfl), lo0⟩
def opp4  : Int :=
  (-1)
set_option maxRecDepth 100000 in
set_option maxHeartbeats 4000000 in
theorem Opp_4  (w : World) (N : Nat) (hN : Sz w N) : Calls Tryd.prog 28 #[(Value.int .i64 4)] w fun e w' => e = .returned (.int .i64 opp4) ∧ Below N w w' := by
  obtain ⟨rr, er⟩ : ∃ rr, rr = opp4 := ⟨_, rfl⟩
  rw [← er]
  have ER := hid er
  clear er
  go_enter Tryd.func28, Tryd.ntmps28
  have lo0 : Below N w w := Below.refl N w
  go_wp2_with fail
  go_ret
  exact ⟨by rw [ER.out]; first | rfl | (simp only [opp4, bB] <;> rfl), lo0⟩
def opp5  : Int :=
  1
set_option maxRecDepth 100000 in
set_option maxHeartbeats 4000000 in
theorem Opp_5  (w : World) (N : Nat) (hN : Sz w N) : Calls Tryd.prog 28 #[(Value.int .i64 5)] w fun e w' => e = .returned (.int .i64 opp5) ∧ Below N w w' := by
  obtain ⟨rr, er⟩ : ∃ rr, rr = opp5 := ⟨_, rfl⟩
  rw [← er]
  have ER := hid er
  clear er
  go_enter Tryd.func28, Tryd.ntmps28
  have lo0 : Below N w w := Below.refl N w
  go_wp2_with fail
  go_ret
  exact ⟨by rw [ER.out]; first | rfl | (simp only [opp5, bB] <;> rfl), lo0⟩
def opp6  : Int :=
  13
set_option maxRecDepth 100000 in
set_option maxHeartbeats 4000000 in
theorem Opp_6  (w : World) (N : Nat) (hN : Sz w N) : Calls Tryd.prog 28 #[(Value.int .i64 6)] w fun e w' => e = .returned (.int .i64 opp6) ∧ Below N w w' := by
  obtain ⟨rr, er⟩ : ∃ rr, rr = opp6 := ⟨_, rfl⟩
  rw [← er]
  have ER := hid er
  clear er
  go_enter Tryd.func28, Tryd.ntmps28
  have lo0 : Below N w w := Below.refl N w
  go_wp2_with fail
  go_ret
  exact ⟨by rw [ER.out]; first | rfl | (simp only [opp6, bB] <;> rfl), lo0⟩
def opp7  : Int :=
  12
set_option maxRecDepth 100000 in
set_option maxHeartbeats 4000000 in
theorem Opp_7  (w : World) (N : Nat) (hN : Sz w N) : Calls Tryd.prog 28 #[(Value.int .i64 7)] w fun e w' => e = .returned (.int .i64 opp7) ∧ Below N w w' := by
  obtain ⟨rr, er⟩ : ∃ rr, rr = opp7 := ⟨_, rfl⟩
  rw [← er]
  have ER := hid er
  clear er
  go_enter Tryd.func28, Tryd.ntmps28
  have lo0 : Below N w w := Below.refl N w
  go_wp2_with fail
  go_ret
  exact ⟨by rw [ER.out]; first | rfl | (simp only [opp7, bB] <;> rfl), lo0⟩
def opp10  : Int :=
  3
set_option maxRecDepth 100000 in
set_option maxHeartbeats 4000000 in
theorem Opp_10  (w : World) (N : Nat) (hN : Sz w N) : Calls Tryd.prog 28 #[(Value.int .i64 10)] w fun e w' => e = .returned (.int .i64 opp10) ∧ Below N w w' := by
  obtain ⟨rr, er⟩ : ∃ rr, rr = opp10 := ⟨_, rfl⟩
  rw [← er]
  have ER := hid er
  clear er
  go_enter Tryd.func28, Tryd.ntmps28
  have lo0 : Below N w w := Below.refl N w
  go_wp2_with fail
  go_ret
  exact ⟨by rw [ER.out]; first | rfl | (simp only [opp10, bB] <;> rfl), lo0⟩
def opp11  : Int :=
  2
set_option maxRecDepth 100000 in
set_option maxHeartbeats 4000000 in
theorem Opp_11  (w : World) (N : Nat) (hN : Sz w N) : Calls Tryd.prog 28 #[(Value.int .i64 11)] w fun e w' => e = .returned (.int .i64 opp11) ∧ Below N w w' := by
  obtain ⟨rr, er⟩ : ∃ rr, rr = opp11 := ⟨_, rfl⟩
  rw [← er]
  have ER := hid er
  clear er
  go_enter Tryd.func28, Tryd.ntmps28
  have lo0 : Below N w w := Below.refl N w
  go_wp2_with fail
  go_ret
  exact ⟨by rw [ER.out]; first | rfl | (simp only [opp11, bB] <;> rfl), lo0⟩
def opp12  : Int :=
  7
set_option maxRecDepth 100000 in
set_option maxHeartbeats 4000000 in
theorem Opp_12  (w : World) (N : Nat) (hN : Sz w N) : Calls Tryd.prog 28 #[(Value.int .i64 12)] w fun e w' => e = .returned (.int .i64 opp12) ∧ Below N w w' := by
  obtain ⟨rr, er⟩ : ∃ rr, rr = opp12 := ⟨_, rfl⟩
  rw [← er]
  have ER := hid er
  clear er
  go_enter Tryd.func28, Tryd.ntmps28
  have lo0 : Below N w w := Below.refl N w
  go_wp2_with fail
  go_ret
  exact ⟨by rw [ER.out]; first | rfl | (simp only [opp12, bB] <;> rfl), lo0⟩
def opp13  : Int :=
  6
set_option maxRecDepth 100000 in
set_option maxHeartbeats 4000000 in
theorem Opp_13  (w : World) (N : Nat) (hN : Sz w N) : Calls Tryd.prog 28 #[(Value.int .i64 13)] w fun e w' => e = .returned (.int .i64 opp13) ∧ Below N w w' := by
  obtain ⟨rr, er⟩ : ∃ rr, rr = opp13 := ⟨_, rfl⟩
  rw [← er]
  have ER := hid er
  clear er
  go_enter Tryd.func28, Tryd.ntmps28
  have lo0 : Below N w w := Below.refl N w
  go_wp2_with fail
  go_ret
  exact ⟨by rw [ER.out]; first | rfl | (simp only [opp13, bB] <;> rfl), lo0⟩
def oppo (z : Int) : Int :=
  0
set_option maxRecDepth 100000 in
set_option maxHeartbeats 4000000 in
theorem Opp_o (z : Int) (w : World) (N : Nat) (hN : Sz w N) (h1 : (z == 1) = false) (h2 : (z == 2) = false) (h3 : (z == 3) = false) (h4 : (z == 4) = false) (h5 : (z == 5) = false) (h6 : (z == 6) = false) (h7 : (z == 7) = false) (h10 : (z == 10) = false) (h11 : (z == 11) = false) (h12 : (z == 12) = false) (h13 : (z == 13) = false) : Calls Tryd.prog 28 #[(Value.int .i64 z)] w fun e w' => e = .returned (.int .i64 (oppo z)) ∧ Below N w w' := by
  obtain ⟨rr, er⟩ : ∃ rr, rr = (oppo z) := ⟨_, rfl⟩
  rw [← er]
  have ER := hid er
  clear er
  go_enter Tryd.func28, Tryd.ntmps28
  have lo0 : Below N w w := Below.refl N w
  go_wp2_with fail
  go_ret
  exact ⟨by rw [ER.out]; first | rfl | (simp only [oppo, bB] <;> rfl), lo0⟩
def aslS6 (a : Rn) (b : Rn) : Bool :=
  bif (BitVec.ule a.hi 2147483647#64) then (BitVec.ule b.hi 2147483647#64)
  else false
set_option maxRecDepth 100000 in
set_option maxHeartbeats 4000000 in
theorem AsLong_6 (a : Rn) (b : Rn) (w : World) (N : Nat) (hN : Sz w N) : Calls Tryd.prog 32 #[(Value.int .i64 6), rV a, rV b] w fun e w' => e = .returned (.bool (aslS6 a b)) ∧ Below N w w' := by
  obtain ⟨rr, er⟩ : ∃ rr, rr = (aslS6 a b) := ⟨_, rfl⟩
  rw [← er]
  have ER := hid er
  clear er
  unfold rV
  go_enter Tryd.func32, Tryd.ntmps32
  go_upto_region 1 with (first
    | (refine wpl_box rfl 27 (.tmp 1) rfl 6 _ rfl (N) hN ?_; intro w1 hN1 hb1 hh1)
    | (refine wpl_box rfl 27 (.tmp 2) rfl 6 _ rfl (N + 1) hN1 ?_; intro w2 hN2 hb2 hh2)
    | fail)
  have lo0 : Below N w w2 := (hb1.trans (hb2.mono (by omega)))
  have k1 := (hh1.below hb2 (by omega))
  have k2 := hh2
  clear hh1 hb1 hh2 hb2 hN1
  go_upto_region 1 with fail
  refine wp_region_later1 ((N + 1 + 1)) ?_
  try simp only [pA]
  go_big_quiet_step (fail)
  refine wpQuiet_nil (laterE hN2 ?_)
  intro xw3 M4 hbxw3 hM4 lM4
  have k5 := k1.below hbxw3 (by omega)
  have k6 := k2.below hbxw3 (by omega)
  have lo7 := lo0.trans (hbxw3.mono (by omega))
  clear k1 k2 lo0 hbxw3
  go_upto_region 7 with fail
  refine wp_region_later1 (M4) ?_
  try simp only [pA]
  go_big_quiet_step (fail)
  refine wpQuiet_nil (laterE hM4 ?_)
  intro xw8 M9 hbxw8 hM9 lM9
  have k10 := k5.below hbxw8 (by omega)
  have k11 := k6.below hbxw8 (by omega)
  have lo12 := lo7.trans (hbxw8.mono (by omega))
  clear k5 k6 lo7 hbxw8
  cases h1_ : (BitVec.ule a.hi 2147483647#64)
  · have H1_ := hid h1_
    clear h1_
    go_upto_region 8 with fail
    obtain ⟨c13, c14, c15, c16, c17, c18⟩ := r_cells k10
    obtain ⟨c19, c20, c21, c22, c23, c24⟩ := r_cells k11
    refine wp_region_later1 (M9) ?_
    try simp only [pA]
    go_big_quiet_step (fail)
    refine later_c1 hM9 23 (.tmp 14) rfl rfl und64 rfl c16 (by rfl) ?_; simp only [pA]
    go_big_quiet_step (fail)
    refine later_b (x := (.tmp 15)) (y := (.tmp 16)) rfl (BinRun.is H1_.out (bin_leq _ a.hi 2147483647#64)) rfl rfl (by rfl) ?_; simp only [pA]
    iterate 7 (go_big_quiet_step (fail))
    refine wpQuiet_nil (laterE hM9 ?_)
    intro xw25 M26 hbxw25 hM26 lM26
    have k27 := k10.below hbxw25 (by omega)
    have k28 := k11.below hbxw25 (by omega)
    have lo29 := lo12.trans (hbxw25.mono (by omega))
    clear k10 c13 c14 c15 c16 c17 c18 k11 c19 c20 c21 c22 c23 c24 lo12 hbxw25
    go_wp2_with fail
    go_ret
    exact ⟨by rw [ER.out]; first | rfl | (simp only [aslS6, H1_.out, bB] <;> rfl), lo29⟩
  · have H1_ := hid h1_
    clear h1_
    go_upto_region 8 with fail
    obtain ⟨c13, c14, c15, c16, c17, c18⟩ := r_cells k10
    obtain ⟨c19, c20, c21, c22, c23, c24⟩ := r_cells k11
    refine wp_region_later1 (M9) ?_
    try simp only [pA]
    go_big_quiet_step (fail)
    refine later_c1 hM9 23 (.tmp 14) rfl rfl und64 rfl c16 (by rfl) ?_; simp only [pA]
    go_big_quiet_step (fail)
    refine later_b (x := (.tmp 15)) (y := (.tmp 16)) rfl (BinRun.is H1_.out (bin_leq _ a.hi 2147483647#64)) rfl rfl (by rfl) ?_; simp only [pA]
    iterate 2 (go_big_quiet_step (fail))
    refine later_c1 hM9 23 (.tmp 19) rfl rfl und64 rfl c22 (by rfl) ?_; simp only [pA]
    go_big_quiet_step (fail)
    refine later_b (x := (.tmp 20)) (y := (.tmp 21)) rfl (bin_leq _ b.hi 2147483647#64) rfl rfl (by rfl) ?_; simp only [pA]
    iterate 2 (go_big_quiet_step (fail))
    refine wpQuiet_nil (laterE hM9 ?_)
    intro xw25 M26 hbxw25 hM26 lM26
    have k27 := k10.below hbxw25 (by omega)
    have k28 := k11.below hbxw25 (by omega)
    have lo29 := lo12.trans (hbxw25.mono (by omega))
    clear k10 c13 c14 c15 c16 c17 c18 k11 c19 c20 c21 c22 c23 c24 lo12 hbxw25
    go_wp2_with fail
    go_ret
    exact ⟨by rw [ER.out]; first | rfl | (simp only [aslS6, H1_.out, bB] <;> rfl), lo29⟩
def aslS7 (a : Rn) (b : Rn) : Bool :=
  bif (BitVec.ule a.hi 2147483647#64) then (BitVec.ule b.hi 2147483647#64)
  else false
set_option maxRecDepth 100000 in
set_option maxHeartbeats 4000000 in
theorem AsLong_7 (a : Rn) (b : Rn) (w : World) (N : Nat) (hN : Sz w N) : Calls Tryd.prog 32 #[(Value.int .i64 7), rV a, rV b] w fun e w' => e = .returned (.bool (aslS7 a b)) ∧ Below N w w' := by
  obtain ⟨rr, er⟩ : ∃ rr, rr = (aslS7 a b) := ⟨_, rfl⟩
  rw [← er]
  have ER := hid er
  clear er
  unfold rV
  go_enter Tryd.func32, Tryd.ntmps32
  go_upto_region 1 with (first
    | (refine wpl_box rfl 27 (.tmp 1) rfl 6 _ rfl (N) hN ?_; intro w1 hN1 hb1 hh1)
    | (refine wpl_box rfl 27 (.tmp 2) rfl 6 _ rfl (N + 1) hN1 ?_; intro w2 hN2 hb2 hh2)
    | fail)
  have lo0 : Below N w w2 := (hb1.trans (hb2.mono (by omega)))
  have k1 := (hh1.below hb2 (by omega))
  have k2 := hh2
  clear hh1 hb1 hh2 hb2 hN1
  go_upto_region 1 with fail
  refine wp_region_later1 ((N + 1 + 1)) ?_
  try simp only [pA]
  go_big_quiet_step (fail)
  refine wpQuiet_nil (laterE hN2 ?_)
  intro xw3 M4 hbxw3 hM4 lM4
  have k5 := k1.below hbxw3 (by omega)
  have k6 := k2.below hbxw3 (by omega)
  have lo7 := lo0.trans (hbxw3.mono (by omega))
  clear k1 k2 lo0 hbxw3
  go_upto_region 7 with fail
  refine wp_region_later1 (M4) ?_
  try simp only [pA]
  go_big_quiet_step (fail)
  refine wpQuiet_nil (laterE hM4 ?_)
  intro xw8 M9 hbxw8 hM9 lM9
  have k10 := k5.below hbxw8 (by omega)
  have k11 := k6.below hbxw8 (by omega)
  have lo12 := lo7.trans (hbxw8.mono (by omega))
  clear k5 k6 lo7 hbxw8
  cases h1_ : (BitVec.ule a.hi 2147483647#64)
  · have H1_ := hid h1_
    clear h1_
    go_upto_region 8 with fail
    obtain ⟨c13, c14, c15, c16, c17, c18⟩ := r_cells k10
    obtain ⟨c19, c20, c21, c22, c23, c24⟩ := r_cells k11
    refine wp_region_later1 (M9) ?_
    try simp only [pA]
    go_big_quiet_step (fail)
    refine later_c1 hM9 23 (.tmp 14) rfl rfl und64 rfl c16 (by rfl) ?_; simp only [pA]
    go_big_quiet_step (fail)
    refine later_b (x := (.tmp 15)) (y := (.tmp 16)) rfl (BinRun.is H1_.out (bin_leq _ a.hi 2147483647#64)) rfl rfl (by rfl) ?_; simp only [pA]
    iterate 7 (go_big_quiet_step (fail))
    refine wpQuiet_nil (laterE hM9 ?_)
    intro xw25 M26 hbxw25 hM26 lM26
    have k27 := k10.below hbxw25 (by omega)
    have k28 := k11.below hbxw25 (by omega)
    have lo29 := lo12.trans (hbxw25.mono (by omega))
    clear k10 c13 c14 c15 c16 c17 c18 k11 c19 c20 c21 c22 c23 c24 lo12 hbxw25
    go_wp2_with fail
    go_ret
    exact ⟨by rw [ER.out]; first | rfl | (simp only [aslS7, H1_.out, bB] <;> rfl), lo29⟩
  · have H1_ := hid h1_
    clear h1_
    go_upto_region 8 with fail
    obtain ⟨c13, c14, c15, c16, c17, c18⟩ := r_cells k10
    obtain ⟨c19, c20, c21, c22, c23, c24⟩ := r_cells k11
    refine wp_region_later1 (M9) ?_
    try simp only [pA]
    go_big_quiet_step (fail)
    refine later_c1 hM9 23 (.tmp 14) rfl rfl und64 rfl c16 (by rfl) ?_; simp only [pA]
    go_big_quiet_step (fail)
    refine later_b (x := (.tmp 15)) (y := (.tmp 16)) rfl (BinRun.is H1_.out (bin_leq _ a.hi 2147483647#64)) rfl rfl (by rfl) ?_; simp only [pA]
    iterate 2 (go_big_quiet_step (fail))
    refine later_c1 hM9 23 (.tmp 19) rfl rfl und64 rfl c22 (by rfl) ?_; simp only [pA]
    go_big_quiet_step (fail)
    refine later_b (x := (.tmp 20)) (y := (.tmp 21)) rfl (bin_leq _ b.hi 2147483647#64) rfl rfl (by rfl) ?_; simp only [pA]
    iterate 2 (go_big_quiet_step (fail))
    refine wpQuiet_nil (laterE hM9 ?_)
    intro xw25 M26 hbxw25 hM26 lM26
    have k27 := k10.below hbxw25 (by omega)
    have k28 := k11.below hbxw25 (by omega)
    have lo29 := lo12.trans (hbxw25.mono (by omega))
    clear k10 c13 c14 c15 c16 c17 c18 k11 c19 c20 c21 c22 c23 c24 lo12 hbxw25
    go_wp2_with fail
    go_ret
    exact ⟨by rw [ER.out]; first | rfl | (simp only [aslS7, H1_.out, bB] <;> rfl), lo29⟩
def aslS12 (a : Rn) (b : Rn) : Bool :=
  bif (BitVec.ule a.hi 2147483647#64) then (BitVec.ule b.hi 2147483647#64)
  else false
set_option maxRecDepth 100000 in
set_option maxHeartbeats 4000000 in
theorem AsLong_12 (a : Rn) (b : Rn) (w : World) (N : Nat) (hN : Sz w N) : Calls Tryd.prog 32 #[(Value.int .i64 12), rV a, rV b] w fun e w' => e = .returned (.bool (aslS12 a b)) ∧ Below N w w' := by
  obtain ⟨rr, er⟩ : ∃ rr, rr = (aslS12 a b) := ⟨_, rfl⟩
  rw [← er]
  have ER := hid er
  clear er
  unfold rV
  go_enter Tryd.func32, Tryd.ntmps32
  go_upto_region 1 with (first
    | (refine wpl_box rfl 27 (.tmp 1) rfl 6 _ rfl (N) hN ?_; intro w1 hN1 hb1 hh1)
    | (refine wpl_box rfl 27 (.tmp 2) rfl 6 _ rfl (N + 1) hN1 ?_; intro w2 hN2 hb2 hh2)
    | fail)
  have lo0 : Below N w w2 := (hb1.trans (hb2.mono (by omega)))
  have k1 := (hh1.below hb2 (by omega))
  have k2 := hh2
  clear hh1 hb1 hh2 hb2 hN1
  go_upto_region 1 with fail
  refine wp_region_later1 ((N + 1 + 1)) ?_
  try simp only [pA]
  go_big_quiet_step (fail)
  refine wpQuiet_nil (laterE hN2 ?_)
  intro xw3 M4 hbxw3 hM4 lM4
  have k5 := k1.below hbxw3 (by omega)
  have k6 := k2.below hbxw3 (by omega)
  have lo7 := lo0.trans (hbxw3.mono (by omega))
  clear k1 k2 lo0 hbxw3
  go_upto_region 7 with fail
  refine wp_region_later1 (M4) ?_
  try simp only [pA]
  go_big_quiet_step (fail)
  refine wpQuiet_nil (laterE hM4 ?_)
  intro xw8 M9 hbxw8 hM9 lM9
  have k10 := k5.below hbxw8 (by omega)
  have k11 := k6.below hbxw8 (by omega)
  have lo12 := lo7.trans (hbxw8.mono (by omega))
  clear k5 k6 lo7 hbxw8
  cases h1_ : (BitVec.ule a.hi 2147483647#64)
  · have H1_ := hid h1_
    clear h1_
    go_upto_region 8 with fail
    obtain ⟨c13, c14, c15, c16, c17, c18⟩ := r_cells k10
    obtain ⟨c19, c20, c21, c22, c23, c24⟩ := r_cells k11
    refine wp_region_later1 (M9) ?_
    try simp only [pA]
    go_big_quiet_step (fail)
    refine later_c1 hM9 23 (.tmp 14) rfl rfl und64 rfl c16 (by rfl) ?_; simp only [pA]
    go_big_quiet_step (fail)
    refine later_b (x := (.tmp 15)) (y := (.tmp 16)) rfl (BinRun.is H1_.out (bin_leq _ a.hi 2147483647#64)) rfl rfl (by rfl) ?_; simp only [pA]
    iterate 7 (go_big_quiet_step (fail))
    refine wpQuiet_nil (laterE hM9 ?_)
    intro xw25 M26 hbxw25 hM26 lM26
    have k27 := k10.below hbxw25 (by omega)
    have k28 := k11.below hbxw25 (by omega)
    have lo29 := lo12.trans (hbxw25.mono (by omega))
    clear k10 c13 c14 c15 c16 c17 c18 k11 c19 c20 c21 c22 c23 c24 lo12 hbxw25
    go_wp2_with fail
    go_ret
    exact ⟨by rw [ER.out]; first | rfl | (simp only [aslS12, H1_.out, bB] <;> rfl), lo29⟩
  · have H1_ := hid h1_
    clear h1_
    go_upto_region 8 with fail
    obtain ⟨c13, c14, c15, c16, c17, c18⟩ := r_cells k10
    obtain ⟨c19, c20, c21, c22, c23, c24⟩ := r_cells k11
    refine wp_region_later1 (M9) ?_
    try simp only [pA]
    go_big_quiet_step (fail)
    refine later_c1 hM9 23 (.tmp 14) rfl rfl und64 rfl c16 (by rfl) ?_; simp only [pA]
    go_big_quiet_step (fail)
    refine later_b (x := (.tmp 15)) (y := (.tmp 16)) rfl (BinRun.is H1_.out (bin_leq _ a.hi 2147483647#64)) rfl rfl (by rfl) ?_; simp only [pA]
    iterate 2 (go_big_quiet_step (fail))
    refine later_c1 hM9 23 (.tmp 19) rfl rfl und64 rfl c22 (by rfl) ?_; simp only [pA]
    go_big_quiet_step (fail)
    refine later_b (x := (.tmp 20)) (y := (.tmp 21)) rfl (bin_leq _ b.hi 2147483647#64) rfl rfl (by rfl) ?_; simp only [pA]
    iterate 2 (go_big_quiet_step (fail))
    refine wpQuiet_nil (laterE hM9 ?_)
    intro xw25 M26 hbxw25 hM26 lM26
    have k27 := k10.below hbxw25 (by omega)
    have k28 := k11.below hbxw25 (by omega)
    have lo29 := lo12.trans (hbxw25.mono (by omega))
    clear k10 c13 c14 c15 c16 c17 c18 k11 c19 c20 c21 c22 c23 c24 lo12 hbxw25
    go_wp2_with fail
    go_ret
    exact ⟨by rw [ER.out]; first | rfl | (simp only [aslS12, H1_.out, bB] <;> rfl), lo29⟩
def aslS13 (a : Rn) (b : Rn) : Bool :=
  bif (BitVec.ule a.hi 2147483647#64) then (BitVec.ule b.hi 2147483647#64)
  else false
set_option maxRecDepth 100000 in
set_option maxHeartbeats 4000000 in
theorem AsLong_13 (a : Rn) (b : Rn) (w : World) (N : Nat) (hN : Sz w N) : Calls Tryd.prog 32 #[(Value.int .i64 13), rV a, rV b] w fun e w' => e = .returned (.bool (aslS13 a b)) ∧ Below N w w' := by
  obtain ⟨rr, er⟩ : ∃ rr, rr = (aslS13 a b) := ⟨_, rfl⟩
  rw [← er]
  have ER := hid er
  clear er
  unfold rV
  go_enter Tryd.func32, Tryd.ntmps32
  go_upto_region 1 with (first
    | (refine wpl_box rfl 27 (.tmp 1) rfl 6 _ rfl (N) hN ?_; intro w1 hN1 hb1 hh1)
    | (refine wpl_box rfl 27 (.tmp 2) rfl 6 _ rfl (N + 1) hN1 ?_; intro w2 hN2 hb2 hh2)
    | fail)
  have lo0 : Below N w w2 := (hb1.trans (hb2.mono (by omega)))
  have k1 := (hh1.below hb2 (by omega))
  have k2 := hh2
  clear hh1 hb1 hh2 hb2 hN1
  go_upto_region 1 with fail
  refine wp_region_later1 ((N + 1 + 1)) ?_
  try simp only [pA]
  go_big_quiet_step (fail)
  refine wpQuiet_nil (laterE hN2 ?_)
  intro xw3 M4 hbxw3 hM4 lM4
  have k5 := k1.below hbxw3 (by omega)
  have k6 := k2.below hbxw3 (by omega)
  have lo7 := lo0.trans (hbxw3.mono (by omega))
  clear k1 k2 lo0 hbxw3
  go_upto_region 7 with fail
  refine wp_region_later1 (M4) ?_
  try simp only [pA]
  go_big_quiet_step (fail)
  refine wpQuiet_nil (laterE hM4 ?_)
  intro xw8 M9 hbxw8 hM9 lM9
  have k10 := k5.below hbxw8 (by omega)
  have k11 := k6.below hbxw8 (by omega)
  have lo12 := lo7.trans (hbxw8.mono (by omega))
  clear k5 k6 lo7 hbxw8
  cases h1_ : (BitVec.ule a.hi 2147483647#64)
  · have H1_ := hid h1_
    clear h1_
    go_upto_region 8 with fail
    obtain ⟨c13, c14, c15, c16, c17, c18⟩ := r_cells k10
    obtain ⟨c19, c20, c21, c22, c23, c24⟩ := r_cells k11
    refine wp_region_later1 (M9) ?_
    try simp only [pA]
    go_big_quiet_step (fail)
    refine later_c1 hM9 23 (.tmp 14) rfl rfl und64 rfl c16 (by rfl) ?_; simp only [pA]
    go_big_quiet_step (fail)
    refine later_b (x := (.tmp 15)) (y := (.tmp 16)) rfl (BinRun.is H1_.out (bin_leq _ a.hi 2147483647#64)) rfl rfl (by rfl) ?_; simp only [pA]
    iterate 7 (go_big_quiet_step (fail))
    refine wpQuiet_nil (laterE hM9 ?_)
    intro xw25 M26 hbxw25 hM26 lM26
    have k27 := k10.below hbxw25 (by omega)
    have k28 := k11.below hbxw25 (by omega)
    have lo29 := lo12.trans (hbxw25.mono (by omega))
    clear k10 c13 c14 c15 c16 c17 c18 k11 c19 c20 c21 c22 c23 c24 lo12 hbxw25
    go_wp2_with fail
    go_ret
    exact ⟨by rw [ER.out]; first | rfl | (simp only [aslS13, H1_.out, bB] <;> rfl), lo29⟩
  · have H1_ := hid h1_
    clear h1_
    go_upto_region 8 with fail
    obtain ⟨c13, c14, c15, c16, c17, c18⟩ := r_cells k10
    obtain ⟨c19, c20, c21, c22, c23, c24⟩ := r_cells k11
    refine wp_region_later1 (M9) ?_
    try simp only [pA]
    go_big_quiet_step (fail)
    refine later_c1 hM9 23 (.tmp 14) rfl rfl und64 rfl c16 (by rfl) ?_; simp only [pA]
    go_big_quiet_step (fail)
    refine later_b (x := (.tmp 15)) (y := (.tmp 16)) rfl (BinRun.is H1_.out (bin_leq _ a.hi 2147483647#64)) rfl rfl (by rfl) ?_; simp only [pA]
    iterate 2 (go_big_quiet_step (fail))
    refine later_c1 hM9 23 (.tmp 19) rfl rfl und64 rfl c22 (by rfl) ?_; simp only [pA]
    go_big_quiet_step (fail)
    refine later_b (x := (.tmp 20)) (y := (.tmp 21)) rfl (bin_leq _ b.hi 2147483647#64) rfl rfl (by rfl) ?_; simp only [pA]
    iterate 2 (go_big_quiet_step (fail))
    refine wpQuiet_nil (laterE hM9 ?_)
    intro xw25 M26 hbxw25 hM26 lM26
    have k27 := k10.below hbxw25 (by omega)
    have k28 := k11.below hbxw25 (by omega)
    have lo29 := lo12.trans (hbxw25.mono (by omega))
    clear k10 c13 c14 c15 c16 c17 c18 k11 c19 c20 c21 c22 c23 c24 lo12 hbxw25
    go_wp2_with fail
    go_ret
    exact ⟨by rw [ER.out]; first | rfl | (simp only [aslS13, H1_.out, bB] <;> rfl), lo29⟩
def aslO (z : Int) (a : Rn) (b : Rn) : Bool :=
  bif (BitVec.ule a.hi 4294967295#64) then (BitVec.ule b.hi 4294967295#64)
  else false
set_option maxRecDepth 100000 in
set_option maxHeartbeats 4000000 in
theorem AsLong_o (z : Int) (a : Rn) (b : Rn) (w : World) (N : Nat) (hN : Sz w N) (h6 : (z == 6) = false) (h7 : (z == 7) = false) (h12 : (z == 12) = false) (h13 : (z == 13) = false) : Calls Tryd.prog 32 #[(Value.int .i64 z), rV a, rV b] w fun e w' => e = .returned (.bool (aslO z a b)) ∧ Below N w w' := by
  obtain ⟨rr, er⟩ : ∃ rr, rr = (aslO z a b) := ⟨_, rfl⟩
  rw [← er]
  have ER := hid er
  clear er
  unfold rV
  go_enter Tryd.func32, Tryd.ntmps32
  go_upto_region 1 with (first
    | (refine wpl_box rfl 27 (.tmp 1) rfl 6 _ rfl (N) hN ?_; intro w1 hN1 hb1 hh1)
    | (refine wpl_box rfl 27 (.tmp 2) rfl 6 _ rfl (N + 1) hN1 ?_; intro w2 hN2 hb2 hh2)
    | fail)
  have lo0 : Below N w w2 := (hb1.trans (hb2.mono (by omega)))
  have k1 := (hh1.below hb2 (by omega))
  have k2 := hh2
  clear hh1 hb1 hh2 hb2 hN1
  go_upto_region 1 with fail
  refine wp_region_later1 ((N + 1 + 1)) ?_
  try simp only [pA]
  go_big_quiet_step (fail)
  refine wpQuiet_nil (laterE hN2 ?_)
  intro xw3 M4 hbxw3 hM4 lM4
  have k5 := k1.below hbxw3 (by omega)
  have k6 := k2.below hbxw3 (by omega)
  have lo7 := lo0.trans (hbxw3.mono (by omega))
  clear k1 k2 lo0 hbxw3
  cases h1_ : (BitVec.ule a.hi 4294967295#64)
  · have H1_ := hid h1_
    clear h1_
    go_upto_region 8 with fail
    obtain ⟨c8, c9, c10, c11, c12, c13⟩ := r_cells k5
    obtain ⟨c14, c15, c16, c17, c18, c19⟩ := r_cells k6
    refine wp_region_later1 (M4) ?_
    try simp only [pA]
    go_big_quiet_step (fail)
    refine later_c1 hM4 23 (.tmp 14) rfl rfl und64 rfl c11 (by rfl) ?_; simp only [pA]
    go_big_quiet_step (fail)
    refine later_b (x := (.tmp 15)) (y := (.tmp 16)) rfl (BinRun.is H1_.out (bin_leq _ a.hi 4294967295#64)) rfl rfl (by rfl) ?_; simp only [pA]
    iterate 7 (go_big_quiet_step (fail))
    refine wpQuiet_nil (laterE hM4 ?_)
    intro xw20 M21 hbxw20 hM21 lM21
    have k22 := k5.below hbxw20 (by omega)
    have k23 := k6.below hbxw20 (by omega)
    have lo24 := lo7.trans (hbxw20.mono (by omega))
    clear k5 c8 c9 c10 c11 c12 c13 k6 c14 c15 c16 c17 c18 c19 lo7 hbxw20
    go_wp2_with fail
    go_ret
    exact ⟨by rw [ER.out]; first | rfl | (simp only [aslO, H1_.out, bB] <;> rfl), lo24⟩
  · have H1_ := hid h1_
    clear h1_
    go_upto_region 8 with fail
    obtain ⟨c8, c9, c10, c11, c12, c13⟩ := r_cells k5
    obtain ⟨c14, c15, c16, c17, c18, c19⟩ := r_cells k6
    refine wp_region_later1 (M4) ?_
    try simp only [pA]
    go_big_quiet_step (fail)
    refine later_c1 hM4 23 (.tmp 14) rfl rfl und64 rfl c11 (by rfl) ?_; simp only [pA]
    go_big_quiet_step (fail)
    refine later_b (x := (.tmp 15)) (y := (.tmp 16)) rfl (BinRun.is H1_.out (bin_leq _ a.hi 4294967295#64)) rfl rfl (by rfl) ?_; simp only [pA]
    iterate 2 (go_big_quiet_step (fail))
    refine later_c1 hM4 23 (.tmp 19) rfl rfl und64 rfl c17 (by rfl) ?_; simp only [pA]
    go_big_quiet_step (fail)
    refine later_b (x := (.tmp 20)) (y := (.tmp 21)) rfl (bin_leq _ b.hi 4294967295#64) rfl rfl (by rfl) ?_; simp only [pA]
    iterate 2 (go_big_quiet_step (fail))
    refine wpQuiet_nil (laterE hM4 ?_)
    intro xw20 M21 hbxw20 hM21 lM21
    have k22 := k5.below hbxw20 (by omega)
    have k23 := k6.below hbxw20 (by omega)
    have lo24 := lo7.trans (hbxw20.mono (by omega))
    clear k5 c8 c9 c10 c11 c12 c13 k6 c14 c15 c16 c17 c18 c19 lo7 hbxw20
    go_wp2_with fail
    go_ret
    exact ⟨by rw [ER.out]; first | rfl | (simp only [aslO, H1_.out, bB] <;> rfl), lo24⟩
end Go.Proofs.YtbbfdehipgkjmaaDoor
