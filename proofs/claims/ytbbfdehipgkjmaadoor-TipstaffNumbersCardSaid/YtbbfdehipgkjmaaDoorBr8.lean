/- Contracts of what a jump tells: does a comparison hold. -/
import Derived.Test.YtbbfdehipgkjmaaDoorBr7
namespace Go.Proofs.YtbbfdehipgkjmaaDoor
open Go Go.RowKit
def hol1 (l : Bool) (x : W) (y : W) : Bool :=
  bif l then (x == y)
  else ((lo32 x) == (lo32 y))
set_option maxRecDepth 100000 in
set_option maxHeartbeats 4000000 in
theorem Hol_1 (l : Bool) (x : W) (y : W) (w : World) (N : Nat) (hN : Sz w N) : Calls Tryd.prog 31 #[(Value.int .i64 1), (Value.bool l), (Q x), (Q y)] w fun e w' => e = .returned (.bool (hol1 l x y)) ∧ Below N w w' := by
  obtain ⟨rr, er⟩ : ∃ rr, rr = (hol1 l x y) := ⟨_, rfl⟩
  rw [← er]
  have ER := hid er
  clear er
  go_enter Tryd.func31, Tryd.ntmps31
  have lo0 : Below N w w := Below.refl N w
  go_upto_region 1 with fail
  refine wp_region_later1 (N) ?_
  try simp only [pA]
  go_big_quiet_step (fail)
  refine later_val (fun q => run_us (x := (.tmp 11)) rfl und64 undI64 rfl q.w') (by rfl) ?_; simp only [pA]
  go_big_quiet_step (fail)
  refine later_val (fun q => run_us (x := (.tmp 13)) rfl und64 undI64 rfl q.w') (by rfl) ?_; simp only [pA]
  iterate 2 (go_big_quiet_step (fail))
  refine wpQuiet_nil (laterE hN ?_)
  intro xw1 M2 hbxw1 hM2 lM2
  have lo3 := lo0.trans (hbxw1.mono (by omega))
  clear lo0 hbxw1
  cases h1_ : l
  · have H1_ := hid h1_
    clear h1_
    go_upto_region 2 with fail
    refine wp_region_later1 (M2) ?_
    try simp only [pA]
    iterate 2 (go_big_quiet_step (fail))
    refine wpQuiet_nil (laterE hM2 ?_)
    intro xw4 M5 hbxw4 hM5 lM5
    have lo6 := lo3.trans (hbxw4.mono (by omega))
    clear lo3 hbxw4
    go_upto_region 3 with fail
    refine wp_region_later1 (M5) ?_
    try simp only [pA]
    go_big_quiet_step (fail)
    refine later_val (fun q => run_uh (x := (.tmp 17)) rfl und64 undU32 rfl q.w') (by rfl) ?_; simp only [pA]
    refine later_val (fun q => run_hu (x := (.tmp 18)) rfl undU32 und64 rfl q.w') (by rfl) ?_; simp only [pA]
    go_big_quiet_step (fail)
    refine later_val (fun q => run_uh (x := (.tmp 20)) rfl und64 undU32 rfl q.w') (by rfl) ?_; simp only [pA]
    refine later_val (fun q => run_hu (x := (.tmp 21)) rfl undU32 und64 rfl q.w') (by rfl) ?_; simp only [pA]
    iterate 2 (go_big_quiet_step (fail))
    refine wpQuiet_nil (laterE hM5 ?_)
    intro xw7 M8 hbxw7 hM8 lM8
    have lo9 := lo6.trans (hbxw7.mono (by omega))
    clear lo6 hbxw7
    go_upto_region 4 with fail
    refine wp_region_later1 (M8) ?_
    try simp only [pA]
    go_big_quiet_step (fail)
    refine later_val (fun q => run_uj (x := (.tmp 23)) rfl und64 undI32 rfl q.w') (by rfl) ?_; simp only [pA]
    refine later_val (fun q => run_ji (x := (.tmp 24)) rfl undI32 undI64 rfl q.w') (by rfl) ?_; simp only [pA]
    go_big_quiet_step (fail)
    refine later_val (fun q => run_uj (x := (.tmp 26)) rfl und64 undI32 rfl q.w') (by rfl) ?_; simp only [pA]
    refine later_val (fun q => run_ji (x := (.tmp 27)) rfl undI32 undI64 rfl q.w') (by rfl) ?_; simp only [pA]
    iterate 2 (go_big_quiet_step (fail))
    refine wpQuiet_nil (laterE hM8 ?_)
    intro xw10 M11 hbxw10 hM11 lM11
    have lo12 := lo9.trans (hbxw10.mono (by omega))
    clear lo9 hbxw10
    go_upto_region 7 with fail
    refine wp_region_later1 (M11) ?_
    try simp only [pA]
    iterate 2 (go_big_quiet_step (fail))
    refine later_b (x := (.tmp 32)) (y := (.tmp 33)) rfl (bin_eql _ (lo32 x) (lo32 y)) rfl rfl (by rfl) ?_; simp only [pA]
    go_big_quiet_step (fail)
    refine wpQuiet_nil (laterE hM11 ?_)
    intro xw13 M14 hbxw13 hM14 lM14
    have lo15 := lo12.trans (hbxw13.mono (by omega))
    clear lo12 hbxw13
    go_wp2_with fail
    go_ret
    exact ⟨by rw [ER.out]; first | rfl | (simp only [hol1, H1_.out, bB] <;> rfl), lo15⟩
  · have H1_ := hid h1_
    clear h1_
    go_upto_region 2 with fail
    refine wp_region_later1 (M2) ?_
    try simp only [pA]
    iterate 2 (go_big_quiet_step (fail))
    refine wpQuiet_nil (laterE hM2 ?_)
    intro xw4 M5 hbxw4 hM5 lM5
    have lo6 := lo3.trans (hbxw4.mono (by omega))
    clear lo3 hbxw4
    go_upto_region 7 with fail
    refine wp_region_later1 (M5) ?_
    try simp only [pA]
    iterate 2 (go_big_quiet_step (fail))
    refine later_b (x := (.tmp 32)) (y := (.tmp 33)) rfl (bin_eql _ x y) rfl rfl (by rfl) ?_; simp only [pA]
    go_big_quiet_step (fail)
    refine wpQuiet_nil (laterE hM5 ?_)
    intro xw7 M8 hbxw7 hM8 lM8
    have lo9 := lo6.trans (hbxw7.mono (by omega))
    clear lo6 hbxw7
    go_wp2_with fail
    go_ret
    exact ⟨by rw [ER.out]; first | rfl | (simp only [hol1, H1_.out, bB] <;> rfl), lo9⟩
def hol2 (l : Bool) (x : W) (y : W) : Bool :=
  bif l then (BitVec.ult y x)
  else (BitVec.ult (lo32 y) (lo32 x))
set_option maxRecDepth 100000 in
set_option maxHeartbeats 4000000 in
theorem Hol_2 (l : Bool) (x : W) (y : W) (w : World) (N : Nat) (hN : Sz w N) : Calls Tryd.prog 31 #[(Value.int .i64 2), (Value.bool l), (Q x), (Q y)] w fun e w' => e = .returned (.bool (hol2 l x y)) ∧ Below N w w' := by
  obtain ⟨rr, er⟩ : ∃ rr, rr = (hol2 l x y) := ⟨_, rfl⟩
  rw [← er]
  have ER := hid er
  clear er
  go_enter Tryd.func31, Tryd.ntmps31
  have lo0 : Below N w w := Below.refl N w
  go_upto_region 1 with fail
  refine wp_region_later1 (N) ?_
  try simp only [pA]
  go_big_quiet_step (fail)
  refine later_val (fun q => run_us (x := (.tmp 11)) rfl und64 undI64 rfl q.w') (by rfl) ?_; simp only [pA]
  go_big_quiet_step (fail)
  refine later_val (fun q => run_us (x := (.tmp 13)) rfl und64 undI64 rfl q.w') (by rfl) ?_; simp only [pA]
  iterate 2 (go_big_quiet_step (fail))
  refine wpQuiet_nil (laterE hN ?_)
  intro xw1 M2 hbxw1 hM2 lM2
  have lo3 := lo0.trans (hbxw1.mono (by omega))
  clear lo0 hbxw1
  cases h1_ : l
  · have H1_ := hid h1_
    clear h1_
    go_upto_region 2 with fail
    refine wp_region_later1 (M2) ?_
    try simp only [pA]
    iterate 2 (go_big_quiet_step (fail))
    refine wpQuiet_nil (laterE hM2 ?_)
    intro xw4 M5 hbxw4 hM5 lM5
    have lo6 := lo3.trans (hbxw4.mono (by omega))
    clear lo3 hbxw4
    go_upto_region 3 with fail
    refine wp_region_later1 (M5) ?_
    try simp only [pA]
    go_big_quiet_step (fail)
    refine later_val (fun q => run_uh (x := (.tmp 17)) rfl und64 undU32 rfl q.w') (by rfl) ?_; simp only [pA]
    refine later_val (fun q => run_hu (x := (.tmp 18)) rfl undU32 und64 rfl q.w') (by rfl) ?_; simp only [pA]
    go_big_quiet_step (fail)
    refine later_val (fun q => run_uh (x := (.tmp 20)) rfl und64 undU32 rfl q.w') (by rfl) ?_; simp only [pA]
    refine later_val (fun q => run_hu (x := (.tmp 21)) rfl undU32 und64 rfl q.w') (by rfl) ?_; simp only [pA]
    iterate 2 (go_big_quiet_step (fail))
    refine wpQuiet_nil (laterE hM5 ?_)
    intro xw7 M8 hbxw7 hM8 lM8
    have lo9 := lo6.trans (hbxw7.mono (by omega))
    clear lo6 hbxw7
    go_upto_region 4 with fail
    refine wp_region_later1 (M8) ?_
    try simp only [pA]
    go_big_quiet_step (fail)
    refine later_val (fun q => run_uj (x := (.tmp 23)) rfl und64 undI32 rfl q.w') (by rfl) ?_; simp only [pA]
    refine later_val (fun q => run_ji (x := (.tmp 24)) rfl undI32 undI64 rfl q.w') (by rfl) ?_; simp only [pA]
    go_big_quiet_step (fail)
    refine later_val (fun q => run_uj (x := (.tmp 26)) rfl und64 undI32 rfl q.w') (by rfl) ?_; simp only [pA]
    refine later_val (fun q => run_ji (x := (.tmp 27)) rfl undI32 undI64 rfl q.w') (by rfl) ?_; simp only [pA]
    iterate 2 (go_big_quiet_step (fail))
    refine wpQuiet_nil (laterE hM8 ?_)
    intro xw10 M11 hbxw10 hM11 lM11
    have lo12 := lo9.trans (hbxw10.mono (by omega))
    clear lo9 hbxw10
    go_upto_region 9 with fail
    refine wp_region_later1 (M11) ?_
    try simp only [pA]
    iterate 2 (go_big_quiet_step (fail))
    refine later_b (x := (.tmp 37)) (y := (.tmp 38)) rfl (bin_gtr _ (lo32 x) (lo32 y)) rfl rfl (by rfl) ?_; simp only [pA]
    go_big_quiet_step (fail)
    refine wpQuiet_nil (laterE hM11 ?_)
    intro xw13 M14 hbxw13 hM14 lM14
    have lo15 := lo12.trans (hbxw13.mono (by omega))
    clear lo12 hbxw13
    go_wp2_with fail
    go_ret
    exact ⟨by rw [ER.out]; first | rfl | (simp only [hol2, H1_.out, bB] <;> rfl), lo15⟩
  · have H1_ := hid h1_
    clear h1_
    go_upto_region 2 with fail
    refine wp_region_later1 (M2) ?_
    try simp only [pA]
    iterate 2 (go_big_quiet_step (fail))
    refine wpQuiet_nil (laterE hM2 ?_)
    intro xw4 M5 hbxw4 hM5 lM5
    have lo6 := lo3.trans (hbxw4.mono (by omega))
    clear lo3 hbxw4
    go_upto_region 9 with fail
    refine wp_region_later1 (M5) ?_
    try simp only [pA]
    iterate 2 (go_big_quiet_step (fail))
    refine later_b (x := (.tmp 37)) (y := (.tmp 38)) rfl (bin_gtr _ x y) rfl rfl (by rfl) ?_; simp only [pA]
    go_big_quiet_step (fail)
    refine wpQuiet_nil (laterE hM5 ?_)
    intro xw7 M8 hbxw7 hM8 lM8
    have lo9 := lo6.trans (hbxw7.mono (by omega))
    clear lo6 hbxw7
    go_wp2_with fail
    go_ret
    exact ⟨by rw [ER.out]; first | rfl | (simp only [hol2, H1_.out, bB] <;> rfl), lo9⟩
def hol3 (l : Bool) (x : W) (y : W) : Bool :=
  bif l then (BitVec.ule y x)
  else (BitVec.ule (lo32 y) (lo32 x))
set_option maxRecDepth 100000 in
set_option maxHeartbeats 4000000 in
theorem Hol_3 (l : Bool) (x : W) (y : W) (w : World) (N : Nat) (hN : Sz w N) : Calls Tryd.prog 31 #[(Value.int .i64 3), (Value.bool l), (Q x), (Q y)] w fun e w' => e = .returned (.bool (hol3 l x y)) ∧ Below N w w' := by
  obtain ⟨rr, er⟩ : ∃ rr, rr = (hol3 l x y) := ⟨_, rfl⟩
  rw [← er]
  have ER := hid er
  clear er
  go_enter Tryd.func31, Tryd.ntmps31
  have lo0 : Below N w w := Below.refl N w
  go_upto_region 1 with fail
  refine wp_region_later1 (N) ?_
  try simp only [pA]
  go_big_quiet_step (fail)
  refine later_val (fun q => run_us (x := (.tmp 11)) rfl und64 undI64 rfl q.w') (by rfl) ?_; simp only [pA]
  go_big_quiet_step (fail)
  refine later_val (fun q => run_us (x := (.tmp 13)) rfl und64 undI64 rfl q.w') (by rfl) ?_; simp only [pA]
  iterate 2 (go_big_quiet_step (fail))
  refine wpQuiet_nil (laterE hN ?_)
  intro xw1 M2 hbxw1 hM2 lM2
  have lo3 := lo0.trans (hbxw1.mono (by omega))
  clear lo0 hbxw1
  cases h1_ : l
  · have H1_ := hid h1_
    clear h1_
    go_upto_region 2 with fail
    refine wp_region_later1 (M2) ?_
    try simp only [pA]
    iterate 2 (go_big_quiet_step (fail))
    refine wpQuiet_nil (laterE hM2 ?_)
    intro xw4 M5 hbxw4 hM5 lM5
    have lo6 := lo3.trans (hbxw4.mono (by omega))
    clear lo3 hbxw4
    go_upto_region 3 with fail
    refine wp_region_later1 (M5) ?_
    try simp only [pA]
    go_big_quiet_step (fail)
    refine later_val (fun q => run_uh (x := (.tmp 17)) rfl und64 undU32 rfl q.w') (by rfl) ?_; simp only [pA]
    refine later_val (fun q => run_hu (x := (.tmp 18)) rfl undU32 und64 rfl q.w') (by rfl) ?_; simp only [pA]
    go_big_quiet_step (fail)
    refine later_val (fun q => run_uh (x := (.tmp 20)) rfl und64 undU32 rfl q.w') (by rfl) ?_; simp only [pA]
    refine later_val (fun q => run_hu (x := (.tmp 21)) rfl undU32 und64 rfl q.w') (by rfl) ?_; simp only [pA]
    iterate 2 (go_big_quiet_step (fail))
    refine wpQuiet_nil (laterE hM5 ?_)
    intro xw7 M8 hbxw7 hM8 lM8
    have lo9 := lo6.trans (hbxw7.mono (by omega))
    clear lo6 hbxw7
    go_upto_region 4 with fail
    refine wp_region_later1 (M8) ?_
    try simp only [pA]
    go_big_quiet_step (fail)
    refine later_val (fun q => run_uj (x := (.tmp 23)) rfl und64 undI32 rfl q.w') (by rfl) ?_; simp only [pA]
    refine later_val (fun q => run_ji (x := (.tmp 24)) rfl undI32 undI64 rfl q.w') (by rfl) ?_; simp only [pA]
    go_big_quiet_step (fail)
    refine later_val (fun q => run_uj (x := (.tmp 26)) rfl und64 undI32 rfl q.w') (by rfl) ?_; simp only [pA]
    refine later_val (fun q => run_ji (x := (.tmp 27)) rfl undI32 undI64 rfl q.w') (by rfl) ?_; simp only [pA]
    iterate 2 (go_big_quiet_step (fail))
    refine wpQuiet_nil (laterE hM8 ?_)
    intro xw10 M11 hbxw10 hM11 lM11
    have lo12 := lo9.trans (hbxw10.mono (by omega))
    clear lo9 hbxw10
    go_upto_region 11 with fail
    refine wp_region_later1 (M11) ?_
    try simp only [pA]
    iterate 2 (go_big_quiet_step (fail))
    refine later_b (x := (.tmp 42)) (y := (.tmp 43)) rfl (bin_geq _ (lo32 x) (lo32 y)) rfl rfl (by rfl) ?_; simp only [pA]
    go_big_quiet_step (fail)
    refine wpQuiet_nil (laterE hM11 ?_)
    intro xw13 M14 hbxw13 hM14 lM14
    have lo15 := lo12.trans (hbxw13.mono (by omega))
    clear lo12 hbxw13
    go_wp2_with fail
    go_ret
    exact ⟨by rw [ER.out]; first | rfl | (simp only [hol3, H1_.out, bB] <;> rfl), lo15⟩
  · have H1_ := hid h1_
    clear h1_
    go_upto_region 2 with fail
    refine wp_region_later1 (M2) ?_
    try simp only [pA]
    iterate 2 (go_big_quiet_step (fail))
    refine wpQuiet_nil (laterE hM2 ?_)
    intro xw4 M5 hbxw4 hM5 lM5
    have lo6 := lo3.trans (hbxw4.mono (by omega))
    clear lo3 hbxw4
    go_upto_region 11 with fail
    refine wp_region_later1 (M5) ?_
    try simp only [pA]
    iterate 2 (go_big_quiet_step (fail))
    refine later_b (x := (.tmp 42)) (y := (.tmp 43)) rfl (bin_geq _ x y) rfl rfl (by rfl) ?_; simp only [pA]
    go_big_quiet_step (fail)
    refine wpQuiet_nil (laterE hM5 ?_)
    intro xw7 M8 hbxw7 hM8 lM8
    have lo9 := lo6.trans (hbxw7.mono (by omega))
    clear lo6 hbxw7
    go_wp2_with fail
    go_ret
    exact ⟨by rw [ER.out]; first | rfl | (simp only [hol3, H1_.out, bB] <;> rfl), lo9⟩
def hol4 (l : Bool) (x : W) (y : W) : Bool :=
  bif l then ((x &&& y) != 0#64)
  else (((lo32 x) &&& (lo32 y)) != 0#64)
set_option maxRecDepth 100000 in
set_option maxHeartbeats 4000000 in
theorem Hol_4 (l : Bool) (x : W) (y : W) (w : World) (N : Nat) (hN : Sz w N) : Calls Tryd.prog 31 #[(Value.int .i64 4), (Value.bool l), (Q x), (Q y)] w fun e w' => e = .returned (.bool (hol4 l x y)) ∧ Below N w w' := by
  obtain ⟨rr, er⟩ : ∃ rr, rr = (hol4 l x y) := ⟨_, rfl⟩
  rw [← er]
  have ER := hid er
  clear er
  go_enter Tryd.func31, Tryd.ntmps31
  have lo0 : Below N w w := Below.refl N w
  go_upto_region 1 with fail
  refine wp_region_later1 (N) ?_
  try simp only [pA]
  go_big_quiet_step (fail)
  refine later_val (fun q => run_us (x := (.tmp 11)) rfl und64 undI64 rfl q.w') (by rfl) ?_; simp only [pA]
  go_big_quiet_step (fail)
  refine later_val (fun q => run_us (x := (.tmp 13)) rfl und64 undI64 rfl q.w') (by rfl) ?_; simp only [pA]
  iterate 2 (go_big_quiet_step (fail))
  refine wpQuiet_nil (laterE hN ?_)
  intro xw1 M2 hbxw1 hM2 lM2
  have lo3 := lo0.trans (hbxw1.mono (by omega))
  clear lo0 hbxw1
  cases h1_ : l
  · have H1_ := hid h1_
    clear h1_
    go_upto_region 2 with fail
    refine wp_region_later1 (M2) ?_
    try simp only [pA]
    iterate 2 (go_big_quiet_step (fail))
    refine wpQuiet_nil (laterE hM2 ?_)
    intro xw4 M5 hbxw4 hM5 lM5
    have lo6 := lo3.trans (hbxw4.mono (by omega))
    clear lo3 hbxw4
    go_upto_region 3 with fail
    refine wp_region_later1 (M5) ?_
    try simp only [pA]
    go_big_quiet_step (fail)
    refine later_val (fun q => run_uh (x := (.tmp 17)) rfl und64 undU32 rfl q.w') (by rfl) ?_; simp only [pA]
    refine later_val (fun q => run_hu (x := (.tmp 18)) rfl undU32 und64 rfl q.w') (by rfl) ?_; simp only [pA]
    go_big_quiet_step (fail)
    refine later_val (fun q => run_uh (x := (.tmp 20)) rfl und64 undU32 rfl q.w') (by rfl) ?_; simp only [pA]
    refine later_val (fun q => run_hu (x := (.tmp 21)) rfl undU32 und64 rfl q.w') (by rfl) ?_; simp only [pA]
    iterate 2 (go_big_quiet_step (fail))
    refine wpQuiet_nil (laterE hM5 ?_)
    intro xw7 M8 hbxw7 hM8 lM8
    have lo9 := lo6.trans (hbxw7.mono (by omega))
    clear lo6 hbxw7
    go_upto_region 4 with fail
    refine wp_region_later1 (M8) ?_
    try simp only [pA]
    go_big_quiet_step (fail)
    refine later_val (fun q => run_uj (x := (.tmp 23)) rfl und64 undI32 rfl q.w') (by rfl) ?_; simp only [pA]
    refine later_val (fun q => run_ji (x := (.tmp 24)) rfl undI32 undI64 rfl q.w') (by rfl) ?_; simp only [pA]
    go_big_quiet_step (fail)
    refine later_val (fun q => run_uj (x := (.tmp 26)) rfl und64 undI32 rfl q.w') (by rfl) ?_; simp only [pA]
    refine later_val (fun q => run_ji (x := (.tmp 27)) rfl undI32 undI64 rfl q.w') (by rfl) ?_; simp only [pA]
    iterate 2 (go_big_quiet_step (fail))
    refine wpQuiet_nil (laterE hM8 ?_)
    intro xw10 M11 hbxw10 hM11 lM11
    have lo12 := lo9.trans (hbxw10.mono (by omega))
    clear lo9 hbxw10
    go_upto_region 13 with fail
    refine wp_region_later1 (M11) ?_
    try simp only [pA]
    iterate 2 (go_big_quiet_step (fail))
    refine later_b (x := (.tmp 47)) (y := (.tmp 48)) rfl (bin_and _ (lo32 x) (lo32 y)) rfl rfl (by rfl) ?_; simp only [pA]
    refine later_b (x := (.tmp 49)) (y := (.const (.int .u64 0))) rfl (bin_neq _ ((lo32 x) &&& (lo32 y)) 0#64) rfl rfl (by rfl) ?_; simp only [pA]
    go_big_quiet_step (fail)
    refine wpQuiet_nil (laterE hM11 ?_)
    intro xw13 M14 hbxw13 hM14 lM14
    have lo15 := lo12.trans (hbxw13.mono (by omega))
    clear lo12 hbxw13
    go_wp2_with fail
    go_ret
    exact ⟨by rw [ER.out]; first | rfl | (simp only [hol4, H1_.out, bB] <;> rfl), lo15⟩
  · have H1_ := hid h1_
    clear h1_
    go_upto_region 2 with fail
    refine wp_region_later1 (M2) ?_
    try simp only [pA]
    iterate 2 (go_big_quiet_step (fail))
    refine wpQuiet_nil (laterE hM2 ?_)
    intro xw4 M5 hbxw4 hM5 lM5
    have lo6 := lo3.trans (hbxw4.mono (by omega))
    clear lo3 hbxw4
    go_upto_region 13 with fail
    refine wp_region_later1 (M5) ?_
    try simp only [pA]
    iterate 2 (go_big_quiet_step (fail))
    refine later_b (x := (.tmp 47)) (y := (.tmp 48)) rfl (bin_and _ x y) rfl rfl (by rfl) ?_; simp only [pA]
    refine later_b (x := (.tmp 49)) (y := (.const (.int .u64 0))) rfl (bin_neq _ (x &&& y) 0#64) rfl rfl (by rfl) ?_; simp only [pA]
    go_big_quiet_step (fail)
    refine wpQuiet_nil (laterE hM5 ?_)
    intro xw7 M8 hbxw7 hM8 lM8
    have lo9 := lo6.trans (hbxw7.mono (by omega))
    clear lo6 hbxw7
    go_wp2_with fail
    go_ret
    exact ⟨by rw [ER.out]; first | rfl | (simp only [hol4, H1_.out, bB] <;> rfl), lo9⟩
def hol5 (l : Bool) (x : W) (y : W) : Bool :=
  bif l then (x != y)
  else ((lo32 x) != (lo32 y))
set_option maxRecDepth 100000 in
set_option maxHeartbeats 4000000 in
theorem Hol_5 (l : Bool) (x : W) (y : W) (w : World) (N : Nat) (hN : Sz w N) : Calls Tryd.prog 31 #[(Value.int .i64 5), (Value.bool l), (Q x), (Q y)] w fun e w' => e = .returned (.bool (hol5 l x y)) ∧ Below N w w' := by
  obtain ⟨rr, er⟩ : ∃ rr, rr = (hol5 l x y) := ⟨_, rfl⟩
  rw [← er]
  have ER := hid er
  clear er
  go_enter Tryd.func31, Tryd.ntmps31
  have lo0 : Below N w w := Below.refl N w
  go_upto_region 1 with fail
  refine wp_region_later1 (N) ?_
  try simp only [pA]
  go_big_quiet_step (fail)
  refine later_val (fun q => run_us (x := (.tmp 11)) rfl und64 undI64 rfl q.w') (by rfl) ?_; simp only [pA]
  go_big_quiet_step (fail)
  refine later_val (fun q => run_us (x := (.tmp 13)) rfl und64 undI64 rfl q.w') (by rfl) ?_; simp only [pA]
  iterate 2 (go_big_quiet_step (fail))
  refine wpQuiet_nil (laterE hN ?_)
  intro xw1 M2 hbxw1 hM2 lM2
  have lo3 := lo0.trans (hbxw1.mono (by omega))
  clear lo0 hbxw1
  cases h1_ : l
  · have H1_ := hid h1_
    clear h1_
    go_upto_region 2 with fail
    refine wp_region_later1 (M2) ?_
    try simp only [pA]
    iterate 2 (go_big_quiet_step (fail))
    refine wpQuiet_nil (laterE hM2 ?_)
    intro xw4 M5 hbxw4 hM5 lM5
    have lo6 := lo3.trans (hbxw4.mono (by omega))
    clear lo3 hbxw4
    go_upto_region 3 with fail
    refine wp_region_later1 (M5) ?_
    try simp only [pA]
    go_big_quiet_step (fail)
    refine later_val (fun q => run_uh (x := (.tmp 17)) rfl und64 undU32 rfl q.w') (by rfl) ?_; simp only [pA]
    refine later_val (fun q => run_hu (x := (.tmp 18)) rfl undU32 und64 rfl q.w') (by rfl) ?_; simp only [pA]
    go_big_quiet_step (fail)
    refine later_val (fun q => run_uh (x := (.tmp 20)) rfl und64 undU32 rfl q.w') (by rfl) ?_; simp only [pA]
    refine later_val (fun q => run_hu (x := (.tmp 21)) rfl undU32 und64 rfl q.w') (by rfl) ?_; simp only [pA]
    iterate 2 (go_big_quiet_step (fail))
    refine wpQuiet_nil (laterE hM5 ?_)
    intro xw7 M8 hbxw7 hM8 lM8
    have lo9 := lo6.trans (hbxw7.mono (by omega))
    clear lo6 hbxw7
    go_upto_region 4 with fail
    refine wp_region_later1 (M8) ?_
    try simp only [pA]
    go_big_quiet_step (fail)
    refine later_val (fun q => run_uj (x := (.tmp 23)) rfl und64 undI32 rfl q.w') (by rfl) ?_; simp only [pA]
    refine later_val (fun q => run_ji (x := (.tmp 24)) rfl undI32 undI64 rfl q.w') (by rfl) ?_; simp only [pA]
    go_big_quiet_step (fail)
    refine later_val (fun q => run_uj (x := (.tmp 26)) rfl und64 undI32 rfl q.w') (by rfl) ?_; simp only [pA]
    refine later_val (fun q => run_ji (x := (.tmp 27)) rfl undI32 undI64 rfl q.w') (by rfl) ?_; simp only [pA]
    iterate 2 (go_big_quiet_step (fail))
    refine wpQuiet_nil (laterE hM8 ?_)
    intro xw10 M11 hbxw10 hM11 lM11
    have lo12 := lo9.trans (hbxw10.mono (by omega))
    clear lo9 hbxw10
    go_upto_region 15 with fail
    refine wp_region_later1 (M11) ?_
    try simp only [pA]
    iterate 2 (go_big_quiet_step (fail))
    refine later_b (x := (.tmp 53)) (y := (.tmp 54)) rfl (bin_neq _ (lo32 x) (lo32 y)) rfl rfl (by rfl) ?_; simp only [pA]
    go_big_quiet_step (fail)
    refine wpQuiet_nil (laterE hM11 ?_)
    intro xw13 M14 hbxw13 hM14 lM14
    have lo15 := lo12.trans (hbxw13.mono (by omega))
    clear lo12 hbxw13
    go_wp2_with fail
    go_ret
    exact ⟨by rw [ER.out]; first | rfl | (simp only [hol5, H1_.out, bB] <;> rfl), lo15⟩
  · have H1_ := hid h1_
    clear h1_
    go_upto_region 2 with fail
    refine wp_region_later1 (M2) ?_
    try simp only [pA]
    iterate 2 (go_big_quiet_step (fail))
    refine wpQuiet_nil (laterE hM2 ?_)
    intro xw4 M5 hbxw4 hM5 lM5
    have lo6 := lo3.trans (hbxw4.mono (by omega))
    clear lo3 hbxw4
    go_upto_region 15 with fail
    refine wp_region_later1 (M5) ?_
    try simp only [pA]
    iterate 2 (go_big_quiet_step (fail))
    refine later_b (x := (.tmp 53)) (y := (.tmp 54)) rfl (bin_neq _ x y) rfl rfl (by rfl) ?_; simp only [pA]
    go_big_quiet_step (fail)
    refine wpQuiet_nil (laterE hM5 ?_)
    intro xw7 M8 hbxw7 hM8 lM8
    have lo9 := lo6.trans (hbxw7.mono (by omega))
    clear lo6 hbxw7
    go_wp2_with fail
    go_ret
    exact ⟨by rw [ER.out]; first | rfl | (simp only [hol5, H1_.out, bB] <;> rfl), lo9⟩
def hol6 (l : Bool) (x : W) (y : W) : Bool :=
  bif l then (BitVec.slt y x)
  else (BitVec.slt (BitVec.signExtend 64 (s32 (lo32 y))) (BitVec.signExtend 64 (s32 (lo32 x))))
set_option maxRecDepth 100000 in
set_option maxHeartbeats 4000000 in
theorem Hol_6 (l : Bool) (x : W) (y : W) (w : World) (N : Nat) (hN : Sz w N) : Calls Tryd.prog 31 #[(Value.int .i64 6), (Value.bool l), (Q x), (Q y)] w fun e w' => e = .returned (.bool (hol6 l x y)) ∧ Below N w w' := by
  obtain ⟨rr, er⟩ : ∃ rr, rr = (hol6 l x y) := ⟨_, rfl⟩
  rw [← er]
  have ER := hid er
  clear er
  go_enter Tryd.func31, Tryd.ntmps31
  have lo0 : Below N w w := Below.refl N w
  go_upto_region 1 with fail
  refine wp_region_later1 (N) ?_
  try simp only [pA]
  go_big_quiet_step (fail)
  refine later_val (fun q => run_us (x := (.tmp 11)) rfl und64 undI64 rfl q.w') (by rfl) ?_; simp only [pA]
  go_big_quiet_step (fail)
  refine later_val (fun q => run_us (x := (.tmp 13)) rfl und64 undI64 rfl q.w') (by rfl) ?_; simp only [pA]
  iterate 2 (go_big_quiet_step (fail))
  refine wpQuiet_nil (laterE hN ?_)
  intro xw1 M2 hbxw1 hM2 lM2
  have lo3 := lo0.trans (hbxw1.mono (by omega))
  clear lo0 hbxw1
  cases h1_ : l
  · have H1_ := hid h1_
    clear h1_
    go_upto_region 2 with fail
    refine wp_region_later1 (M2) ?_
    try simp only [pA]
    iterate 2 (go_big_quiet_step (fail))
    refine wpQuiet_nil (laterE hM2 ?_)
    intro xw4 M5 hbxw4 hM5 lM5
    have lo6 := lo3.trans (hbxw4.mono (by omega))
    clear lo3 hbxw4
    go_upto_region 3 with fail
    refine wp_region_later1 (M5) ?_
    try simp only [pA]
    go_big_quiet_step (fail)
    refine later_val (fun q => run_uh (x := (.tmp 17)) rfl und64 undU32 rfl q.w') (by rfl) ?_; simp only [pA]
    refine later_val (fun q => run_hu (x := (.tmp 18)) rfl undU32 und64 rfl q.w') (by rfl) ?_; simp only [pA]
    go_big_quiet_step (fail)
    refine later_val (fun q => run_uh (x := (.tmp 20)) rfl und64 undU32 rfl q.w') (by rfl) ?_; simp only [pA]
    refine later_val (fun q => run_hu (x := (.tmp 21)) rfl undU32 und64 rfl q.w') (by rfl) ?_; simp only [pA]
    iterate 2 (go_big_quiet_step (fail))
    refine wpQuiet_nil (laterE hM5 ?_)
    intro xw7 M8 hbxw7 hM8 lM8
    have lo9 := lo6.trans (hbxw7.mono (by omega))
    clear lo6 hbxw7
    go_upto_region 4 with fail
    refine wp_region_later1 (M8) ?_
    try simp only [pA]
    go_big_quiet_step (fail)
    refine later_val (fun q => run_uj (x := (.tmp 23)) rfl und64 undI32 rfl q.w') (by rfl) ?_; simp only [pA]
    refine later_val (fun q => run_ji (x := (.tmp 24)) rfl undI32 undI64 rfl q.w') (by rfl) ?_; simp only [pA]
    go_big_quiet_step (fail)
    refine later_val (fun q => run_uj (x := (.tmp 26)) rfl und64 undI32 rfl q.w') (by rfl) ?_; simp only [pA]
    refine later_val (fun q => run_ji (x := (.tmp 27)) rfl undI32 undI64 rfl q.w') (by rfl) ?_; simp only [pA]
    iterate 2 (go_big_quiet_step (fail))
    refine wpQuiet_nil (laterE hM8 ?_)
    intro xw10 M11 hbxw10 hM11 lM11
    have lo12 := lo9.trans (hbxw10.mono (by omega))
    clear lo9 hbxw10
    go_upto_region 17 with fail
    refine wp_region_later1 (M11) ?_
    try simp only [pA]
    iterate 2 (go_big_quiet_step (fail))
    refine later_b (x := (.tmp 58)) (y := (.tmp 59)) rfl (bin_sgtr _ (BitVec.signExtend 64 (s32 (lo32 x))) (BitVec.signExtend 64 (s32 (lo32 y)))) rfl rfl (by rfl) ?_; simp only [pA]
    go_big_quiet_step (fail)
    refine wpQuiet_nil (laterE hM11 ?_)
    intro xw13 M14 hbxw13 hM14 lM14
    have lo15 := lo12.trans (hbxw13.mono (by omega))
    clear lo12 hbxw13
    go_wp2_with fail
    go_ret
    exact ⟨by rw [ER.out]; first | rfl | (simp only [hol6, H1_.out, bB] <;> rfl), lo15⟩
  · have H1_ := hid h1_
    clear h1_
    go_upto_region 2 with fail
    refine wp_region_later1 (M2) ?_
    try simp only [pA]
    iterate 2 (go_big_quiet_step (fail))
    refine wpQuiet_nil (laterE hM2 ?_)
    intro xw4 M5 hbxw4 hM5 lM5
    have lo6 := lo3.trans (hbxw4.mono (by omega))
    clear lo3 hbxw4
    go_upto_region 17 with fail
    refine wp_region_later1 (M5) ?_
    try simp only [pA]
    iterate 2 (go_big_quiet_step (fail))
    refine later_b (x := (.tmp 58)) (y := (.tmp 59)) rfl (bin_sgtr _ x y) rfl rfl (by rfl) ?_; simp only [pA]
    go_big_quiet_step (fail)
    refine wpQuiet_nil (laterE hM5 ?_)
    intro xw7 M8 hbxw7 hM8 lM8
    have lo9 := lo6.trans (hbxw7.mono (by omega))
    clear lo6 hbxw7
    go_wp2_with fail
    go_ret
    exact ⟨by rw [ER.out]; first | rfl | (simp only [hol6, H1_.out, bB] <;> rfl), lo9⟩
def hol7 (l : Bool) (x : W) (y : W) : Bool :=
  bif l then (BitVec.sle y x)
  else (BitVec.sle (BitVec.signExtend 64 (s32 (lo32 y))) (BitVec.signExtend 64 (s32 (lo32 x))))
set_option maxRecDepth 100000 in
set_option maxHeartbeats 4000000 in
theorem Hol_7 (l : Bool) (x : W) (y : W) (w : World) (N : Nat) (hN : Sz w N) : Calls Tryd.prog 31 #[(Value.int .i64 7), (Value.bool l), (Q x), (Q y)] w fun e w' => e = .returned (.bool (hol7 l x y)) ∧ Below N w w' := by
  obtain ⟨rr, er⟩ : ∃ rr, rr = (hol7 l x y) := ⟨_, rfl⟩
  rw [← er]
  have ER := hid er
  clear er
  go_enter Tryd.func31, Tryd.ntmps31
  have lo0 : Below N w w := Below.refl N w
  go_upto_region 1 with fail
  refine wp_region_later1 (N) ?_
  try simp only [pA]
  go_big_quiet_step (fail)
  refine later_val (fun q => run_us (x := (.tmp 11)) rfl und64 undI64 rfl q.w') (by rfl) ?_; simp only [pA]
  go_big_quiet_step (fail)
  refine later_val (fun q => run_us (x := (.tmp 13)) rfl und64 undI64 rfl q.w') (by rfl) ?_; simp only [pA]
  iterate 2 (go_big_quiet_step (fail))
  refine wpQuiet_nil (laterE hN ?_)
  intro xw1 M2 hbxw1 hM2 lM2
  have lo3 := lo0.trans (hbxw1.mono (by omega))
  clear lo0 hbxw1
  cases h1_ : l
  · have H1_ := hid h1_
    clear h1_
    go_upto_region 2 with fail
    refine wp_region_later1 (M2) ?_
    try simp only [pA]
    iterate 2 (go_big_quiet_step (fail))
    refine wpQuiet_nil (laterE hM2 ?_)
    intro xw4 M5 hbxw4 hM5 lM5
    have lo6 := lo3.trans (hbxw4.mono (by omega))
    clear lo3 hbxw4
    go_upto_region 3 with fail
    refine wp_region_later1 (M5) ?_
    try simp only [pA]
    go_big_quiet_step (fail)
    refine later_val (fun q => run_uh (x := (.tmp 17)) rfl und64 undU32 rfl q.w') (by rfl) ?_; simp only [pA]
    refine later_val (fun q => run_hu (x := (.tmp 18)) rfl undU32 und64 rfl q.w') (by rfl) ?_; simp only [pA]
    go_big_quiet_step (fail)
    refine later_val (fun q => run_uh (x := (.tmp 20)) rfl und64 undU32 rfl q.w') (by rfl) ?_; simp only [pA]
    refine later_val (fun q => run_hu (x := (.tmp 21)) rfl undU32 und64 rfl q.w') (by rfl) ?_; simp only [pA]
    iterate 2 (go_big_quiet_step (fail))
    refine wpQuiet_nil (laterE hM5 ?_)
    intro xw7 M8 hbxw7 hM8 lM8
    have lo9 := lo6.trans (hbxw7.mono (by omega))
    clear lo6 hbxw7
    go_upto_region 4 with fail
    refine wp_region_later1 (M8) ?_
    try simp only [pA]
    go_big_quiet_step (fail)
    refine later_val (fun q => run_uj (x := (.tmp 23)) rfl und64 undI32 rfl q.w') (by rfl) ?_; simp only [pA]
    refine later_val (fun q => run_ji (x := (.tmp 24)) rfl undI32 undI64 rfl q.w') (by rfl) ?_; simp only [pA]
    go_big_quiet_step (fail)
    refine later_val (fun q => run_uj (x := (.tmp 26)) rfl und64 undI32 rfl q.w') (by rfl) ?_; simp only [pA]
    refine later_val (fun q => run_ji (x := (.tmp 27)) rfl undI32 undI64 rfl q.w') (by rfl) ?_; simp only [pA]
    iterate 2 (go_big_quiet_step (fail))
    refine wpQuiet_nil (laterE hM8 ?_)
    intro xw10 M11 hbxw10 hM11 lM11
    have lo12 := lo9.trans (hbxw10.mono (by omega))
    clear lo9 hbxw10
    go_upto_region 19 with fail
    refine wp_region_later1 (M11) ?_
    try simp only [pA]
    iterate 2 (go_big_quiet_step (fail))
    refine later_b (x := (.tmp 63)) (y := (.tmp 64)) rfl (bin_sgeq _ (BitVec.signExtend 64 (s32 (lo32 x))) (BitVec.signExtend 64 (s32 (lo32 y)))) rfl rfl (by rfl) ?_; simp only [pA]
    go_big_quiet_step (fail)
    refine wpQuiet_nil (laterE hM11 ?_)
    intro xw13 M14 hbxw13 hM14 lM14
    have lo15 := lo12.trans (hbxw13.mono (by omega))
    clear lo12 hbxw13
    go_wp2_with fail
    go_ret
    exact ⟨by rw [ER.out]; first | rfl | (simp only [hol7, H1_.out, bB] <;> rfl), lo15⟩
  · have H1_ := hid h1_
    clear h1_
    go_upto_region 2 with fail
    refine wp_region_later1 (M2) ?_
    try simp only [pA]
    iterate 2 (go_big_quiet_step (fail))
    refine wpQuiet_nil (laterE hM2 ?_)
    intro xw4 M5 hbxw4 hM5 lM5
    have lo6 := lo3.trans (hbxw4.mono (by omega))
    clear lo3 hbxw4
    go_upto_region 19 with fail
    refine wp_region_later1 (M5) ?_
    try simp only [pA]
    iterate 2 (go_big_quiet_step (fail))
    refine later_b (x := (.tmp 63)) (y := (.tmp 64)) rfl (bin_sgeq _ x y) rfl rfl (by rfl) ?_; simp only [pA]
    go_big_quiet_step (fail)
    refine wpQuiet_nil (laterE hM5 ?_)
    intro xw7 M8 hbxw7 hM8 lM8
    have lo9 := lo6.trans (hbxw7.mono (by omega))
    clear lo6 hbxw7
    go_wp2_with fail
    go_ret
    exact ⟨by rw [ER.out]; first | rfl | (simp only [hol7, H1_.out, bB] <;> rfl), lo9⟩
def hol10 (l : Bool) (x : W) (y : W) : Bool :=
  bif l then (BitVec.ult x y)
  else (BitVec.ult (lo32 x) (lo32 y))
set_option maxRecDepth 100000 in
set_option maxHeartbeats 4000000 in
theorem Hol_10 (l : Bool) (x : W) (y : W) (w : World) (N : Nat) (hN : Sz w N) : Calls Tryd.prog 31 #[(Value.int .i64 10), (Value.bool l), (Q x), (Q y)] w fun e w' => e = .returned (.bool (hol10 l x y)) ∧ Below N w w' := by
  obtain ⟨rr, er⟩ : ∃ rr, rr = (hol10 l x y) := ⟨_, rfl⟩
  rw [← er]
  have ER := hid er
  clear er
  go_enter Tryd.func31, Tryd.ntmps31
  have lo0 : Below N w w := Below.refl N w
  go_upto_region 1 with fail
  refine wp_region_later1 (N) ?_
  try simp only [pA]
  go_big_quiet_step (fail)
  refine later_val (fun q => run_us (x := (.tmp 11)) rfl und64 undI64 rfl q.w') (by rfl) ?_; simp only [pA]
  go_big_quiet_step (fail)
  refine later_val (fun q => run_us (x := (.tmp 13)) rfl und64 undI64 rfl q.w') (by rfl) ?_; simp only [pA]
  iterate 2 (go_big_quiet_step (fail))
  refine wpQuiet_nil (laterE hN ?_)
  intro xw1 M2 hbxw1 hM2 lM2
  have lo3 := lo0.trans (hbxw1.mono (by omega))
  clear lo0 hbxw1
  cases h1_ : l
  · have H1_ := hid h1_
    clear h1_
    go_upto_region 2 with fail
    refine wp_region_later1 (M2) ?_
    try simp only [pA]
    iterate 2 (go_big_quiet_step (fail))
    refine wpQuiet_nil (laterE hM2 ?_)
    intro xw4 M5 hbxw4 hM5 lM5
    have lo6 := lo3.trans (hbxw4.mono (by omega))
    clear lo3 hbxw4
    go_upto_region 3 with fail
    refine wp_region_later1 (M5) ?_
    try simp only [pA]
    go_big_quiet_step (fail)
    refine later_val (fun q => run_uh (x := (.tmp 17)) rfl und64 undU32 rfl q.w') (by rfl) ?_; simp only [pA]
    refine later_val (fun q => run_hu (x := (.tmp 18)) rfl undU32 und64 rfl q.w') (by rfl) ?_; simp only [pA]
    go_big_quiet_step (fail)
    refine later_val (fun q => run_uh (x := (.tmp 20)) rfl und64 undU32 rfl q.w') (by rfl) ?_; simp only [pA]
    refine later_val (fun q => run_hu (x := (.tmp 21)) rfl undU32 und64 rfl q.w') (by rfl) ?_; simp only [pA]
    iterate 2 (go_big_quiet_step (fail))
    refine wpQuiet_nil (laterE hM5 ?_)
    intro xw7 M8 hbxw7 hM8 lM8
    have lo9 := lo6.trans (hbxw7.mono (by omega))
    clear lo6 hbxw7
    go_upto_region 4 with fail
    refine wp_region_later1 (M8) ?_
    try simp only [pA]
    go_big_quiet_step (fail)
    refine later_val (fun q => run_uj (x := (.tmp 23)) rfl und64 undI32 rfl q.w') (by rfl) ?_; simp only [pA]
    refine later_val (fun q => run_ji (x := (.tmp 24)) rfl undI32 undI64 rfl q.w') (by rfl) ?_; simp only [pA]
    go_big_quiet_step (fail)
    refine later_val (fun q => run_uj (x := (.tmp 26)) rfl und64 undI32 rfl q.w') (by rfl) ?_; simp only [pA]
    refine later_val (fun q => run_ji (x := (.tmp 27)) rfl undI32 undI64 rfl q.w') (by rfl) ?_; simp only [pA]
    iterate 2 (go_big_quiet_step (fail))
    refine wpQuiet_nil (laterE hM8 ?_)
    intro xw10 M11 hbxw10 hM11 lM11
    have lo12 := lo9.trans (hbxw10.mono (by omega))
    clear lo9 hbxw10
    go_upto_region 21 with fail
    refine wp_region_later1 (M11) ?_
    try simp only [pA]
    iterate 2 (go_big_quiet_step (fail))
    refine later_b (x := (.tmp 68)) (y := (.tmp 69)) rfl (bin_lss _ (lo32 x) (lo32 y)) rfl rfl (by rfl) ?_; simp only [pA]
    go_big_quiet_step (fail)
    refine wpQuiet_nil (laterE hM11 ?_)
    intro xw13 M14 hbxw13 hM14 lM14
    have lo15 := lo12.trans (hbxw13.mono (by omega))
    clear lo12 hbxw13
    go_wp2_with fail
    go_ret
    exact ⟨by rw [ER.out]; first | rfl | (simp only [hol10, H1_.out, bB] <;> rfl), lo15⟩
  · have H1_ := hid h1_
    clear h1_
    go_upto_region 2 with fail
    refine wp_region_later1 (M2) ?_
    try simp only [pA]
    iterate 2 (go_big_quiet_step (fail))
    refine wpQuiet_nil (laterE hM2 ?_)
    intro xw4 M5 hbxw4 hM5 lM5
    have lo6 := lo3.trans (hbxw4.mono (by omega))
    clear lo3 hbxw4
    go_upto_region 21 with fail
    refine wp_region_later1 (M5) ?_
    try simp only [pA]
    iterate 2 (go_big_quiet_step (fail))
    refine later_b (x := (.tmp 68)) (y := (.tmp 69)) rfl (bin_lss _ x y) rfl rfl (by rfl) ?_; simp only [pA]
    go_big_quiet_step (fail)
    refine wpQuiet_nil (laterE hM5 ?_)
    intro xw7 M8 hbxw7 hM8 lM8
    have lo9 := lo6.trans (hbxw7.mono (by omega))
    clear lo6 hbxw7
    go_wp2_with fail
    go_ret
    exact ⟨by rw [ER.out]; first | rfl | (simp only [hol10, H1_.out, bB] <;> rfl), lo9⟩
def hol11 (l : Bool) (x : W) (y : W) : Bool :=
  bif l then (BitVec.ule x y)
  else (BitVec.ule (lo32 x) (lo32 y))
set_option maxRecDepth 100000 in
set_option maxHeartbeats 4000000 in
theorem Hol_11 (l : Bool) (x : W) (y : W) (w : World) (N : Nat) (hN : Sz w N) : Calls Tryd.prog 31 #[(Value.int .i64 11), (Value.bool l), (Q x), (Q y)] w fun e w' => e = .returned (.bool (hol11 l x y)) ∧ Below N w w' := by
  obtain ⟨rr, er⟩ : ∃ rr, rr = (hol11 l x y) := ⟨_, rfl⟩
  rw [← er]
  have ER := hid er
  clear er
  go_enter Tryd.func31, Tryd.ntmps31
  have lo0 : Below N w w := Below.refl N w
  go_upto_region 1 with fail
  refine wp_region_later1 (N) ?_
  try simp only [pA]
  go_big_quiet_step (fail)
  refine later_val (fun q => run_us (x := (.tmp 11)) rfl und64 undI64 rfl q.w') (by rfl) ?_; simp only [pA]
  go_big_quiet_step (fail)
  refine later_val (fun q => run_us (x := (.tmp 13)) rfl und64 undI64 rfl q.w') (by rfl) ?_; simp only [pA]
  iterate 2 (go_big_quiet_step (fail))
  refine wpQuiet_nil (laterE hN ?_)
  intro xw1 M2 hbxw1 hM2 lM2
  have lo3 := lo0.trans (hbxw1.mono (by omega))
  clear lo0 hbxw1
  cases h1_ : l
  · have H1_ := hid h1_
    clear h1_
    go_upto_region 2 with fail
    refine wp_region_later1 (M2) ?_
    try simp only [pA]
    iterate 2 (go_big_quiet_step (fail))
    refine wpQuiet_nil (laterE hM2 ?_)
    intro xw4 M5 hbxw4 hM5 lM5
    have lo6 := lo3.trans (hbxw4.mono (by omega))
    clear lo3 hbxw4
    go_upto_region 3 with fail
    refine wp_region_later1 (M5) ?_
    try simp only [pA]
    go_big_quiet_step (fail)
    refine later_val (fun q => run_uh (x := (.tmp 17)) rfl und64 undU32 rfl q.w') (by rfl) ?_; simp only [pA]
    refine later_val (fun q => run_hu (x := (.tmp 18)) rfl undU32 und64 rfl q.w') (by rfl) ?_; simp only [pA]
    go_big_quiet_step (fail)
    refine later_val (fun q => run_uh (x := (.tmp 20)) rfl und64 undU32 rfl q.w') (by rfl) ?_; simp only [pA]
    refine later_val (fun q => run_hu (x := (.tmp 21)) rfl undU32 und64 rfl q.w') (by rfl) ?_; simp only [pA]
    iterate 2 (go_big_quiet_step (fail))
    refine wpQuiet_nil (laterE hM5 ?_)
    intro xw7 M8 hbxw7 hM8 lM8
    have lo9 := lo6.trans (hbxw7.mono (by omega))
    clear lo6 hbxw7
    go_upto_region 4 with fail
    refine wp_region_later1 (M8) ?_
    try simp only [pA]
    go_big_quiet_step (fail)
    refine later_val (fun q => run_uj (x := (.tmp 23)) rfl und64 undI32 rfl q.w') (by rfl) ?_; simp only [pA]
    refine later_val (fun q => run_ji (x := (.tmp 24)) rfl undI32 undI64 rfl q.w') (by rfl) ?_; simp only [pA]
    go_big_quiet_step (fail)
    refine later_val (fun q => run_uj (x := (.tmp 26)) rfl und64 undI32 rfl q.w') (by rfl) ?_; simp only [pA]
    refine later_val (fun q => run_ji (x := (.tmp 27)) rfl undI32 undI64 rfl q.w') (by rfl) ?_; simp only [pA]
    iterate 2 (go_big_quiet_step (fail))
    refine wpQuiet_nil (laterE hM8 ?_)
    intro xw10 M11 hbxw10 hM11 lM11
    have lo12 := lo9.trans (hbxw10.mono (by omega))
    clear lo9 hbxw10
    go_upto_region 23 with fail
    refine wp_region_later1 (M11) ?_
    try simp only [pA]
    iterate 2 (go_big_quiet_step (fail))
    refine later_b (x := (.tmp 73)) (y := (.tmp 74)) rfl (bin_leq _ (lo32 x) (lo32 y)) rfl rfl (by rfl) ?_; simp only [pA]
    go_big_quiet_step (fail)
    refine wpQuiet_nil (laterE hM11 ?_)
    intro xw13 M14 hbxw13 hM14 lM14
    have lo15 := lo12.trans (hbxw13.mono (by omega))
    clear lo12 hbxw13
    go_wp2_with fail
    go_ret
    exact ⟨by rw [ER.out]; first | rfl | (simp only [hol11, H1_.out, bB] <;> rfl), lo15⟩
  · have H1_ := hid h1_
    clear h1_
    go_upto_region 2 with fail
    refine wp_region_later1 (M2) ?_
    try simp only [pA]
    iterate 2 (go_big_quiet_step (fail))
    refine wpQuiet_nil (laterE hM2 ?_)
    intro xw4 M5 hbxw4 hM5 lM5
    have lo6 := lo3.trans (hbxw4.mono (by omega))
    clear lo3 hbxw4
    go_upto_region 23 with fail
    refine wp_region_later1 (M5) ?_
    try simp only [pA]
    iterate 2 (go_big_quiet_step (fail))
    refine later_b (x := (.tmp 73)) (y := (.tmp 74)) rfl (bin_leq _ x y) rfl rfl (by rfl) ?_; simp only [pA]
    go_big_quiet_step (fail)
    refine wpQuiet_nil (laterE hM5 ?_)
    intro xw7 M8 hbxw7 hM8 lM8
    have lo9 := lo6.trans (hbxw7.mono (by omega))
    clear lo6 hbxw7
    go_wp2_with fail
    go_ret
    exact ⟨by rw [ER.out]; first | rfl | (simp only [hol11, H1_.out, bB] <;> rfl), lo9⟩
def hol12 (l : Bool) (x : W) (y : W) : Bool :=
  bif l then (BitVec.slt x y)
  else (BitVec.slt (BitVec.signExtend 64 (s32 (lo32 x))) (BitVec.signExtend 64 (s32 (lo32 y))))
set_option maxRecDepth 100000 in
set_option maxHeartbeats 4000000 in
theorem Hol_12 (l : Bool) (x : W) (y : W) (w : World) (N : Nat) (hN : Sz w N) : Calls Tryd.prog 31 #[(Value.int .i64 12), (Value.bool l), (Q x), (Q y)] w fun e w' => e = .returned (.bool (hol12 l x y)) ∧ Below N w w' := by
  obtain ⟨rr, er⟩ : ∃ rr, rr = (hol12 l x y) := ⟨_, rfl⟩
  rw [← er]
  have ER := hid er
  clear er
  go_enter Tryd.func31, Tryd.ntmps31
  have lo0 : Below N w w := Below.refl N w
  go_upto_region 1 with fail
  refine wp_region_later1 (N) ?_
  try simp only [pA]
  go_big_quiet_step (fail)
  refine later_val (fun q => run_us (x := (.tmp 11)) rfl und64 undI64 rfl q.w') (by rfl) ?_; simp only [pA]
  go_big_quiet_step (fail)
  refine later_val (fun q => run_us (x := (.tmp 13)) rfl und64 undI64 rfl q.w') (by rfl) ?_; simp only [pA]
  iterate 2 (go_big_quiet_step (fail))
  refine wpQuiet_nil (laterE hN ?_)
  intro xw1 M2 hbxw1 hM2 lM2
  have lo3 := lo0.trans (hbxw1.mono (by omega))
  clear lo0 hbxw1
  cases h1_ : l
  · have H1_ := hid h1_
    clear h1_
    go_upto_region 2 with fail
    refine wp_region_later1 (M2) ?_
    try simp only [pA]
    iterate 2 (go_big_quiet_step (fail))
    refine wpQuiet_nil (laterE hM2 ?_)
    intro xw4 M5 hbxw4 hM5 lM5
    have lo6 := lo3.trans (hbxw4.mono (by omega))
    clear lo3 hbxw4
    go_upto_region 3 with fail
    refine wp_region_later1 (M5) ?_
    try simp only [pA]
    go_big_quiet_step (fail)
    refine later_val (fun q => run_uh (x := (.tmp 17)) rfl und64 undU32 rfl q.w') (by rfl) ?_; simp only [pA]
    refine later_val (fun q => run_hu (x := (.tmp 18)) rfl undU32 und64 rfl q.w') (by rfl) ?_; simp only [pA]
    go_big_quiet_step (fail)
    refine later_val (fun q => run_uh (x := (.tmp 20)) rfl und64 undU32 rfl q.w') (by rfl) ?_; simp only [pA]
    refine later_val (fun q => run_hu (x := (.tmp 21)) rfl undU32 und64 rfl q.w') (by rfl) ?_; simp only [pA]
    iterate 2 (go_big_quiet_step (fail))
    refine wpQuiet_nil (laterE hM5 ?_)
    intro xw7 M8 hbxw7 hM8 lM8
    have lo9 := lo6.trans (hbxw7.mono (by omega))
    clear lo6 hbxw7
    go_upto_region 4 with fail
    refine wp_region_later1 (M8) ?_
    try simp only [pA]
    go_big_quiet_step (fail)
    refine later_val (fun q => run_uj (x := (.tmp 23)) rfl und64 undI32 rfl q.w') (by rfl) ?_; simp only [pA]
    refine later_val (fun q => run_ji (x := (.tmp 24)) rfl undI32 undI64 rfl q.w') (by rfl) ?_; simp only [pA]
    go_big_quiet_step (fail)
    refine later_val (fun q => run_uj (x := (.tmp 26)) rfl und64 undI32 rfl q.w') (by rfl) ?_; simp only [pA]
    refine later_val (fun q => run_ji (x := (.tmp 27)) rfl undI32 undI64 rfl q.w') (by rfl) ?_; simp only [pA]
    iterate 2 (go_big_quiet_step (fail))
    refine wpQuiet_nil (laterE hM8 ?_)
    intro xw10 M11 hbxw10 hM11 lM11
    have lo12 := lo9.trans (hbxw10.mono (by omega))
    clear lo9 hbxw10
    go_upto_region 25 with fail
    refine wp_region_later1 (M11) ?_
    try simp only [pA]
    iterate 2 (go_big_quiet_step (fail))
    refine later_b (x := (.tmp 78)) (y := (.tmp 79)) rfl (bin_slss _ (BitVec.signExtend 64 (s32 (lo32 x))) (BitVec.signExtend 64 (s32 (lo32 y)))) rfl rfl (by rfl) ?_; simp only [pA]
    go_big_quiet_step (fail)
    refine wpQuiet_nil (laterE hM11 ?_)
    intro xw13 M14 hbxw13 hM14 lM14
    have lo15 := lo12.trans (hbxw13.mono (by omega))
    clear lo12 hbxw13
    go_wp2_with fail
    go_ret
    exact ⟨by rw [ER.out]; first | rfl | (simp only [hol12, H1_.out, bB] <;> rfl), lo15⟩
  · have H1_ := hid h1_
    clear h1_
    go_upto_region 2 with fail
    refine wp_region_later1 (M2) ?_
    try simp only [pA]
    iterate 2 (go_big_quiet_step (fail))
    refine wpQuiet_nil (laterE hM2 ?_)
    intro xw4 M5 hbxw4 hM5 lM5
    have lo6 := lo3.trans (hbxw4.mono (by omega))
    clear lo3 hbxw4
    go_upto_region 25 with fail
    refine wp_region_later1 (M5) ?_
    try simp only [pA]
    iterate 2 (go_big_quiet_step (fail))
    refine later_b (x := (.tmp 78)) (y := (.tmp 79)) rfl (bin_slss _ x y) rfl rfl (by rfl) ?_; simp only [pA]
    go_big_quiet_step (fail)
    refine wpQuiet_nil (laterE hM5 ?_)
    intro xw7 M8 hbxw7 hM8 lM8
    have lo9 := lo6.trans (hbxw7.mono (by omega))
    clear lo6 hbxw7
    go_wp2_with fail
    go_ret
    exact ⟨by rw [ER.out]; first | rfl | (simp only [hol12, H1_.out, bB] <;> rfl), lo9⟩
def hol13 (l : Bool) (x : W) (y : W) : Bool :=
  bif l then (BitVec.sle x y)
  else (BitVec.sle (BitVec.signExtend 64 (s32 (lo32 x))) (BitVec.signExtend 64 (s32 (lo32 y))))
set_option maxRecDepth 100000 in
set_option maxHeartbeats 4000000 in
theorem Hol_13 (l : Bool) (x : W) (y : W) (w : World) (N : Nat) (hN : Sz w N) : Calls Tryd.prog 31 #[(Value.int .i64 13), (Value.bool l), (Q x), (Q y)] w fun e w' => e = .returned (.bool (hol13 l x y)) ∧ Below N w w' := by
  obtain ⟨rr, er⟩ : ∃ rr, rr = (hol13 l x y) := ⟨_, rfl⟩
  rw [← er]
  have ER := hid er
  clear er
  go_enter Tryd.func31, Tryd.ntmps31
  have lo0 : Below N w w := Below.refl N w
  go_upto_region 1 with fail
  refine wp_region_later1 (N) ?_
  try simp only [pA]
  go_big_quiet_step (fail)
  refine later_val (fun q => run_us (x := (.tmp 11)) rfl und64 undI64 rfl q.w') (by rfl) ?_; simp only [pA]
  go_big_quiet_step (fail)
  refine later_val (fun q => run_us (x := (.tmp 13)) rfl und64 undI64 rfl q.w') (by rfl) ?_; simp only [pA]
  iterate 2 (go_big_quiet_step (fail))
  refine wpQuiet_nil (laterE hN ?_)
  intro xw1 M2 hbxw1 hM2 lM2
  have lo3 := lo0.trans (hbxw1.mono (by omega))
  clear lo0 hbxw1
  cases h1_ : l
  · have H1_ := hid h1_
    clear h1_
    go_upto_region 2 with fail
    refine wp_region_later1 (M2) ?_
    try simp only [pA]
    iterate 2 (go_big_quiet_step (fail))
    refine wpQuiet_nil (laterE hM2 ?_)
    intro xw4 M5 hbxw4 hM5 lM5
    have lo6 := lo3.trans (hbxw4.mono (by omega))
    clear lo3 hbxw4
    go_upto_region 3 with fail
    refine wp_region_later1 (M5) ?_
    try simp only [pA]
    go_big_quiet_step (fail)
    refine later_val (fun q => run_uh (x := (.tmp 17)) rfl und64 undU32 rfl q.w') (by rfl) ?_; simp only [pA]
    refine later_val (fun q => run_hu (x := (.tmp 18)) rfl undU32 und64 rfl q.w') (by rfl) ?_; simp only [pA]
    go_big_quiet_step (fail)
    refine later_val (fun q => run_uh (x := (.tmp 20)) rfl und64 undU32 rfl q.w') (by rfl) ?_; simp only [pA]
    refine later_val (fun q => run_hu (x := (.tmp 21)) rfl undU32 und64 rfl q.w') (by rfl) ?_; simp only [pA]
    iterate 2 (go_big_quiet_step (fail))
    refine wpQuiet_nil (laterE hM5 ?_)
    intro xw7 M8 hbxw7 hM8 lM8
    have lo9 := lo6.trans (hbxw7.mono (by omega))
    clear lo6 hbxw7
    go_upto_region 4 with fail
    refine wp_region_later1 (M8) ?_
    try simp only [pA]
    go_big_quiet_step (fail)
    refine later_val (fun q => run_uj (x := (.tmp 23)) rfl und64 undI32 rfl q.w') (by rfl) ?_; simp only [pA]
    refine later_val (fun q => run_ji (x := (.tmp 24)) rfl undI32 undI64 rfl q.w') (by rfl) ?_; simp only [pA]
    go_big_quiet_step (fail)
    refine later_val (fun q => run_uj (x := (.tmp 26)) rfl und64 undI32 rfl q.w') (by rfl) ?_; simp only [pA]
    refine later_val (fun q => run_ji (x := (.tmp 27)) rfl undI32 undI64 rfl q.w') (by rfl) ?_; simp only [pA]
    iterate 2 (go_big_quiet_step (fail))
    refine wpQuiet_nil (laterE hM8 ?_)
    intro xw10 M11 hbxw10 hM11 lM11
    have lo12 := lo9.trans (hbxw10.mono (by omega))
    clear lo9 hbxw10
    go_upto_region 27 with fail
    refine wp_region_later1 (M11) ?_
    try simp only [pA]
    iterate 2 (go_big_quiet_step (fail))
    refine later_b (x := (.tmp 83)) (y := (.tmp 84)) rfl (bin_sleq _ (BitVec.signExtend 64 (s32 (lo32 x))) (BitVec.signExtend 64 (s32 (lo32 y)))) rfl rfl (by rfl) ?_; simp only [pA]
    go_big_quiet_step (fail)
    refine wpQuiet_nil (laterE hM11 ?_)
    intro xw13 M14 hbxw13 hM14 lM14
    have lo15 := lo12.trans (hbxw13.mono (by omega))
    clear lo12 hbxw13
    go_wp2_with fail
    go_ret
    exact ⟨by rw [ER.out]; first | rfl | (simp only [hol13, H1_.out, bB] <;> rfl), lo15⟩
  · have H1_ := hid h1_
    clear h1_
    go_upto_region 2 with fail
    refine wp_region_later1 (M2) ?_
    try simp only [pA]
    iterate 2 (go_big_quiet_step (fail))
    refine wpQuiet_nil (laterE hM2 ?_)
    intro xw4 M5 hbxw4 hM5 lM5
    have lo6 := lo3.trans (hbxw4.mono (by omega))
    clear lo3 hbxw4
    go_upto_region 27 with fail
    refine wp_region_later1 (M5) ?_
    try simp only [pA]
    iterate 2 (go_big_quiet_step (fail))
    refine later_b (x := (.tmp 83)) (y := (.tmp 84)) rfl (bin_sleq _ x y) rfl rfl (by rfl) ?_; simp only [pA]
    go_big_quiet_step (fail)
    refine wpQuiet_nil (laterE hM5 ?_)
    intro xw7 M8 hbxw7 hM8 lM8
    have lo9 := lo6.trans (hbxw7.mono (by omega))
    clear lo6 hbxw7
    go_wp2_with fail
    go_ret
    exact ⟨by rw [ER.out]; first | rfl | (simp only [hol13, H1_.out, bB] <;> rfl), lo9⟩
def holo (z : Int) (l : Bool) (x : W) (y : W) : Bool :=
  bif l then false
  else false
set_option maxRecDepth 100000 in
set_option maxHeartbeats 4000000 in
theorem Hol_o (z : Int) (l : Bool) (x : W) (y : W) (w : World) (N : Nat) (hN : Sz w N) (h1 : (z == 1) = false) (h2 : (z == 2) = false) (h3 : (z == 3) = false) (h4 : (z == 4) = false) (h5 : (z == 5) = false) (h6 : (z == 6) = false) (h7 : (z == 7) = false) (h10 : (z == 10) = false) (h11 : (z == 11) = false) (h12 : (z == 12) = false) (h13 : (z == 13) = false) : Calls Tryd.prog 31 #[(Value.int .i64 z), (Value.bool l), (Q x), (Q y)] w fun e w' => e = .returned (.bool (holo z l x y)) ∧ Below N w w' := by
  obtain ⟨rr, er⟩ : ∃ rr, rr = (holo z l x y) := ⟨_, rfl⟩
  rw [← er]
  have ER := hid er
  clear er
  go_enter Tryd.func31, Tryd.ntmps31
  have lo0 : Below N w w := Below.refl N w
  go_upto_region 1 with fail
  refine wp_region_later1 (N) ?_
  try simp only [pA]
  go_big_quiet_step (fail)
  refine later_val (fun q => run_us (x := (.tmp 11)) rfl und64 undI64 rfl q.w') (by rfl) ?_; simp only [pA]
  go_big_quiet_step (fail)
  refine later_val (fun q => run_us (x := (.tmp 13)) rfl und64 undI64 rfl q.w') (by rfl) ?_; simp only [pA]
  iterate 2 (go_big_quiet_step (fail))
  refine wpQuiet_nil (laterE hN ?_)
  intro xw1 M2 hbxw1 hM2 lM2
  have lo3 := lo0.trans (hbxw1.mono (by omega))
  clear lo0 hbxw1
  cases h1_ : l
  · have H1_ := hid h1_
    clear h1_
    go_upto_region 2 with fail
    refine wp_region_later1 (M2) ?_
    try simp only [pA]
    iterate 2 (go_big_quiet_step (fail))
    refine wpQuiet_nil (laterE hM2 ?_)
    intro xw4 M5 hbxw4 hM5 lM5
    have lo6 := lo3.trans (hbxw4.mono (by omega))
    clear lo3 hbxw4
    go_upto_region 3 with fail
    refine wp_region_later1 (M5) ?_
    try simp only [pA]
    go_big_quiet_step (fail)
    refine later_val (fun q => run_uh (x := (.tmp 17)) rfl und64 undU32 rfl q.w') (by rfl) ?_; simp only [pA]
    refine later_val (fun q => run_hu (x := (.tmp 18)) rfl undU32 und64 rfl q.w') (by rfl) ?_; simp only [pA]
    go_big_quiet_step (fail)
    refine later_val (fun q => run_uh (x := (.tmp 20)) rfl und64 undU32 rfl q.w') (by rfl) ?_; simp only [pA]
    refine later_val (fun q => run_hu (x := (.tmp 21)) rfl undU32 und64 rfl q.w') (by rfl) ?_; simp only [pA]
    iterate 2 (go_big_quiet_step (fail))
    refine wpQuiet_nil (laterE hM5 ?_)
    intro xw7 M8 hbxw7 hM8 lM8
    have lo9 := lo6.trans (hbxw7.mono (by omega))
    clear lo6 hbxw7
    go_upto_region 4 with fail
    refine wp_region_later1 (M8) ?_
    try simp only [pA]
    go_big_quiet_step (fail)
    refine later_val (fun q => run_uj (x := (.tmp 23)) rfl und64 undI32 rfl q.w') (by rfl) ?_; simp only [pA]
    refine later_val (fun q => run_ji (x := (.tmp 24)) rfl undI32 undI64 rfl q.w') (by rfl) ?_; simp only [pA]
    go_big_quiet_step (fail)
    refine later_val (fun q => run_uj (x := (.tmp 26)) rfl und64 undI32 rfl q.w') (by rfl) ?_; simp only [pA]
    refine later_val (fun q => run_ji (x := (.tmp 27)) rfl undI32 undI64 rfl q.w') (by rfl) ?_; simp only [pA]
    iterate 2 (go_big_quiet_step (fail))
    refine wpQuiet_nil (laterE hM8 ?_)
    intro xw10 M11 hbxw10 hM11 lM11
    have lo12 := lo9.trans (hbxw10.mono (by omega))
    clear lo9 hbxw10
    go_wp2_with fail
    go_ret
    exact ⟨by rw [ER.out]; first | rfl | (simp only [holo, H1_.out, bB] <;> rfl), lo12⟩
  · have H1_ := hid h1_
    clear h1_
    go_upto_region 2 with fail
    refine wp_region_later1 (M2) ?_
    try simp only [pA]
    iterate 2 (go_big_quiet_step (fail))
    refine wpQuiet_nil (laterE hM2 ?_)
    intro xw4 M5 hbxw4 hM5 lM5
    have lo6 := lo3.trans (hbxw4.mono (by omega))
    clear lo3 hbxw4
    go_wp2_with fail
    go_ret
    exact ⟨by rw [ER.out]; first | rfl | (simp only [holo, H1_.out, bB] <;> rfl), lo6⟩
end Go.Proofs.YtbbfdehipgkjmaaDoor
