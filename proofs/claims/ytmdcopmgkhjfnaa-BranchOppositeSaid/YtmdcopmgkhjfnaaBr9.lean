/- Contracts of the document: does a comparison hold. -/
import Derived.Test.YtmdcopmgkhjfnaaBr8
namespace Go.Proofs.Ytmdcopmgkhjfnaa
open Go Go.RowKit
def rsigF (x : W) (l : Bool) : W :=
  bif l then x
  else bif (BitVec.ule 2147483648#64 (x % 4294967296#64)) then ((x % 4294967296#64) - 4294967296#64)
  else (x % 4294967296#64)
set_option maxRecDepth 100000 in
set_option maxHeartbeats 4000000 in
theorem RSig_any (x : W) (l : Bool) (w : World) (N : Nat) (hN : Sz w N) : Calls Try.prog 67 #[(Q x), (Value.bool l)] w fun e w' => e = .returned (S (rsigF x l)) ∧ Below N w w' := by
  obtain ⟨rr, er⟩ : ∃ rr, rr = (rsigF x l) := ⟨_, rfl⟩
  rw [← er]
  have ER := hid er
  clear er
  go_enter Try.func67, Try.ntmps67
  have lo0 : Below N w w := Below.refl N w
  cases h1_ : l
  · have H1_ := hid h1_
    clear h1_
    go_upto_region 3 with fail
    refine wp_region_later1 (N) ?_
    try simp only [pA]
    go_big_quiet_step (fail)
    refine later_b (x := (.tmp 8)) (y := (.const (.int .u64 4294967296))) rfl (bin_rem _ x 4294967296#64 (by decide)) rfl rfl (by rfl) ?_; simp only [pA]
    go_big_quiet_step (fail)
    refine wpQuiet_nil (laterE hN ?_)
    intro xw1 M2 hbxw1 hM2 lM2
    have lo3 := lo0.trans (hbxw1.mono (by omega))
    clear lo0 hbxw1
    cases h2_ : (BitVec.ule 2147483648#64 (x % 4294967296#64))
    · have H2_ := hid h2_
      clear h2_
      go_upto_region 4 with fail
      refine wp_region_later1 (M2) ?_
      try simp only [pA]
      go_big_quiet_step (fail)
      refine later_b (x := (.tmp 10)) (y := (.const (.int .u64 2147483648))) rfl (BinRun.is H2_.out (bin_geq _ (x % 4294967296#64) 2147483648#64)) rfl rfl (by rfl) ?_; simp only [pA]
      refine wpQuiet_nil (laterE hM2 ?_)
      intro xw4 M5 hbxw4 hM5 lM5
      have lo6 := lo3.trans (hbxw4.mono (by omega))
      clear lo3 hbxw4
      go_upto_region 6 with fail
      refine wp_region_later1 (M5) ?_
      try simp only [pA]
      go_big_quiet_step (fail)
      refine later_val (fun q => run_us (x := (.tmp 15)) rfl und64 undI64 rfl q.w') (by rfl) ?_; simp only [pA]
      go_big_quiet_step (fail)
      refine wpQuiet_nil (laterE hM5 ?_)
      intro xw7 M8 hbxw7 hM8 lM8
      have lo9 := lo6.trans (hbxw7.mono (by omega))
      clear lo6 hbxw7
      go_wp2_with fail
      go_ret
      exact ⟨by rw [ER.out]; first | rfl | (simp only [rsigF, H1_.out, H2_.out, bB] <;> rfl), lo9⟩
    · have H2_ := hid h2_
      clear h2_
      go_upto_region 4 with fail
      refine wp_region_later1 (M2) ?_
      try simp only [pA]
      go_big_quiet_step (fail)
      refine later_b (x := (.tmp 10)) (y := (.const (.int .u64 2147483648))) rfl (BinRun.is H2_.out (bin_geq _ (x % 4294967296#64) 2147483648#64)) rfl rfl (by rfl) ?_; simp only [pA]
      refine wpQuiet_nil (laterE hM2 ?_)
      intro xw4 M5 hbxw4 hM5 lM5
      have lo6 := lo3.trans (hbxw4.mono (by omega))
      clear lo3 hbxw4
      go_upto_region 5 with fail
      refine wp_region_later1 (M5) ?_
      try simp only [pA]
      go_big_quiet_step (fail)
      refine later_val (fun q => run_us (x := (.tmp 12)) rfl und64 undI64 rfl q.w') (by rfl) ?_; simp only [pA]
      refine later_b (x := (.tmp 13)) (y := (.const (.int .i64 4294967296))) rfl (bin_ssub _ (x % 4294967296#64) 4294967296#64) rfl rfl (by rfl) ?_; simp only [pA]
      go_big_quiet_step (fail)
      refine wpQuiet_nil (laterE hM5 ?_)
      intro xw7 M8 hbxw7 hM8 lM8
      have lo9 := lo6.trans (hbxw7.mono (by omega))
      clear lo6 hbxw7
      go_wp2_with fail
      go_ret
      exact ⟨by rw [ER.out]; first | rfl | (simp only [rsigF, H1_.out, H2_.out, bB] <;> rfl), lo9⟩
  · have H1_ := hid h1_
    clear h1_
    go_upto_region 2 with fail
    refine wp_region_later1 (N) ?_
    try simp only [pA]
    go_big_quiet_step (fail)
    refine later_val (fun q => run_us (x := (.tmp 6)) rfl und64 undI64 rfl q.w') (by rfl) ?_; simp only [pA]
    go_big_quiet_step (fail)
    refine wpQuiet_nil (laterE hN ?_)
    intro xw1 M2 hbxw1 hM2 lM2
    have lo3 := lo0.trans (hbxw1.mono (by omega))
    clear lo0 hbxw1
    go_wp2_with fail
    go_ret
    exact ⟨by rw [ER.out]; first | rfl | (simp only [rsigF, H1_.out, bB] <;> rfl), lo3⟩
def rhol1 (l : Bool) (x : W) (y : W) : Bool :=
  bif l then (x == y)
  else ((x % 4294967296#64) == (y % 4294967296#64))
set_option maxRecDepth 100000 in
set_option maxHeartbeats 4000000 in
theorem RHol_1 (l : Bool) (x : W) (y : W) (w : World) (N : Nat) (hN : Sz w N) : Calls Try.prog 37 #[(Value.int .i64 1), (Value.bool l), (Q x), (Q y)] w fun e w' => e = .returned (.bool (rhol1 l x y)) ∧ Below N w w' := by
  obtain ⟨rr, er⟩ : ∃ rr, rr = (rhol1 l x y) := ⟨_, rfl⟩
  rw [← er]
  have ER := hid er
  clear er
  go_enter Try.func37, Try.ntmps37
  have lo0 : Below N w w := Below.refl N w
  go_upto_region 1 with fail
  refine wp_region_later1 (N) ?_
  try simp only [pA]
  iterate 2 (go_big_quiet_step (fail))
  go_big_quiet_step ((go_at_call 67; exact later_of hN _ (fun K hK hKN => RSig_any x l _ K hK)))
  iterate 2 (go_big_quiet_step (fail))
  go_big_quiet_step ((go_at_call 67; exact later_of hN _ (fun K hK hKN => RSig_any y l _ K hK)))
  iterate 2 (go_big_quiet_step (fail))
  refine wpQuiet_nil (laterE hN ?_)
  intro xw1 M2 hbxw1 hM2 lM2
  have lo3 := lo0.trans (hbxw1.mono (by omega))
  clear lo0 hbxw1
  cases h1_ : l
  · have H1_ := hid h1_
    clear h1_
    go_upto_region 2 with fail
    refine wp_region_later1 (M2) ?_
    try simp only [pA]
    iterate 2 (go_big_quiet_step (fail))
    refine wpQuiet_nil (laterE hM2 ?_)
    intro xw4 M5 hbxw4 hM5 lM5
    have lo6 := lo3.trans (hbxw4.mono (by omega))
    clear lo3 hbxw4
    go_upto_region 3 with fail
    refine wp_region_later1 (M5) ?_
    try simp only [pA]
    go_big_quiet_step (fail)
    refine later_b (x := (.tmp 19)) (y := (.const (.int .u64 4294967296))) rfl (bin_rem _ x 4294967296#64 (by decide)) rfl rfl (by rfl) ?_; simp only [pA]
    go_big_quiet_step (fail)
    refine later_b (x := (.tmp 21)) (y := (.const (.int .u64 4294967296))) rfl (bin_rem _ y 4294967296#64 (by decide)) rfl rfl (by rfl) ?_; simp only [pA]
    iterate 2 (go_big_quiet_step (fail))
    refine wpQuiet_nil (laterE hM5 ?_)
    intro xw7 M8 hbxw7 hM8 lM8
    have lo9 := lo6.trans (hbxw7.mono (by omega))
    clear lo6 hbxw7
    go_upto_region 6 with fail
    refine wp_region_later1 (M8) ?_
    try simp only [pA]
    iterate 2 (go_big_quiet_step (fail))
    refine later_b (x := (.tmp 26)) (y := (.tmp 27)) rfl (bin_eql _ (x % 4294967296#64) (y % 4294967296#64)) rfl rfl (by rfl) ?_; simp only [pA]
    go_big_quiet_step (fail)
    refine wpQuiet_nil (laterE hM8 ?_)
    intro xw10 M11 hbxw10 hM11 lM11
    have lo12 := lo9.trans (hbxw10.mono (by omega))
    clear lo9 hbxw10
    go_wp2_with fail
    go_ret
    exact ⟨by rw [ER.out]; first | rfl | (simp only [rhol1, H1_.out, bB] <;> rfl), lo12⟩
  · have H1_ := hid h1_
    clear h1_
    go_upto_region 2 with fail
    refine wp_region_later1 (M2) ?_
    try simp only [pA]
    iterate 2 (go_big_quiet_step (fail))
    refine wpQuiet_nil (laterE hM2 ?_)
    intro xw4 M5 hbxw4 hM5 lM5
    have lo6 := lo3.trans (hbxw4.mono (by omega))
    clear lo3 hbxw4
    go_upto_region 6 with fail
    refine wp_region_later1 (M5) ?_
    try simp only [pA]
    iterate 2 (go_big_quiet_step (fail))
    refine later_b (x := (.tmp 26)) (y := (.tmp 27)) rfl (bin_eql _ x y) rfl rfl (by rfl) ?_; simp only [pA]
    go_big_quiet_step (fail)
    refine wpQuiet_nil (laterE hM5 ?_)
    intro xw7 M8 hbxw7 hM8 lM8
    have lo9 := lo6.trans (hbxw7.mono (by omega))
    clear lo6 hbxw7
    go_wp2_with fail
    go_ret
    exact ⟨by rw [ER.out]; first | rfl | (simp only [rhol1, H1_.out, bB] <;> rfl), lo9⟩
def rhol2 (l : Bool) (x : W) (y : W) : Bool :=
  bif l then (BitVec.ult y x)
  else (BitVec.ult (y % 4294967296#64) (x % 4294967296#64))
set_option maxRecDepth 100000 in
set_option maxHeartbeats 4000000 in
theorem RHol_2 (l : Bool) (x : W) (y : W) (w : World) (N : Nat) (hN : Sz w N) : Calls Try.prog 37 #[(Value.int .i64 2), (Value.bool l), (Q x), (Q y)] w fun e w' => e = .returned (.bool (rhol2 l x y)) ∧ Below N w w' := by
  obtain ⟨rr, er⟩ : ∃ rr, rr = (rhol2 l x y) := ⟨_, rfl⟩
  rw [← er]
  have ER := hid er
  clear er
  go_enter Try.func37, Try.ntmps37
  have lo0 : Below N w w := Below.refl N w
  go_upto_region 1 with fail
  refine wp_region_later1 (N) ?_
  try simp only [pA]
  iterate 2 (go_big_quiet_step (fail))
  go_big_quiet_step ((go_at_call 67; exact later_of hN _ (fun K hK hKN => RSig_any x l _ K hK)))
  iterate 2 (go_big_quiet_step (fail))
  go_big_quiet_step ((go_at_call 67; exact later_of hN _ (fun K hK hKN => RSig_any y l _ K hK)))
  iterate 2 (go_big_quiet_step (fail))
  refine wpQuiet_nil (laterE hN ?_)
  intro xw1 M2 hbxw1 hM2 lM2
  have lo3 := lo0.trans (hbxw1.mono (by omega))
  clear lo0 hbxw1
  cases h1_ : l
  · have H1_ := hid h1_
    clear h1_
    go_upto_region 2 with fail
    refine wp_region_later1 (M2) ?_
    try simp only [pA]
    iterate 2 (go_big_quiet_step (fail))
    refine wpQuiet_nil (laterE hM2 ?_)
    intro xw4 M5 hbxw4 hM5 lM5
    have lo6 := lo3.trans (hbxw4.mono (by omega))
    clear lo3 hbxw4
    go_upto_region 3 with fail
    refine wp_region_later1 (M5) ?_
    try simp only [pA]
    go_big_quiet_step (fail)
    refine later_b (x := (.tmp 19)) (y := (.const (.int .u64 4294967296))) rfl (bin_rem _ x 4294967296#64 (by decide)) rfl rfl (by rfl) ?_; simp only [pA]
    go_big_quiet_step (fail)
    refine later_b (x := (.tmp 21)) (y := (.const (.int .u64 4294967296))) rfl (bin_rem _ y 4294967296#64 (by decide)) rfl rfl (by rfl) ?_; simp only [pA]
    iterate 2 (go_big_quiet_step (fail))
    refine wpQuiet_nil (laterE hM5 ?_)
    intro xw7 M8 hbxw7 hM8 lM8
    have lo9 := lo6.trans (hbxw7.mono (by omega))
    clear lo6 hbxw7
    go_upto_region 8 with fail
    refine wp_region_later1 (M8) ?_
    try simp only [pA]
    iterate 2 (go_big_quiet_step (fail))
    refine later_b (x := (.tmp 31)) (y := (.tmp 32)) rfl (bin_gtr _ (x % 4294967296#64) (y % 4294967296#64)) rfl rfl (by rfl) ?_; simp only [pA]
    go_big_quiet_step (fail)
    refine wpQuiet_nil (laterE hM8 ?_)
    intro xw10 M11 hbxw10 hM11 lM11
    have lo12 := lo9.trans (hbxw10.mono (by omega))
    clear lo9 hbxw10
    go_wp2_with fail
    go_ret
    exact ⟨by rw [ER.out]; first | rfl | (simp only [rhol2, H1_.out, bB] <;> rfl), lo12⟩
  · have H1_ := hid h1_
    clear h1_
    go_upto_region 2 with fail
    refine wp_region_later1 (M2) ?_
    try simp only [pA]
    iterate 2 (go_big_quiet_step (fail))
    refine wpQuiet_nil (laterE hM2 ?_)
    intro xw4 M5 hbxw4 hM5 lM5
    have lo6 := lo3.trans (hbxw4.mono (by omega))
    clear lo3 hbxw4
    go_upto_region 8 with fail
    refine wp_region_later1 (M5) ?_
    try simp only [pA]
    iterate 2 (go_big_quiet_step (fail))
    refine later_b (x := (.tmp 31)) (y := (.tmp 32)) rfl (bin_gtr _ x y) rfl rfl (by rfl) ?_; simp only [pA]
    go_big_quiet_step (fail)
    refine wpQuiet_nil (laterE hM5 ?_)
    intro xw7 M8 hbxw7 hM8 lM8
    have lo9 := lo6.trans (hbxw7.mono (by omega))
    clear lo6 hbxw7
    go_wp2_with fail
    go_ret
    exact ⟨by rw [ER.out]; first | rfl | (simp only [rhol2, H1_.out, bB] <;> rfl), lo9⟩
def rhol3 (l : Bool) (x : W) (y : W) : Bool :=
  bif l then (BitVec.ule y x)
  else (BitVec.ule (y % 4294967296#64) (x % 4294967296#64))
set_option maxRecDepth 100000 in
set_option maxHeartbeats 4000000 in
theorem RHol_3 (l : Bool) (x : W) (y : W) (w : World) (N : Nat) (hN : Sz w N) : Calls Try.prog 37 #[(Value.int .i64 3), (Value.bool l), (Q x), (Q y)] w fun e w' => e = .returned (.bool (rhol3 l x y)) ∧ Below N w w' := by
  obtain ⟨rr, er⟩ : ∃ rr, rr = (rhol3 l x y) := ⟨_, rfl⟩
  rw [← er]
  have ER := hid er
  clear er
  go_enter Try.func37, Try.ntmps37
  have lo0 : Below N w w := Below.refl N w
  go_upto_region 1 with fail
  refine wp_region_later1 (N) ?_
  try simp only [pA]
  iterate 2 (go_big_quiet_step (fail))
  go_big_quiet_step ((go_at_call 67; exact later_of hN _ (fun K hK hKN => RSig_any x l _ K hK)))
  iterate 2 (go_big_quiet_step (fail))
  go_big_quiet_step ((go_at_call 67; exact later_of hN _ (fun K hK hKN => RSig_any y l _ K hK)))
  iterate 2 (go_big_quiet_step (fail))
  refine wpQuiet_nil (laterE hN ?_)
  intro xw1 M2 hbxw1 hM2 lM2
  have lo3 := lo0.trans (hbxw1.mono (by omega))
  clear lo0 hbxw1
  cases h1_ : l
  · have H1_ := hid h1_
    clear h1_
    go_upto_region 2 with fail
    refine wp_region_later1 (M2) ?_
    try simp only [pA]
    iterate 2 (go_big_quiet_step (fail))
    refine wpQuiet_nil (laterE hM2 ?_)
    intro xw4 M5 hbxw4 hM5 lM5
    have lo6 := lo3.trans (hbxw4.mono (by omega))
    clear lo3 hbxw4
    go_upto_region 3 with fail
    refine wp_region_later1 (M5) ?_
    try simp only [pA]
    go_big_quiet_step (fail)
    refine later_b (x := (.tmp 19)) (y := (.const (.int .u64 4294967296))) rfl (bin_rem _ x 4294967296#64 (by decide)) rfl rfl (by rfl) ?_; simp only [pA]
    go_big_quiet_step (fail)
    refine later_b (x := (.tmp 21)) (y := (.const (.int .u64 4294967296))) rfl (bin_rem _ y 4294967296#64 (by decide)) rfl rfl (by rfl) ?_; simp only [pA]
    iterate 2 (go_big_quiet_step (fail))
    refine wpQuiet_nil (laterE hM5 ?_)
    intro xw7 M8 hbxw7 hM8 lM8
    have lo9 := lo6.trans (hbxw7.mono (by omega))
    clear lo6 hbxw7
    go_upto_region 10 with fail
    refine wp_region_later1 (M8) ?_
    try simp only [pA]
    iterate 2 (go_big_quiet_step (fail))
    refine later_b (x := (.tmp 36)) (y := (.tmp 37)) rfl (bin_geq _ (x % 4294967296#64) (y % 4294967296#64)) rfl rfl (by rfl) ?_; simp only [pA]
    go_big_quiet_step (fail)
    refine wpQuiet_nil (laterE hM8 ?_)
    intro xw10 M11 hbxw10 hM11 lM11
    have lo12 := lo9.trans (hbxw10.mono (by omega))
    clear lo9 hbxw10
    go_wp2_with fail
    go_ret
    exact ⟨by rw [ER.out]; first | rfl | (simp only [rhol3, H1_.out, bB] <;> rfl), lo12⟩
  · have H1_ := hid h1_
    clear h1_
    go_upto_region 2 with fail
    refine wp_region_later1 (M2) ?_
    try simp only [pA]
    iterate 2 (go_big_quiet_step (fail))
    refine wpQuiet_nil (laterE hM2 ?_)
    intro xw4 M5 hbxw4 hM5 lM5
    have lo6 := lo3.trans (hbxw4.mono (by omega))
    clear lo3 hbxw4
    go_upto_region 10 with fail
    refine wp_region_later1 (M5) ?_
    try simp only [pA]
    iterate 2 (go_big_quiet_step (fail))
    refine later_b (x := (.tmp 36)) (y := (.tmp 37)) rfl (bin_geq _ x y) rfl rfl (by rfl) ?_; simp only [pA]
    go_big_quiet_step (fail)
    refine wpQuiet_nil (laterE hM5 ?_)
    intro xw7 M8 hbxw7 hM8 lM8
    have lo9 := lo6.trans (hbxw7.mono (by omega))
    clear lo6 hbxw7
    go_wp2_with fail
    go_ret
    exact ⟨by rw [ER.out]; first | rfl | (simp only [rhol3, H1_.out, bB] <;> rfl), lo9⟩
def rhol4 (l : Bool) (x : W) (y : W) : Bool :=
  bif l then ((x &&& y) != 0#64)
  else (((x % 4294967296#64) &&& (y % 4294967296#64)) != 0#64)
set_option maxRecDepth 100000 in
set_option maxHeartbeats 4000000 in
theorem RHol_4 (l : Bool) (x : W) (y : W) (w : World) (N : Nat) (hN : Sz w N) : Calls Try.prog 37 #[(Value.int .i64 4), (Value.bool l), (Q x), (Q y)] w fun e w' => e = .returned (.bool (rhol4 l x y)) ∧ Below N w w' := by
  obtain ⟨rr, er⟩ : ∃ rr, rr = (rhol4 l x y) := ⟨_, rfl⟩
  rw [← er]
  have ER := hid er
  clear er
  go_enter Try.func37, Try.ntmps37
  have lo0 : Below N w w := Below.refl N w
  go_upto_region 1 with fail
  refine wp_region_later1 (N) ?_
  try simp only [pA]
  iterate 2 (go_big_quiet_step (fail))
  go_big_quiet_step ((go_at_call 67; exact later_of hN _ (fun K hK hKN => RSig_any x l _ K hK)))
  iterate 2 (go_big_quiet_step (fail))
  go_big_quiet_step ((go_at_call 67; exact later_of hN _ (fun K hK hKN => RSig_any y l _ K hK)))
  iterate 2 (go_big_quiet_step (fail))
  refine wpQuiet_nil (laterE hN ?_)
  intro xw1 M2 hbxw1 hM2 lM2
  have lo3 := lo0.trans (hbxw1.mono (by omega))
  clear lo0 hbxw1
  cases h1_ : l
  · have H1_ := hid h1_
    clear h1_
    go_upto_region 2 with fail
    refine wp_region_later1 (M2) ?_
    try simp only [pA]
    iterate 2 (go_big_quiet_step (fail))
    refine wpQuiet_nil (laterE hM2 ?_)
    intro xw4 M5 hbxw4 hM5 lM5
    have lo6 := lo3.trans (hbxw4.mono (by omega))
    clear lo3 hbxw4
    go_upto_region 3 with fail
    refine wp_region_later1 (M5) ?_
    try simp only [pA]
    go_big_quiet_step (fail)
    refine later_b (x := (.tmp 19)) (y := (.const (.int .u64 4294967296))) rfl (bin_rem _ x 4294967296#64 (by decide)) rfl rfl (by rfl) ?_; simp only [pA]
    go_big_quiet_step (fail)
    refine later_b (x := (.tmp 21)) (y := (.const (.int .u64 4294967296))) rfl (bin_rem _ y 4294967296#64 (by decide)) rfl rfl (by rfl) ?_; simp only [pA]
    iterate 2 (go_big_quiet_step (fail))
    refine wpQuiet_nil (laterE hM5 ?_)
    intro xw7 M8 hbxw7 hM8 lM8
    have lo9 := lo6.trans (hbxw7.mono (by omega))
    clear lo6 hbxw7
    go_upto_region 12 with fail
    refine wp_region_later1 (M8) ?_
    try simp only [pA]
    iterate 2 (go_big_quiet_step (fail))
    refine later_b (x := (.tmp 41)) (y := (.tmp 42)) rfl (bin_and _ (x % 4294967296#64) (y % 4294967296#64)) rfl rfl (by rfl) ?_; simp only [pA]
    refine later_b (x := (.tmp 43)) (y := (.const (.int .u64 0))) rfl (bin_neq _ ((x % 4294967296#64) &&& (y % 4294967296#64)) 0#64) rfl rfl (by rfl) ?_; simp only [pA]
    go_big_quiet_step (fail)
    refine wpQuiet_nil (laterE hM8 ?_)
    intro xw10 M11 hbxw10 hM11 lM11
    have lo12 := lo9.trans (hbxw10.mono (by omega))
    clear lo9 hbxw10
    go_wp2_with fail
    go_ret
    exact ⟨by rw [ER.out]; first | rfl | (simp only [rhol4, H1_.out, bB] <;> rfl), lo12⟩
  · have H1_ := hid h1_
    clear h1_
    go_upto_region 2 with fail
    refine wp_region_later1 (M2) ?_
    try simp only [pA]
    iterate 2 (go_big_quiet_step (fail))
    refine wpQuiet_nil (laterE hM2 ?_)
    intro xw4 M5 hbxw4 hM5 lM5
    have lo6 := lo3.trans (hbxw4.mono (by omega))
    clear lo3 hbxw4
    go_upto_region 12 with fail
    refine wp_region_later1 (M5) ?_
    try simp only [pA]
    iterate 2 (go_big_quiet_step (fail))
    refine later_b (x := (.tmp 41)) (y := (.tmp 42)) rfl (bin_and _ x y) rfl rfl (by rfl) ?_; simp only [pA]
    refine later_b (x := (.tmp 43)) (y := (.const (.int .u64 0))) rfl (bin_neq _ (x &&& y) 0#64) rfl rfl (by rfl) ?_; simp only [pA]
    go_big_quiet_step (fail)
    refine wpQuiet_nil (laterE hM5 ?_)
    intro xw7 M8 hbxw7 hM8 lM8
    have lo9 := lo6.trans (hbxw7.mono (by omega))
    clear lo6 hbxw7
    go_wp2_with fail
    go_ret
    exact ⟨by rw [ER.out]; first | rfl | (simp only [rhol4, H1_.out, bB] <;> rfl), lo9⟩
def rhol5 (l : Bool) (x : W) (y : W) : Bool :=
  bif l then (x != y)
  else ((x % 4294967296#64) != (y % 4294967296#64))
set_option maxRecDepth 100000 in
set_option maxHeartbeats 4000000 in
theorem RHol_5 (l : Bool) (x : W) (y : W) (w : World) (N : Nat) (hN : Sz w N) : Calls Try.prog 37 #[(Value.int .i64 5), (Value.bool l), (Q x), (Q y)] w fun e w' => e = .returned (.bool (rhol5 l x y)) ∧ Below N w w' := by
  obtain ⟨rr, er⟩ : ∃ rr, rr = (rhol5 l x y) := ⟨_, rfl⟩
  rw [← er]
  have ER := hid er
  clear er
  go_enter Try.func37, Try.ntmps37
  have lo0 : Below N w w := Below.refl N w
  go_upto_region 1 with fail
  refine wp_region_later1 (N) ?_
  try simp only [pA]
  iterate 2 (go_big_quiet_step (fail))
  go_big_quiet_step ((go_at_call 67; exact later_of hN _ (fun K hK hKN => RSig_any x l _ K hK)))
  iterate 2 (go_big_quiet_step (fail))
  go_big_quiet_step ((go_at_call 67; exact later_of hN _ (fun K hK hKN => RSig_any y l _ K hK)))
  iterate 2 (go_big_quiet_step (fail))
  refine wpQuiet_nil (laterE hN ?_)
  intro xw1 M2 hbxw1 hM2 lM2
  have lo3 := lo0.trans (hbxw1.mono (by omega))
  clear lo0 hbxw1
  cases h1_ : l
  · have H1_ := hid h1_
    clear h1_
    go_upto_region 2 with fail
    refine wp_region_later1 (M2) ?_
    try simp only [pA]
    iterate 2 (go_big_quiet_step (fail))
    refine wpQuiet_nil (laterE hM2 ?_)
    intro xw4 M5 hbxw4 hM5 lM5
    have lo6 := lo3.trans (hbxw4.mono (by omega))
    clear lo3 hbxw4
    go_upto_region 3 with fail
    refine wp_region_later1 (M5) ?_
    try simp only [pA]
    go_big_quiet_step (fail)
    refine later_b (x := (.tmp 19)) (y := (.const (.int .u64 4294967296))) rfl (bin_rem _ x 4294967296#64 (by decide)) rfl rfl (by rfl) ?_; simp only [pA]
    go_big_quiet_step (fail)
    refine later_b (x := (.tmp 21)) (y := (.const (.int .u64 4294967296))) rfl (bin_rem _ y 4294967296#64 (by decide)) rfl rfl (by rfl) ?_; simp only [pA]
    iterate 2 (go_big_quiet_step (fail))
    refine wpQuiet_nil (laterE hM5 ?_)
    intro xw7 M8 hbxw7 hM8 lM8
    have lo9 := lo6.trans (hbxw7.mono (by omega))
    clear lo6 hbxw7
    go_upto_region 14 with fail
    refine wp_region_later1 (M8) ?_
    try simp only [pA]
    iterate 2 (go_big_quiet_step (fail))
    refine later_b (x := (.tmp 47)) (y := (.tmp 48)) rfl (bin_neq _ (x % 4294967296#64) (y % 4294967296#64)) rfl rfl (by rfl) ?_; simp only [pA]
    go_big_quiet_step (fail)
    refine wpQuiet_nil (laterE hM8 ?_)
    intro xw10 M11 hbxw10 hM11 lM11
    have lo12 := lo9.trans (hbxw10.mono (by omega))
    clear lo9 hbxw10
    go_wp2_with fail
    go_ret
    exact ⟨by rw [ER.out]; first | rfl | (simp only [rhol5, H1_.out, bB] <;> rfl), lo12⟩
  · have H1_ := hid h1_
    clear h1_
    go_upto_region 2 with fail
    refine wp_region_later1 (M2) ?_
    try simp only [pA]
    iterate 2 (go_big_quiet_step (fail))
    refine wpQuiet_nil (laterE hM2 ?_)
    intro xw4 M5 hbxw4 hM5 lM5
    have lo6 := lo3.trans (hbxw4.mono (by omega))
    clear lo3 hbxw4
    go_upto_region 14 with fail
    refine wp_region_later1 (M5) ?_
    try simp only [pA]
    iterate 2 (go_big_quiet_step (fail))
    refine later_b (x := (.tmp 47)) (y := (.tmp 48)) rfl (bin_neq _ x y) rfl rfl (by rfl) ?_; simp only [pA]
    go_big_quiet_step (fail)
    refine wpQuiet_nil (laterE hM5 ?_)
    intro xw7 M8 hbxw7 hM8 lM8
    have lo9 := lo6.trans (hbxw7.mono (by omega))
    clear lo6 hbxw7
    go_wp2_with fail
    go_ret
    exact ⟨by rw [ER.out]; first | rfl | (simp only [rhol5, H1_.out, bB] <;> rfl), lo9⟩
def rhol6 (l : Bool) (x : W) (y : W) : Bool :=
  bif l then (BitVec.slt (rsigF y true) (rsigF x true))
  else (BitVec.slt (rsigF y false) (rsigF x false))
set_option maxRecDepth 100000 in
set_option maxHeartbeats 4000000 in
theorem RHol_6 (l : Bool) (x : W) (y : W) (w : World) (N : Nat) (hN : Sz w N) : Calls Try.prog 37 #[(Value.int .i64 6), (Value.bool l), (Q x), (Q y)] w fun e w' => e = .returned (.bool (rhol6 l x y)) ∧ Below N w w' := by
  obtain ⟨rr, er⟩ : ∃ rr, rr = (rhol6 l x y) := ⟨_, rfl⟩
  rw [← er]
  have ER := hid er
  clear er
  go_enter Try.func37, Try.ntmps37
  have lo0 : Below N w w := Below.refl N w
  go_upto_region 1 with fail
  refine wp_region_later1 (N) ?_
  try simp only [pA]
  iterate 2 (go_big_quiet_step (fail))
  go_big_quiet_step ((go_at_call 67; exact later_of hN _ (fun K hK hKN => RSig_any x l _ K hK)))
  iterate 2 (go_big_quiet_step (fail))
  go_big_quiet_step ((go_at_call 67; exact later_of hN _ (fun K hK hKN => RSig_any y l _ K hK)))
  iterate 2 (go_big_quiet_step (fail))
  refine wpQuiet_nil (laterE hN ?_)
  intro xw1 M2 hbxw1 hM2 lM2
  have lo3 := lo0.trans (hbxw1.mono (by omega))
  clear lo0 hbxw1
  cases h1_ : l
  · have H1_ := hid h1_
    clear h1_
    go_upto_region 2 with fail
    refine wp_region_later1 (M2) ?_
    try simp only [pA]
    iterate 2 (go_big_quiet_step (fail))
    refine wpQuiet_nil (laterE hM2 ?_)
    intro xw4 M5 hbxw4 hM5 lM5
    have lo6 := lo3.trans (hbxw4.mono (by omega))
    clear lo3 hbxw4
    go_upto_region 3 with fail
    refine wp_region_later1 (M5) ?_
    try simp only [pA]
    go_big_quiet_step (fail)
    refine later_b (x := (.tmp 19)) (y := (.const (.int .u64 4294967296))) rfl (bin_rem _ x 4294967296#64 (by decide)) rfl rfl (by rfl) ?_; simp only [pA]
    go_big_quiet_step (fail)
    refine later_b (x := (.tmp 21)) (y := (.const (.int .u64 4294967296))) rfl (bin_rem _ y 4294967296#64 (by decide)) rfl rfl (by rfl) ?_; simp only [pA]
    iterate 2 (go_big_quiet_step (fail))
    refine wpQuiet_nil (laterE hM5 ?_)
    intro xw7 M8 hbxw7 hM8 lM8
    have lo9 := lo6.trans (hbxw7.mono (by omega))
    clear lo6 hbxw7
    go_upto_region 16 with fail
    refine wp_region_later1 (M8) ?_
    try simp only [pA]
    iterate 2 (go_big_quiet_step (fail))
    refine later_b (x := (.tmp 52)) (y := (.tmp 53)) rfl (bin_sgtr _ (rsigF x false) (rsigF y false)) rfl rfl (by rfl) ?_; simp only [pA]
    go_big_quiet_step (fail)
    refine wpQuiet_nil (laterE hM8 ?_)
    intro xw10 M11 hbxw10 hM11 lM11
    have lo12 := lo9.trans (hbxw10.mono (by omega))
    clear lo9 hbxw10
    go_wp2_with fail
    go_ret
    exact ⟨by rw [ER.out]; first | rfl | (simp only [rhol6, H1_.out, bB] <;> rfl), lo12⟩
  · have H1_ := hid h1_
    clear h1_
    go_upto_region 2 with fail
    refine wp_region_later1 (M2) ?_
    try simp only [pA]
    iterate 2 (go_big_quiet_step (fail))
    refine wpQuiet_nil (laterE hM2 ?_)
    intro xw4 M5 hbxw4 hM5 lM5
    have lo6 := lo3.trans (hbxw4.mono (by omega))
    clear lo3 hbxw4
    go_upto_region 16 with fail
    refine wp_region_later1 (M5) ?_
    try simp only [pA]
    iterate 2 (go_big_quiet_step (fail))
    refine later_b (x := (.tmp 52)) (y := (.tmp 53)) rfl (bin_sgtr _ (rsigF x true) (rsigF y true)) rfl rfl (by rfl) ?_; simp only [pA]
    go_big_quiet_step (fail)
    refine wpQuiet_nil (laterE hM5 ?_)
    intro xw7 M8 hbxw7 hM8 lM8
    have lo9 := lo6.trans (hbxw7.mono (by omega))
    clear lo6 hbxw7
    go_wp2_with fail
    go_ret
    exact ⟨by rw [ER.out]; first | rfl | (simp only [rhol6, H1_.out, bB] <;> rfl), lo9⟩
def rhol7 (l : Bool) (x : W) (y : W) : Bool :=
  bif l then (BitVec.sle (rsigF y true) (rsigF x true))
  else (BitVec.sle (rsigF y false) (rsigF x false))
set_option maxRecDepth 100000 in
set_option maxHeartbeats 4000000 in
theorem RHol_7 (l : Bool) (x : W) (y : W) (w : World) (N : Nat) (hN : Sz w N) : Calls Try.prog 37 #[(Value.int .i64 7), (Value.bool l), (Q x), (Q y)] w fun e w' => e = .returned (.bool (rhol7 l x y)) ∧ Below N w w' := by
  obtain ⟨rr, er⟩ : ∃ rr, rr = (rhol7 l x y) := ⟨_, rfl⟩
  rw [← er]
  have ER := hid er
  clear er
  go_enter Try.func37, Try.ntmps37
  have lo0 : Below N w w := Below.refl N w
  go_upto_region 1 with fail
  refine wp_region_later1 (N) ?_
  try simp only [pA]
  iterate 2 (go_big_quiet_step (fail))
  go_big_quiet_step ((go_at_call 67; exact later_of hN _ (fun K hK hKN => RSig_any x l _ K hK)))
  iterate 2 (go_big_quiet_step (fail))
  go_big_quiet_step ((go_at_call 67; exact later_of hN _ (fun K hK hKN => RSig_any y l _ K hK)))
  iterate 2 (go_big_quiet_step (fail))
  refine wpQuiet_nil (laterE hN ?_)
  intro xw1 M2 hbxw1 hM2 lM2
  have lo3 := lo0.trans (hbxw1.mono (by omega))
  clear lo0 hbxw1
  cases h1_ : l
  · have H1_ := hid h1_
    clear h1_
    go_upto_region 2 with fail
    refine wp_region_later1 (M2) ?_
    try simp only [pA]
    iterate 2 (go_big_quiet_step (fail))
    refine wpQuiet_nil (laterE hM2 ?_)
    intro xw4 M5 hbxw4 hM5 lM5
    have lo6 := lo3.trans (hbxw4.mono (by omega))
    clear lo3 hbxw4
    go_upto_region 3 with fail
    refine wp_region_later1 (M5) ?_
    try simp only [pA]
    go_big_quiet_step (fail)
    refine later_b (x := (.tmp 19)) (y := (.const (.int .u64 4294967296))) rfl (bin_rem _ x 4294967296#64 (by decide)) rfl rfl (by rfl) ?_; simp only [pA]
    go_big_quiet_step (fail)
    refine later_b (x := (.tmp 21)) (y := (.const (.int .u64 4294967296))) rfl (bin_rem _ y 4294967296#64 (by decide)) rfl rfl (by rfl) ?_; simp only [pA]
    iterate 2 (go_big_quiet_step (fail))
    refine wpQuiet_nil (laterE hM5 ?_)
    intro xw7 M8 hbxw7 hM8 lM8
    have lo9 := lo6.trans (hbxw7.mono (by omega))
    clear lo6 hbxw7
    go_upto_region 18 with fail
    refine wp_region_later1 (M8) ?_
    try simp only [pA]
    iterate 2 (go_big_quiet_step (fail))
    refine later_b (x := (.tmp 57)) (y := (.tmp 58)) rfl (bin_sgeq _ (rsigF x false) (rsigF y false)) rfl rfl (by rfl) ?_; simp only [pA]
    go_big_quiet_step (fail)
    refine wpQuiet_nil (laterE hM8 ?_)
    intro xw10 M11 hbxw10 hM11 lM11
    have lo12 := lo9.trans (hbxw10.mono (by omega))
    clear lo9 hbxw10
    go_wp2_with fail
    go_ret
    exact ⟨by rw [ER.out]; first | rfl | (simp only [rhol7, H1_.out, bB] <;> rfl), lo12⟩
  · have H1_ := hid h1_
    clear h1_
    go_upto_region 2 with fail
    refine wp_region_later1 (M2) ?_
    try simp only [pA]
    iterate 2 (go_big_quiet_step (fail))
    refine wpQuiet_nil (laterE hM2 ?_)
    intro xw4 M5 hbxw4 hM5 lM5
    have lo6 := lo3.trans (hbxw4.mono (by omega))
    clear lo3 hbxw4
    go_upto_region 18 with fail
    refine wp_region_later1 (M5) ?_
    try simp only [pA]
    iterate 2 (go_big_quiet_step (fail))
    refine later_b (x := (.tmp 57)) (y := (.tmp 58)) rfl (bin_sgeq _ (rsigF x true) (rsigF y true)) rfl rfl (by rfl) ?_; simp only [pA]
    go_big_quiet_step (fail)
    refine wpQuiet_nil (laterE hM5 ?_)
    intro xw7 M8 hbxw7 hM8 lM8
    have lo9 := lo6.trans (hbxw7.mono (by omega))
    clear lo6 hbxw7
    go_wp2_with fail
    go_ret
    exact ⟨by rw [ER.out]; first | rfl | (simp only [rhol7, H1_.out, bB] <;> rfl), lo9⟩
def rhol10 (l : Bool) (x : W) (y : W) : Bool :=
  bif l then (BitVec.ult x y)
  else (BitVec.ult (x % 4294967296#64) (y % 4294967296#64))
set_option maxRecDepth 100000 in
set_option maxHeartbeats 4000000 in
theorem RHol_10 (l : Bool) (x : W) (y : W) (w : World) (N : Nat) (hN : Sz w N) : Calls Try.prog 37 #[(Value.int .i64 10), (Value.bool l), (Q x), (Q y)] w fun e w' => e = .returned (.bool (rhol10 l x y)) ∧ Below N w w' := by
  obtain ⟨rr, er⟩ : ∃ rr, rr = (rhol10 l x y) := ⟨_, rfl⟩
  rw [← er]
  have ER := hid er
  clear er
  go_enter Try.func37, Try.ntmps37
  have lo0 : Below N w w := Below.refl N w
  go_upto_region 1 with fail
  refine wp_region_later1 (N) ?_
  try simp only [pA]
  iterate 2 (go_big_quiet_step (fail))
  go_big_quiet_step ((go_at_call 67; exact later_of hN _ (fun K hK hKN => RSig_any x l _ K hK)))
  iterate 2 (go_big_quiet_step (fail))
  go_big_quiet_step ((go_at_call 67; exact later_of hN _ (fun K hK hKN => RSig_any y l _ K hK)))
  iterate 2 (go_big_quiet_step (fail))
  refine wpQuiet_nil (laterE hN ?_)
  intro xw1 M2 hbxw1 hM2 lM2
  have lo3 := lo0.trans (hbxw1.mono (by omega))
  clear lo0 hbxw1
  cases h1_ : l
  · have H1_ := hid h1_
    clear h1_
    go_upto_region 2 with fail
    refine wp_region_later1 (M2) ?_
    try simp only [pA]
    iterate 2 (go_big_quiet_step (fail))
    refine wpQuiet_nil (laterE hM2 ?_)
    intro xw4 M5 hbxw4 hM5 lM5
    have lo6 := lo3.trans (hbxw4.mono (by omega))
    clear lo3 hbxw4
    go_upto_region 3 with fail
    refine wp_region_later1 (M5) ?_
    try simp only [pA]
    go_big_quiet_step (fail)
    refine later_b (x := (.tmp 19)) (y := (.const (.int .u64 4294967296))) rfl (bin_rem _ x 4294967296#64 (by decide)) rfl rfl (by rfl) ?_; simp only [pA]
    go_big_quiet_step (fail)
    refine later_b (x := (.tmp 21)) (y := (.const (.int .u64 4294967296))) rfl (bin_rem _ y 4294967296#64 (by decide)) rfl rfl (by rfl) ?_; simp only [pA]
    iterate 2 (go_big_quiet_step (fail))
    refine wpQuiet_nil (laterE hM5 ?_)
    intro xw7 M8 hbxw7 hM8 lM8
    have lo9 := lo6.trans (hbxw7.mono (by omega))
    clear lo6 hbxw7
    go_upto_region 20 with fail
    refine wp_region_later1 (M8) ?_
    try simp only [pA]
    iterate 2 (go_big_quiet_step (fail))
    refine later_b (x := (.tmp 62)) (y := (.tmp 63)) rfl (bin_lss _ (x % 4294967296#64) (y % 4294967296#64)) rfl rfl (by rfl) ?_; simp only [pA]
    go_big_quiet_step (fail)
    refine wpQuiet_nil (laterE hM8 ?_)
    intro xw10 M11 hbxw10 hM11 lM11
    have lo12 := lo9.trans (hbxw10.mono (by omega))
    clear lo9 hbxw10
    go_wp2_with fail
    go_ret
    exact ⟨by rw [ER.out]; first | rfl | (simp only [rhol10, H1_.out, bB] <;> rfl), lo12⟩
  · have H1_ := hid h1_
    clear h1_
    go_upto_region 2 with fail
    refine wp_region_later1 (M2) ?_
    try simp only [pA]
    iterate 2 (go_big_quiet_step (fail))
    refine wpQuiet_nil (laterE hM2 ?_)
    intro xw4 M5 hbxw4 hM5 lM5
    have lo6 := lo3.trans (hbxw4.mono (by omega))
    clear lo3 hbxw4
    go_upto_region 20 with fail
    refine wp_region_later1 (M5) ?_
    try simp only [pA]
    iterate 2 (go_big_quiet_step (fail))
    refine later_b (x := (.tmp 62)) (y := (.tmp 63)) rfl (bin_lss _ x y) rfl rfl (by rfl) ?_; simp only [pA]
    go_big_quiet_step (fail)
    refine wpQuiet_nil (laterE hM5 ?_)
    intro xw7 M8 hbxw7 hM8 lM8
    have lo9 := lo6.trans (hbxw7.mono (by omega))
    clear lo6 hbxw7
    go_wp2_with fail
    go_ret
    exact ⟨by rw [ER.out]; first | rfl | (simp only [rhol10, H1_.out, bB] <;> rfl), lo9⟩
def rhol11 (l : Bool) (x : W) (y : W) : Bool :=
  bif l then (BitVec.ule x y)
  else (BitVec.ule (x % 4294967296#64) (y % 4294967296#64))
set_option maxRecDepth 100000 in
set_option maxHeartbeats 4000000 in
theorem RHol_11 (l : Bool) (x : W) (y : W) (w : World) (N : Nat) (hN : Sz w N) : Calls Try.prog 37 #[(Value.int .i64 11), (Value.bool l), (Q x), (Q y)] w fun e w' => e = .returned (.bool (rhol11 l x y)) ∧ Below N w w' := by
  obtain ⟨rr, er⟩ : ∃ rr, rr = (rhol11 l x y) := ⟨_, rfl⟩
  rw [← er]
  have ER := hid er
  clear er
  go_enter Try.func37, Try.ntmps37
  have lo0 : Below N w w := Below.refl N w
  go_upto_region 1 with fail
  refine wp_region_later1 (N) ?_
  try simp only [pA]
  iterate 2 (go_big_quiet_step (fail))
  go_big_quiet_step ((go_at_call 67; exact later_of hN _ (fun K hK hKN => RSig_any x l _ K hK)))
  iterate 2 (go_big_quiet_step (fail))
  go_big_quiet_step ((go_at_call 67; exact later_of hN _ (fun K hK hKN => RSig_any y l _ K hK)))
  iterate 2 (go_big_quiet_step (fail))
  refine wpQuiet_nil (laterE hN ?_)
  intro xw1 M2 hbxw1 hM2 lM2
  have lo3 := lo0.trans (hbxw1.mono (by omega))
  clear lo0 hbxw1
  cases h1_ : l
  · have H1_ := hid h1_
    clear h1_
    go_upto_region 2 with fail
    refine wp_region_later1 (M2) ?_
    try simp only [pA]
    iterate 2 (go_big_quiet_step (fail))
    refine wpQuiet_nil (laterE hM2 ?_)
    intro xw4 M5 hbxw4 hM5 lM5
    have lo6 := lo3.trans (hbxw4.mono (by omega))
    clear lo3 hbxw4
    go_upto_region 3 with fail
    refine wp_region_later1 (M5) ?_
    try simp only [pA]
    go_big_quiet_step (fail)
    refine later_b (x := (.tmp 19)) (y := (.const (.int .u64 4294967296))) rfl (bin_rem _ x 4294967296#64 (by decide)) rfl rfl (by rfl) ?_; simp only [pA]
    go_big_quiet_step (fail)
    refine later_b (x := (.tmp 21)) (y := (.const (.int .u64 4294967296))) rfl (bin_rem _ y 4294967296#64 (by decide)) rfl rfl (by rfl) ?_; simp only [pA]
    iterate 2 (go_big_quiet_step (fail))
    refine wpQuiet_nil (laterE hM5 ?_)
    intro xw7 M8 hbxw7 hM8 lM8
    have lo9 := lo6.trans (hbxw7.mono (by omega))
    clear lo6 hbxw7
    go_upto_region 22 with fail
    refine wp_region_later1 (M8) ?_
    try simp only [pA]
    iterate 2 (go_big_quiet_step (fail))
    refine later_b (x := (.tmp 67)) (y := (.tmp 68)) rfl (bin_leq _ (x % 4294967296#64) (y % 4294967296#64)) rfl rfl (by rfl) ?_; simp only [pA]
    go_big_quiet_step (fail)
    refine wpQuiet_nil (laterE hM8 ?_)
    intro xw10 M11 hbxw10 hM11 lM11
    have lo12 := lo9.trans (hbxw10.mono (by omega))
    clear lo9 hbxw10
    go_wp2_with fail
    go_ret
    exact ⟨by rw [ER.out]; first | rfl | (simp only [rhol11, H1_.out, bB] <;> rfl), lo12⟩
  · have H1_ := hid h1_
    clear h1_
    go_upto_region 2 with fail
    refine wp_region_later1 (M2) ?_
    try simp only [pA]
    iterate 2 (go_big_quiet_step (fail))
    refine wpQuiet_nil (laterE hM2 ?_)
    intro xw4 M5 hbxw4 hM5 lM5
    have lo6 := lo3.trans (hbxw4.mono (by omega))
    clear lo3 hbxw4
    go_upto_region 22 with fail
    refine wp_region_later1 (M5) ?_
    try simp only [pA]
    iterate 2 (go_big_quiet_step (fail))
    refine later_b (x := (.tmp 67)) (y := (.tmp 68)) rfl (bin_leq _ x y) rfl rfl (by rfl) ?_; simp only [pA]
    go_big_quiet_step (fail)
    refine wpQuiet_nil (laterE hM5 ?_)
    intro xw7 M8 hbxw7 hM8 lM8
    have lo9 := lo6.trans (hbxw7.mono (by omega))
    clear lo6 hbxw7
    go_wp2_with fail
    go_ret
    exact ⟨by rw [ER.out]; first | rfl | (simp only [rhol11, H1_.out, bB] <;> rfl), lo9⟩
def rhol12 (l : Bool) (x : W) (y : W) : Bool :=
  bif l then (BitVec.slt (rsigF x true) (rsigF y true))
  else (BitVec.slt (rsigF x false) (rsigF y false))
set_option maxRecDepth 100000 in
set_option maxHeartbeats 4000000 in
theorem RHol_12 (l : Bool) (x : W) (y : W) (w : World) (N : Nat) (hN : Sz w N) : Calls Try.prog 37 #[(Value.int .i64 12), (Value.bool l), (Q x), (Q y)] w fun e w' => e = .returned (.bool (rhol12 l x y)) ∧ Below N w w' := by
  obtain ⟨rr, er⟩ : ∃ rr, rr = (rhol12 l x y) := ⟨_, rfl⟩
  rw [← er]
  have ER := hid er
  clear er
  go_enter Try.func37, Try.ntmps37
  have lo0 : Below N w w := Below.refl N w
  go_upto_region 1 with fail
  refine wp_region_later1 (N) ?_
  try simp only [pA]
  iterate 2 (go_big_quiet_step (fail))
  go_big_quiet_step ((go_at_call 67; exact later_of hN _ (fun K hK hKN => RSig_any x l _ K hK)))
  iterate 2 (go_big_quiet_step (fail))
  go_big_quiet_step ((go_at_call 67; exact later_of hN _ (fun K hK hKN => RSig_any y l _ K hK)))
  iterate 2 (go_big_quiet_step (fail))
  refine wpQuiet_nil (laterE hN ?_)
  intro xw1 M2 hbxw1 hM2 lM2
  have lo3 := lo0.trans (hbxw1.mono (by omega))
  clear lo0 hbxw1
  cases h1_ : l
  · have H1_ := hid h1_
    clear h1_
    go_upto_region 2 with fail
    refine wp_region_later1 (M2) ?_
    try simp only [pA]
    iterate 2 (go_big_quiet_step (fail))
    refine wpQuiet_nil (laterE hM2 ?_)
    intro xw4 M5 hbxw4 hM5 lM5
    have lo6 := lo3.trans (hbxw4.mono (by omega))
    clear lo3 hbxw4
    go_upto_region 3 with fail
    refine wp_region_later1 (M5) ?_
    try simp only [pA]
    go_big_quiet_step (fail)
    refine later_b (x := (.tmp 19)) (y := (.const (.int .u64 4294967296))) rfl (bin_rem _ x 4294967296#64 (by decide)) rfl rfl (by rfl) ?_; simp only [pA]
    go_big_quiet_step (fail)
    refine later_b (x := (.tmp 21)) (y := (.const (.int .u64 4294967296))) rfl (bin_rem _ y 4294967296#64 (by decide)) rfl rfl (by rfl) ?_; simp only [pA]
    iterate 2 (go_big_quiet_step (fail))
    refine wpQuiet_nil (laterE hM5 ?_)
    intro xw7 M8 hbxw7 hM8 lM8
    have lo9 := lo6.trans (hbxw7.mono (by omega))
    clear lo6 hbxw7
    go_upto_region 24 with fail
    refine wp_region_later1 (M8) ?_
    try simp only [pA]
    iterate 2 (go_big_quiet_step (fail))
    refine later_b (x := (.tmp 72)) (y := (.tmp 73)) rfl (bin_slss _ (rsigF x false) (rsigF y false)) rfl rfl (by rfl) ?_; simp only [pA]
    go_big_quiet_step (fail)
    refine wpQuiet_nil (laterE hM8 ?_)
    intro xw10 M11 hbxw10 hM11 lM11
    have lo12 := lo9.trans (hbxw10.mono (by omega))
    clear lo9 hbxw10
    go_wp2_with fail
    go_ret
    exact ⟨by rw [ER.out]; first | rfl | (simp only [rhol12, H1_.out, bB] <;> rfl), lo12⟩
  · have H1_ := hid h1_
    clear h1_
    go_upto_region 2 with fail
    refine wp_region_later1 (M2) ?_
    try simp only [pA]
    iterate 2 (go_big_quiet_step (fail))
    refine wpQuiet_nil (laterE hM2 ?_)
    intro xw4 M5 hbxw4 hM5 lM5
    have lo6 := lo3.trans (hbxw4.mono (by omega))
    clear lo3 hbxw4
    go_upto_region 24 with fail
    refine wp_region_later1 (M5) ?_
    try simp only [pA]
    iterate 2 (go_big_quiet_step (fail))
    refine later_b (x := (.tmp 72)) (y := (.tmp 73)) rfl (bin_slss _ (rsigF x true) (rsigF y true)) rfl rfl (by rfl) ?_; simp only [pA]
    go_big_quiet_step (fail)
    refine wpQuiet_nil (laterE hM5 ?_)
    intro xw7 M8 hbxw7 hM8 lM8
    have lo9 := lo6.trans (hbxw7.mono (by omega))
    clear lo6 hbxw7
    go_wp2_with fail
    go_ret
    exact ⟨by rw [ER.out]; first | rfl | (simp only [rhol12, H1_.out, bB] <;> rfl), lo9⟩
def rhol13 (l : Bool) (x : W) (y : W) : Bool :=
  bif l then (BitVec.sle (rsigF x true) (rsigF y true))
  else (BitVec.sle (rsigF x false) (rsigF y false))
set_option maxRecDepth 100000 in
set_option maxHeartbeats 4000000 in
theorem RHol_13 (l : Bool) (x : W) (y : W) (w : World) (N : Nat) (hN : Sz w N) : Calls Try.prog 37 #[(Value.int .i64 13), (Value.bool l), (Q x), (Q y)] w fun e w' => e = .returned (.bool (rhol13 l x y)) ∧ Below N w w' := by
  obtain ⟨rr, er⟩ : ∃ rr, rr = (rhol13 l x y) := ⟨_, rfl⟩
  rw [← er]
  have ER := hid er
  clear er
  go_enter Try.func37, Try.ntmps37
  have lo0 : Below N w w := Below.refl N w
  go_upto_region 1 with fail
  refine wp_region_later1 (N) ?_
  try simp only [pA]
  iterate 2 (go_big_quiet_step (fail))
  go_big_quiet_step ((go_at_call 67; exact later_of hN _ (fun K hK hKN => RSig_any x l _ K hK)))
  iterate 2 (go_big_quiet_step (fail))
  go_big_quiet_step ((go_at_call 67; exact later_of hN _ (fun K hK hKN => RSig_any y l _ K hK)))
  iterate 2 (go_big_quiet_step (fail))
  refine wpQuiet_nil (laterE hN ?_)
  intro xw1 M2 hbxw1 hM2 lM2
  have lo3 := lo0.trans (hbxw1.mono (by omega))
  clear lo0 hbxw1
  cases h1_ : l
  · have H1_ := hid h1_
    clear h1_
    go_upto_region 2 with fail
    refine wp_region_later1 (M2) ?_
    try simp only [pA]
    iterate 2 (go_big_quiet_step (fail))
    refine wpQuiet_nil (laterE hM2 ?_)
    intro xw4 M5 hbxw4 hM5 lM5
    have lo6 := lo3.trans (hbxw4.mono (by omega))
    clear lo3 hbxw4
    go_upto_region 3 with fail
    refine wp_region_later1 (M5) ?_
    try simp only [pA]
    go_big_quiet_step (fail)
    refine later_b (x := (.tmp 19)) (y := (.const (.int .u64 4294967296))) rfl (bin_rem _ x 4294967296#64 (by decide)) rfl rfl (by rfl) ?_; simp only [pA]
    go_big_quiet_step (fail)
    refine later_b (x := (.tmp 21)) (y := (.const (.int .u64 4294967296))) rfl (bin_rem _ y 4294967296#64 (by decide)) rfl rfl (by rfl) ?_; simp only [pA]
    iterate 2 (go_big_quiet_step (fail))
    refine wpQuiet_nil (laterE hM5 ?_)
    intro xw7 M8 hbxw7 hM8 lM8
    have lo9 := lo6.trans (hbxw7.mono (by omega))
    clear lo6 hbxw7
    go_upto_region 26 with fail
    refine wp_region_later1 (M8) ?_
    try simp only [pA]
    iterate 2 (go_big_quiet_step (fail))
    refine later_b (x := (.tmp 77)) (y := (.tmp 78)) rfl (bin_sleq _ (rsigF x false) (rsigF y false)) rfl rfl (by rfl) ?_; simp only [pA]
    go_big_quiet_step (fail)
    refine wpQuiet_nil (laterE hM8 ?_)
    intro xw10 M11 hbxw10 hM11 lM11
    have lo12 := lo9.trans (hbxw10.mono (by omega))
    clear lo9 hbxw10
    go_wp2_with fail
    go_ret
    exact ⟨by rw [ER.out]; first | rfl | (simp only [rhol13, H1_.out, bB] <;> rfl), lo12⟩
  · have H1_ := hid h1_
    clear h1_
    go_upto_region 2 with fail
    refine wp_region_later1 (M2) ?_
    try simp only [pA]
    iterate 2 (go_big_quiet_step (fail))
    refine wpQuiet_nil (laterE hM2 ?_)
    intro xw4 M5 hbxw4 hM5 lM5
    have lo6 := lo3.trans (hbxw4.mono (by omega))
    clear lo3 hbxw4
    go_upto_region 26 with fail
    refine wp_region_later1 (M5) ?_
    try simp only [pA]
    iterate 2 (go_big_quiet_step (fail))
    refine later_b (x := (.tmp 77)) (y := (.tmp 78)) rfl (bin_sleq _ (rsigF x true) (rsigF y true)) rfl rfl (by rfl) ?_; simp only [pA]
    go_big_quiet_step (fail)
    refine wpQuiet_nil (laterE hM5 ?_)
    intro xw7 M8 hbxw7 hM8 lM8
    have lo9 := lo6.trans (hbxw7.mono (by omega))
    clear lo6 hbxw7
    go_wp2_with fail
    go_ret
    exact ⟨by rw [ER.out]; first | rfl | (simp only [rhol13, H1_.out, bB] <;> rfl), lo9⟩
def rholo (z : Int) (l : Bool) (x : W) (y : W) : Bool :=
  bif l then false
  else false
set_option maxRecDepth 100000 in
set_option maxHeartbeats 4000000 in
theorem RHol_o (z : Int) (l : Bool) (x : W) (y : W) (w : World) (N : Nat) (hN : Sz w N) (h1 : (z == 1) = false) (h2 : (z == 2) = false) (h3 : (z == 3) = false) (h4 : (z == 4) = false) (h5 : (z == 5) = false) (h6 : (z == 6) = false) (h7 : (z == 7) = false) (h10 : (z == 10) = false) (h11 : (z == 11) = false) (h12 : (z == 12) = false) (h13 : (z == 13) = false) : Calls Try.prog 37 #[(Value.int .i64 z), (Value.bool l), (Q x), (Q y)] w fun e w' => e = .returned (.bool (rholo z l x y)) ∧ Below N w w' := by
  obtain ⟨rr, er⟩ : ∃ rr, rr = (rholo z l x y) := ⟨_, rfl⟩
  rw [← er]
  have ER := hid er
  clear er
  go_enter Try.func37, Try.ntmps37
  have lo0 : Below N w w := Below.refl N w
  go_upto_region 1 with fail
  refine wp_region_later1 (N) ?_
  try simp only [pA]
  iterate 2 (go_big_quiet_step (fail))
  go_big_quiet_step ((go_at_call 67; exact later_of hN _ (fun K hK hKN => RSig_any x l _ K hK)))
  iterate 2 (go_big_quiet_step (fail))
  go_big_quiet_step ((go_at_call 67; exact later_of hN _ (fun K hK hKN => RSig_any y l _ K hK)))
  iterate 2 (go_big_quiet_step (fail))
  refine wpQuiet_nil (laterE hN ?_)
  intro xw1 M2 hbxw1 hM2 lM2
  have lo3 := lo0.trans (hbxw1.mono (by omega))
  clear lo0 hbxw1
  cases h1_ : l
  · have H1_ := hid h1_
    clear h1_
    go_upto_region 2 with fail
    refine wp_region_later1 (M2) ?_
    try simp only [pA]
    iterate 2 (go_big_quiet_step (fail))
    refine wpQuiet_nil (laterE hM2 ?_)
    intro xw4 M5 hbxw4 hM5 lM5
    have lo6 := lo3.trans (hbxw4.mono (by omega))
    clear lo3 hbxw4
    go_upto_region 3 with fail
    refine wp_region_later1 (M5) ?_
    try simp only [pA]
    go_big_quiet_step (fail)
    refine later_b (x := (.tmp 19)) (y := (.const (.int .u64 4294967296))) rfl (bin_rem _ x 4294967296#64 (by decide)) rfl rfl (by rfl) ?_; simp only [pA]
    go_big_quiet_step (fail)
    refine later_b (x := (.tmp 21)) (y := (.const (.int .u64 4294967296))) rfl (bin_rem _ y 4294967296#64 (by decide)) rfl rfl (by rfl) ?_; simp only [pA]
    iterate 2 (go_big_quiet_step (fail))
    refine wpQuiet_nil (laterE hM5 ?_)
    intro xw7 M8 hbxw7 hM8 lM8
    have lo9 := lo6.trans (hbxw7.mono (by omega))
    clear lo6 hbxw7
    go_wp2_with fail
    go_ret
    exact ⟨by rw [ER.out]; first | rfl | (simp only [rholo, H1_.out, bB] <;> rfl), lo9⟩
  · have H1_ := hid h1_
    clear h1_
    go_upto_region 2 with fail
    refine wp_region_later1 (M2) ?_
    try simp only [pA]
    iterate 2 (go_big_quiet_step (fail))
    refine wpQuiet_nil (laterE hM2 ?_)
    intro xw4 M5 hbxw4 hM5 lM5
    have lo6 := lo3.trans (hbxw4.mono (by omega))
    clear lo3 hbxw4
    go_wp2_with fail
    go_ret
    exact ⟨by rw [ER.out]; first | rfl | (simp only [rholo, H1_.out, bB] <;> rfl), lo6⟩
end Go.Proofs.Ytmdcopmgkhjfnaa
