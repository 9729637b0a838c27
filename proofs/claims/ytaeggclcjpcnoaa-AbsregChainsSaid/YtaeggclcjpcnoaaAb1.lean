/- Contracts of states: sizes, places, words. -/
import Derived.Test.YtaeggclcjpcnoaaAb0
namespace Go.Proofs.Ytaeggclcjpcnoaa
open Go Go.RowKit
def sizeF (n : Int) : Bool :=
  bif (n == 1) then true
  else bif (n == 2) then true
  else bif (n == 4) then true
  else (n == 8)
set_option maxRecDepth 100000 in
set_option maxHeartbeats 4000000 in
theorem IsSize_any (n : Int) (w : World) (N : Nat) (hN : Sz w N) : Calls Try.prog 75 #[(Value.int .i64 n)] w fun e w' => e = .returned (.bool (sizeF n)) ∧ Below N w w' := by
  obtain ⟨rr, er⟩ : ∃ rr, rr = (sizeF n) := ⟨_, rfl⟩
  rw [← er]
  have ER := hid er
  clear er
  go_enter Try.func75, Try.ntmps75
  have lo0 : Below N w w := Below.refl N w
  cases h1_ : (n == 1)
  · have H1_ := hid h1_
    clear h1_
    cases h2_ : (n == 2)
    · have H2_ := hid h2_
      clear h2_
      cases h3_ : (n == 4)
      · have H3_ := hid h3_
        clear h3_
        go_upto_region 1 with fail
        refine wp_region_later1 (N) ?_
        try simp only [pA]
        go_big_quiet_step (fail)
        refine later_val (fun q => run_eqlI (x := (.tmp 3)) (y := (.const (.int .i64 1))) rfl rfl rfl (p := n) (q := 1) (r := false) H1_.out q.w') (by rfl) ?_; simp only [pA]
        iterate 2 (go_big_quiet_step (fail))
        refine later_val (fun q => run_eqlI (x := (.tmp 6)) (y := (.const (.int .i64 2))) rfl rfl rfl (p := n) (q := 2) (r := false) H2_.out q.w') (by rfl) ?_; simp only [pA]
        iterate 3 (go_big_quiet_step (fail))
        refine later_val (fun q => run_eqlI (x := (.tmp 10)) (y := (.const (.int .i64 4))) rfl rfl rfl (p := n) (q := 4) (r := false) H3_.out q.w') (by rfl) ?_; simp only [pA]
        iterate 3 (go_big_quiet_step (fail))
        refine later_val (fun q => run_eqlI (x := (.tmp 14)) (y := (.const (.int .i64 8))) rfl rfl rfl (p := n) (q := 8) (r := (n == 8)) rfl q.w') (by rfl) ?_; simp only [pA]
        iterate 2 (go_big_quiet_step (fail))
        refine wpQuiet_nil (laterE hN ?_)
        intro xw1 M2 hbxw1 hM2 lM2
        have lo3 := lo0.trans (hbxw1.mono (by omega))
        clear lo0 hbxw1
        go_wp2_with fail
        go_ret
        exact ⟨by rw [ER.out]; first | rfl | (simp only [sizeF, H1_.out, H2_.out, H3_.out, bB] <;> rfl), lo3⟩
      · have H3_ := hid h3_
        clear h3_
        go_upto_region 1 with fail
        refine wp_region_later1 (N) ?_
        try simp only [pA]
        go_big_quiet_step (fail)
        refine later_val (fun q => run_eqlI (x := (.tmp 3)) (y := (.const (.int .i64 1))) rfl rfl rfl (p := n) (q := 1) (r := false) H1_.out q.w') (by rfl) ?_; simp only [pA]
        iterate 2 (go_big_quiet_step (fail))
        refine later_val (fun q => run_eqlI (x := (.tmp 6)) (y := (.const (.int .i64 2))) rfl rfl rfl (p := n) (q := 2) (r := false) H2_.out q.w') (by rfl) ?_; simp only [pA]
        iterate 3 (go_big_quiet_step (fail))
        refine later_val (fun q => run_eqlI (x := (.tmp 10)) (y := (.const (.int .i64 4))) rfl rfl rfl (p := n) (q := 4) (r := true) H3_.out q.w') (by rfl) ?_; simp only [pA]
        iterate 6 (go_big_quiet_step (fail))
        refine wpQuiet_nil (laterE hN ?_)
        intro xw1 M2 hbxw1 hM2 lM2
        have lo3 := lo0.trans (hbxw1.mono (by omega))
        clear lo0 hbxw1
        go_wp2_with fail
        go_ret
        exact ⟨by rw [ER.out]; first | rfl | (simp only [sizeF, H1_.out, H2_.out, H3_.out, bB] <;> rfl), lo3⟩
    · have H2_ := hid h2_
      clear h2_
      go_upto_region 1 with fail
      refine wp_region_later1 (N) ?_
      try simp only [pA]
      go_big_quiet_step (fail)
      refine later_val (fun q => run_eqlI (x := (.tmp 3)) (y := (.const (.int .i64 1))) rfl rfl rfl (p := n) (q := 1) (r := false) H1_.out q.w') (by rfl) ?_; simp only [pA]
      iterate 2 (go_big_quiet_step (fail))
      refine later_val (fun q => run_eqlI (x := (.tmp 6)) (y := (.const (.int .i64 2))) rfl rfl rfl (p := n) (q := 2) (r := true) H2_.out q.w') (by rfl) ?_; simp only [pA]
      iterate 10 (go_big_quiet_step (fail))
      refine wpQuiet_nil (laterE hN ?_)
      intro xw1 M2 hbxw1 hM2 lM2
      have lo3 := lo0.trans (hbxw1.mono (by omega))
      clear lo0 hbxw1
      go_wp2_with fail
      go_ret
      exact ⟨by rw [ER.out]; first | rfl | (simp only [sizeF, H1_.out, H2_.out, bB] <;> rfl), lo3⟩
  · have H1_ := hid h1_
    clear h1_
    go_upto_region 1 with fail
    refine wp_region_later1 (N) ?_
    try simp only [pA]
    go_big_quiet_step (fail)
    refine later_val (fun q => run_eqlI (x := (.tmp 3)) (y := (.const (.int .i64 1))) rfl rfl rfl (p := n) (q := 1) (r := true) H1_.out q.w') (by rfl) ?_; simp only [pA]
    iterate 13 (go_big_quiet_step (fail))
    refine wpQuiet_nil (laterE hN ?_)
    intro xw1 M2 hbxw1 hM2 lM2
    have lo3 := lo0.trans (hbxw1.mono (by omega))
    clear lo0 hbxw1
    go_wp2_with fail
    go_ret
    exact ⟨by rw [ER.out]; first | rfl | (simp only [sizeF, H1_.out, bB] <;> rfl), lo3⟩
def insideF (at_ : Int) (n : Int) : Bool :=
  bif (decide ((-64) ≤ at_)) then (decide (n ≤ (wrap64 (-at_))))
  else false
set_option maxRecDepth 100000 in
set_option maxHeartbeats 4000000 in
theorem Inside_any (at_ : Int) (n : Int) (w : World) (N : Nat) (hN : Sz w N) : Calls Try.prog 76 #[(Value.int .i64 at_), (Value.int .i64 n)] w fun e w' => e = .returned (.bool (insideF at_ n)) ∧ Below N w w' := by
  obtain ⟨rr, er⟩ : ∃ rr, rr = (insideF at_ n) := ⟨_, rfl⟩
  rw [← er]
  have ER := hid er
  clear er
  go_enter Try.func76, Try.ntmps76
  have lo0 : Below N w w := Below.refl N w
  cases h1_ : (decide ((-64) ≤ at_))
  · have H1_ := hid h1_
    clear h1_
    go_upto_region 1 with fail
    refine wp_region_later1 (N) ?_
    try simp only [pA]
    go_big_quiet_step (fail)
    refine later_val (fun q => run_geqI (x := (.tmp 5)) (y := (.const (.int .i64 (-64)))) rfl rfl rfl (p := at_) (q := (-64)) (r := false) H1_.out q.w') (by rfl) ?_; simp only [pA]
    iterate 7 (go_big_quiet_step (fail))
    refine wpQuiet_nil (laterE hN ?_)
    intro xw1 M2 hbxw1 hM2 lM2
    have lo3 := lo0.trans (hbxw1.mono (by omega))
    clear lo0 hbxw1
    go_wp2_with fail
    go_ret
    exact ⟨by rw [ER.out]; first | rfl | (simp only [insideF, H1_.out, bB] <;> rfl), lo3⟩
  · have H1_ := hid h1_
    clear h1_
    go_upto_region 1 with fail
    refine wp_region_later1 (N) ?_
    try simp only [pA]
    go_big_quiet_step (fail)
    refine later_val (fun q => run_geqI (x := (.tmp 5)) (y := (.const (.int .i64 (-64)))) rfl rfl rfl (p := at_) (q := (-64)) (r := true) H1_.out q.w') (by rfl) ?_; simp only [pA]
    iterate 3 (go_big_quiet_step (fail))
    refine later_val (fun q => run_negI (x := (.tmp 9)) rfl rfl (p := at_) q.w') (by rfl) ?_; simp only [pA]
    refine later_val (fun q => run_leqI (x := (.tmp 8)) (y := (.tmp 10)) rfl rfl rfl (p := n) (q := (wrap64 (-at_))) (r := (decide (n ≤ (wrap64 (-at_))))) rfl q.w') (by rfl) ?_; simp only [pA]
    iterate 2 (go_big_quiet_step (fail))
    refine wpQuiet_nil (laterE hN ?_)
    intro xw1 M2 hbxw1 hM2 lM2
    have lo3 := lo0.trans (hbxw1.mono (by omega))
    clear lo0 hbxw1
    go_wp2_with fail
    go_ret
    exact ⟨by rw [ER.out]; first | rfl | (simp only [insideF, H1_.out, bB] <;> rfl), lo3⟩
def wordF (at_ : Int) (n : Int) : Bool :=
  bif (n == 8) then ((at_.tmod 8) == 0)
  else false
set_option maxRecDepth 100000 in
set_option maxHeartbeats 4000000 in
theorem IsWord_any (at_ : Int) (n : Int) (w : World) (N : Nat) (hN : Sz w N) : Calls Try.prog 77 #[(Value.int .i64 at_), (Value.int .i64 n)] w fun e w' => e = .returned (.bool (wordF at_ n)) ∧ Below N w w' := by
  obtain ⟨rr, er⟩ : ∃ rr, rr = (wordF at_ n) := ⟨_, rfl⟩
  rw [← er]
  have ER := hid er
  clear er
  go_enter Try.func77, Try.ntmps77
  have lo0 : Below N w w := Below.refl N w
  cases h1_ : (n == 8)
  · have H1_ := hid h1_
    clear h1_
    go_upto_region 1 with fail
    refine wp_region_later1 (N) ?_
    try simp only [pA]
    go_big_quiet_step (fail)
    refine later_val (fun q => run_eqlI (x := (.tmp 5)) (y := (.const (.int .i64 8))) rfl rfl rfl (p := n) (q := 8) (r := false) H1_.out q.w') (by rfl) ?_; simp only [pA]
    iterate 6 (go_big_quiet_step (fail))
    refine wpQuiet_nil (laterE hN ?_)
    intro xw1 M2 hbxw1 hM2 lM2
    have lo3 := lo0.trans (hbxw1.mono (by omega))
    clear lo0 hbxw1
    go_wp2_with fail
    go_ret
    exact ⟨by rw [ER.out]; first | rfl | (simp only [wordF, H1_.out, bB] <;> rfl), lo3⟩
  · have H1_ := hid h1_
    clear h1_
    go_upto_region 1 with fail
    refine wp_region_later1 (N) ?_
    try simp only [pA]
    go_big_quiet_step (fail)
    refine later_val (fun q => run_eqlI (x := (.tmp 5)) (y := (.const (.int .i64 8))) rfl rfl rfl (p := n) (q := 8) (r := true) H1_.out q.w') (by rfl) ?_; simp only [pA]
    iterate 2 (go_big_quiet_step (fail))
    refine later_val (fun q => run_remI8 (x := (.tmp 8)) (y := (.const (.int .i64 8))) rfl rfl rfl (p := at_) q.w') (by rfl) ?_; simp only [pA]
    refine later_val (fun q => run_eqlI (x := (.tmp 9)) (y := (.const (.int .i64 0))) rfl rfl rfl (p := (at_.tmod 8)) (q := 0) (r := ((at_.tmod 8) == 0)) rfl q.w') (by rfl) ?_; simp only [pA]
    iterate 2 (go_big_quiet_step (fail))
    refine wpQuiet_nil (laterE hN ?_)
    intro xw1 M2 hbxw1 hM2 lM2
    have lo3 := lo0.trans (hbxw1.mono (by omega))
    clear lo0 hbxw1
    go_wp2_with fail
    go_ret
    exact ⟨by rw [ER.out]; first | rfl | (simp only [wordF, H1_.out, bB] <;> rfl), lo3⟩
def indexF (at_ : Int) : Int :=
  (wrap64 (at_ + 64))
set_option maxRecDepth 100000 in
set_option maxHeartbeats 4000000 in
theorem Index_any (at_ : Int) (w : World) (N : Nat) (hN : Sz w N) : Calls Try.prog 78 #[(Value.int .i64 at_)] w fun e w' => e = .returned (.int .i64 (indexF at_)) ∧ Below N w w' := by
  obtain ⟨rr, er⟩ : ∃ rr, rr = (indexF at_) := ⟨_, rfl⟩
  rw [← er]
  have ER := hid er
  clear er
  go_enter Try.func78, Try.ntmps78
  have lo0 : Below N w w := Below.refl N w
  go_upto_region 1 with fail
  refine wp_region_later1 (N) ?_
  try simp only [pA]
  go_big_quiet_step (fail)
  refine later_val (fun q => run_addI (x := (.tmp 3)) (y := (.const (.int .i64 64))) rfl rfl rfl (p := at_) (q := 64) q.w') (by rfl) ?_; simp only [pA]
  go_big_quiet_step (fail)
  refine wpQuiet_nil (laterE hN ?_)
  intro xw1 M2 hbxw1 hM2 lM2
  have lo3 := lo0.trans (hbxw1.mono (by omega))
  clear lo0 hbxw1
  go_wp2_with fail
  go_ret
  exact ⟨by rw [ER.out]; first | rfl | (simp only [indexF, bB] <;> rfl), lo3⟩
end Go.Proofs.Ytaeggclcjpcnoaa
