/- Laws of rights: whole; RightsBits. -/
import Derived.Test.YtilhkgbninbkkaaDoorRi5
namespace Go.Proofs.YtilhkgbninbkkaaDoor
open Go Go.RowKit
/-- Both tables lie where they lay. -/
structure Rt (w : World) : Prop where
  h : Hp w
  d : Db w
theorem Rt.below {w w' : World} {N : Nat} (t : Rt w) (hN : Sz w N) (h : Below N w w') : Rt w' := ⟨t.h.below hN h, t.d.below hN h⟩
theorem text_all : textOf rgAll = ⟨#[99, 102, 102, 32, 112, 102, 32, 109, 51, 102, 32, 104, 102, 102, 32, 112, 114, 105, 118, 105, 108, 101, 103, 101, 100]⟩ := by decide +kernel
set_option maxRecDepth 100000 in
theorem whole_any (w : World) (N : Nat) (hN : Sz w N) (hT : Rt w) :
    Calls Tryd.prog 16 #[] w fun e w' => e = .returned (.bool true) ∧ Below N w w' := by
  have CB := Bit_any 87 w hT.h
  have eb : bitOf 87 = some 5 := by decide
  rw [eb] at CB
  have CT := fun w M hM hD => Text_any rgAll w M hM hD
  rw [text_all] at CT
  have ew : rWithin rgNone rgAll = true := by decide
  have CW := fun w M hM => Within_any rgNone rgAll w M hM
  rw [ew] at CW
  clear eb ew
  go_enter Tryd.func16, Tryd.ntmps16
  go_wp2_with fail
  refine CB.mono ?_
  rintro e wa ⟨rfl, ea⟩
  have ea := ea.symm
  subst ea
  go_wp2_with fail
  refine (All_any _ N hN).mono ?_
  rintro e w1 ⟨rfl, b1⟩
  obtain ⟨M1, hM1⟩ := sz_some w1
  have l1 := below_sz b1 hN hM1
  go_wp2_with fail
  refine (CT _ M1 hM1 (hT.below hN b1).d).mono ?_
  rintro e w2 ⟨rfl, b2⟩
  obtain ⟨M2, hM2⟩ := sz_some w2
  have l2 := below_sz b2 hM1 hM2
  have lo2 := b1.trans (b2.mono l1)
  go_wp2_with (first
    | (refine wpl_want' rfl (wpl_build rfl 26 _ rfl (cellsOf (rgC rgNone) 6) (by kernel_rfl) ?_))
    | fail)
  refine (All_any _ M2 hM2).mono ?_
  rintro e w3 ⟨rfl, b3⟩
  obtain ⟨M3, hM3⟩ := sz_some w3
  have l3 := below_sz b3 hM2 hM3
  have lo3 := lo2.trans (b3.mono (by omega))
  go_wp2_with fail
  refine (CW _ M3 hM3).mono ?_
  rintro e w4 ⟨rfl, b4⟩
  have lo4 := lo3.trans (b4.mono (by omega))
  go_wp2_with fail
  go_ret
  exact ⟨rfl, lo4⟩
end Go.Proofs.YtilhkgbninbkkaaDoor
