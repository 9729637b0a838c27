/- Contracts of operations of ranges: shifts by one count. -/
import Derived.Test.YtbbfdehipgkjmaaDoorSe4
namespace Go.Proofs.YtbbfdehipgkjmaaDoor
open Go Go.RowKit
def shByR6 (a : Rn) (n : W) : Rn :=
 bif (n == 0#64) then a
 else (shUpR a n)
set_option maxRecDepth 100000 in
set_option maxHeartbeats 4000000 in
theorem ShBy_6 (a : Rn) (n : W) (w : World) (N : Nat) (hN : Sz w N) : Calls Tryd.prog 71 #[(Value.int .i64 6), rV a, (Q n)] w fun e w' => e = .returned (rV (shByR6 a n)) ∧ Below N w w' := by
 obtain ⟨rr, er⟩ : ∃ rr, rr = (shByR6 a n) := ⟨_, rfl⟩
 rw [← er]
 have ER := hid er
 clear er
 unfold rV
 go_enter Tryd.func71, Tryd.ntmps71
 go_upto_region 1 with (first
  | (refine wpl_box rfl 27 (.tmp 1) rfl 6 _ rfl (N) hN ?_; intro w1 hN1 hb1 hh1)
  | (refine wpl_alloc rfl 27 rfl 6 (rC zeroR) zeR (N + 1) hN1 ?_; intro w2 hN2 hb2 hh2)
  | fail)
 have lo0 : Below N w w2 := (hb1.trans (hb2.mono (by omega)))
 have k1 := (hh1.below hb2 (by omega))
 have k2 := hh2
 clear hh1 hb1 hh2 hb2 hN1
 cases h1_ : (n == 0#64)
 ·have H1_ := hid h1_
  clear h1_
  go_upto_region 1 with fail
  refine wp_region_later1 ((N + 1 + 1)) ?_
  try simp only [pA]
  go_big_quiet_step (fail)
  refine later_b (x := (.tmp 9)) (y := (.const (.int .u64 0))) rfl (BinRun.is H1_.out (bin_eql _ n 0#64)) rfl rfl (by rfl) ?_; simp only [pA]
  refine wpQuiet_nil (laterE hN2 ?_)
  intro xw3 M4 hbxw3 hM4 lM4
  have k5 := k1.below hbxw3 (by omega)
  have k6 := k2.below hbxw3 (by omega)
  have lo7 := lo0.trans (hbxw3.mono (by omega))
  clear k1 k2 lo0 hbxw3
  go_upto_region 5 with fail
  refine wp_region_lit ?_
  try simp only [pA]
  change wpList _ _ _ ((_ :: _ :: _ :: []) ++ (_ :: [])) _ _
  refine wpList_prefix (C := fun w' => ∃ x : Later M4 xw3, w' = x.w') _ _ _ _ ⟨⟨_, Below.refl _ _⟩, rfl⟩ ?_
  refine later_row hM4 27 (.tmp 4) rfl (N) rfl 27 6 _ k5 undR szR (by rfl) ?_; simp only [pA]
  go_big_quiet_step (fail)
  go_big_quiet_step ((go_at_call 70; exact later_of hM4 _ (fun K hK hKN => ShUp_any a n _ K hK)))
  refine wpQuiet_nil (laterE hM4 ?_)
  intro xw8 M9 hbxw8 hM9 lM9
  have k10 := k5.below hbxw8 (by omega)
  have k11 := k6.below hbxw8 (by omega)
  have lo12 := lo7.trans (hbxw8.mono (by omega))
  clear k5 k6 lo7 hbxw8
  refine wpl_store rfl 27 (.tmp 6) (.tmp 17) rfl (N + 1) 6 (rC (shUpR a n)) rfl rfl 27 _ k11 szR (fun j _ => rC_one _ j) ?_
  intro xw13 t14 k15; try simp only [pA]
  have k16 := k10.touch t14 (by omega)
  have lo17 := t14.below lo12 (by omega)
  have h18 := t14.sz hM9
  clear k11 k10 lo12 hM9 t14
  obtain ⟨M19, hM19⟩ := sz_some xw13
  have lt_20 := k16.ltN hM19
  have lt_21 := k15.ltN hM19
  go_wp2_with fail
  refine post_r rfl (N + 1) rfl k15 undR szR rfl ?_
  exact ⟨by rw [ER.out]; first | rfl | (simp only [shByR6, H1_.out, bB] <;> rfl), lo17⟩
 ·have H1_ := hid h1_
  clear h1_
  go_upto_region 1 with fail
  refine wp_region_later1 ((N + 1 + 1)) ?_
  try simp only [pA]
  go_big_quiet_step (fail)
  refine later_b (x := (.tmp 9)) (y := (.const (.int .u64 0))) rfl (BinRun.is H1_.out (bin_eql _ n 0#64)) rfl rfl (by rfl) ?_; simp only [pA]
  refine wpQuiet_nil (laterE hN2 ?_)
  intro xw3 M4 hbxw3 hM4 lM4
  have k5 := k1.below hbxw3 (by omega)
  have k6 := k2.below hbxw3 (by omega)
  have lo7 := lo0.trans (hbxw3.mono (by omega))
  clear k1 k2 lo0 hbxw3
  go_upto_region 2 with fail
  refine wp_region_lit ?_
  try simp only [pA]
  change wpList _ _ _ ((_ :: []) ++ (_ :: [])) _ _
  refine wpList_prefix (C := fun w' => ∃ x : Later M4 xw3, w' = x.w') _ _ _ _ ⟨⟨_, Below.refl _ _⟩, rfl⟩ ?_
  refine later_row hM4 27 (.tmp 4) rfl (N) rfl 27 6 _ k5 undR szR (by rfl) ?_; simp only [pA]
  refine wpQuiet_nil (laterE hM4 ?_)
  intro xw8 M9 hbxw8 hM9 lM9
  have k10 := k5.below hbxw8 (by omega)
  have k11 := k6.below hbxw8 (by omega)
  have lo12 := lo7.trans (hbxw8.mono (by omega))
  clear k5 k6 lo7 hbxw8
  refine wpl_store rfl 27 (.tmp 6) (.tmp 11) rfl (N + 1) 6 (rC a) rfl rfl 27 _ k11 szR (fun j _ => rC_one _ j) ?_
  intro xw13 t14 k15; try simp only [pA]
  have k16 := k10.touch t14 (by omega)
  have lo17 := t14.below lo12 (by omega)
  have h18 := t14.sz hM9
  clear k11 k10 lo12 hM9 t14
  obtain ⟨M19, hM19⟩ := sz_some xw13
  have lt_20 := k16.ltN hM19
  have lt_21 := k15.ltN hM19
  go_wp2_with fail
  refine post_r rfl (N + 1) rfl k15 undR szR rfl ?_
  exact ⟨by rw [ER.out]; first | rfl | (simp only [shByR6, H1_.out, bB] <;> rfl), lo17⟩
def shByR7 (a : Rn) (n : W) : Rn :=
 bif (n == 0#64) then a
 else ⟨(obR (tDown a.b (tw (sn n)).toNat)).b, (a.lo >>> (n).toNat), (a.hi >>> (n).toNat), (obR (tDown a.b (tw (sn n)).toNat)).sl, (obR (tDown a.b (tw (sn n)).toNat)).sh⟩
def shByR12 (a : Rn) (n : W) : Rn :=
 bif (n == 0#64) then a
 else ⟨(obR ⟨(BitVec.sshiftRight a.b.v (n).toNat), (BitVec.sshiftRight a.b.m (n).toNat)⟩).b, (obR ⟨(BitVec.sshiftRight a.b.v (n).toNat), (BitVec.sshiftRight a.b.m (n).toNat)⟩).lo, (obR ⟨(BitVec.sshiftRight a.b.v (n).toNat), (BitVec.sshiftRight a.b.m (n).toNat)⟩).hi, (BitVec.sshiftRight a.sl (n).toNat), (BitVec.sshiftRight a.sh (n).toNat)⟩
end Go.Proofs.YtbbfdehipgkjmaaDoor
