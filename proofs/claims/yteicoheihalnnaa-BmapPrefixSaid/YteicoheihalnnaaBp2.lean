/- BmapPrefix: cut. -/
import Derived.Test.YteicoheihalnnaaBp1
import Derived.Test.YteicoheihalnnaaQTail
namespace Go.Proofs.Yteicoheihalnnaa
open Go Go.RowKit
set_option maxRecDepth 100000 in
theorem putR (g L cap n : Nat) (hL : 4 ≤ L) (hn : n < 256) (f : Nat → BitVec 8) (w : World) (hh : Raw w g L (fun j => By (f j))) :
    Calls Try.prog 19 #[.slice (some ⟨g, 0, none⟩) L cap, .int .i64 (n : Int)] w fun e w' => e = .returned (.tuple #[]) ∧ Touch g w w' ∧ Raw w' g L (fun j => By (num4 n f j)) := by
  have n0 : (0 : Int) ≤ (n : Int) := by omega
  have n1 : (n : Int) < 256 := by omega
  have l0 : (0 : Int) < (L : Int) := by omega
  have l1 : (1 : Int) < (L : Int) := by omega
  have l2 : (2 : Int) < (L : Int) := by omega
  have l3 : (3 : Int) < (L : Int) := by omega
  have s1 : (n : Int) / 256 = 0 := by omega
  have s2 : (n : Int) / 65536 = 0 := by omega
  have s3 : (n : Int) / 16777216 = 0 := by omega
  go_enter Try.func19, Try.ntmps19
  go_wp2
  refine wp_loop_rounds 5 ?_
  rw [rounds_succ]
  go_wp2_with (first
    | (refine wpl_setR rfl 5 (.tmp 15) (.tmp 14) rfl g 0 rfl (.int .u8 (n : Int)) rfl szBy rfl rfl L _ hh (by omega) ?_; intro w1 t1 h1)
    | fail)
  rw [rounds_succ]
  go_wp2_with (first
    | (refine wpl_setR rfl 5 (.tmp 15) (.tmp 14) rfl g 1 rfl (.int .u8 0) rfl szBy rfl rfl L _ h1 (by omega) ?_; intro w2 t2 h2)
    | fail)
  rw [rounds_succ]
  go_wp2_with (first
    | (refine wpl_setR rfl 5 (.tmp 15) (.tmp 14) rfl g 2 rfl (.int .u8 0) rfl szBy rfl rfl L _ h2 (by omega) ?_; intro w3 t3 h3)
    | fail)
  rw [rounds_succ]
  go_wp2_with (first
    | (refine wpl_setR rfl 5 (.tmp 15) (.tmp 14) rfl g 3 rfl (.int .u8 0) rfl szBy rfl rfl L _ h3 (by omega) ?_; intro w4 t4 h4)
    | fail)
  rw [rounds_succ]
  go_wp2
  go_end0
  refine ⟨rfl, ⟨t4.os.trans (t3.os.trans (t2.os.trans t1.os)), t4.tape.trans (t3.tape.trans (t2.tape.trans t1.tape)), t4.output.trans (t3.output.trans (t2.output.trans t1.output)), t4.size.trans (t3.size.trans (t2.size.trans t1.size)),
    fun k hk => (t4.block k hk).trans ((t3.block k hk).trans ((t2.block k hk).trans (t1.block k hk)))⟩, h4.congr (fun j hj => ?_)⟩
  unfold upd num4
  by_cases j0 : j = 0
  · subst j0
    exact by_nat n hn
  · by_cases j3 : j < 4
    · rcases (show j = 1 ∨ j = 2 ∨ j = 3 by omega) with rfl | rfl | rfl <;> rfl
    · rw [if_neg (by omega), if_neg (by omega), if_neg (by omega), if_neg (by omega), if_neg (by omega), if_neg (by omega)]
/-- The first b bits of a byte. -/
def msk (b : Nat) (a : BitVec 8) : BitVec 8 := a &&& (255#8 <<< (8 - b))
theorem msk_val (b : Nat) (hb : b ≤ 8) (a : BitVec 8) : bits BinOp.and IntKind.u8 (v8 a) (255 * 2 ^ (8 - b) % 256) = v8 (msk b a) := by
  have : ∀ y : Fin 9, ∀ x : Fin 256, bits BinOp.and IntKind.u8 (v8 (BitVec.ofFin x)) (255 * 2 ^ (8 - y.val) % 256) = v8 (msk y.val (BitVec.ofFin x)) := by decide +kernel
  exact this ⟨b, by omega⟩ a.toFin
set_option maxRecDepth 100000 in
theorem cut_5 (c b : Nat) (hc : c < 256) (hb : b ≤ 8) (a : BitVec 8) (w : World) (N : Nat) (hN : Sz w N) :
    Calls Try.prog 36 #[.string (key5 c a), .int .i64 (b : Int)] w fun e w' => e = .returned (.string (key5 b (msk b a))) ∧ Below N w w' := by
  obtain ⟨cap, w1, hr1, hS1, hb1, r1⟩ := run_raw (P := Try.prog) 9 22 undBS undBB undBy w N hN (k5 c a) 5
  have hr1 : (convert 9 22 (.string (key5 c a))).run Try.prog w = .ok (.slice (some ⟨N, 0, none⟩) 5 cap) w1 := hr1
  have Hr1 := hid hr1
  have b0 : (0 : Int) ≤ (b : Int) := by omega
  have b9 : (b : Int) ≤ 8 := by omega
  clear hr1
  generalize key5 c a = s at Hr1 ⊢
  go_enter Try.func36, Try.ntmps36
  go_wp2_with (first
    | (refine wpl_conv2 rfl 9 22 (.tmp 8) rfl _ _ _ rfl Hr1.out ?_)
    | (go_at_call 19; refine (putR N 5 cap b (by omega) (by omega) (k5 c a) _ r1).mono ?_; rintro e w2 ⟨rfl, t2, r2⟩)
    | fail)
  refine wp_loop_rounds 2 ?_
  rw [rounds_succ]
  go_upto_region 7 with fail
  have d4 : w2.cell? ⟨N, 4, none⟩ = some (.int .u8 (v8 a)) := r2.cell (j := 4) (by omega)
  refine wp_region_quiet_tail 9 (by kernel_rfl) (by kernel_rfl) ?_
  simp only [List.take_succ_cons, List.take_zero, List.drop_succ_cons, List.drop_zero]
  iterate 9 go_big_quiet_step (fail)
  refine wpQuiet_nil ?_
  rintro w3 ⟨x, rfl⟩
  rw [msk_val b hb a]
  have r3 : Raw (w2.drewN x) N 5 (fun j => By (num4 b (k5 c a) j)) := r2.same rfl
  have h3 : Below N w (w2.drewN x) := below_drewN (t2.below hb1 (Nat.le_refl N)) x
  generalize w2.drewN x = wx at *
  clear d4 t2 r2 r1 hS1 Hr1
  go_wp2_with (first
    | (refine wpl_setR rfl 5 (.tmp 34) (.tmp 33) rfl N 4 rfl (By (msk b a)) rfl szBy rfl rfl 5 _ r3 (by omega) ?_; intro w4 t4 r4)
    | fail)
  rw [rounds_succ]
  have e4 : strOf (k5 b (msk b a)) 5 = key5 b (msk b a) := rfl
  have r5 : Raw w4 N 5 (fun j => By (k5 b (msk b a) j)) := r4.congr (fun j hj => by
    rcases (show j = 0 ∨ j = 1 ∨ j = 2 ∨ j = 3 ∨ j = 4 by omega) with rfl | rfl | rfl | rfl | rfl <;> rfl)
  have Hcv := hid (run_string (P := Try.prog) w4 22 9 5 undBB undBy undBS (some ⟨N, 0, none⟩) 5 cap (k5 b (msk b a)) r5.ats)
  go_wp2_with (first
    | (refine wpl_conv rfl 22 9 (.tmp 35) rfl _ (.string (key5 b (msk b a))) rfl Hcv.out ?_)
    | fail)
  go_ret
  exact ⟨rfl, t4.below h3 (Nat.le_refl N)⟩
end Go.Proofs.Yteicoheihalnnaa
