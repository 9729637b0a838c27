/- What operations of 32 bits make; Eval. -/
import Derived.Test.YtkljnpdojmcipaaSc1
namespace Go.Proofs.Ytkljnpdojmcipaa
open Go Go.RowKit
/-- What an operation of 32 bits makes. -/
def evS (op : Int) (x y : W) : W := if op = 6 then lo32 (lo32 x <<< (lo32 y % 32#64).toNat) else if op = 7 then lo32 x >>> (lo32 y % 32#64).toNat else if op = 12 then BitVec.setWidth 64 (BitVec.sshiftRight (s32 (lo32 x)) (lo32 y % 32#64).toNat) else lo32 (evL op (lo32 x) (lo32 y))
def evF (op : Int) (long : Bool) (x y : W) : W := if long then evL op x y else evS op x y
set_option maxRecDepth 100000 in
set_option maxHeartbeats 1000000 in
theorem Eval_long (op : Int) (x y : W) (w : World) (N : Nat) (hN : Sz w N) : Calls Try.prog 10 #[.int .i64 op, .bool true, Q x, Q y] w fun e w' => e = .returned (Q (evL op x y)) ∧ Below N w w' := by
  go_enter Try.func10, Try.ntmps10
  go_upto_region 2 with fail
  have lo0 : Below N w w := Below.refl N w
  refine wp_region_later1 (N) ?_
  try simp only [Act.put, List.setIfInBounds_toArray, List.set_cons_succ, List.set_cons_zero]
  go_big_quiet_step (fail)
  go_big_quiet_step (fail)
  go_big_quiet_step (fail)
  go_big_quiet_step ((go_at_call 23; exact later_of hN _ (fun K hK hKN => Long_any op x y _ K hK)))
  go_big_quiet_step (fail)
  refine wpQuiet_nil ?_
  rintro xw1 ⟨qxw1, exw1⟩
  have hbxw1 := qxw1.b
  rw [← exw1] at hbxw1
  clear qxw1 exw1
  obtain ⟨M2, hM2⟩ := sz_some xw1
  have lM2 := below_sz hbxw1 hN hM2
  have lo3 := lo0.trans (hbxw1.mono (by omega))
  clear lo0 hbxw1
  go_wp2_with fail
  go_ret
  exact ⟨rfl, lo3⟩
set_option maxRecDepth 100000 in
set_option maxHeartbeats 1000000 in
theorem Eval_s6 (x y : W) (w : World) (N : Nat) (hN : Sz w N) : Calls Try.prog 10 #[.int .i64 6, .bool false, Q x, Q y] w fun e w' => e = .returned (Q (lo32 (lo32 x <<< (lo32 y % 32#64).toNat))) ∧ Below N w w' := by
  have hlt := hid (h_lt32 (lo32 y))
  go_enter Try.func10, Try.ntmps10
  go_upto_region 3 with fail
  have lo0 : Below N w w := Below.refl N w
  refine wp_region_later1 (N) ?_
  try simp only [Act.put, List.setIfInBounds_toArray, List.set_cons_succ, List.set_cons_zero]
  go_big_quiet_step (fail)
  refine later_val (fun q => run_uh (x := (.tmp 16)) rfl und64 undU32 rfl q.w') (by rfl) ?_; simp only [Act.put, List.setIfInBounds_toArray, List.set_cons_succ, List.set_cons_zero]
  go_big_quiet_step (fail)
  refine later_val (fun q => run_uh (x := (.tmp 18)) rfl und64 undU32 rfl q.w') (by rfl) ?_; simp only [Act.put, List.setIfInBounds_toArray, List.set_cons_succ, List.set_cons_zero]
  go_big_quiet_step (fail)
  go_big_quiet_step (fail)
  refine wpQuiet_nil ?_
  rintro xw1 ⟨qxw1, exw1⟩
  have hbxw1 := qxw1.b
  rw [← exw1] at hbxw1
  clear qxw1 exw1
  obtain ⟨M2, hM2⟩ := sz_some xw1
  have lM2 := below_sz hbxw1 hN hM2
  have lo3 := lo0.trans (hbxw1.mono (by omega))
  clear lo0 hbxw1
  go_upto_region 6 with fail
  refine wp_region_later1 (M2) ?_
  try simp only [Act.put, List.setIfInBounds_toArray, List.set_cons_succ, List.set_cons_zero]
  go_big_quiet_step (fail)
  go_big_quiet_step (fail)
  refine later_b (x := (.tmp 24)) (y := (.const (.int .u32 32))) rfl (bin_hrem _ (lo32 y) 32#64 (by decide)) rfl rfl (by rfl) ?_; simp only [Act.put, List.setIfInBounds_toArray, List.set_cons_succ, List.set_cons_zero]
  refine later_b (x := (.tmp 23)) (y := (.tmp 25)) rfl (bin_hshl _ (lo32 x) ((lo32 y) % 32#64) hlt.out) rfl rfl (by rfl) ?_; simp only [Act.put, List.setIfInBounds_toArray, List.set_cons_succ, List.set_cons_zero]
  refine later_val (fun q => run_hu (x := (.tmp 26)) rfl undU32 und64 rfl q.w') (by rfl) ?_; simp only [Act.put, List.setIfInBounds_toArray, List.set_cons_succ, List.set_cons_zero]
  go_big_quiet_step (fail)
  refine wpQuiet_nil ?_
  rintro xw4 ⟨qxw4, exw4⟩
  have hbxw4 := qxw4.b
  rw [← exw4] at hbxw4
  clear qxw4 exw4
  obtain ⟨M5, hM5⟩ := sz_some xw4
  have lM5 := below_sz hbxw4 hM2 hM5
  have lo6 := lo3.trans (hbxw4.mono (by omega))
  clear lo3 hbxw4
  go_wp2_with fail
  go_ret
  exact ⟨rfl, lo6⟩
set_option maxRecDepth 100000 in
set_option maxHeartbeats 1000000 in
theorem Eval_s7 (x y : W) (w : World) (N : Nat) (hN : Sz w N) : Calls Try.prog 10 #[.int .i64 7, .bool false, Q x, Q y] w fun e w' => e = .returned (Q (lo32 x >>> (lo32 y % 32#64).toNat)) ∧ Below N w w' := by
  have hlt := hid (h_lt32 (lo32 y))
  go_enter Try.func10, Try.ntmps10
  go_upto_region 3 with fail
  have lo0 : Below N w w := Below.refl N w
  refine wp_region_later1 (N) ?_
  try simp only [Act.put, List.setIfInBounds_toArray, List.set_cons_succ, List.set_cons_zero]
  go_big_quiet_step (fail)
  refine later_val (fun q => run_uh (x := (.tmp 16)) rfl und64 undU32 rfl q.w') (by rfl) ?_; simp only [Act.put, List.setIfInBounds_toArray, List.set_cons_succ, List.set_cons_zero]
  go_big_quiet_step (fail)
  refine later_val (fun q => run_uh (x := (.tmp 18)) rfl und64 undU32 rfl q.w') (by rfl) ?_; simp only [Act.put, List.setIfInBounds_toArray, List.set_cons_succ, List.set_cons_zero]
  go_big_quiet_step (fail)
  go_big_quiet_step (fail)
  refine wpQuiet_nil ?_
  rintro xw1 ⟨qxw1, exw1⟩
  have hbxw1 := qxw1.b
  rw [← exw1] at hbxw1
  clear qxw1 exw1
  obtain ⟨M2, hM2⟩ := sz_some xw1
  have lM2 := below_sz hbxw1 hN hM2
  have lo3 := lo0.trans (hbxw1.mono (by omega))
  clear lo0 hbxw1
  go_upto_region 8 with fail
  refine wp_region_later1 (M2) ?_
  try simp only [Act.put, List.setIfInBounds_toArray, List.set_cons_succ, List.set_cons_zero]
  go_big_quiet_step (fail)
  go_big_quiet_step (fail)
  refine later_b (x := (.tmp 31)) (y := (.const (.int .u32 32))) rfl (bin_hrem _ (lo32 y) 32#64 (by decide)) rfl rfl (by rfl) ?_; simp only [Act.put, List.setIfInBounds_toArray, List.set_cons_succ, List.set_cons_zero]
  refine later_b (x := (.tmp 30)) (y := (.tmp 32)) rfl (bin_hshr _ (lo32 x) ((lo32 y) % 32#64) hlt.out) rfl rfl (by rfl) ?_; simp only [Act.put, List.setIfInBounds_toArray, List.set_cons_succ, List.set_cons_zero]
  refine later_val (fun q => run_hu (x := (.tmp 33)) rfl undU32 und64 rfl q.w') (by rfl) ?_; simp only [Act.put, List.setIfInBounds_toArray, List.set_cons_succ, List.set_cons_zero]
  go_big_quiet_step (fail)
  refine wpQuiet_nil ?_
  rintro xw4 ⟨qxw4, exw4⟩
  have hbxw4 := qxw4.b
  rw [← exw4] at hbxw4
  clear qxw4 exw4
  obtain ⟨M5, hM5⟩ := sz_some xw4
  have lM5 := below_sz hbxw4 hM2 hM5
  have lo6 := lo3.trans (hbxw4.mono (by omega))
  clear lo3 hbxw4
  go_wp2_with fail
  go_ret
  exact ⟨rfl, lo6⟩
set_option maxRecDepth 100000 in
set_option maxHeartbeats 1000000 in
theorem Eval_s12 (x y : W) (w : World) (N : Nat) (hN : Sz w N) : Calls Try.prog 10 #[.int .i64 12, .bool false, Q x, Q y] w fun e w' => e = .returned (Q (BitVec.setWidth 64 (BitVec.sshiftRight (s32 (lo32 x)) (lo32 y % 32#64).toNat))) ∧ Below N w w' := by
  have hlt := hid (h_lt32 (lo32 y))
  go_enter Try.func10, Try.ntmps10
  go_upto_region 3 with fail
  have lo0 : Below N w w := Below.refl N w
  refine wp_region_later1 (N) ?_
  try simp only [Act.put, List.setIfInBounds_toArray, List.set_cons_succ, List.set_cons_zero]
  go_big_quiet_step (fail)
  refine later_val (fun q => run_uh (x := (.tmp 16)) rfl und64 undU32 rfl q.w') (by rfl) ?_; simp only [Act.put, List.setIfInBounds_toArray, List.set_cons_succ, List.set_cons_zero]
  go_big_quiet_step (fail)
  refine later_val (fun q => run_uh (x := (.tmp 18)) rfl und64 undU32 rfl q.w') (by rfl) ?_; simp only [Act.put, List.setIfInBounds_toArray, List.set_cons_succ, List.set_cons_zero]
  go_big_quiet_step (fail)
  go_big_quiet_step (fail)
  refine wpQuiet_nil ?_
  rintro xw1 ⟨qxw1, exw1⟩
  have hbxw1 := qxw1.b
  rw [← exw1] at hbxw1
  clear qxw1 exw1
  obtain ⟨M2, hM2⟩ := sz_some xw1
  have lM2 := below_sz hbxw1 hN hM2
  have lo3 := lo0.trans (hbxw1.mono (by omega))
  clear lo0 hbxw1
  go_upto_region 10 with fail
  refine wp_region_later1 (M2) ?_
  try simp only [Act.put, List.setIfInBounds_toArray, List.set_cons_succ, List.set_cons_zero]
  go_big_quiet_step (fail)
  refine later_val (fun q => run_hj (x := (.tmp 37)) rfl undU32 undI32 rfl q.w') (by rfl) ?_; simp only [Act.put, List.setIfInBounds_toArray, List.set_cons_succ, List.set_cons_zero]
  go_big_quiet_step (fail)
  refine later_b (x := (.tmp 39)) (y := (.const (.int .u32 32))) rfl (bin_hrem _ (lo32 y) 32#64 (by decide)) rfl rfl (by rfl) ?_; simp only [Act.put, List.setIfInBounds_toArray, List.set_cons_succ, List.set_cons_zero]
  refine later_b (x := (.tmp 38)) (y := (.tmp 40)) rfl (bin_jshr _ (s32 (lo32 x)) ((lo32 y) % 32#64) hlt.out) rfl rfl (by rfl) ?_; simp only [Act.put, List.setIfInBounds_toArray, List.set_cons_succ, List.set_cons_zero]
  refine later_val (fun q => run_jh (x := (.tmp 41)) rfl undI32 undU32 rfl q.w') (by rfl) ?_; simp only [Act.put, List.setIfInBounds_toArray, List.set_cons_succ, List.set_cons_zero]
  refine later_val (fun q => run_hu (x := (.tmp 42)) rfl undU32 und64 rfl q.w') (by rfl) ?_; simp only [Act.put, List.setIfInBounds_toArray, List.set_cons_succ, List.set_cons_zero]
  go_big_quiet_step (fail)
  refine wpQuiet_nil ?_
  rintro xw4 ⟨qxw4, exw4⟩
  have hbxw4 := qxw4.b
  rw [← exw4] at hbxw4
  clear qxw4 exw4
  obtain ⟨M5, hM5⟩ := sz_some xw4
  have lM5 := below_sz hbxw4 hM2 hM5
  have lo6 := lo3.trans (hbxw4.mono (by omega))
  clear lo3 hbxw4
  go_wp2_with fail
  go_ret
  exact ⟨rfl, lo6⟩
set_option maxRecDepth 100000 in
set_option maxHeartbeats 1000000 in
theorem Eval_sop (op : Int) (x y : W) (w : World) (N : Nat) (hN : Sz w N) (h6 : (op == 6) = false) (h7 : (op == 7) = false) (h12 : (op == 12) = false) : Calls Try.prog 10 #[.int .i64 op, .bool false, Q x, Q y] w fun e w' => e = .returned (Q (lo32 (evL op (lo32 x) (lo32 y)))) ∧ Below N w w' := by
  go_enter Try.func10, Try.ntmps10
  go_upto_region 3 with fail
  have lo0 : Below N w w := Below.refl N w
  refine wp_region_later1 (N) ?_
  try simp only [Act.put, List.setIfInBounds_toArray, List.set_cons_succ, List.set_cons_zero]
  go_big_quiet_step (fail)
  refine later_val (fun q => run_uh (x := (.tmp 16)) rfl und64 undU32 rfl q.w') (by rfl) ?_; simp only [Act.put, List.setIfInBounds_toArray, List.set_cons_succ, List.set_cons_zero]
  go_big_quiet_step (fail)
  refine later_val (fun q => run_uh (x := (.tmp 18)) rfl und64 undU32 rfl q.w') (by rfl) ?_; simp only [Act.put, List.setIfInBounds_toArray, List.set_cons_succ, List.set_cons_zero]
  go_big_quiet_step (fail)
  go_big_quiet_step (fail)
  refine wpQuiet_nil ?_
  rintro xw1 ⟨qxw1, exw1⟩
  have hbxw1 := qxw1.b
  rw [← exw1] at hbxw1
  clear qxw1 exw1
  obtain ⟨M2, hM2⟩ := sz_some xw1
  have lM2 := below_sz hbxw1 hN hM2
  have lo3 := lo0.trans (hbxw1.mono (by omega))
  clear lo0 hbxw1
  go_upto_region 11 with fail
  refine wp_region_later1 (M2) ?_
  try simp only [Act.put, List.setIfInBounds_toArray, List.set_cons_succ, List.set_cons_zero]
  go_big_quiet_step (fail)
  go_big_quiet_step (fail)
  refine later_val (fun q => run_hu (x := (.tmp 45)) rfl undU32 und64 rfl q.w') (by rfl) ?_; simp only [Act.put, List.setIfInBounds_toArray, List.set_cons_succ, List.set_cons_zero]
  go_big_quiet_step (fail)
  refine later_val (fun q => run_hu (x := (.tmp 47)) rfl undU32 und64 rfl q.w') (by rfl) ?_; simp only [Act.put, List.setIfInBounds_toArray, List.set_cons_succ, List.set_cons_zero]
  go_big_quiet_step ((go_at_call 23; exact later_of hM2 _ (fun K hK hKN => Long_any op (lo32 x) (lo32 y) _ K hK)))
  refine later_val (fun q => run_uh (x := (.tmp 49)) rfl und64 undU32 rfl q.w') (by rfl) ?_; simp only [Act.put, List.setIfInBounds_toArray, List.set_cons_succ, List.set_cons_zero]
  refine later_val (fun q => run_hu (x := (.tmp 50)) rfl undU32 und64 rfl q.w') (by rfl) ?_; simp only [Act.put, List.setIfInBounds_toArray, List.set_cons_succ, List.set_cons_zero]
  go_big_quiet_step (fail)
  refine wpQuiet_nil ?_
  rintro xw4 ⟨qxw4, exw4⟩
  have hbxw4 := qxw4.b
  rw [← exw4] at hbxw4
  clear qxw4 exw4
  obtain ⟨M5, hM5⟩ := sz_some xw4
  have lM5 := below_sz hbxw4 hM2 hM5
  have lo6 := lo3.trans (hbxw4.mono (by omega))
  clear lo3 hbxw4
  go_wp2_with fail
  go_ret
  exact ⟨rfl, lo6⟩
theorem Eval_any (op : Int) (l : Bool) (x y : W) (w : World) (N : Nat) (hN : Sz w N) : Calls Try.prog 10 #[.int .i64 op, .bool l, Q x, Q y] w fun e w' => e = .returned (Q (evF op l x y)) ∧ Below N w w' := by
  cases l
  · by_cases h6 : op = 6
    · subst h6; exact Eval_s6 x y w N hN
    by_cases h7 : op = 7
    · subst h7; exact Eval_s7 x y w N hN
    by_cases h12 : op = 12
    · subst h12; exact Eval_s12 x y w N hN
    have e : evF op false x y = lo32 (evL op (lo32 x) (lo32 y)) := by show evS op x y = _; unfold evS; rw [if_neg h6, if_neg h7, if_neg h12]
    rw [e]
    exact Eval_sop op x y w N hN (beq_eq_false_iff_ne.2 h6) (beq_eq_false_iff_ne.2 h7) (beq_eq_false_iff_ne.2 h12)
  · exact Eval_long op x y w N hN
end Go.Proofs.Ytkljnpdojmcipaa
