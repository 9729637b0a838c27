/- Contracts of what a jump tells: the least number of a range, from one on. -/
import Derived.Test.YtmdcopmgkhjfnaaBr1
namespace Go.Proofs.Ytmdcopmgkhjfnaa
open Go Go.RowKit
def dP (p q : W) (j : Nat) : W := if j = 0 then p else q
/-- The least number of these bits from one on, if it is one of the range; else what is told otherwise. -/
def stepN (r : Rn) (s : W) (e : W × Bool) : W × Bool := bif (nobF r.b s).2 then (bif sHas r (nobF r.b s).1 then ((nobF r.b s).1, true) else e) else e
def nxtR (r : Rn) (p q : W) : Nat → W × Bool
  | 0 => stepN r p (stepN r q (0#64, false))
  | 1 => stepN r q (0#64, false)
  | _ => (0#64, false)
def nxtF (r : Rn) (f : W) : W × Bool := nxtR r (uMax f r.lo) (uMax (uMax f r.lo) r.sl) 0
theorem nxtR_step (r : Rn) (p q : W) : ∀ k, k < 2 → nxtR r p q k = stepN r (dP p q k) (nxtR r p q (k + 1))
  | 0, _ => rfl
  | 1, _ => rfl
  | k + 2, h => absurd h (by omega)
theorem ixD (D : Nat → W) (w : World) : ∀ k : Nat, k < 2 → (Instr.index 23 (.agg (cellsOf (dC D) 2)) (.int .i64 (k : Int))).run Try.prog w = .ok (Q (D k)) w
  | 0, _ => by kernel_rfl
  | 1, _ => by kernel_rfl
  | k + 2, h => absurd h (by omega)
theorem run_ixD {a : Act} {o : Oper} {x y : Operand} (ho : o.op = .index 23 x y) {D : Nat → W} {k : Nat} (hx : a.eval x = .agg (cellsOf (dC D) 2)) (hy : a.eval y = .int .i64 (k : Int)) (hk : k < 2) (w : World) : (execOp a.eval o).run Try.prog w = .ok (.value (Q (D k))) w := by
  unfold execOp
  simp only [ho, hx, hy, Sem.run_bind, ixD D w k hk, Result.andThen_ok, Sem.run_pure]
set_option maxRecDepth 100000 in
set_option maxHeartbeats 8000000 in
theorem Next_any (r : Rn) (f : W) (w : World) (N : Nat) (hN : Sz w N) : Calls Try.prog 102 #[rV r, Q f] w fun e w' => e = .returned (.tuple #[Q (nxtF r f).1, .bool (nxtF r f).2]) ∧ Below N w w' := by
  unfold rV
  obtain ⟨rr, er⟩ : ∃ rr, rr = nxtF r f := ⟨_, rfl⟩
  rw [← er]
  have ER := hid (er.trans (show nxtF r f = nxtR r (uMax f r.lo) (uMax (uMax f r.lo) r.sl) 0 from rfl))
  clear er
  go_enter Try.func102, Try.ntmps102
  go_upto_region 1 with (first
    | (refine wpl_box rfl 41 (.tmp 0) rfl 6 _ rfl (N) hN ?_; intro w1 hN1 hb1 hh1)
    | fail)
  have lo0 : Below N w w1 := hb1
  have k1 := hh1
  clear hh1 hb1
  go_upto_region 1 with fail
  obtain ⟨c2, c3, c4, c5, c6, c7⟩ := r_cells k1
  refine wp_region_later1 ((N + 1)) ?_
  try simp only [pA]
  iterate 2 (go_big_quiet_step (fail))
  refine later_c1 hN1 22 (.tmp 11) rfl rfl und64 rfl c4 (by rfl) ?_; simp only [pA]
  refine later_val (fun qq => run_maxQ (x := (.tmp 10)) (y := (.tmp 12)) (p := f) (q := r.lo) rfl rfl rfl qq.w') (by rfl) ?_; simp only [pA]
  go_big_quiet_step (fail)
  refine wpQuiet_nil (laterE hN1 ?_)
  intro xw8 M9 hbxw8 hM9 lM9
  have k10 := k1.below hbxw8 (by omega)
  have lo11 := lo0.trans (hbxw8.mono (by omega))
  clear k1 c2 c3 c4 c5 c6 c7 lo0 hbxw8
  go_upto_region 2 with fail
  obtain ⟨c12, c13, c14, c15, c16, c17⟩ := r_cells k10
  refine wp_region_later1 (M9) ?_
  try simp only [pA]
  iterate 3 (go_big_quiet_step (fail))
  refine later_c1 hM9 2 (.tmp 16) rfl rfl undI64 rfl c16 (by rfl) ?_; simp only [pA]
  refine later_val (fun q => run_su (x := (.tmp 17)) rfl undI64 und64 rfl q.w') (by rfl) ?_; simp only [pA]
  refine later_val (fun qq => run_maxQ (x := (.tmp 15)) (y := (.tmp 18)) (p := (uMax f r.lo)) (q := r.sl) rfl rfl rfl qq.w') (by rfl) ?_; simp only [pA]
  refine later_val (fun q => run_bd 23 _ rfl (cellsOf (dC (dP (uMax f r.lo) (uMax (uMax f r.lo) r.sl))) 2) (by kernel_rfl) q.w') (by rfl) ?_; simp only [pA]
  go_big_quiet_step (fail)
  refine wpQuiet_nil (laterE hM9 ?_)
  intro xw18 M19 hbxw18 hM19 lM19
  have k20 := k10.below hbxw18 (by omega)
  have lo21 := lo11.trans (hbxw18.mono (by omega))
  clear k10 c12 c13 c14 c15 c16 c17 lo11 hbxw18
  go_wp2_with fail
  go_loopg [7, 8, 9, 21] 2 (fun m x7 x8 x9 x21 wr => ∃ k : Nat, k ≤ 2 ∧ m = 2 - k ∧ x21 = .int .i64 (k : Int) ∧ Hid (rr = nxtR r (uMax f r.lo) (uMax (uMax f r.lo) r.sl) k) ∧ Has wr N 41 6 (rC r) ∧ Below N w wr)
  case atStart => exact ⟨0, by omega, rfl, rfl, ER, k20, lo21⟩
  case round =>
    clear k20 lo21 hM19 ER
    obtain ⟨k, hk, rfl, rfl, ER, ka, lo⟩ := hrel
    obtain ⟨M, hM⟩ := sz_some wr
    have lt1 := ka.ltN hM
    by_cases hlt : k < 2
    · have t1 : (k : Int) < 2 := by omega
      have E1 := hid (ER.out.trans (nxtR_step r (uMax f r.lo) (uMax (uMax f r.lo) r.sl) k hlt))
      clear ER
      go_upto_region 4 with fail
      refine wp_region_later1 (M) ?_
      try simp only [pA]
      refine later_val (fun q => run_ixD (x := .tmp 20) (y := .tmp 21) rfl (D := dP (uMax f r.lo) (uMax (uMax f r.lo) r.sl)) (k := k) rfl rfl hlt q.w') (by rfl) ?_; simp only [pA]
      go_big_quiet_step (fail)
      refine wpQuiet_nil (laterE hM ?_)
      intro xw1 M22 hbxw1 hM22 lM22
      have k23 := ka.below hbxw1 (by omega)
      have lo24 := lo.trans (hbxw1.mono (by omega))
      clear ka lo hbxw1
      cases hc : (nobF r.b (dP (uMax f r.lo) (uMax (uMax f r.lo) r.sl) k)).2
      · have C0 := hid hc
        clear hc
        have CS25 := fun w N hN => NextBits_any r.b (dP (uMax f r.lo) (uMax (uMax f r.lo) r.sl) k) w N hN
        rw [C0.out] at CS25
        go_upto_region 5 with fail
        obtain ⟨c26, c27, c28, c29, c30, c31⟩ := r_cells k23
        refine wp_region_later1 (M22) ?_
        try simp only [pA]
        go_big_quiet_step (fail)
        refine later_val (fun qq => run_bits 39 (.tmp 25) rfl N rfl 41 (Later.has hM22 k23 qq) undT szT) (by rfl) ?_; simp only [pA]
        go_big_quiet_step (fail)
        go_big_quiet_step ((go_at_call 122; exact later_of hM22 _ (fun K hK hKN => CS25 _ K hK)))
        iterate 5 (go_big_quiet_step (fail))
        refine wpQuiet_nil (laterE hM22 ?_)
        intro xw32 M33 hbxw32 hM33 lM33
        have k34 := k23.below hbxw32 (by omega)
        have lo35 := lo24.trans (hbxw32.mono (by omega))
        clear k23 c26 c27 c28 c29 c30 c31 lo24 hbxw32
        go_upto_region 6 with fail
        refine wp_region_later1 (M33) ?_
        try simp only [pA]
        iterate 6 (go_big_quiet_step (fail))
        refine wpQuiet_nil (laterE hM33 ?_)
        intro xw36 M37 hbxw36 hM37 lM37
        have k38 := k34.below hbxw36 (by omega)
        have lo39 := lo35.trans (hbxw36.mono (by omega))
        clear k34 lo35 hbxw36
        have E2 := hid (show rr = nxtR r (uMax f r.lo) (uMax (uMax f r.lo) r.sl) (k + 1) by rw [E1.out]; unfold stepN; rw [C0.out]; rfl)
        go_wp2_with fail
        go_roundg (2 - (k + 1))
        case rel => exact ⟨k + 1, by omega, rfl, by simp, E2, k38, lo39⟩
        case measure => omega
      · have C0 := hid hc
        clear hc
        have CS25 := fun w N hN => NextBits_any r.b (dP (uMax f r.lo) (uMax (uMax f r.lo) r.sl) k) w N hN
        rw [C0.out] at CS25
        go_upto_region 5 with fail
        obtain ⟨c26, c27, c28, c29, c30, c31⟩ := r_cells k23
        refine wp_region_later1 (M22) ?_
        try simp only [pA]
        go_big_quiet_step (fail)
        refine later_val (fun qq => run_bits 39 (.tmp 25) rfl N rfl 41 (Later.has hM22 k23 qq) undT szT) (by rfl) ?_; simp only [pA]
        go_big_quiet_step (fail)
        go_big_quiet_step ((go_at_call 122; exact later_of hM22 _ (fun K hK hKN => CS25 _ K hK)))
        iterate 5 (go_big_quiet_step (fail))
        refine wpQuiet_nil (laterE hM22 ?_)
        intro xw32 M33 hbxw32 hM33 lM33
        have k34 := k23.below hbxw32 (by omega)
        have lo35 := lo24.trans (hbxw32.mono (by omega))
        clear k23 c26 c27 c28 c29 c30 c31 lo24 hbxw32
        cases hd : sHas r (nobF r.b (dP (uMax f r.lo) (uMax (uMax f r.lo) r.sl) k)).1
        · have D0 := hid hd
          clear hd
          go_upto_region 6 with fail
          refine wp_region_later1 (M33) ?_
          try simp only [pA]
          iterate 2 (go_big_quiet_step (fail))
          refine later_row hM33 41 (.tmp 2) rfl (N) rfl 41 6 _ k34 undR szR (by rfl) ?_; simp only [pA]
          go_big_quiet_step (fail)
          go_big_quiet_step ((go_at_call 25; exact later_of hM33 _ (fun K hK hKN => ret_is D0.out (SHas_any r (nobF r.b (dP (uMax f r.lo) (uMax (uMax f r.lo) r.sl) k)).1) _ K hK)))
          go_big_quiet_step (fail)
          refine wpQuiet_nil (laterE hM33 ?_)
          intro xw36 M37 hbxw36 hM37 lM37
          have k38 := k34.below hbxw36 (by omega)
          have lo39 := lo35.trans (hbxw36.mono (by omega))
          clear k34 lo35 hbxw36
          have E2 := hid (show rr = nxtR r (uMax f r.lo) (uMax (uMax f r.lo) r.sl) (k + 1) by rw [E1.out]; unfold stepN; rw [C0.out, D0.out]; rfl)
          go_wp2_with fail
          go_roundg (2 - (k + 1))
          case rel => exact ⟨k + 1, by omega, rfl, by simp, E2, k38, lo39⟩
          case measure => omega
        · have D0 := hid hd
          clear hd
          have E2 := hid (show rr = ((nobF r.b (dP (uMax f r.lo) (uMax (uMax f r.lo) r.sl) k)).1, true) by rw [E1.out]; unfold stepN; rw [C0.out, D0.out]; rfl)
          go_upto_region 6 with fail
          refine wp_region_later1 (M33) ?_
          try simp only [pA]
          iterate 2 (go_big_quiet_step (fail))
          refine later_row hM33 41 (.tmp 2) rfl (N) rfl 41 6 _ k34 undR szR (by rfl) ?_; simp only [pA]
          go_big_quiet_step (fail)
          go_big_quiet_step ((go_at_call 25; exact later_of hM33 _ (fun K hK hKN => ret_is D0.out (SHas_any r (nobF r.b (dP (uMax f r.lo) (uMax (uMax f r.lo) r.sl) k)).1) _ K hK)))
          go_big_quiet_step (fail)
          refine wpQuiet_nil (laterE hM33 ?_)
          intro xw36 M37 hbxw36 hM37 lM37
          have k38 := k34.below hbxw36 (by omega)
          have lo39 := lo35.trans (hbxw36.mono (by omega))
          clear k34 lo35 hbxw36
          go_upto_region 7 with fail
          refine wp_region_later1 (M37) ?_
          try simp only [pA]
          iterate 3 (go_big_quiet_step (fail))
          refine wpQuiet_nil (laterE hM37 ?_)
          intro xw40 M41 hbxw40 hM41 lM41
          have k42 := k38.below hbxw40 (by omega)
          have lo43 := lo39.trans (hbxw40.mono (by omega))
          clear k38 lo39 hbxw40
          go_wp2_with fail
          go_ret2
          exact ⟨by rw [E2.out]; rfl, lo43⟩
    · obtain rfl : k = 2 := by omega
      go_wp2_with fail
      go_ret2
      exact ⟨by rw [ER.out]; rfl, lo⟩
end Go.Proofs.Ytmdcopmgkhjfnaa
