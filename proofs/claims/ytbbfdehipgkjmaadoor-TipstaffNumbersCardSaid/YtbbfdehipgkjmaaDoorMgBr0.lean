/- Contracts of what a jump tells: the least number of some bits from one on, and of a range. Contracts of what a jump tells: the least number of a range, from one on. Laws: an operation that comes alone in a region whose order is drawn, by its slot. -/
import Derived.Test.YtbbfdehipgkjmaaDoorMgSe0
namespace Go.Proofs.YtbbfdehipgkjmaaDoor
open Go Go.RowKit
/-- One bit more than a number has, and below it as little as there may be. -/
def nobX (a : Nm) (f : W) (k : Nat) : W := f &&& ~~~(1#64 <<< k - 1#64) ||| 1#64 <<< k ||| a.v &&& (1#64 <<< k - 1#64)
def nobR (a : Nm) (f : W) : Nat → Nat → W × Bool
  | 0, _ => (0#64, false)
  | n + 1, k => bif f &&& 1#64 <<< k == 0#64 then (bif tHas a (nobX a f k) then (nobX a f k, true) else nobR a f n (k + 1)) else nobR a f n (k + 1)
def nobF (a : Nm) (f : W) : W × Bool := bif tHas a f then (f, true) else nobR a f 64 0
theorem shl_next (k : Nat) : (1#64 <<< k) <<< (1#64).toNat = 1#64 <<< (k + 1) := by rw [show (1#64).toNat = 1 from rfl, BitVec.shiftLeft_add]
theorem shl_ne {k : Nat} (h : k < 64) : (1#64 <<< k != 0#64) = true := by
  have : ∀ k : Fin 64, (1#64 <<< k.val != 0#64) = true := by decide
  exact this ⟨k, h⟩
set_option maxRecDepth 100000 in
set_option maxHeartbeats 8000000 in
theorem NextBits_any (a : Nm) (f : W) (w : World) (N : Nat) (hN : Sz w N) : Calls Tryd.prog 77 #[nV a, Q f] w fun e w' => e = .returned (.tuple #[Q (nobF a f).1, .bool (nobF a f).2]) ∧ Below N w w' := by
  unfold nV
  obtain ⟨rr, er⟩ : ∃ rr, rr = nobF a f := ⟨_, rfl⟩
  rw [← er]
  unfold nobF at er
  go_enter Tryd.func77, Tryd.ntmps77
  go_upto_region 1 with (first
    | (refine wpl_box rfl 25 (.tmp 0) rfl 2 _ rfl (N) hN ?_; intro w1 hN1 hb1 hh1)
    | fail)
  have lo0 : Below N w w1 := hb1
  have k1 := hh1
  clear hh1 hb1
  cases h0 : tHas a f
  · have H0 := hid h0
    rw [h0, cond_false] at er
    have ER := hid er
    clear er h0
    go_upto_region 1 with fail
    refine wp_region_later1 ((N + 1)) ?_
    try simp only [pA]
    refine later_row hN1 25 (.tmp 2) rfl (N) rfl 25 2 _ k1 undT szT (by rfl) ?_; simp only [pA]
    go_big_quiet_step (fail)
    go_big_quiet_step ((go_at_call 26; exact later_of hN1 _ (fun K hK hKN => ret_is H0.out (Has_any a f) _ K hK)))
    refine wpQuiet_nil (laterE hN1 ?_)
    intro xw2 M3 hbxw2 hM3 lM3
    have k4 := k1.below hbxw2 (by omega)
    have lo5 := lo0.trans (hbxw2.mono (by omega))
    clear k1 lo0 hbxw2
    go_wp2_with fail
    go_loopg [6, 7, 8] 64 (fun m x6 x7 x8 wr => ∃ k : Nat, k ≤ 64 ∧ m = 64 - k ∧ x6 = Q (1#64 <<< k) ∧ Hid (rr = nobR a f (64 - k) k) ∧ Has wr N 25 2 (nC a) ∧ Below N w wr)
    case atStart => exact ⟨0, by omega, rfl, rfl, ER, k4, lo5⟩
    case round =>
      clear k4 lo5 hM3 ER
      obtain ⟨k, hk, rfl, rfl, ER, ka, lo⟩ := hrel
      obtain ⟨M, hM⟩ := sz_some wr
      have lt1 := ka.ltN hM
      by_cases hlt : k < 64
      · have T4 := hid (shl_ne hlt)
        obtain ⟨n, en⟩ : ∃ n, 64 - k = n + 1 := ⟨63 - k, by omega⟩
        have E1 := hid (show rr = nobR a f (n + 1) k by rw [← en]; exact ER.out)
        have en2 : 64 - (k + 1) = n := by omega
        have EN := hid en2
        clear en en2 ER
        go_upto_region 4 with fail
        refine wp_region_later1 (M) ?_
        try simp only [pA]
        go_big_quiet_step (fail)
        refine later_b (x := (.tmp 13)) (y := (.const (.int .u64 0))) rfl (BinRun.is T4.out (bin_neq _ (1#64 <<< k) 0#64)) rfl rfl (by rfl) ?_; simp only [pA]
        refine wpQuiet_nil (laterE hM ?_)
        intro xw6 M7 hbxw6 hM7 lM7
        have k8 := ka.below hbxw6 (by omega)
        have lo9 := lo.trans (hbxw6.mono (by omega))
        clear ka lo hbxw6
        go_upto_region 6 with fail
        refine wp_region_later1 (M7) ?_
        try simp only [pA]
        go_big_quiet_step (fail)
        refine later_b (x := (.tmp 17)) (y := (.const (.int .u64 1))) rfl (bin_sub _ (1#64 <<< k) 1#64) rfl rfl (by rfl) ?_; simp only [pA]
        go_big_quiet_step (fail)
        refine wpQuiet_nil (laterE hM7 ?_)
        intro xw10 M11 hbxw10 hM11 lM11
        have k12 := k8.below hbxw10 (by omega)
        have lo13 := lo9.trans (hbxw10.mono (by omega))
        clear k8 lo9 hbxw10
        go_upto_region 7 with fail
        obtain ⟨c14, c15⟩ := n_cells k12
        refine wp_region_later1 (M11) ?_
        try simp only [pA]
        iterate 2 (go_big_quiet_step (fail))
        refine later_b (x := (.tmp 19)) (y := (.tmp 20)) rfl (bin_andn _ f ((1#64 <<< k) - 1#64)) rfl rfl (by rfl) ?_; simp only [pA]
        go_big_quiet_step (fail)
        refine later_b (x := (.tmp 21)) (y := (.tmp 22)) rfl (bin_or _ (f &&& ~~~((1#64 <<< k) - 1#64)) (1#64 <<< k)) rfl rfl (by rfl) ?_; simp only [pA]
        go_big_quiet_step (fail)
        refine later_c1 hM11 23 (.tmp 24) rfl rfl und64 rfl c14 (by rfl) ?_; simp only [pA]
        go_big_quiet_step (fail)
        refine later_b (x := (.tmp 25)) (y := (.tmp 26)) rfl (bin_and _ a.v ((1#64 <<< k) - 1#64)) rfl rfl (by rfl) ?_; simp only [pA]
        refine later_b (x := (.tmp 23)) (y := (.tmp 27)) rfl (bin_or _ ((f &&& ~~~((1#64 <<< k) - 1#64)) ||| (1#64 <<< k)) (a.v &&& ((1#64 <<< k) - 1#64))) rfl rfl (by rfl) ?_; simp only [pA]
        go_big_quiet_step (fail)
        refine wpQuiet_nil (laterE hM11 ?_)
        intro xw16 M17 hbxw16 hM17 lM17
        have k18 := k12.below hbxw16 (by omega)
        have lo19 := lo13.trans (hbxw16.mono (by omega))
        clear k12 c14 c15 lo13 hbxw16
        cases hc : ((f &&& (1#64 <<< k)) == 0#64)
        · have C0 := hid hc
          clear hc
          go_upto_region 8 with fail
          refine wp_region_later1 (M17) ?_
          try simp only [pA]
          iterate 2 (go_big_quiet_step (fail))
          refine later_b (x := (.tmp 29)) (y := (.tmp 30)) rfl (bin_and _ f (1#64 <<< k)) rfl rfl (by rfl) ?_; simp only [pA]
          refine later_b (x := (.tmp 31)) (y := (.const (.int .u64 0))) rfl (BinRun.is C0.out (bin_eql _ (f &&& (1#64 <<< k)) 0#64)) rfl rfl (by rfl) ?_; simp only [pA]
          iterate 5 (go_big_quiet_step (fail))
          refine wpQuiet_nil (laterE hM17 ?_)
          intro xw20 M21 hbxw20 hM21 lM21
          have k22 := k18.below hbxw20 (by omega)
          have lo23 := lo19.trans (hbxw20.mono (by omega))
          clear k18 lo19 hbxw20
          have E2 := hid (show rr = nobR a f n (k + 1) by rw [E1.out]; show (bif _ then _ else _) = _; rw [C0.out]; rfl)
          go_upto_region 5 with fail
          refine wp_region_later1 (M21) ?_
          try simp only [pA]
          go_big_quiet_step (fail)
          refine later_b (x := (.tmp 15)) (y := (.const (.int .u64 1))) rfl (bin_shlu _ (1#64 <<< k) 1#64) rfl rfl (by rfl) ?_; simp only [pA]
          go_big_quiet_step (fail)
          refine wpQuiet_nil (laterE hM21 ?_)
          intro xw24 M25 hbxw24 hM25 lM25
          have k26 := k22.below hbxw24 (by omega)
          have lo27 := lo23.trans (hbxw24.mono (by omega))
          clear k22 lo23 hbxw24
          go_wp2_with fail
          go_roundg (64 - (k + 1))
          case rel => exact ⟨k + 1, by omega, rfl, by rw [shl_next], by rw [EN.out]; exact E2, k26, lo27⟩
          case measure => omega
        · have C0 := hid hc
          clear hc
          cases hd : tHas a (nobX a f k)
          · have D0 := hid hd
            clear hd
            go_upto_region 8 with fail
            refine wp_region_later1 (M17) ?_
            try simp only [pA]
            iterate 2 (go_big_quiet_step (fail))
            refine later_b (x := (.tmp 29)) (y := (.tmp 30)) rfl (bin_and _ f (1#64 <<< k)) rfl rfl (by rfl) ?_; simp only [pA]
            refine later_b (x := (.tmp 31)) (y := (.const (.int .u64 0))) rfl (BinRun.is C0.out (bin_eql _ (f &&& (1#64 <<< k)) 0#64)) rfl rfl (by rfl) ?_; simp only [pA]
            go_big_quiet_step (fail)
            refine later_row hM17 25 (.tmp 2) rfl (N) rfl 25 2 _ k18 undT szT (by rfl) ?_; simp only [pA]
            go_big_quiet_step (fail)
            go_big_quiet_step ((go_at_call 26; exact later_of hM17 _ (fun K hK hKN => ret_is D0.out (Has_any a (nobX a f k)) _ K hK)))
            go_big_quiet_step (fail)
            refine wpQuiet_nil (laterE hM17 ?_)
            intro xw20 M21 hbxw20 hM21 lM21
            have k22 := k18.below hbxw20 (by omega)
            have lo23 := lo19.trans (hbxw20.mono (by omega))
            clear k18 lo19 hbxw20
            have E2 := hid (show rr = nobR a f n (k + 1) by rw [E1.out]; show (bif _ then _ else _) = _; rw [C0.out, D0.out]; rfl)
            go_upto_region 5 with fail
            refine wp_region_later1 (M21) ?_
            try simp only [pA]
            go_big_quiet_step (fail)
            refine later_b (x := (.tmp 15)) (y := (.const (.int .u64 1))) rfl (bin_shlu _ (1#64 <<< k) 1#64) rfl rfl (by rfl) ?_; simp only [pA]
            go_big_quiet_step (fail)
            refine wpQuiet_nil (laterE hM21 ?_)
            intro xw24 M25 hbxw24 hM25 lM25
            have k26 := k22.below hbxw24 (by omega)
            have lo27 := lo23.trans (hbxw24.mono (by omega))
            clear k22 lo23 hbxw24
            go_wp2_with fail
            go_roundg (64 - (k + 1))
            case rel => exact ⟨k + 1, by omega, rfl, by rw [shl_next], by rw [EN.out]; exact E2, k26, lo27⟩
            case measure => omega
          · have D0 := hid hd
            clear hd
            have E2 := hid (show rr = (nobX a f k, true) by rw [E1.out]; show (bif _ then _ else _) = _; rw [C0.out, D0.out]; rfl)
            go_upto_region 8 with fail
            refine wp_region_later1 (M17) ?_
            try simp only [pA]
            iterate 2 (go_big_quiet_step (fail))
            refine later_b (x := (.tmp 29)) (y := (.tmp 30)) rfl (bin_and _ f (1#64 <<< k)) rfl rfl (by rfl) ?_; simp only [pA]
            refine later_b (x := (.tmp 31)) (y := (.const (.int .u64 0))) rfl (BinRun.is C0.out (bin_eql _ (f &&& (1#64 <<< k)) 0#64)) rfl rfl (by rfl) ?_; simp only [pA]
            go_big_quiet_step (fail)
            refine later_row hM17 25 (.tmp 2) rfl (N) rfl 25 2 _ k18 undT szT (by rfl) ?_; simp only [pA]
            go_big_quiet_step (fail)
            go_big_quiet_step ((go_at_call 26; exact later_of hM17 _ (fun K hK hKN => ret_is D0.out (Has_any a (nobX a f k)) _ K hK)))
            go_big_quiet_step (fail)
            refine wpQuiet_nil (laterE hM17 ?_)
            intro xw20 M21 hbxw20 hM21 lM21
            have k22 := k18.below hbxw20 (by omega)
            have lo23 := lo19.trans (hbxw20.mono (by omega))
            clear k18 lo19 hbxw20
            go_upto_region 9 with fail
            refine wp_region_later1 (M21) ?_
            try simp only [pA]
            iterate 3 (go_big_quiet_step (fail))
            refine wpQuiet_nil (laterE hM21 ?_)
            intro xw24 M25 hbxw24 hM25 lM25
            have k26 := k22.below hbxw24 (by omega)
            have lo27 := lo23.trans (hbxw24.mono (by omega))
            clear k22 lo23 hbxw24
            go_wp2_with fail
            go_ret2
            exact ⟨by rw [E2.out]; rfl, lo27⟩
      · obtain rfl : k = 64 := by omega
        have T4 := hid (show (1#64 <<< 64 != 0#64) = false by decide)
        go_upto_region 4 with fail
        refine wp_region_later1 (M) ?_
        try simp only [pA]
        go_big_quiet_step (fail)
        refine later_b (x := (.tmp 13)) (y := (.const (.int .u64 0))) rfl (BinRun.is T4.out (bin_neq _ (1#64 <<< 64) 0#64)) rfl rfl (by rfl) ?_; simp only [pA]
        refine wpQuiet_nil (laterE hM ?_)
        intro xw6 M7 hbxw6 hM7 lM7
        have k8 := ka.below hbxw6 (by omega)
        have lo9 := lo.trans (hbxw6.mono (by omega))
        clear ka lo hbxw6
        go_wp2_with fail
        go_ret2
        exact ⟨by rw [ER.out]; rfl, lo9⟩
  · have H0 := hid h0
    rw [h0, cond_true] at er
    have ER := hid er
    clear er h0
    go_upto_region 1 with fail
    refine wp_region_later1 ((N + 1)) ?_
    try simp only [pA]
    refine later_row hN1 25 (.tmp 2) rfl (N) rfl 25 2 _ k1 undT szT (by rfl) ?_; simp only [pA]
    go_big_quiet_step (fail)
    go_big_quiet_step ((go_at_call 26; exact later_of hN1 _ (fun K hK hKN => ret_is H0.out (Has_any a f) _ K hK)))
    refine wpQuiet_nil (laterE hN1 ?_)
    intro xw2 M3 hbxw2 hM3 lM3
    have k4 := k1.below hbxw2 (by omega)
    have lo5 := lo0.trans (hbxw2.mono (by omega))
    clear k1 lo0 hbxw2
    go_upto_region 2 with fail
    refine wp_region_later1 (M3) ?_
    try simp only [pA]
    iterate 3 (go_big_quiet_step (fail))
    refine wpQuiet_nil (laterE hM3 ?_)
    intro xw6 M7 hbxw6 hM7 lM7
    have k8 := k4.below hbxw6 (by omega)
    have lo9 := lo5.trans (hbxw6.mono (by omega))
    clear k4 lo5 hbxw6
    go_wp2_with fail
    go_ret2
    exact ⟨by rw [ER.out]; rfl, lo9⟩
end Go.Proofs.YtbbfdehipgkjmaaDoor
namespace Go.Proofs.YtbbfdehipgkjmaaDoor
open Go Go.RowKit
def dP (p q : W) (j : Nat) : W := if j = 0 then p else q
/-- The least number of these bits from one on, if it is one of the range; else what is told otherwise. -/
def stepN (r : Rn) (s : W) (e : W × Bool) : W × Bool := bif (nobF r.b s).2 then (bif sHas r (nobF r.b s).1 then ((nobF r.b s).1, true) else e) else e
def nxtR (r : Rn) (p q : W) : Nat → W × Bool
  | 0 => stepN r p (stepN r q (0#64, false))
  | 1 => stepN r q (0#64, false)
  | _ => (0#64, false)
def nxtF (r : Rn) (f : W) : W × Bool := nxtR r (uMax f r.lo) (uMax (uMax f r.lo) r.sl) 0
theorem nxtR_step (r : Rn) (p q : W) : ∀ k, k < 2 → nxtR r p q k = stepN r (dP p q k) (nxtR r p q (k + 1))
  | 0, _ => rfl
  | 1, _ => rfl
  | k + 2, h => absurd h (by omega)
theorem ixD (D : Nat → W) (w : World) : ∀ k : Nat, k < 2 → (Instr.index 104 (.agg (cellsOf (dC D) 2)) (.int .i64 (k : Int))).run Tryd.prog w = .ok (Q (D k)) w
  | 0, _ => by kernel_rfl
  | 1, _ => by kernel_rfl
  | k + 2, h => absurd h (by omega)
theorem run_ixD {a : Act} {o : Oper} {x y : Operand} (ho : o.op = .index 104 x y) {D : Nat → W} {k : Nat} (hx : a.eval x = .agg (cellsOf (dC D) 2)) (hy : a.eval y = .int .i64 (k : Int)) (hk : k < 2) (w : World) : (execOp a.eval o).run Tryd.prog w = .ok (.value (Q (D k))) w := by
  unfold execOp
  simp only [ho, hx, hy, Sem.run_bind, ixD D w k hk, Result.andThen_ok, Sem.run_pure]
set_option maxRecDepth 100000 in
set_option maxHeartbeats 8000000 in
theorem Next_any (r : Rn) (f : W) (w : World) (N : Nat) (hN : Sz w N) : Calls Tryd.prog 53 #[rV r, Q f] w fun e w' => e = .returned (.tuple #[Q (nxtF r f).1, .bool (nxtF r f).2]) ∧ Below N w w' := by
  unfold rV
  obtain ⟨rr, er⟩ : ∃ rr, rr = nxtF r f := ⟨_, rfl⟩
  rw [← er]
  have ER := hid (er.trans (show nxtF r f = nxtR r (uMax f r.lo) (uMax (uMax f r.lo) r.sl) 0 from rfl))
  clear er
  go_enter Tryd.func53, Tryd.ntmps53
  go_upto_region 1 with (first
    | (refine wpl_box rfl 27 (.tmp 0) rfl 6 _ rfl (N) hN ?_; intro w1 hN1 hb1 hh1)
    | fail)
  have lo0 : Below N w w1 := hb1
  have k1 := hh1
  clear hh1 hb1
  go_upto_region 1 with fail
  obtain ⟨c2, c3, c4, c5, c6, c7⟩ := r_cells k1
  refine wp_region_later1 ((N + 1)) ?_
  try simp only [pA]
  iterate 2 (go_big_quiet_step (fail))
  refine later_c1 hN1 23 (.tmp 11) rfl rfl und64 rfl c4 (by rfl) ?_; simp only [pA]
  refine later_val (fun qq => run_maxQ (x := (.tmp 10)) (y := (.tmp 12)) (p := f) (q := r.lo) rfl rfl rfl qq.w') (by rfl) ?_; simp only [pA]
  go_big_quiet_step (fail)
  refine wpQuiet_nil (laterE hN1 ?_)
  intro xw8 M9 hbxw8 hM9 lM9
  have k10 := k1.below hbxw8 (by omega)
  have lo11 := lo0.trans (hbxw8.mono (by omega))
  clear k1 c2 c3 c4 c5 c6 c7 lo0 hbxw8
  go_upto_region 2 with fail
  obtain ⟨c12, c13, c14, c15, c16, c17⟩ := r_cells k10
  refine wp_region_later1 (M9) ?_
  try simp only [pA]
  iterate 3 (go_big_quiet_step (fail))
  refine later_c1 hM9 2 (.tmp 16) rfl rfl undI64 rfl c16 (by rfl) ?_; simp only [pA]
  refine later_val (fun q => run_su (x := (.tmp 17)) rfl undI64 und64 rfl q.w') (by rfl) ?_; simp only [pA]
  refine later_val (fun qq => run_maxQ (x := (.tmp 15)) (y := (.tmp 18)) (p := (uMax f r.lo)) (q := r.sl) rfl rfl rfl qq.w') (by rfl) ?_; simp only [pA]
  refine later_val (fun q => run_bd 104 _ rfl (cellsOf (dC (dP (uMax f r.lo) (uMax (uMax f r.lo) r.sl))) 2) (by kernel_rfl) q.w') (by rfl) ?_; simp only [pA]
  go_big_quiet_step (fail)
  refine wpQuiet_nil (laterE hM9 ?_)
  intro xw18 M19 hbxw18 hM19 lM19
  have k20 := k10.below hbxw18 (by omega)
  have lo21 := lo11.trans (hbxw18.mono (by omega))
  clear k10 c12 c13 c14 c15 c16 c17 lo11 hbxw18
  go_wp2_with fail
  go_loopg [7, 8, 9, 21] 2 (fun m x7 x8 x9 x21 wr => ∃ k : Nat, k ≤ 2 ∧ m = 2 - k ∧ x21 = .int .i64 (k : Int) ∧ Hid (rr = nxtR r (uMax f r.lo) (uMax (uMax f r.lo) r.sl) k) ∧ Has wr N 27 6 (rC r) ∧ Below N w wr)
  case atStart => exact ⟨0, by omega, rfl, rfl, ER, k20, lo21⟩
  case round =>
    clear k20 lo21 hM19 ER
    obtain ⟨k, hk, rfl, rfl, ER, ka, lo⟩ := hrel
    obtain ⟨M, hM⟩ := sz_some wr
    have lt1 := ka.ltN hM
    by_cases hlt : k < 2
    · have t1 : (k : Int) < 2 := by omega
      have E1 := hid (ER.out.trans (nxtR_step r (uMax f r.lo) (uMax (uMax f r.lo) r.sl) k hlt))
      clear ER
      go_upto_region 4 with fail
      refine wp_region_later1 (M) ?_
      try simp only [pA]
      refine later_val (fun q => run_ixD (x := .tmp 20) (y := .tmp 21) rfl (D := dP (uMax f r.lo) (uMax (uMax f r.lo) r.sl)) (k := k) rfl rfl hlt q.w') (by rfl) ?_; simp only [pA]
      go_big_quiet_step (fail)
      refine wpQuiet_nil (laterE hM ?_)
      intro xw1 M22 hbxw1 hM22 lM22
      have k23 := ka.below hbxw1 (by omega)
      have lo24 := lo.trans (hbxw1.mono (by omega))
      clear ka lo hbxw1
      cases hc : (nobF r.b (dP (uMax f r.lo) (uMax (uMax f r.lo) r.sl) k)).2
      · have C0 := hid hc
        clear hc
        have CS25 := fun w N hN => NextBits_any r.b (dP (uMax f r.lo) (uMax (uMax f r.lo) r.sl) k) w N hN
        rw [C0.out] at CS25
        go_upto_region 5 with fail
        obtain ⟨c26, c27, c28, c29, c30, c31⟩ := r_cells k23
        refine wp_region_later1 (M22) ?_
        try simp only [pA]
        go_big_quiet_step (fail)
        refine later_val (fun qq => run_bits 25 (.tmp 25) rfl N rfl 27 (Later.has hM22 k23 qq) undT szT) (by rfl) ?_; simp only [pA]
        go_big_quiet_step (fail)
        go_big_quiet_step ((go_at_call 77; exact later_of hM22 _ (fun K hK hKN => CS25 _ K hK)))
        iterate 5 (go_big_quiet_step (fail))
        refine wpQuiet_nil (laterE hM22 ?_)
        intro xw32 M33 hbxw32 hM33 lM33
        have k34 := k23.below hbxw32 (by omega)
        have lo35 := lo24.trans (hbxw32.mono (by omega))
        clear k23 c26 c27 c28 c29 c30 c31 lo24 hbxw32
        go_upto_region 6 with fail
        refine wp_region_later1 (M33) ?_
        try simp only [pA]
        iterate 6 (go_big_quiet_step (fail))
        refine wpQuiet_nil (laterE hM33 ?_)
        intro xw36 M37 hbxw36 hM37 lM37
        have k38 := k34.below hbxw36 (by omega)
        have lo39 := lo35.trans (hbxw36.mono (by omega))
        clear k34 lo35 hbxw36
        have E2 := hid (show rr = nxtR r (uMax f r.lo) (uMax (uMax f r.lo) r.sl) (k + 1) by rw [E1.out]; unfold stepN; rw [C0.out]; rfl)
        go_wp2_with fail
        go_roundg (2 - (k + 1))
        case rel => exact ⟨k + 1, by omega, rfl, by simp, E2, k38, lo39⟩
        case measure => omega
      · have C0 := hid hc
        clear hc
        have CS25 := fun w N hN => NextBits_any r.b (dP (uMax f r.lo) (uMax (uMax f r.lo) r.sl) k) w N hN
        rw [C0.out] at CS25
        go_upto_region 5 with fail
        obtain ⟨c26, c27, c28, c29, c30, c31⟩ := r_cells k23
        refine wp_region_later1 (M22) ?_
        try simp only [pA]
        go_big_quiet_step (fail)
        refine later_val (fun qq => run_bits 25 (.tmp 25) rfl N rfl 27 (Later.has hM22 k23 qq) undT szT) (by rfl) ?_; simp only [pA]
        go_big_quiet_step (fail)
        go_big_quiet_step ((go_at_call 77; exact later_of hM22 _ (fun K hK hKN => CS25 _ K hK)))
        iterate 5 (go_big_quiet_step (fail))
        refine wpQuiet_nil (laterE hM22 ?_)
        intro xw32 M33 hbxw32 hM33 lM33
        have k34 := k23.below hbxw32 (by omega)
        have lo35 := lo24.trans (hbxw32.mono (by omega))
        clear k23 c26 c27 c28 c29 c30 c31 lo24 hbxw32
        cases hd : sHas r (nobF r.b (dP (uMax f r.lo) (uMax (uMax f r.lo) r.sl) k)).1
        · have D0 := hid hd
          clear hd
          go_upto_region 6 with fail
          refine wp_region_later1 (M33) ?_
          try simp only [pA]
          iterate 2 (go_big_quiet_step (fail))
          refine later_row hM33 27 (.tmp 2) rfl (N) rfl 27 6 _ k34 undR szR (by rfl) ?_; simp only [pA]
          go_big_quiet_step (fail)
          go_big_quiet_step ((go_at_call 10; exact later_of hM33 _ (fun K hK hKN => ret_is D0.out (SHas_any r (nobF r.b (dP (uMax f r.lo) (uMax (uMax f r.lo) r.sl) k)).1) _ K hK)))
          go_big_quiet_step (fail)
          refine wpQuiet_nil (laterE hM33 ?_)
          intro xw36 M37 hbxw36 hM37 lM37
          have k38 := k34.below hbxw36 (by omega)
          have lo39 := lo35.trans (hbxw36.mono (by omega))
          clear k34 lo35 hbxw36
          have E2 := hid (show rr = nxtR r (uMax f r.lo) (uMax (uMax f r.lo) r.sl) (k + 1) by rw [E1.out]; unfold stepN; rw [C0.out, D0.out]; rfl)
          go_wp2_with fail
          go_roundg (2 - (k + 1))
          case rel => exact ⟨k + 1, by omega, rfl, by simp, E2, k38, lo39⟩
          case measure => omega
        · have D0 := hid hd
          clear hd
          have E2 := hid (show rr = ((nobF r.b (dP (uMax f r.lo) (uMax (uMax f r.lo) r.sl) k)).1, true) by rw [E1.out]; unfold stepN; rw [C0.out, D0.out]; rfl)
          go_upto_region 6 with fail
          refine wp_region_later1 (M33) ?_
          try simp only [pA]
          iterate 2 (go_big_quiet_step (fail))
          refine later_row hM33 27 (.tmp 2) rfl (N) rfl 27 6 _ k34 undR szR (by rfl) ?_; simp only [pA]
          go_big_quiet_step (fail)
          go_big_quiet_step ((go_at_call 10; exact later_of hM33 _ (fun K hK hKN => ret_is D0.out (SHas_any r (nobF r.b (dP (uMax f r.lo) (uMax (uMax f r.lo) r.sl) k)).1) _ K hK)))
          go_big_quiet_step (fail)
          refine wpQuiet_nil (laterE hM33 ?_)
          intro xw36 M37 hbxw36 hM37 lM37
          have k38 := k34.below hbxw36 (by omega)
          have lo39 := lo35.trans (hbxw36.mono (by omega))
          clear k34 lo35 hbxw36
          go_upto_region 7 with fail
          refine wp_region_later1 (M37) ?_
          try simp only [pA]
          iterate 3 (go_big_quiet_step (fail))
          refine wpQuiet_nil (laterE hM37 ?_)
          intro xw40 M41 hbxw40 hM41 lM41
          have k42 := k38.below hbxw40 (by omega)
          have lo43 := lo39.trans (hbxw40.mono (by omega))
          clear k38 lo39 hbxw40
          go_wp2_with fail
          go_ret2
          exact ⟨by rw [E2.out]; rfl, lo43⟩
    · obtain rfl : k = 2 := by omega
      go_wp2_with fail
      go_ret2
      exact ⟨by rw [ER.out]; rfl, lo⟩
end Go.Proofs.YtbbfdehipgkjmaaDoor
namespace Go.Proofs.YtbbfdehipgkjmaaDoor
open Go Go.RowKit
section
variable {P : Program} {ops : Array Oper} {Q : Exit → Act → World → Prop}
theorem wpl_runD {rest : List Oper} {o : Oper} {a : Act} {w w' : World} {d : Option Tmp} (hg : o.guard = none) (hd : o.dst = d) (v : Value) (hr : (execOp a.eval o).run P w = .ok (.value v) w') (h : wpList P ops Q rest (a.put d v) w') : wpList P ops Q (o :: rest) a w := by
  subst hd
  exact wpl_run hg v w' hr h
theorem wpl_storeN {rest : List Oper} {o : Oper} {a : Act} {w : World} (hg : o.guard = none) (hd : o.dst = none) (ty : TypeId) (x y : Operand) (ho : o.op = .store ty x y) (b : Nat) (n : Nat) (g : Nat → Value) (hx : a.eval x = .pointer (some ⟨b, 0, none⟩)) (hy : a.eval y = .agg (cellsOf g n)) (T : TypeId) (f : Nat → Value) (hh : Has w b T n f)
    (hi : (P.info? ty).map (·.size) = some n) (h1 : ∀ j, j < n → (g j).oneCell' = true) (h : ∀ w1, Touch b w w1 → Has w1 b T n g → wpList P ops Q rest a w1) : wpList P ops Q (o :: rest) a w := by
  refine wpl_store hg ty x y ho b n g hx hy T f hh hi h1 fun w1 t h' => ?_
  rw [hd]
  exact h w1 t h'
theorem wpl_partN {rest : List Oper} {o : Oper} {a : Act} {w : World} (hg : o.guard = none) (hd : o.dst = none) (ty : TypeId) (x y : Operand) (ho : o.op = .store ty x y) (b : Nat) (hx : a.eval x = .pointer (some ⟨b, 0, none⟩)) (n : Nm) (hy : a.eval y = .agg (cellsOf (nC n) 2)) (T : TypeId) (r : Rn) (hh : Has w b T 6 (rC r))
    (hi : (P.info? ty).map (·.size) = some 2) (h : ∀ w1, Touch b w w1 → Has w1 b T 6 (rC ⟨n, r.lo, r.hi, r.sl, r.sh⟩) → wpList P ops Q rest a w1) : wpList P ops Q (o :: rest) a w := by
  refine wpl_store_part hg ty x y ho b 0 hx 2 (nC n) hy T 6 _ hh (by omega) hi (fun j _ => nC_one _ j) ?_
  intro w1 t h'
  rw [hd]
  exact h w1 t (h'.congr (fun j hj => lay_bits _ _ _ _ _ _ j))
end
theorem run_qnot {P : Program} {a : Act} {o : Oper} {T : TypeId} {x : Operand} {p : W} (ho : o.op = .unOp .xor T x) (hx : a.eval x = Q p) (w : World) : (execOp a.eval o).run P w = .ok (.value (Q (~~~p))) w := by
  have e : (Op.intBits .xor .u64 (IntKind.u64.max) (qn p)).run P w = .ok (Q (~~~p)) w := by
    have e1 : IntKind.u64.wrap (((BitVec.ofInt 64 (IntKind.u64.max) ^^^ BitVec.ofInt 64 (qn p)).toNat : Nat) : Int) = qn (~~~p) := by
      rw [show BitVec.ofInt 64 (IntKind.u64.max) = BitVec.allOnes 64 by decide, ofInt_qn, BitVec.allOnes_xor, wrap_u]
      show qn (BitVec.ofInt 64 (qn (~~~p))) = _
      rw [ofInt_qn]
    unfold Q
    rw [← e1]; rfl
  unfold execOp
  simp only [ho, hx]
  unfold Q
  simp only [Op.unary, Sem.run_bind, IntKind.signed, Bool.false_eq_true, if_false]
  rw [e]
  rfl
end Go.Proofs.YtbbfdehipgkjmaaDoor
