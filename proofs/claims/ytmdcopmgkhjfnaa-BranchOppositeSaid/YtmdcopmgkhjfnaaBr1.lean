/- Contracts of what a jump tells: the least number of some bits from one on, and of a range. -/
import Derived.Test.YtmdcopmgkhjfnaaSm1
namespace Go.Proofs.Ytmdcopmgkhjfnaa
open Go Go.RowKit
/-- One bit more than a number has, and below it as little as there may be. -/
def nobX (a : Nm) (f : W) (k : Nat) : W := f &&& ~~~(1#64 <<< k - 1#64) ||| 1#64 <<< k ||| a.v &&& (1#64 <<< k - 1#64)
def nobR (a : Nm) (f : W) : Nat → Nat → W × Bool
  | 0, _ => (0#64, false)
  | n + 1, k => bif f &&& 1#64 <<< k == 0#64 then (bif tHas a (nobX a f k) then (nobX a f k, true) else nobR a f n (k + 1)) else nobR a f n (k + 1)
def nobF (a : Nm) (f : W) : W × Bool := bif tHas a f then (f, true) else nobR a f 64 0
theorem shl_next (k : Nat) : (1#64 <<< k) <<< (1#64).toNat = 1#64 <<< (k + 1) := by rw [show (1#64).toNat = 1 from rfl, BitVec.shiftLeft_add]
theorem shl_ne {k : Nat} (h : k < 64) : (1#64 <<< k != 0#64) = true := by
  have : ∀ k : Fin 64, (1#64 <<< k.val != 0#64) = true := by decide
  exact this ⟨k, h⟩
set_option maxRecDepth 100000 in
set_option maxHeartbeats 8000000 in
theorem NextBits_any (a : Nm) (f : W) (w : World) (N : Nat) (hN : Sz w N) : Calls Try.prog 122 #[nV a, Q f] w fun e w' => e = .returned (.tuple #[Q (nobF a f).1, .bool (nobF a f).2]) ∧ Below N w w' := by
  unfold nV
  obtain ⟨rr, er⟩ : ∃ rr, rr = nobF a f := ⟨_, rfl⟩
  rw [← er]
  unfold nobF at er
  go_enter Try.func122, Try.ntmps122
  go_upto_region 1 with (first
    | (refine wpl_box rfl 39 (.tmp 0) rfl 2 _ rfl (N) hN ?_; intro w1 hN1 hb1 hh1)
    | fail)
  have lo0 : Below N w w1 := hb1
  have k1 := hh1
  clear hh1 hb1
  cases h0 : tHas a f
  · have H0 := hid h0
    rw [h0, cond_false] at er
    have ER := hid er
    clear er h0
    go_upto_region 1 with fail
    refine wp_region_later1 ((N + 1)) ?_
    try simp only [pA]
    refine later_row hN1 39 (.tmp 2) rfl (N) rfl 39 2 _ k1 undT szT (by rfl) ?_; simp only [pA]
    go_big_quiet_step (fail)
    go_big_quiet_step ((go_at_call 54; exact later_of hN1 _ (fun K hK hKN => ret_is H0.out (Has_any a f) _ K hK)))
    refine wpQuiet_nil (laterE hN1 ?_)
    intro xw2 M3 hbxw2 hM3 lM3
    have k4 := k1.below hbxw2 (by omega)
    have lo5 := lo0.trans (hbxw2.mono (by omega))
    clear k1 lo0 hbxw2
    go_wp2_with fail
    go_loopg [6, 7, 8] 64 (fun m x6 x7 x8 wr => ∃ k : Nat, k ≤ 64 ∧ m = 64 - k ∧ x6 = Q (1#64 <<< k) ∧ Hid (rr = nobR a f (64 - k) k) ∧ Has wr N 39 2 (nC a) ∧ Below N w wr)
    case atStart => exact ⟨0, by omega, rfl, rfl, ER, k4, lo5⟩
    case round =>
      clear k4 lo5 hM3 ER
      obtain ⟨k, hk, rfl, rfl, ER, ka, lo⟩ := hrel
      obtain ⟨M, hM⟩ := sz_some wr
      have lt1 := ka.ltN hM
      by_cases hlt : k < 64
      · have T4 := hid (shl_ne hlt)
        obtain ⟨n, en⟩ : ∃ n, 64 - k = n + 1 := ⟨63 - k, by omega⟩
        have E1 := hid (show rr = nobR a f (n + 1) k by rw [← en]; exact ER.out)
        have en2 : 64 - (k + 1) = n := by omega
        have EN := hid en2
        clear en en2 ER
        go_upto_region 4 with fail
        refine wp_region_later1 (M) ?_
        try simp only [pA]
        go_big_quiet_step (fail)
        refine later_b (x := (.tmp 13)) (y := (.const (.int .u64 0))) rfl (BinRun.is T4.out (bin_neq _ (1#64 <<< k) 0#64)) rfl rfl (by rfl) ?_; simp only [pA]
        refine wpQuiet_nil (laterE hM ?_)
        intro xw6 M7 hbxw6 hM7 lM7
        have k8 := ka.below hbxw6 (by omega)
        have lo9 := lo.trans (hbxw6.mono (by omega))
        clear ka lo hbxw6
        go_upto_region 6 with fail
        refine wp_region_later1 (M7) ?_
        try simp only [pA]
        go_big_quiet_step (fail)
        refine later_b (x := (.tmp 17)) (y := (.const (.int .u64 1))) rfl (bin_sub _ (1#64 <<< k) 1#64) rfl rfl (by rfl) ?_; simp only [pA]
        go_big_quiet_step (fail)
        refine wpQuiet_nil (laterE hM7 ?_)
        intro xw10 M11 hbxw10 hM11 lM11
        have k12 := k8.below hbxw10 (by omega)
        have lo13 := lo9.trans (hbxw10.mono (by omega))
        clear k8 lo9 hbxw10
        go_upto_region 7 with fail
        obtain ⟨c14, c15⟩ := n_cells k12
        refine wp_region_later1 (M11) ?_
        try simp only [pA]
        iterate 2 (go_big_quiet_step (fail))
        refine later_b (x := (.tmp 19)) (y := (.tmp 20)) rfl (bin_andn _ f ((1#64 <<< k) - 1#64)) rfl rfl (by rfl) ?_; simp only [pA]
        go_big_quiet_step (fail)
        refine later_b (x := (.tmp 21)) (y := (.tmp 22)) rfl (bin_or _ (f &&& ~~~((1#64 <<< k) - 1#64)) (1#64 <<< k)) rfl rfl (by rfl) ?_; simp only [pA]
        go_big_quiet_step (fail)
        refine later_c1 hM11 22 (.tmp 24) rfl rfl und64 rfl c14 (by rfl) ?_; simp only [pA]
        go_big_quiet_step (fail)
        refine later_b (x := (.tmp 25)) (y := (.tmp 26)) rfl (bin_and _ a.v ((1#64 <<< k) - 1#64)) rfl rfl (by rfl) ?_; simp only [pA]
        refine later_b (x := (.tmp 23)) (y := (.tmp 27)) rfl (bin_or _ ((f &&& ~~~((1#64 <<< k) - 1#64)) ||| (1#64 <<< k)) (a.v &&& ((1#64 <<< k) - 1#64))) rfl rfl (by rfl) ?_; simp only [pA]
        go_big_quiet_step (fail)
        refine wpQuiet_nil (laterE hM11 ?_)
        intro xw16 M17 hbxw16 hM17 lM17
        have k18 := k12.below hbxw16 (by omega)
        have lo19 := lo13.trans (hbxw16.mono (by omega))
        clear k12 c14 c15 lo13 hbxw16
        cases hc : ((f &&& (1#64 <<< k)) == 0#64)
        · have C0 := hid hc
          clear hc
          go_upto_region 8 with fail
          refine wp_region_later1 (M17) ?_
          try simp only [pA]
          iterate 2 (go_big_quiet_step (fail))
          refine later_b (x := (.tmp 29)) (y := (.tmp 30)) rfl (bin_and _ f (1#64 <<< k)) rfl rfl (by rfl) ?_; simp only [pA]
          refine later_b (x := (.tmp 31)) (y := (.const (.int .u64 0))) rfl (BinRun.is C0.out (bin_eql _ (f &&& (1#64 <<< k)) 0#64)) rfl rfl (by rfl) ?_; simp only [pA]
          iterate 5 (go_big_quiet_step (fail))
          refine wpQuiet_nil (laterE hM17 ?_)
          intro xw20 M21 hbxw20 hM21 lM21
          have k22 := k18.below hbxw20 (by omega)
          have lo23 := lo19.trans (hbxw20.mono (by omega))
          clear k18 lo19 hbxw20
          have E2 := hid (show rr = nobR a f n (k + 1) by rw [E1.out]; show (bif _ then _ else _) = _; rw [C0.out]; rfl)
          go_upto_region 5 with fail
          refine wp_region_later1 (M21) ?_
          try simp only [pA]
          go_big_quiet_step (fail)
          refine later_b (x := (.tmp 15)) (y := (.const (.int .u64 1))) rfl (bin_shlu _ (1#64 <<< k) 1#64) rfl rfl (by rfl) ?_; simp only [pA]
          go_big_quiet_step (fail)
          refine wpQuiet_nil (laterE hM21 ?_)
          intro xw24 M25 hbxw24 hM25 lM25
          have k26 := k22.below hbxw24 (by omega)
          have lo27 := lo23.trans (hbxw24.mono (by omega))
          clear k22 lo23 hbxw24
          go_wp2_with fail
          go_roundg (64 - (k + 1))
          case rel => exact ⟨k + 1, by omega, rfl, by rw [shl_next], by rw [EN.out]; exact E2, k26, lo27⟩
          case measure => omega
        · have C0 := hid hc
          clear hc
          cases hd : tHas a (nobX a f k)
          · have D0 := hid hd
            clear hd
            go_upto_region 8 with fail
            refine wp_region_later1 (M17) ?_
            try simp only [pA]
            iterate 2 (go_big_quiet_step (fail))
            refine later_b (x := (.tmp 29)) (y := (.tmp 30)) rfl (bin_and _ f (1#64 <<< k)) rfl rfl (by rfl) ?_; simp only [pA]
            refine later_b (x := (.tmp 31)) (y := (.const (.int .u64 0))) rfl (BinRun.is C0.out (bin_eql _ (f &&& (1#64 <<< k)) 0#64)) rfl rfl (by rfl) ?_; simp only [pA]
            go_big_quiet_step (fail)
            refine later_row hM17 39 (.tmp 2) rfl (N) rfl 39 2 _ k18 undT szT (by rfl) ?_; simp only [pA]
            go_big_quiet_step (fail)
            go_big_quiet_step ((go_at_call 54; exact later_of hM17 _ (fun K hK hKN => ret_is D0.out (Has_any a (nobX a f k)) _ K hK)))
            go_big_quiet_step (fail)
            refine wpQuiet_nil (laterE hM17 ?_)
            intro xw20 M21 hbxw20 hM21 lM21
            have k22 := k18.below hbxw20 (by omega)
            have lo23 := lo19.trans (hbxw20.mono (by omega))
            clear k18 lo19 hbxw20
            have E2 := hid (show rr = nobR a f n (k + 1) by rw [E1.out]; show (bif _ then _ else _) = _; rw [C0.out, D0.out]; rfl)
            go_upto_region 5 with fail
            refine wp_region_later1 (M21) ?_
            try simp only [pA]
            go_big_quiet_step (fail)
            refine later_b (x := (.tmp 15)) (y := (.const (.int .u64 1))) rfl (bin_shlu _ (1#64 <<< k) 1#64) rfl rfl (by rfl) ?_; simp only [pA]
            go_big_quiet_step (fail)
            refine wpQuiet_nil (laterE hM21 ?_)
            intro xw24 M25 hbxw24 hM25 lM25
            have k26 := k22.below hbxw24 (by omega)
            have lo27 := lo23.trans (hbxw24.mono (by omega))
            clear k22 lo23 hbxw24
            go_wp2_with fail
            go_roundg (64 - (k + 1))
            case rel => exact ⟨k + 1, by omega, rfl, by rw [shl_next], by rw [EN.out]; exact E2, k26, lo27⟩
            case measure => omega
          · have D0 := hid hd
            clear hd
            have E2 := hid (show rr = (nobX a f k, true) by rw [E1.out]; show (bif _ then _ else _) = _; rw [C0.out, D0.out]; rfl)
            go_upto_region 8 with fail
            refine wp_region_later1 (M17) ?_
            try simp only [pA]
            iterate 2 (go_big_quiet_step (fail))
            refine later_b (x := (.tmp 29)) (y := (.tmp 30)) rfl (bin_and _ f (1#64 <<< k)) rfl rfl (by rfl) ?_; simp only [pA]
            refine later_b (x := (.tmp 31)) (y := (.const (.int .u64 0))) rfl (BinRun.is C0.out (bin_eql _ (f &&& (1#64 <<< k)) 0#64)) rfl rfl (by rfl) ?_; simp only [pA]
            go_big_quiet_step (fail)
            refine later_row hM17 39 (.tmp 2) rfl (N) rfl 39 2 _ k18 undT szT (by rfl) ?_; simp only [pA]
            go_big_quiet_step (fail)
            go_big_quiet_step ((go_at_call 54; exact later_of hM17 _ (fun K hK hKN => ret_is D0.out (Has_any a (nobX a f k)) _ K hK)))
            go_big_quiet_step (fail)
            refine wpQuiet_nil (laterE hM17 ?_)
            intro xw20 M21 hbxw20 hM21 lM21
            have k22 := k18.below hbxw20 (by omega)
            have lo23 := lo19.trans (hbxw20.mono (by omega))
            clear k18 lo19 hbxw20
            go_upto_region 9 with fail
            refine wp_region_later1 (M21) ?_
            try simp only [pA]
            iterate 3 (go_big_quiet_step (fail))
            refine wpQuiet_nil (laterE hM21 ?_)
            intro xw24 M25 hbxw24 hM25 lM25
            have k26 := k22.below hbxw24 (by omega)
            have lo27 := lo23.trans (hbxw24.mono (by omega))
            clear k22 lo23 hbxw24
            go_wp2_with fail
            go_ret2
            exact ⟨by rw [E2.out]; rfl, lo27⟩
      · obtain rfl : k = 64 := by omega
        have T4 := hid (show (1#64 <<< 64 != 0#64) = false by decide)
        go_upto_region 4 with fail
        refine wp_region_later1 (M) ?_
        try simp only [pA]
        go_big_quiet_step (fail)
        refine later_b (x := (.tmp 13)) (y := (.const (.int .u64 0))) rfl (BinRun.is T4.out (bin_neq _ (1#64 <<< 64) 0#64)) rfl rfl (by rfl) ?_; simp only [pA]
        refine wpQuiet_nil (laterE hM ?_)
        intro xw6 M7 hbxw6 hM7 lM7
        have k8 := ka.below hbxw6 (by omega)
        have lo9 := lo.trans (hbxw6.mono (by omega))
        clear ka lo hbxw6
        go_wp2_with fail
        go_ret2
        exact ⟨by rw [ER.out]; rfl, lo9⟩
  · have H0 := hid h0
    rw [h0, cond_true] at er
    have ER := hid er
    clear er h0
    go_upto_region 1 with fail
    refine wp_region_later1 ((N + 1)) ?_
    try simp only [pA]
    refine later_row hN1 39 (.tmp 2) rfl (N) rfl 39 2 _ k1 undT szT (by rfl) ?_; simp only [pA]
    go_big_quiet_step (fail)
    go_big_quiet_step ((go_at_call 54; exact later_of hN1 _ (fun K hK hKN => ret_is H0.out (Has_any a f) _ K hK)))
    refine wpQuiet_nil (laterE hN1 ?_)
    intro xw2 M3 hbxw2 hM3 lM3
    have k4 := k1.below hbxw2 (by omega)
    have lo5 := lo0.trans (hbxw2.mono (by omega))
    clear k1 lo0 hbxw2
    go_upto_region 2 with fail
    refine wp_region_later1 (M3) ?_
    try simp only [pA]
    iterate 3 (go_big_quiet_step (fail))
    refine wpQuiet_nil (laterE hM3 ?_)
    intro xw6 M7 hbxw6 hM7 lM7
    have k8 := k4.below hbxw6 (by omega)
    have lo9 := lo5.trans (hbxw6.mono (by omega))
    clear k4 lo5 hbxw6
    go_wp2_with fail
    go_ret2
    exact ⟨by rw [ER.out]; rfl, lo9⟩
end Go.Proofs.Ytmdcopmgkhjfnaa
