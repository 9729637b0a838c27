/- Contracts of ranges: what any of several has. -/
import Derived.Test.YtbbfdehipgkjmaaDoorMgSm2
import Derived.Test.YtbbfdehipgkjmaaDoorOw
namespace Go.Proofs.YtbbfdehipgkjmaaDoor
open Go Go.RowKit
/-- The cells of several ranges, one behind the other. -/
def rowC (l : List Rn) (j : Nat) : Value := rC (l.getD (j / 6) zeroR) (j % 6)
theorem rowC_at (l : List Rn) (k j : Nat) (h : j < 6) : rowC l (6 * k + j) = rC (l.getD k zeroR) j := by
 unfold rowC
 rw [show (6 * k + j) / 6 = k by omega, show (6 * k + j) % 6 = j by omega]
/-- What any of the first ones has. -/
def joinN (l : List Rn) : Nat → Rn
 | 0 => zeroR
 | k + 1 => joinR (if k = 0 then l.getD 0 zeroR else joinN l k) (l.getD k zeroR)
theorem run_ixK {P : Program} {a : Act} {o : Oper} (T E s : Nat) (hu : P.underlying T = some (.slice E)) (hs : (P.info? E).map (·.size) = some s) (x y : Operand) (ho : o.op = .indexAddr T x y) {q cap k n : Nat} (hx : a.eval x = .slice (some ⟨q, 0, none⟩) n cap) (hy : a.eval y = .int .i64 (k : Int)) (hk : k < n) (w : World) : (execOp a.eval o).run P w = .ok (.value (.pointer (some ⟨q, s * k, none⟩))) w := by
 cases hq : P.info? E with
 | none => simp [hq] at hs
 | some i =>
  have hi : i.size = s := by simpa [hq] using hs
  have h0 : ¬ ((k : Int) < 0) := by omega
  have h1 : ¬ (n ≤ k) := by omega
  unfold execOp
  simp only [ho, hx, hy]
  simp [Instr.indexAt, Instr.sureAddr, asIntOf, Sem.run_bind, run_underlying hu, sizeOf, typeInfo, hq, hi, Addr.add, h1, hk, Nat.mul_comm]
  intro e; exact e.symm
theorem undRS : Tryd.prog.underlying 96 = some (.slice 27) := by kernel_rfl
theorem szRow : (Tryd.prog.info? 27).map (·.size) = some 6 := by kernel_rfl
theorem keep_row {w wr : World} {N g : Nat} {l : List Rn} {n : Nat} (lo : Below N w wr) (hN : Sz w N) (hc : ∀ j, j < n * 6 → w.cell? ⟨g, 0 + j, none⟩ = some (rowC l j)) {k : Nat} (hk : k < n) : ∀ j, j < 6 → wr.cell? ⟨g, 6 * k + j, none⟩ = some (rC (l.getD k zeroR) j) := fun j hj => by
 have h := hc (6 * k + j) (by omega)
 rw [rowC_at l k j hj, Nat.zero_add] at h
 exact keep_c lo hN h
set_option maxRecDepth 100000 in
set_option maxHeartbeats 8000000 in
theorem Joined_any (l : List Rn) (n : Nat) (hn : Hid (l.length = n)) (hn2 : n ≤ 100) (p : Option Addr) (cap : Nat) (w : World) (N : Nat) (hN : Sz w N) (ho : OwnK w 27 6 p n cap (rowC l)) : Calls Tryd.prog 72 #[.slice p n cap] w fun e w' => e = .returned (rV (joinN l n)) ∧ Below N w w' := by
 unfold rV
 go_enter Tryd.func72, Tryd.ntmps72
 go_upto_region 1 with (first
  | (refine wpl_alloc rfl 27 rfl 6 (rC zeroR) zeR (N) hN ?_; intro w1 hN1 hb1 hh1)
  | fail)
 have lo0 : Below N w w1 := hb1
 have k1 := hh1
 clear hh1 hb1
 go_upto_region 1 with fail
 refine wp_region_lit ?_
 try simp only [pA]
 obtain ⟨b_xw2, eb_xw2⟩ : ∃ b_xw2, b_xw2 = (N + 1) := ⟨_, rfl⟩
 have hzb_xw2 : Sz w1 b_xw2 := by rw [eb_xw2]; exact hN1
 have lob_xw2 : (N + 1) ≤ b_xw2 := by omega
 have upb_xw2 : b_xw2 ≤ (N + 1) := by omega
 clear eb_xw2
 refine wpl_alloc rfl 27 rfl 6 (rC zeroR) zeR b_xw2 hzb_xw2 ?_
 intro xw2 hMxw2 hbxw2 hhxw2; simp only [pA]
 have k3 := k1.below hbxw2 (by omega)
 have lo4 := lo0.trans (hbxw2.mono (by omega))
 clear k1 lo0 hbxw2 hzb_xw2
 obtain ⟨M5, eM5⟩ : ∃ M5, M5 = b_xw2 + 1 := ⟨_, rfl⟩
 rw [← eM5] at hMxw2
 have loM5 : b_xw2 + 1 ≤ M5 := by omega
 have upM5 : M5 ≤ b_xw2 + 1 := by omega
 clear eM5
 obtain ⟨M6, hM6⟩ := sz_some xw2
 have lt_7 := k3.ltN hM6
 have lt_8 := hhxw2.ltN hM6
 go_wp2_with fail
 have hq := fun h => ho.cell (h : 0 < n)
 have ncap := ho.le
 clear ho
 go_loopg [4, 5, 8] n (fun m x4 x5 x8 wr => ∃ k : Nat, k ≤ n ∧ m = n - k ∧ x8 = .int .i64 (k : Int) ∧ Has wr N 27 6 (rC zeroR) ∧ Has wr b_xw2 27 6 (rC (joinN l k)) ∧ Below N w wr)
 case atStart => exact ⟨0, by omega, rfl, rfl, k3, hhxw2, lo4⟩
 case round =>
  clear k3 hhxw2 lo4 hM6
  obtain ⟨k, hk, rfl, rfl, kN, k3, lo⟩ := hrel
  obtain ⟨M, hM⟩ := sz_some wr
  have lt1 := kN.ltN hM
  have lt2 := k3.ltN hM
  by_cases hlt : k < n
  ·have t1 : (k : Int) < (n : Int) := by omega
   have k0 : (0 : Int) ≤ (k : Int) := by omega
   obtain ⟨q, ep, hc⟩ := hq (by omega)
   have hcell := keep_row (k := k) lo hN hc hlt
   subst ep
   clear hc
   go_upto_region 4 with fail
   refine wp_region_lit ?_
   try simp only [pA]
   refine wpl_run rfl (.int .i64 (k : Int)) _ (run_mv (x := (.tmp 8)) rfl _ rfl) ?_; simp only [pA]
   refine wpl_run rfl (.pointer (some ⟨q, 6 * k, none⟩)) _ (run_ixK 96 27 6 undRS szRow (.tmp 6) (.tmp 8) rfl rfl (k := k) (n := n) rfl (by omega) _) ?_; simp only [pA]
   refine wpl_load_cells rfl 27 (.tmp 11) rfl q (6 * k) rfl 6 (rC (l.getD k zeroR)) hcell _ undR.choose_spec.1 undR.choose_spec.2 szR ?_; simp only [pA]
   obtain ⟨b_xw9, eb_xw9⟩ : ∃ b_xw9, b_xw9 = M := ⟨_, rfl⟩
   have hzb_xw9 : Sz wr b_xw9 := by rw [eb_xw9]; exact hM
   have lob_xw9 : M ≤ b_xw9 := by omega
   have upb_xw9 : b_xw9 ≤ M := by omega
   clear eb_xw9
   refine wpl_alloc rfl 27 rfl 6 (rC zeroR) zeR b_xw9 hzb_xw9 ?_
   intro xw9 hMxw9 hbxw9 hhxw9; simp only [pA]
   have k10 := kN.below hbxw9 (by omega)
   have k11 := k3.below hbxw9 (by omega)
   have lo12 := lo.trans (hbxw9.mono (by omega))
   clear kN k3 lo hbxw9 hzb_xw9
   obtain ⟨M13, eM13⟩ : ∃ M13, M13 = b_xw9 + 1 := ⟨_, rfl⟩
   rw [← eM13] at hMxw9
   have loM13 : b_xw9 + 1 ≤ M13 := by omega
   have upM13 : M13 ≤ b_xw9 + 1 := by omega
   clear eM13
   refine wpl_run rfl (.int .i64 (k : Int)) _ (run_as (x := (.tmp 10)) rfl _ rfl) ?_; simp only [pA]
   refine wpl_store rfl 27 (.tmp 5) (.tmp 12) rfl b_xw9 6 (rC (l.getD k zeroR)) rfl rfl 27 _ hhxw9 szR (fun j _ => rC_one _ j) ?_
   intro xw14 t15 k16; try simp only [pA]
   have k17 := k10.touch t15 (by omega)
   have k18 := k11.touch t15 (by omega)
   have lo19 := t15.below lo12 (by omega)
   have h20 := t15.sz hMxw9
   clear hhxw9 k10 k11 lo12 hMxw9 t15
   obtain ⟨M21, hM21⟩ := sz_some xw14
   have lt_22 := k17.ltN hM21
   have lt_23 := k18.ltN hM21
   have lt_24 := k16.ltN hM21
   by_cases e0 : k = 0
   ·subst e0
    go_upto_region 6 with fail
    go_upto_region 6 with fail
    refine wp_region_lit ?_
    try simp only [pA]
    change wpList _ _ _ ((_ :: []) ++ (_ :: [])) _ _
    refine wpList_prefix (C := fun w' => ∃ x : Later M21 xw14, w' = x.w') _ _ _ _ ⟨⟨_, Below.refl _ _⟩, rfl⟩ ?_
    refine later_row hM21 27 (.tmp 5) rfl (b_xw9) rfl 27 6 _ k16 undR szR (by rfl) ?_; simp only [pA]
    refine wpQuiet_nil (laterE hM21 ?_)
    intro xw25 M26 hbxw25 hM26 lM26
    have k27 := k17.below hbxw25 (by omega)
    have k28 := k18.below hbxw25 (by omega)
    have k29 := k16.below hbxw25 (by omega)
    have lo30 := lo19.trans (hbxw25.mono (by omega))
    clear k17 k18 k16 lo19 hbxw25
    refine wpl_store rfl 27 (.tmp 3) (.tmp 15) rfl b_xw2 6 (rC (l.getD 0 zeroR)) rfl rfl 27 _ k28 szR (fun j _ => rC_one _ j) ?_
    intro xw31 t32 k33; try simp only [pA]
    have k34 := k27.touch t32 (by omega)
    have k35 := k29.touch t32 (by omega)
    have lo36 := t32.below lo30 (by omega)
    have h37 := t32.sz hM26
    clear k28 k27 k29 lo30 hM26 t32
    obtain ⟨M38, hM38⟩ := sz_some xw31
    have lt_39 := k34.ltN hM38
    have lt_40 := k33.ltN hM38
    have lt_41 := k35.ltN hM38
    go_upto_region 7 with fail
    refine wp_region_lit ?_
    try simp only [pA]
    change wpList _ _ _ ((_ :: _ :: _ :: []) ++ (_ :: [])) _ _
    refine wpList_prefix (C := fun w' => ∃ x : Later M38 xw31, w' = x.w') _ _ _ _ ⟨⟨_, Below.refl _ _⟩, rfl⟩ ?_
    refine later_row hM38 27 (.tmp 3) rfl (b_xw2) rfl 27 6 _ k33 undR szR (by rfl) ?_; simp only [pA]
    refine later_row hM38 27 (.tmp 5) rfl (b_xw9) rfl 27 6 _ k35 undR szR (by rfl) ?_; simp only [pA]
    go_big_quiet_step ((go_at_call 83; exact later_of hM38 _ (fun K hK hKN => SJoin_any (l.getD 0 zeroR) (l.getD 0 zeroR) _ K hK)))
    refine wpQuiet_nil (laterE hM38 ?_)
    intro xw42 M43 hbxw42 hM43 lM43
    have k44 := k34.below hbxw42 (by omega)
    have k45 := k33.below hbxw42 (by omega)
    have k46 := k35.below hbxw42 (by omega)
    have lo47 := lo36.trans (hbxw42.mono (by omega))
    clear k34 k33 k35 lo36 hbxw42
    refine wpl_store rfl 27 (.tmp 3) (.tmp 18) rfl b_xw2 6 (rC (joinR (l.getD 0 zeroR) (l.getD 0 zeroR))) rfl rfl 27 _ k45 szR (fun j _ => rC_one _ j) ?_
    intro xw48 t49 k50; try simp only [pA]
    have k51 := k44.touch t49 (by omega)
    have k52 := k46.touch t49 (by omega)
    have lo53 := t49.below lo47 (by omega)
    have h54 := t49.sz hM43
    clear k45 k44 k46 lo47 hM43 t49
    obtain ⟨M55, hM55⟩ := sz_some xw48
    have lt_56 := k51.ltN hM55
    have lt_57 := k50.ltN hM55
    have lt_58 := k52.ltN hM55
    go_wp2_with fail
    go_roundg (n - (0 + 1))
    case rel => exact ⟨0 + 1, by omega, rfl, by simp, k51, k50, lo53⟩
    case measure => omega
   ·have e1 : ¬ ((k : Int) = 0) := by omega
    have E := hid (show joinN l (k + 1) = joinR (joinN l k) (l.getD k zeroR) by show joinR (if k = 0 then _ else _) _ = _; rw [if_neg e0])
    clear e0
    go_upto_region 7 with fail
    refine wp_region_lit ?_
    try simp only [pA]
    change wpList _ _ _ ((_ :: _ :: _ :: []) ++ (_ :: [])) _ _
    refine wpList_prefix (C := fun w' => ∃ x : Later M21 xw14, w' = x.w') _ _ _ _ ⟨⟨_, Below.refl _ _⟩, rfl⟩ ?_
    refine later_row hM21 27 (.tmp 3) rfl (b_xw2) rfl 27 6 _ k18 undR szR (by rfl) ?_; simp only [pA]
    refine later_row hM21 27 (.tmp 5) rfl (b_xw9) rfl 27 6 _ k16 undR szR (by rfl) ?_; simp only [pA]
    go_big_quiet_step ((go_at_call 83; exact later_of hM21 _ (fun K hK hKN => SJoin_any (joinN l k) (l.getD k zeroR) _ K hK)))
    refine wpQuiet_nil (laterE hM21 ?_)
    intro xw25 M26 hbxw25 hM26 lM26
    have k27 := k17.below hbxw25 (by omega)
    have k28 := k18.below hbxw25 (by omega)
    have k29 := k16.below hbxw25 (by omega)
    have lo30 := lo19.trans (hbxw25.mono (by omega))
    clear k17 k18 k16 lo19 hbxw25
    refine wpl_store rfl 27 (.tmp 3) (.tmp 18) rfl b_xw2 6 (rC (joinR (joinN l k) (l.getD k zeroR))) rfl rfl 27 _ k28 szR (fun j _ => rC_one _ j) ?_
    intro xw31 t32 k33; try simp only [pA]
    have k34 := k27.touch t32 (by omega)
    have k35 := k29.touch t32 (by omega)
    have lo36 := t32.below lo30 (by omega)
    have h37 := t32.sz hM26
    clear k28 k27 k29 lo30 hM26 t32
    obtain ⟨M38, hM38⟩ := sz_some xw31
    have lt_39 := k34.ltN hM38
    have lt_40 := k33.ltN hM38
    have lt_41 := k35.ltN hM38
    go_wp2_with fail
    go_roundg (n - (k + 1))
    case rel => exact ⟨k + 1, by omega, rfl, by simp, k34, by rw [E.out]; exact k33, lo36⟩
    case measure => omega
  ·obtain rfl : k = n := by omega
   clear hlt hq
   go_upto_region 9 with fail
   refine wp_region_lit ?_
   try simp only [pA]
   change wpList _ _ _ ((_ :: []) ++ (_ :: [])) _ _
   refine wpList_prefix (C := fun w' => ∃ x : Later M wr, w' = x.w') _ _ _ _ ⟨⟨_, Below.refl _ _⟩, rfl⟩ ?_
   refine later_row hM 27 (.tmp 3) rfl (b_xw2) rfl 27 6 _ k3 undR szR (by rfl) ?_; simp only [pA]
   refine wpQuiet_nil (laterE hM ?_)
   intro xw9 M10 hbxw9 hM10 lM10
   have k11 := kN.below hbxw9 (by omega)
   have k12 := k3.below hbxw9 (by omega)
   have lo13 := lo.trans (hbxw9.mono (by omega))
   clear kN k3 lo hbxw9
   refine wpl_store rfl 27 (.tmp 2) (.tmp 20) rfl N 6 (rC (joinN l k)) rfl rfl 27 _ k11 szR (fun j _ => rC_one _ j) ?_
   intro xw14 t15 k16; try simp only [pA]
   have k17 := k12.touch t15 (by omega)
   have lo18 := t15.below lo13 (by omega)
   have h19 := t15.sz hM10
   clear k11 k12 lo13 hM10 t15
   obtain ⟨M20, hM20⟩ := sz_some xw14
   have lt_21 := k16.ltN hM20
   have lt_22 := k17.ltN hM20
   go_wp2_with fail
   refine post_r rfl N rfl k16 undR szR rfl ?_
   exact ⟨rfl, lo18⟩
end Go.Proofs.YtbbfdehipgkjmaaDoor
