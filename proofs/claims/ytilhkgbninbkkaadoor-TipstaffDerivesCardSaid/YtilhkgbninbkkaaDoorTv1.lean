/- TipstaffDerives: the walk (written by mk_tv.py). -/
import Derived.Test.YtilhkgbninbkkaaDoorTv0
namespace Go.Proofs.YtilhkgbninbkkaaDoor
open Go Go.RowKit
set_option maxRecDepth 100000 in
set_option maxHeartbeats 16000000 in
theorem law_tvderives (z : Int) (q : Option Addr) (n cap0 : Nat) (T : Nat → ByteArray) (w : World) (N : Nat) (hN : Sz w N) (hD : Db w) (hE : Er w) (hB : Tabs w) (hn : n ≤ 9223372036854775807) (hS : Ats w q n (fun k => .string (T k))) (hT : ∀ k, k < n → (T k).size ≤ 281474976710656) :
    Calls Tryd.prog 13 #[.int .i64 z, .slice q n cap0] w fun e w' => e = .returned (.bool true) ∧ Below N w w' := by
  obtain ⟨d0, hd0, ed⟩ := rest z 4 (by omega) (by omega)
  rw [show ((4 : Nat) : Int) = 4 from rfl] at ed
  have Ed := hid ed
  have HTs := hid hT
  have hBN := hB.ltN hN
  obtain ⟨dR, u1, u2⟩ := undRR
  clear ed hT
  go_enter Tryd.func13, Tryd.ntmps13
  go_upto_region 2 with (first
    | (go_at_call 29; refine (New_any _ N hN).mono ?_; rintro e w1 ⟨rfl, b1, T1, hN1⟩)
    | fail)
  go_upto_region 3 with fail
  rw [Ed.out]
  clear Ed
  obtain ⟨d, hd⟩ : ∃ d, d = d0 + 1 := ⟨_, rfl⟩
  have ed2 : wrap64 (1 + (d0 : Int)) = (d : Int) := by rw [show wrap64 (1 + (d0 : Int)) = (1 + (d0 : Int)) from by unfold wrap64; omega]; omega
  try rw [ed2]
  try rw [show (1 + (d0 : Int)) = (d : Int) by omega]
  have d1 : 1 ≤ d := by omega
  have d5 : d < 5 := by omega
  clear hd ed2 hd0
  go_wp2_with fail
  have T0 : Tr w1 N (0 + 1) (lin 0) := T1.congr (fun j _ => by unfold lin; split <;> omega)
  clear T1 hN1
  go_loopw [7, 8] (fun x7 x8 wr => ∃ i : Nat, x7 = .int .i64 (i : Int) ∧ x8 = .int .i64 (i : Int) ∧ i ≤ d ∧ Tr wr N (i + 1) (lin i) ∧ Below N w wr) (fun _ x8 _ => d - (intOf x8).toNat)
  case atStart => exact ⟨0, rfl, rfl, by omega, T0, b1⟩
  case round =>
    clear T0 b1
    obtain ⟨i, rfl, rfl, hi, Ti, lo⟩ := hrel
    obtain ⟨M, hM⟩ := sz_some wr
    by_cases h1 : i < d
    · have E31 := hid (show decide ((i : Int) < (d : Int)) = true from decide_eq_true (by omega))
      have hlen : (ups (lin i) i).length ≤ 4 := by rw [lin_len i (by omega) i (by omega) (Nat.le_refl i)]; omega
      go_wp2_with (first
        | (go_at_call 38; refine (Make_ok N (i + 1) (lin i) i (by omega) hlen (by omega) _ M hM Ti).mono ?_; rintro e w2 ⟨rfl, t2, T2⟩)
        | ((with_reducible show wpList _ _ _ (_ :: _) _ _); first
          | (refine wpl_run rfl (.bool true) _ (run_lssK (x := .tmp 29) rfl rfl rfl E31.out _) ?_; try simp only [pA])
          | (refine wpl_run rfl (.bool false) _ (run_neqI (x := .tmp 40) rfl rfl rfl (by decide) _) ?_; try simp only [pA])
          | (refine wpl_run rfl (.int .i64 ((i + 1 : Nat) : Int)) _ (run_inc (x := .tmp 32) rfl rfl rfl rfl (by omega) _) ?_; try simp only [pA]))
        | fail)
      have hl : wr.heap.size = M := hM
      have hNM := Ti.h.ltN hM
      exact ⟨⟨i + 1, rfl, rfl, by omega, T2.congr (fun j _ => lin_add i j), t2.below lo (fun j hj => by rw [hj]; exact Nat.le_refl N) (by omega)⟩, by simp [intOf]; omega⟩
    · obtain rfl : i = d := by omega
      have E31 := hid (show decide ((i : Int) < (i : Int)) = false from decide_eq_false (by omega))
      have hNM := Ti.h.ltN hM
      have e0 : rootErr (i + 1) 0 rgAll = 0 := by
        unfold rootErr
        rw [show isIn (i + 1) 0 = true from isIn_nat (n := 0) (by omega), if_pos rfl, if_pos (show rWithin rgAll rgAll = true by decide)]
      clear h1 hi
      go_upto_region 12 with (first
        | (go_at_call 26; refine (All_any _ M hM).mono ?_; rintro e w2 ⟨rfl, b2⟩; obtain ⟨M2, hM2⟩ := sz_some w2; have l2 := below_sz b2 hM hM2)
        | (go_at_call 27; refine (Root_ok e0 hM2 (Ti.below hM b2)).mono ?_; rintro e w3 ⟨k, rfl, hk, b3, U3⟩; obtain ⟨M3, hM3⟩ := sz_some w3; have l3 := below_sz b3 hM2 hM3; have lo3 := lo.trans ((b2.trans (b3.mono l2)).mono (by omega)); have T3 := Ti.below hM (b2.trans (b3.mono l2)))
        | ((with_reducible show wpList _ _ _ (_ :: _) _ _); first
          | (refine wpl_run rfl (.bool false) _ (run_lssK (x := .tmp 29) rfl rfl rfl E31.out _) ?_; try simp only [pA]))
        | fail)
      have hB3 := hB.below lo3 hBN
      clear b2 b3 hM hM2 e0 E31
      go_wp2_with (first
        | (go_at_call 48; refine (stands_any _ M3 hM3 hB3).mono ?_; rintro e w4 ⟨rfl, b4⟩; obtain ⟨M4, hM4⟩ := sz_some w4; have l4 := below_sz b4 hM3 hM4)
        | (go_at_call 49; refine (topens_any _ M4 hM4).mono ?_; rintro e w5 ⟨rfl, b5⟩; obtain ⟨M5, hM5⟩ := sz_some w5; have l5 := below_sz b5 hM4 hM5)
        | (go_at_call 26; refine (All_any _ M5 hM5).mono ?_; rintro e w6 ⟨rfl, b6⟩; obtain ⟨M6, hM6⟩ := sz_some w6; have l6 := below_sz b6 hM5 hM6)
        | ((with_reducible show wpList _ _ _ (_ :: _) _ _); first
          | (refine wpl_run rfl (.bool false) _ (run_notB (x := .tmp 49) rfl rfl rfl _) ?_; try simp only [pA])
          | (refine wpl_want (by rfl) ?_; refine wpl_run rfl (.bool false) _ (run_notB (x := .tmp 52) rfl rfl rfl _) ?_; try simp only [pA])
          | (refine wpl_want (by rfl) ?_; refine wpl_run rfl (.bool false) _ (run_neqI (x := .tmp 56) rfl rfl rfl (by decide) _) ?_; try simp only [pA])
          | (refine wpl_bsR rfl (.tmp 60) rfl rgAll rfl M6 hM6 ?_; intro w7 hM7 b7 k7; try simp only [pA])
          | (refine wpl_appK rfl (.tmp 59) (.tmp 61) 85 rfl 26 6 (by omega) undRgs kRg none 0 0 rfl (fun k => rgC rgAll (k % 6)) (OwnK.nil _ _ _ _) (some ⟨M6, 0, none⟩) 1 1 rfl (rgC rgAll) k7.cells (fun j _ => rgC_one _ j) (by omega) ?_; intro p2 cap2 w8 o8 g8 e8 n8; try simp only [pA]))
        | fail)
      have bb : Below M3 w3 w7 := b4.trans ((b5.trans ((b6.trans (b7.mono l6)).mono l5)).mono l4)
      have hb8 : Below M3 w3 w8 := g8.below bb (by have := b7.size; have e6 : w6.heap.size = M6 := hM6; omega) (fun g hg => by cases hg)
      have lM7 : M6 ≤ w7.heap.size := by have := b7.size; have e6 : w6.heap.size = M6 := hM6; omega
      have F0 : Ks w N i q n T 0 ⟨k, 0, rgAll⟩ [] (fun _ => rgAll) p2 cap2 w8 := by
        refine ⟨lo3.trans (hb8.mono (by omega)), T3.below hM3 hb8, U3.below hM3 hb8, rfl, ⟨by simp, rfl, trivial⟩, ?_, ?_, (hS.below hN lo3).below hM3 hb8, ?_⟩
        · show (true && (insI (lin i) (i + 1) 0 0 && rWithin rgAll rgAll)) = true
          have e1 : insI (lin i) (i + 1) 0 0 = true := by rw [insI_self]; exact isIn_nat (n := 0) (by omega)
          rw [e1, show rWithin rgAll rgAll = true by decide]; rfl
        · exact o8.congr (fun j hj => by unfold cat; rw [if_neg (by omega)]; show rgC rgAll (j - 0 * 6) = rgC rgAll (j % 6); rw [show j - 0 * 6 = j % 6 by omega])
        · intro g hg
          rcases e8 with e | e
          · rw [e] at hg; cases hg
          · rw [e] at hg; injection hg with hg; omega
      have HK0 : Hid (∀ u : Tk, u ∈ [(⟨k, 0, rgAll⟩ : Tk)] → some u.b ≠ blk p2) := hid (fun u hu e => by
        obtain rfl : u = ⟨k, 0, rgAll⟩ := by simpa using hu
        have h9 := U3.lt ⟨k, 0, rgAll⟩ (by simp)
        have e3 : w3.heap.size = M3 := hM3
        rcases e8 with e8 | e8
        · rw [e8] at e; cases e
        · rw [e8] at e; injection e with e; omega)
      obtain ⟨m3, hm3⟩ : ∃ m3, m3 = min n 3 := ⟨_, rfl⟩
      have m3n : m3 ≤ n := by omega
      have m33 : m3 ≤ 3 := by omega
      have Hm3 := hid hm3
      clear hm3 o8 g8 e8 n8 k7 b7 b6 b5 b4 hM7 hM6 hM5 hM4 hM3 bb hb8 lM7 T3 U3 hB3 lo3 lo hk l2 l3 l4 l5 l6 Ti hNM hB hBN
      obtain ⟨d, ed⟩ : ∃ d, d = i := ⟨_, rfl⟩
      subst ed
      try simp only [Nat.zero_add]
      go_loopw [11, 13, 14] (fun x ch ix wr => ∃ (j : Nat) (t : Tk) (us : List Tk) (R : Nat → Rg) (p : Option Addr) (cap : Nat), j ≤ m3 ∧ x = .pointer (some ⟨t.b, 0, none⟩) ∧ ch = .slice p (j + 1) cap ∧ ix = .int .i64 (j : Int) ∧ Ks w N d q n T j t us R p cap wr ∧ Hid (∀ u : Tk, u ∈ t :: us → some u.b ≠ blk p) ∧ Hid (∀ g, blk q = some g → 0 < n → g < N)) (fun _ _ ix _ => m3 - (intOf ix).toNat)
      case atStart => exact ⟨0, ⟨k, 0, rgAll⟩, [], _, p2, cap2, by omega, rfl, rfl, rfl, F0, HK0, hid (fun g hg h0 => hS.lt hN g h0 hg)⟩
      case round =>
        clear F0 HK0
        obtain ⟨j, t, us, R, p, cap, hj, rfl, rfl, rfl, F, HK, HQ⟩ := hrel
        obtain ⟨M, hM⟩ := sz_some wr
        have hNM := F.tr.h.ltN hM
        by_cases h1 : j < m3
        · have j3 : j < 3 := by omega
          have E66 := hid (show decide ((j : Int) < (n : Int)) = true from decide_eq_true (by omega))
          have E69 := hid (show decide ((j : Int) < 3) = true from decide_eq_true (by omega))
          obtain ⟨bb, off, eq, hcell⟩ := F.tx (by omega)
          have CT := hid (show wr.cell? ⟨bb, off + j, none⟩ = some (.string (T j)) from hcell j (by omega))
          have EQ := hid eq
          have hjn := hid (show j < n by omega)
          obtain ⟨s, es⟩ : ∃ s, T j = s := ⟨_, rfl⟩
          rw [es] at CT
          have hs : s.size ≤ 281474976710656 := by rw [← es]; exact HTs.out j (by omega)
          have hE9 := hE.below hN F.lo
          have hD9 := hD.below hN F.lo
          have HP := fun w N hN hE hD => ParseU_any s hs w N hN hE hD
          have hz := prE_or s
          generalize prR s = r0 at *
          generalize prE s = e0 at *
          clear es hcell eq hs
          go_upto_region 20 with (first
            | (go_at_call 22; refine (HP _ M hM hE9 hD9).mono ?_; rintro e w2 ⟨rfl, b2⟩; obtain ⟨M2, hM2⟩ := sz_some w2; have l2 := below_sz b2 hM hM2; clear HP)
            | ((with_reducible show wpList _ _ _ (_ :: _) _ _); first
              | (refine wpl_run rfl (.int .i64 (n : Int)) _ (run_lenL rfl undTxs rfl _) ?_; try simp only [pA])
              | (refine wpl_run rfl (.bool true) _ (run_lssK (x := .tmp 63) rfl rfl rfl E66.out _) ?_; try simp only [pA])
              | (refine wpl_want (by rfl) ?_; refine wpl_run rfl (.bool true) _ (run_lssK (x := .tmp 68) rfl rfl rfl E69.out _) ?_; try simp only [pA])
              | (refine wpl_run rfl (.pointer (some ⟨bb, off + j, none⟩)) _ (run_iaT rfl rfl EQ.out rfl undTxs szTxs hjn.out _) ?_; try simp only [pA])
              | (refine wpl_run rfl (.string s) _ (run_cell1 (x := .tmp 76) 9 rfl rfl undStr rfl CT.out) ?_; try simp only [pA])
              | (refine wpl_alloc rfl 26 rfl 6 (rgC rgNone) zeRR M2 hM2 ?_; intro w3 hM3 b3 h3; try simp only [pA])
              | (refine wpl_store rfl 26 (.tmp 15) (.tmp 79) rfl M2 6 (rgC r0) rfl rfl 26 _ h3 szRR (fun j _ => rgC_one r0 j) ?_; intro w4 t4 k4; try simp only [pA]))
            | fail)
          have lo4 : Below M wr w4 := t4.below (b2.trans (b3.mono l2)) (by omega)
          have hM4 := t4.sz hM3
          obtain ⟨B, eB⟩ : ∃ B, (e0 != 0) = B := ⟨_, rfl⟩
          have EB := hid eB
          clear eB hE9 hD9 b2 b3 h3 t4 hM3 E66 E69 CT
          go_upto_if 82 with (first
            | ((with_reducible show wpList _ _ _ (_ :: _) _ _); first
              | (refine wpl_run rfl (.bool B) _ (run_neqI (x := .tmp 81) rfl rfl rfl EB.out _) ?_; try simp only [pA]))
            | fail)
          go_cut [] (fun wx => ∃ r1 : Rg, Has wx M2 26 6 (rgC r1) ∧ Below M wr wx ∧ Sz wx (M2 + 1))
          case first =>
            cases B
            · go_wp2_with fail
              go_meet
              exact ⟨r0, k4, lo4, hM4⟩
            · obtain ⟨m7, hm7⟩ : ∃ m7, 7 - j = m7 := ⟨_, rfl⟩
              have HM7 := hid hm7
              have m7s : m7 < 65536 := by omega
              clear hm7
              go_wp2_with (first
                | ((with_reducible show wpList _ _ _ (_ :: _) _ _); first
                  | (refine wpl_run rfl (.int .i64 (m7 : Int)) _ (run_subI (p := 7) rfl rfl rfl rfl HM7.out (by omega) (by omega) _) ?_; try simp only [pA])
                  | (refine wpl_run rfl (Wd (BitVec.ofNat 16 m7)) _ (run_cvI16 rfl undI64 und16x rfl m7s _) ?_; try simp only [pA])
                  | (refine wpl_build rfl 26 _ rfl (cellsOf (rgC ⟨0#16, 0#16, 0#16, BitVec.ofNat 16 m7, false, false⟩) 6) (by kernel_rfl) ?_; try simp only [pA])
                  | (refine wpl_store rfl 26 (.tmp 15) (.tmp 86) rfl M2 6 (rgC ⟨0#16, 0#16, 0#16, BitVec.ofNat 16 m7, false, false⟩) rfl rfl 26 _ k4 szRR (fun j _ => rgC_one _ j) ?_; intro w5 t5 k5; try simp only [pA]))
                | fail)
              go_meet
              exact ⟨_, k5, t5.below lo4 (by omega), t5.sz hM4⟩
          obtain ⟨r1, k5, lo5, hM5⟩ := hcut
          clear k4 lo4 hM4 EB hz
          have U5 := F.tk.below hM lo5
          have HR5 := U5.rights
          have HF5 := F.below hM lo5
          go_upto_region 22 with fail
          refine wp_region_later_tail (M2 + 1) 6 (by kernel_rfl) (by kernel_rfl) ?_
          simp only [List.take_succ_cons, List.take_zero, List.drop_succ_cons, List.drop_zero]
          try simp only [pA]
          refine later_val (v := .agg (cellsOf (rgC r1) 6)) (fun q => run_ld 26 (.tmp 15) rfl M2 rfl 26 6 _ (Later.has hM5 k5 q) _ u1 u2 szRR) (by rfl) ?_; try simp only [pA]
          go_big_quiet_step (fail)
          go_big_quiet_step (fail)
          go_big_quiet_step (fail)
          refine later_val (v := .agg (cellsOf (rgC t.r) 6)) (fun q => run_ldc 26 (.tmp 90) rfl t.b 1 rfl 6 (rgC t.r) (fun j hj => Later.cell hM5 (HR5 j hj) q) _ u1 u2 szRR) (by rfl) ?_; try simp only [pA]
          go_big_quiet_step ((go_at_call 15; exact later_of hM5 _ (fun K hK hKN => Common_any r1 t.r _ K hK)))
          refine wpQuiet_nil (laterE hM5 ?_)
          intro w6 M6 b6 hM6 l6
          have k6 := k5.below b6 (by omega)
          have lo6 := lo5.trans (b6.mono (by omega))
          obtain ⟨a1, ha1⟩ : ∃ a1, a1 = min (j + 1) d := ⟨_, rfl⟩
          have HA1 := hid ha1
          have a1p : 1 ≤ a1 := by omega
          have a1s : a1 < 1000 := by omega
          clear ha1
          go_upto_region 24 with (first
            | (go_at_call 28; refine (Derive_ok (at_ := (a1 : Int)) (by rw [HA1.out]; exact der_ok F d1 d5 j3 r1) hM7 (F.tr.below hM lo7) (F.tk.below hM lo7)).mono ?_; rintro e w8 ⟨kk, rfl, hkk, b8, U8⟩; obtain ⟨M8, hM8⟩ := sz_some w8; have l8 := below_sz b8 hM7 hM8; have k8 := k7.below b8 (by omega); have lo8 := lo7.trans (b8.mono (by omega)))
            | ((with_reducible show wpList _ _ _ (_ :: _) _ _); first
              | (refine wpl_store rfl 26 (.tmp 15) (.tmp 92) rfl M2 6 (rgC (rCommon r1 t.r)) rfl rfl 26 _ k6 szRR (fun j _ => rgC_one _ j) ?_; intro w7 t7 k7; have hM7 := t7.sz hM6; have lo7 := t7.below lo6 (by omega); try simp only [pA])
              | (refine wpl_run rfl (.int .i64 ((j + 1 : Nat) : Int)) _ (run_inc (x := .tmp 96) rfl rfl rfl rfl (by omega) _) ?_; try simp only [pA])
              | (refine wpl_min rfl (.tmp 97) (.tmp 98) 3 rfl (j + 1) d a1 rfl rfl HA1 ?_; try simp only [pA])
              | (refine wpl_load rfl 26 (.tmp 15) rfl M2 rfl 26 6 _ k7 _ u1 u2 szRR ?_; try simp only [pA]))
            | fail)
          clear k7 t7 k6 b6 hM6 lo6 lo7 hM7 b8 HR5 U5 k5 lo5 hM5 HF5
          obtain ⟨a2, ha2⟩ : ∃ a2, a1 - 1 = a2 := ⟨_, rfl⟩
          have HA2 := hid ha2
          clear ha2
          go_wp2_with (first
            | (go_at_call 28; refine (Derive_no (t := ⟨kk, (a1 : Int), rCommon r1 t.r⟩) (us := t :: us) (at_ := (a2 : Int)) (er := 1) (by rw [← HA2.out, HA1.out]; exact der_back d1 d5 j3 kk _ _) (by decide) hM8 (F.tr.below hM lo8) U8).mono ?_; rintro e w9 ⟨rfl, b9⟩; obtain ⟨M9, hM9⟩ := sz_some w9; have l9 := below_sz b9 hM8 hM9; have k9 := k8.below b9 (by omega); have lo9 := lo8.trans (b9.mono (by omega)); have U9 := U8.below hM8 b9)
            | ((with_reducible show wpList _ _ _ (_ :: _) _ _); first
              | (refine wpl_run rfl (.bool false) _ (run_neqI (x := .tmp 104) rfl rfl rfl (by decide) _) ?_; try simp only [pA])
              | (refine wpl_run rfl (.int .i64 ((j + 1 : Nat) : Int)) _ (run_inc (x := .tmp 109) rfl rfl rfl rfl (by omega) _) ?_; try simp only [pA])
              | (refine wpl_min rfl (.tmp 110) (.tmp 111) 3 rfl (j + 1) d a1 rfl rfl HA1 ?_; try simp only [pA])
              | (refine wpl_run rfl (.int .i64 (a2 : Int)) _ (run_sub1 rfl rfl rfl HA2.out a1p (by omega) _) ?_; try simp only [pA])
              | (refine wpl_load rfl 26 (.tmp 15) rfl M2 rfl 26 6 _ k8 _ u1 u2 szRR ?_; try simp only [pA])
              | (refine wpl_load rfl 26 (.tmp 15) rfl M2 rfl 26 6 _ k9 _ u1 u2 szRR ?_; try simp only [pA])
              | (refine wpl_run rfl (.bool false) _ (run_neqI (x := .tmp 118) rfl rfl rfl (by decide) _) ?_; try simp only [pA])
              | (refine wpl_bsR rfl (.tmp 122) rfl (rCommon r1 t.r) rfl M9 hM9 ?_; intro w10 hM10 b10 k10; have lo10 := lo9.trans (b10.mono (by omega)); try simp only [pA])
              | (refine wpl_appK rfl (.tmp 121) (.tmp 123) 85 rfl 26 6 (by omega) undRgs kRg p (j + 1) cap rfl (fun k => rgC (R (k / 6)) (k % 6)) (F.below hM lo10).own (some ⟨M9, 0, none⟩) 1 1 rfl (rgC (rCommon r1 t.r)) k10.cells (fun j _ => rgC_one _ j) (by omega) ?_; intro p2 cap2 w11 o11 g11 e11 n11; try simp only [pA])
              | (refine wpl_run rfl (.int .i64 ((j + 1 : Nat) : Int)) _ (run_inc (x := .tmp 71) rfl rfl rfl rfl (by omega) _) ?_; try simp only [pA]))
            | fail)
          have hMk : M ≤ kk := by omega
          have F2 := F.next hM lo10 hMk (by rw [HA1.out] at U9; exact (U9.below hM9 b10)) d1 d5 j3 o11 g11 e11 HK.out (fun g h0 hg e => by have := HQ.out g hg h0; have := F.pN g e.symm; omega)
          have HK2 : Hid (∀ u : Tk, u ∈ (⟨kk, ((min (j + 1) d : Nat) : Int), rCommon r1 t.r⟩ : Tk) :: t :: us → some u.b ≠ blk p2) := hid (fun u hu e => by
            have h9 := U9.lt
            have e9 : w9.heap.size = M9 := hM9
            have e10 : w10.heap.size = M9 + 1 := hM10
            have hu9 : u.b < M9 := by
              rcases List.mem_cons.1 hu with rfl | hu
              · have := h9 ⟨kk, (a1 : Int), rCommon r1 t.r⟩ (by simp); simp only at this ⊢; omega
              · have := h9 u (List.mem_cons_of_mem _ hu); omega
            rcases e11 with e11 | e11
            · rcases List.mem_cons.1 hu with rfl | hu
              · have := F.own.lt kk (by rw [← e11]; exact e.symm)
                have eM : wr.heap.size = M := hM
                omega
              · exact HK.out u hu (by rw [← e11]; exact e)
            · rw [e11] at e; injection e with e; omega)
          refine ⟨?_, ?_⟩
          · exact ⟨j + 1, ⟨kk, ((min (j + 1) d : Nat) : Int), rCommon r1 t.r⟩, t :: us, _, p2, cap2, by omega, rfl, rfl, rfl, F2, HK2, HQ⟩
          · simp [intOf]; omega
        · obtain rfl : j = m3 := by omega
          have i1 : n = j ∨ (j < n ∧ j = 3) := by have := Hm3.out; omega
          go_upto_region 17 with fail
          go_cut [70] (fun v wx => v = (Value.bool false) ∧ wx = wr)
          case first =>
            rcases i1 with i1 | ⟨i1, i2⟩
            · have E66 := hid (show decide ((j : Int) < (n : Int)) = false from decide_eq_false (by omega))
              clear i1
              go_wp2_with (first
                | ((with_reducible show wpList _ _ _ (_ :: _) _ _); first
                  | go_guarded
                  | (refine wpl_run rfl (.int .i64 (n : Int)) _ (run_lenL rfl undTxs rfl _) ?_; try simp only [pA])
                  | (refine wpl_run rfl (.bool false) _ (run_lssK (x := .tmp 63) rfl rfl rfl E66.out _) ?_; try simp only [pA]))
                | fail)
              go_meet
              exact ⟨rfl, rfl⟩
            · have E66 := hid (show decide ((j : Int) < (n : Int)) = true from decide_eq_true (by omega))
              have E69 := hid (show decide ((j : Int) < 3) = false from decide_eq_false (by omega))
              clear i1 i2
              go_wp2_with (first
                | ((with_reducible show wpList _ _ _ (_ :: _) _ _); first
                  | (refine wpl_run rfl (.int .i64 (n : Int)) _ (run_lenL rfl undTxs rfl _) ?_; try simp only [pA])
                  | (refine wpl_run rfl (.bool true) _ (run_lssK (x := .tmp 63) rfl rfl rfl E66.out _) ?_; try simp only [pA])
                  | (refine wpl_want (by rfl) ?_; refine wpl_run rfl (.bool false) _ (run_lssK (x := .tmp 68) rfl rfl rfl E69.out _) ?_; try simp only [pA]))
                | fail)
              go_meet
              exact ⟨rfl, rfl⟩
          obtain ⟨rfl, ewc⟩ := hcut
          subst ewc
          obtain ⟨wK, rfl⟩ : ∃ x, x = wc := ⟨_, rfl⟩
          clear i1 h1 HQ
          have HC := Chain_any (t :: us) (by simp) (by simp only [List.length_cons, F.ln]; omega) wK M hM F.tk
          have hPt : ptrOf (t :: us) = .pointer (some ⟨t.b, 0, none⟩) := rfl
          rw [hPt] at HC
          rw [show (t :: us).length = j + 1 by simp [F.ln]] at HC
          have HSn := fun w K hK hT hU => Sound_any N (d + 1) (lin d) (t :: us) (by simp) (by simp only [List.length_cons, F.ln]; omega) w K hK hT hU
          rw [hPt, F.sd] at HSn
          clear hPt
          go_wp2_with (first
            | (go_at_call 31; refine (HC).mono ?_; rintro e w2 ⟨g, cg, rfl, hg, oC, b2⟩; obtain ⟨M2, hM2⟩ := sz_some w2; have l2 := below_sz b2 hM hM2)
            | (go_at_call 32; refine (HSn _ M2 hM2 (F.tr.below hM b2) (F.tk.below hM b2)).mono ?_; rintro e w3 ⟨rfl, b3⟩; obtain ⟨M3, hM3⟩ := sz_some w3; have l3 := below_sz b3 hM2 hM3; have lo3 := b2.trans (b3.mono l2); have oC3 := oC.below b3 (by have e : w2.heap.size = M2 := hM2; omega))
            | ((with_reducible show wpList _ _ _ (_ :: _) _ _); first
              | (refine wpl_run rfl (.int .i64 ((j + 1 : Nat) : Int)) _ (run_lenL (x := .tmp 127) rfl undTks rfl _) ?_; try simp only [pA])
              | (refine wpl_run rfl (.int .i64 ((j + 1 : Nat) : Int)) _ (run_lenL (x := .tmp 129) rfl undRgs rfl _) ?_; try simp only [pA])
              | (refine wpl_run rfl (.bool false) _ (run_neqI (x := .tmp 128) rfl rfl rfl (by simp) _) ?_; try simp only [pA])
              | (refine wpl_want (by rfl) ?_; refine wpl_run rfl (.bool false) _ (run_notB (x := .tmp 135) rfl rfl rfl _) ?_; try simp only [pA]))
            | fail)
          have F3 := F.below hM lo3
          clear F HC HSn b2 b3 oC hM2 hM
          go_loopw [22] (fun x wr => ∃ k : Nat, x = .int .i64 (k : Int) ∧ k ≤ j + 1 ∧ Below M3 w3 wr) (fun x _ => j + 1 - (intOf x).toNat)
          case atStart => exact ⟨0, rfl, by omega, Below.refl _ _⟩
          case round =>
            obtain ⟨k, rfl, hk, lk⟩ := hrel
            obtain ⟨M4, hM4⟩ := sz_some wr
            have l4 := below_sz lk hM3 hM4
            have F4 := F3.below hM3 lk
            have oC4 := oC3.below lk (by have e : w3.heap.size = M3 := hM3; omega)
            by_cases h1 : k < j + 1
            · have E141 := hid (show decide ((k : Int) < ((j + 1 : Nat) : Int)) = true from decide_eq_true (by omega))
              obtain ⟨t2, et2, _, er2⟩ := F4.mt.at_ k (by simp only [List.length_cons, F4.ln]; omega)
              have ln1 : (t :: us).length = j + 1 := by simp [F4.ln]
              rw [ln1] at et2
              have hU2 : Tks wr (t2 :: (t :: us).drop (j + 1 - k)) := by rw [← et2]; exact F4.tk.drop _
              have HR2 := hid hU2.rights
              have HR1 := hid F4.tk.rights
              have hC1 : wr.cell? ⟨g, k, none⟩ = some (.pointer (some ⟨t2.b, 0, none⟩)) := by
                obtain ⟨g2, e, hc⟩ := oC4.cell (by omega)
                obtain rfl : g = g2 := by injection e with e; injection e
                have := hc k h1
                rw [Nat.zero_add] at this
                rw [this, blkAt_drop et2]; rfl
              obtain ⟨gp, ep, hcp⟩ := F4.own.cell (by omega)
              have HCP : ∀ i, i < 6 → wr.cell? ⟨gp, k * 6 + i, none⟩ = some (rgC t2.r i) := fun i hi => by
                have := hcp (k * 6 + i) (by omega)
                rw [Nat.zero_add] at this
                rw [this, show (k * 6 + i) / 6 = k by omega, show (k * 6 + i) % 6 = i by omega, er2]
              have EP := hid ep
              have HC1 := hid hC1
              have HCPh := hid HCP
              have hkj := hid h1
              have ENE : (t2.r.beq t2.r) = true := (Rg.beq_iff t2.r t2.r).2 rfl
              have EN := hid ENE
              have EW : rWithin t.r t2.r = true := by
                have h9 := lastW F4.mt F4.sd k (by rw [ln1]; exact h1)
                rw [ln1, show j + 1 - 1 = j by omega] at h9
                rw [show t.r = R j by rw [F4.mt.2.1, F4.ln], er2]
                exact h9
              have HW := fun w N hN => Within_any t.r t2.r w N hN
              rw [EW] at HW
              clear hC1 HCP ENE EW et2 er2 hU2 hcp ep oC4
              go_upto_region 37 with (first
                | ((with_reducible show wpList _ _ _ (_ :: _) _ _); first
                  | (refine wpl_run rfl (.bool true) _ (run_lssK (x := .tmp 138) rfl rfl rfl E141.out _) ?_; try simp only [pA])
                  | (refine wpl_run rfl (.int .i64 ((j + 1 : Nat) : Int)) _ (run_lenL (x := .tmp 139) rfl undTks rfl _) ?_; try simp only [pA]))
                | fail)
              refine wp_region_later M4 (by kernel_rfl) (by kernel_rfl) ?_
              try simp only [Act.put, List.setIfInBounds_toArray, List.set_cons_succ, List.set_cons_zero]
              go_big_quiet_step (fail)
              go_big_quiet_step (fail)
              refine later_val (v := .pointer (some ⟨g, k, none⟩)) (fun q => run_iaL (x := .tmp 144) (y := .tmp 145) rfl rfl rfl rfl undTks szTp hkj.out _) (by rfl) ?_; try simp only [pA]
              refine later_c1 hM4 55 (.tmp 146) rfl rfl undTp rfl HC1.out (by rfl) ?_; try simp only [pA]
              go_big_quiet_step (fail)
              go_big_quiet_step (fail)
              refine later_val (v := .agg (cellsOf (rgC t2.r) 6)) (fun q => run_ldc 26 (.tmp 149) rfl t2.b 1 rfl 6 (rgC t2.r) (fun j hj => Later.cell hM4 (HR2.out j hj) q) _ u1 u2 szRR) (by rfl) ?_; try simp only [pA]
              go_big_quiet_step (fail)
              go_big_quiet_step (fail)
              refine later_val (v := .pointer (some ⟨gp, k * 6, none⟩)) (fun q => run_iaK6 (x := .tmp 151) (y := .tmp 152) rfl rfl EP.out rfl undRgs szRR hkj.out _) (by rfl) ?_; try simp only [pA]
              refine later_val (v := .agg (cellsOf (rgC t2.r) 6)) (fun q => run_ldc 26 (.tmp 153) rfl gp (k * 6) rfl 6 (rgC t2.r) (fun j hj => Later.cell hM4 (HCPh.out j hj) q) _ u1 u2 szRR) (by rfl) ?_; try simp only [pA]
              refine later_val (v := .bool false) (fun q => run_neq_op 26 26 (.tmp 150) (.tmp 154) rfl _ _ rfl rfl true (by kernel_rfl) (by rw [run_eq_rr, EN.out])) (by rfl) ?_; try simp only [pA]
              go_big_quiet_step (fail)
              go_big_quiet_step (fail)
              go_big_quiet_step (fail)
              go_big_quiet_step (fail)
              refine later_val (v := .agg (cellsOf (rgC t.r) 6)) (fun q => run_ldc 26 (.tmp 159) rfl t.b 1 rfl 6 (rgC t.r) (fun j hj => Later.cell hM4 (HR1.out j hj) q) _ u1 u2 szRR) (by rfl) ?_; try simp only [pA]
              go_big_quiet_step (fail)
              go_big_quiet_step (fail)
              refine later_val (v := .pointer (some ⟨gp, k * 6, none⟩)) (fun q => run_iaK6 (x := .tmp 161) (y := .tmp 162) rfl rfl EP.out rfl undRgs szRR hkj.out _) (by rfl) ?_; try simp only [pA]
              refine later_val (v := .agg (cellsOf (rgC t2.r) 6)) (fun q => run_ldc 26 (.tmp 163) rfl gp (k * 6) rfl 6 (rgC t2.r) (fun j hj => Later.cell hM4 (HCPh.out j hj) q) _ u1 u2 szRR) (by rfl) ?_; try simp only [pA]
              go_big_quiet_step ((go_at_call 17; exact later_of hM4 _ (fun K hK hKN => HW _ K hK)))
              refine later_val (v := .bool false) (fun q => run_notB (x := .tmp 165) (p := true) (r := false) rfl rfl rfl _) (by rfl) ?_; try simp only [pA]
              go_big_quiet_step (fail)
              refine wpQuiet_nil (laterE hM4 ?_)
              intro w5 M5 b5 hM5 l5
              go_wp2_with (first
                | ((with_reducible show wpList _ _ _ (_ :: _) _ _); first
                  | (refine wpl_run rfl (.int .i64 ((k + 1 : Nat) : Int)) _ (run_inc (x := .tmp 142) rfl rfl rfl rfl (by omega) _) ?_; try simp only [pA]))
                | fail)
              exact ⟨⟨k + 1, rfl, by omega, lk.trans (b5.mono l4)⟩, by simp [intOf]; omega⟩
            · have E141 := hid (show decide ((k : Int) < ((j + 1 : Nat) : Int)) = false from decide_eq_false (by omega))
              go_wp2_with (first
                | ((with_reducible show wpList _ _ _ (_ :: _) _ _); first
                  | (refine wpl_run rfl (.bool false) _ (run_lssK (x := .tmp 138) rfl rfl rfl E141.out _) ?_; try simp only [pA])
                  | (refine wpl_run rfl (.int .i64 ((j + 1 : Nat) : Int)) _ (run_lenL (x := .tmp 139) rfl undTks rfl _) ?_; try simp only [pA]))
                | fail)
              go_ret
              exact ⟨rfl, F4.lo⟩
end Go.Proofs.YtilhkgbninbkkaaDoor
