/- BmapFlags: the walk. -/
import Derived.Test.YteicoheihalnnabBf1
import Derived.Deep.LoopGhost
import Derived.Deep.CutBlock
import Derived.Deep.DeepCutAuto
namespace Go.Proofs.Yteicoheihalnnab
open Go Go.RowKit
theorem zSix : (Try.prog.info? 30).map (fun i => (i.zero, i.size)) = some (some (.agg (cellsOf (fun _ => .bool false) 6)), 6) := by kernel_rfl
theorem szBool : (Try.prog.info? 4).map (·.size) = some 1 := by kernel_rfl
set_option maxRecDepth 100000 in
set_option maxHeartbeats 4000000 in
theorem flags_any (q0 : Option Addr) (l0 c0 : Nat) (D0 : Nat → BitVec 8) (q1 : Option Addr) (l1 c1 : Nat) (D1 : Nat → BitVec 8) (w : World) (N : Nat) (hN : Sz w N) (h0 : l0 ≤ 9223372036854775807) (h1 : l1 ≤ 9223372036854775807)
    (hr : Ats w q0 l0 (fun j => By (D0 j))) (hf : Ats w q1 l1 (fun j => By (D1 j))) :
    Calls Try.prog 3 #[.slice q0 l0 c0, .slice q1 l1 c1] w fun e w' => e = .returned (.bool true) ∧ Below N w w' := by
  have hS : SpecOk 1 1 1 3 := ⟨⟨1, 16, .inr (.inl ⟨rfl, rfl, rfl⟩), by omega, by omega⟩, by omega, by omega, by omega, by omega⟩
  have HS := hid hS
  clear hS
  go_enter Try.func3, Try.ntmps3
  go_wp2_with (first
    | (go_at_call 4; refine (New_plain 1 1 1 3 HS.out (by decide) _ N hN).mono ?_; rintro e w1 ⟨⟨b, hb, rfl, A1⟩, hb1⟩; obtain ⟨M1, hM1⟩ := sz_some w1; have L1 := below_sz hb1 hN hM1)
    | (go_at_call 5; refine (maps_any _ M1 hM1).mono ?_; rintro e w2 ⟨rfl, hb2⟩; obtain ⟨M2, hM2⟩ := sz_some w2; have L2 := below_sz hb2 hM1 hM2)
    | (refine wpl_alloc rfl 30 rfl 6 _ zSix M2 hM2 ?_; intro w3 hM3 hb3 ht3)
    | fail)
  have hS0 : Fl w N M2 0 (fun _ => false) (fun _ => false) (mp0 1 1 1 3 b) w3 :=
    ⟨(A1.below hM1 hb2).below hM2 hb3, rfl, rfl, rfl, rfl, rfl, rfl, by omega, ht3,
      fun hF => by have := A1.lt hM1 _ hF; omega, fun k hF => by rcases hF with rfl | hF | ⟨i, hi, _⟩; exact hb; cases hF; exact absurd hi (Nat.not_lt_zero i), by omega,
      (hb1.trans (hb2.mono L1)).trans (hb3.mono (by omega)), fun c _ h => (by cases h), fun i hi => absurd hi (Nat.not_lt_zero i)⟩
  have H0 := hid hS0
  clear hS0 A1 ht3 hb3 hb2 hb1 HS hM1
  go_loopg [8, 9] 30 (fun g n i wr => ∃ (k nn : Nat) (th : Nat → Bool) (m : Mp), k ≤ 30 ∧ g = 30 - k ∧ i = .int .i64 k ∧ n = .int .i64 nn ∧ m.b = b ∧ Fl w N M2 nn th th m wr)
  case atStart => exact ⟨0, 0, _, _, by omega, rfl, rfl, rfl, rfl, H0.out⟩
  case round =>
    clear H0
    obtain ⟨k, nn, th, m, hk, rfl, rfl, rfl, hmb', F⟩ := hrel
    have hmb'' := hid hmb'
    clear hmb'
    obtain ⟨M, hM⟩ := sz_some wr
    have hNM := below_sz F.bel hN hM
    have nn3 := F.n3
    by_cases hlt : k < l0 ∧ k < 30
    · obtain ⟨hl0, hl30⟩ := hlt
      have i1 : (k : Int) < (l0 : Int) := by omega
      have i2 : (k : Int) < 30 := by omega
      obtain ⟨rb, ro, rfl, hrc⟩ := hr (by omega)
      have dr : wr.cell? ⟨rb, ro + k, none⟩ = some (.int .u8 (v8 (D0 k))) := (F.bel.cell (p := ⟨rb, ro + k, none⟩) (by have := World.block_lt_of_cell? w _ (hrc k hl0); have e : w.heap.size = N := hN; simp only at this ⊢; omega)).trans (hrc k hl0)
      go_upto_if 42 with (first
        | (refine wpl_rem8 rfl (.tmp 37) 6 rfl (D0 k) rfl (by omega) (by omega) ?_; intro c hc Hc)
        | fail)
      clear Hc dr hrc
      go_cut [11] (fun v wx => ∃ f : Nat, f ≤ 2 ∧ v = .int .u64 (f : Int) ∧ wx = wr)
      case first =>
        by_cases hl1 : k < l1
        · have i3 : (k : Int) < (l1 : Int) := by omega
          obtain ⟨fb, fo, rfl, hfc⟩ := hf (by omega)
          have df : wr.cell? ⟨fb, fo + k, none⟩ = some (.int .u8 (v8 (D1 k))) := (F.bel.cell (p := ⟨fb, fo + k, none⟩) (by have := World.block_lt_of_cell? w _ (hfc k hl1); have e : w.heap.size = N := hN; simp only at this ⊢; omega)).trans (hfc k hl1)
          clear hfc
          go_wp2_with (first
            | (refine wpl_rem8 rfl (.tmp 46) 3 rfl (D1 k) rfl (by omega) (by omega) ?_; intro f hf3 Hf; have hf3' : (f : Int) < 3 := by omega)
            | fail)
          go_meet
          exact ⟨f, by omega, rfl, rfl⟩
        · have i3 : ¬ ((k : Int) < (l1 : Int)) := by omega
          go_wp2_with fail
          go_meet
          exact ⟨0, by omega, rfl, rfl⟩
      case rest =>
        obtain ⟨f, hf2, rfl, rfl⟩ := hcut
        have hmb := hmb''.out
        have Hmb := hid hmb
        clear hmb
        have i4 : (c : Int) < 6 := by omega
        have k0 : (0 : Int) ≤ (k : Int) := by omega
        have n0 : (nn : Int) ≤ 3 := by omega
        by_cases hT : th c = true
        · have HT := hid hT
          have dth : wc.cell? ⟨M2, c, none⟩ = some (.bool true) := (F.t.cell hc).trans (by rw [hT])
          clear hT
          by_cases hf1 : f = 1
          · have tf : ((f : Int) == 1) = true := by rw [beq_iff_eq]; omega
            have tg : ((f : Int) == 2) = false := by rw [beq_eq_false_iff_ne]; omega
            have Hf := hid hf1
            clear hf1
            go_wp2_with (first
              | (refine wpl_bs1 rfl (.tmp 76) rfl (b8 c) (by_nat c (by omega)) M hM ?_; intro x1 hX1 hbx1 hv1)
              | (refine wpl_bs1 rfl (.tmp 79) rfl (b8 k) (by_nat k (by omega)) (M + 1) hX1 ?_; intro x2 hX2 hbx2 hv2; have F2 := (F.low hM hbx1 hNM).low hX1 hbx2 (by omega); have qa := (hv1.below hbx2 (by omega)).ats; have xa := hv2.ats)
              | (go_at_call 6; refine (Fl_keep w x2 N (M + 1 + 1) M2 nn th th m b Hmb.out F2 hX2 (by omega) c hc f 17 (.inl ⟨HT.out, Hf.out, rfl⟩) (some ⟨M, 0, none⟩) 1 qa (some ⟨M + 1, 0, none⟩) 1 (fun _ => b8 k) xa).mono ?_; rintro e x3 ⟨rfl, m3, hm3', F3⟩; have hm3 := hid hm3'; clear hm3' dth; have dth3 : x3.cell? ⟨M2, c, none⟩ = some (.bool true) := (F3.t.cell hc).trans (by rw [HT.out]))
              | (go_at_call 7; have U := Len_is m3 nn F3.n _ F3.at_; rw [hm3.out] at U; refine U.mono ?_; rintro e x5 ⟨rfl, rfl⟩)
              | fail)
            go_roundg (30 - (k + 1))
            case measure => omega
            case rel => exact ⟨k + 1, nn, th, m3, by omega, rfl, by go_num, rfl, hm3.out, F3⟩
          · have tf : ((f : Int) == 1) = false := by rw [beq_eq_false_iff_ne]; omega
            go_wp2_with (first
              | (refine wpl_bs1 rfl (.tmp 76) rfl (b8 c) (by_nat c (by omega)) M hM ?_; intro x1 hX1 hbx1 hv1)
              | (refine wpl_bs1 rfl (.tmp 79) rfl (b8 k) (by_nat k (by omega)) (M + 1) hX1 ?_; intro x2 hX2 hbx2 hv2; have F2 := (F.low hM hbx1 hNM).low hX1 hbx2 (by omega); have qa := (hv1.below hbx2 (by omega)).ats; have xa := hv2.ats)
              | (go_at_call 6; refine (Fl_keep w x2 N (M + 1 + 1) M2 nn th th m b Hmb.out F2 hX2 (by omega) c hc f 0 (.inr (.inl ⟨HT.out, hf1, hf2, rfl⟩)) (some ⟨M, 0, none⟩) 1 qa (some ⟨M + 1, 0, none⟩) 1 (fun _ => b8 k) xa).mono ?_; rintro e x3 ⟨rfl, m3, hm3', F3⟩; have hm3 := hid hm3'; clear hm3' dth; have dth3 : x3.cell? ⟨M2, c, none⟩ = some (.bool true) := (F3.t.cell hc).trans (by rw [HT.out]))
              | (go_at_call 7; have U := Len_is m3 nn F3.n _ F3.at_; rw [hm3.out] at U; refine U.mono ?_; rintro e x5 ⟨rfl, rfl⟩)
              | fail)
            go_roundg (30 - (k + 1))
            case measure => omega
            case rel => exact ⟨k + 1, nn, th, m3, by omega, rfl, by go_num, rfl, hm3.out, F3⟩
        · have hT : th c = false := by simpa using hT
          have HT := hid hT
          have dth : wc.cell? ⟨M2, c, none⟩ = some (.bool false) := (F.t.cell hc).trans (by rw [hT])
          clear hT
          by_cases hf1 : f = 2
          · have tf : ((f : Int) == 2) = true := by rw [beq_iff_eq]; omega
            have tg : ((f : Int) == 1) = false := by rw [beq_eq_false_iff_ne]; omega
            have Hf := hid hf1
            clear hf1
            go_wp2_with (first
              | (refine wpl_bs1 rfl (.tmp 76) rfl (b8 c) (by_nat c (by omega)) M hM ?_; intro x1 hX1 hbx1 hv1)
              | (refine wpl_bs1 rfl (.tmp 79) rfl (b8 k) (by_nat k (by omega)) (M + 1) hX1 ?_; intro x2 hX2 hbx2 hv2; have F2 := (F.low hM hbx1 hNM).low hX1 hbx2 (by omega); have qa := (hv1.below hbx2 (by omega)).ats; have xa := hv2.ats)
              | (go_at_call 6; refine (Fl_keep w x2 N (M + 1 + 1) M2 nn th th m b Hmb.out F2 hX2 (by omega) c hc f 2 (.inr (.inr (.inl ⟨HT.out, Hf.out, rfl⟩))) (some ⟨M, 0, none⟩) 1 qa (some ⟨M + 1, 0, none⟩) 1 (fun _ => b8 k) xa).mono ?_; rintro e x3 ⟨rfl, m3, hm3', F3⟩; have hm3 := hid hm3'; clear hm3' dth; have dth3 : x3.cell? ⟨M2, c, none⟩ = some (.bool false) := (F3.t.cell hc).trans (by rw [HT.out]))
              | (go_at_call 7; have U := Len_is m3 nn F3.n _ F3.at_; rw [hm3.out] at U; refine U.mono ?_; rintro e x5 ⟨rfl, rfl⟩)
              | fail)
            go_roundg (30 - (k + 1))
            case measure => omega
            case rel => exact ⟨k + 1, nn, th, m3, by omega, rfl, by go_num, rfl, hm3.out, F3⟩
          · have tf : ((f : Int) == 2) = false := by rw [beq_eq_false_iff_ne]; omega
            by_cases hn : nn = 3
            · have tn : ((nn : Int) == 3) = true := by rw [beq_iff_eq]; omega
              have Hn := hid hn
              clear hn
              go_wp2_with (first
                | (refine wpl_bs1 rfl (.tmp 76) rfl (b8 c) (by_nat c (by omega)) M hM ?_; intro x1 hX1 hbx1 hv1)
                | (refine wpl_bs1 rfl (.tmp 79) rfl (b8 k) (by_nat k (by omega)) (M + 1) hX1 ?_; intro x2 hX2 hbx2 hv2; have F2 := (F.low hM hbx1 hNM).low hX1 hbx2 (by omega); have qa := (hv1.below hbx2 (by omega)).ats; have xa := hv2.ats)
                | (go_at_call 6; refine (Fl_keep w x2 N (M + 1 + 1) M2 nn th th m b Hmb.out F2 hX2 (by omega) c hc f 7 (.inr (.inr (.inr ⟨HT.out, by omega, Hn.out, rfl⟩))) (some ⟨M, 0, none⟩) 1 qa (some ⟨M + 1, 0, none⟩) 1 (fun _ => b8 k) xa).mono ?_; rintro e x3 ⟨rfl, m3, hm3', F3⟩; have hm3 := hid hm3'; clear hm3' dth; have dth3 : x3.cell? ⟨M2, c, none⟩ = some (.bool false) := (F3.t.cell hc).trans (by rw [HT.out]))
                | (go_at_call 7; have U := Len_is m3 nn F3.n _ F3.at_; rw [hm3.out] at U; refine U.mono ?_; rintro e x5 ⟨rfl, rfl⟩)
                | fail)
              go_roundg (30 - (k + 1))
              case measure => omega
              case rel => exact ⟨k + 1, nn, th, m3, by omega, rfl, by go_num, rfl, hm3.out, F3⟩
            · have tn : ((nn : Int) == 3) = false := by rw [beq_eq_false_iff_ne]; omega
              have hn3 : nn < 3 := by omega
              go_wp2_with (first
                | (refine wpl_bs1 rfl (.tmp 76) rfl (b8 c) (by_nat c (by omega)) M hM ?_; intro x1 hX1 hbx1 hv1)
                | (refine wpl_bs1 rfl (.tmp 79) rfl (b8 k) (by_nat k (by omega)) (M + 1) hX1 ?_; intro x2 hX2 hbx2 hv2; have F2 := (F.low hM hbx1 hNM).low hX1 hbx2 (by omega); have qa := (hv1.below hbx2 (by omega)).ats; have xa := hv2.ats)
                | (go_at_call 6; refine (Fl_new w x2 N (M + 1 + 1) M2 nn th th m b Hmb.out F2 hX2 (by omega) c hc f (by omega) HT.out hn3 (some ⟨M, 0, none⟩) 1 qa (some ⟨M + 1, 0, none⟩) 1 (fun _ => b8 k) xa).mono ?_; rintro e x3 ⟨rfl, m3, hm3', F3⟩; have hm3 := hid hm3'; clear hm3' dth; have dth3 : x3.cell? ⟨M2, c, none⟩ = some (.bool false) := (F3.t.cell hc).trans (by rw [HT.out]))
                | (refine wpl_set rfl 4 (.tmp 94) (.const (.bool true)) rfl M2 c rfl (.bool true) rfl szBool rfl rfl 30 6 _ F3.t hc ?_; intro x4 t4 h4; have F4 := F3.mark c t4 h4)
                | (go_at_call 7; have U := Len_is m3 (nn + 1) F4.n _ F4.at_; rw [hm3.out] at U; refine U.mono ?_; rintro e x5 ⟨rfl, rfl⟩)
                | fail)
              go_roundg (30 - (k + 1))
              case measure => omega
              case rel => exact ⟨k + 1, (nn + 1), (addS th c), m3, by omega, rfl, by go_num, by go_num, hm3.out, F4⟩
    · have t1 : ¬ ((k : Int) < (l0 : Int)) ∨ ((k : Int) < (l0 : Int) ∧ ¬ ((k : Int) < 30)) := by omega
      have bel := F.bel
      clear F
      rcases t1 with t1 | ⟨t1, t2⟩
      · go_wp2_with fail
        go_ret
        exact ⟨rfl, bel⟩
      · go_wp2_with fail
        go_ret
        exact ⟨rfl, bel⟩
end Go.Proofs.Yteicoheihalnnab
