/- BmapPrefix: the walk. -/
import Derived.Test.YteicoheihalnnaaBp5
import Derived.Test.YteicoheihalnnaaAts2
import Derived.BigQuiet
import Derived.Deep.LoopGhost
import Derived.Deep.CutBlock
import Derived.Deep.DeepCutAuto
namespace Go.Proofs.Yteicoheihalnnaa
open Go Go.RowKit
theorem zNine : (Try.prog.info? 44).map (fun i => (i.zero, i.size)) = some (some (.agg (cellsOf (fun _ => .bool false) 9)), 9) := by kernel_rfl
theorem szBool : (Try.prog.info? 4).map (·.size) = some 1 := by kernel_rfl
set_option maxRecDepth 100000 in
set_option maxHeartbeats 4000000 in
theorem prefix_any (q0 : Option Addr) (l0 c0 : Nat) (Z : Nat → Int) (word ask : BitVec 8) (w : World) (N : Nat) (hN : Sz w N) (h0 : l0 ≤ 9223372036854775807) (hr : Ats w q0 l0 (fun j => .int .i64 (Z j))) :
    Calls Try.prog 5 #[.slice q0 l0 c0, .int .u8 (v8 word), .int .u8 (v8 ask)] w fun e w' => e = .returned (.bool true) ∧ Below N w w' := by
  have hS : SpecOk 5 5 1 9 := ⟨⟨5, 16, .inr (.inr (.inr (.inr (.inr ⟨rfl, rfl, rfl⟩)))), by omega, by omega⟩, by omega, by omega, by omega, by omega⟩
  have HS := hid hS
  clear hS
  go_enter Try.func5, Try.ntmps5
  go_wp2_with (first
    | (go_at_call 8; refine (New_plain 5 5 1 9 HS.out (by decide) _ N hN).mono ?_; rintro e w1 ⟨⟨b, hb, rfl, A1⟩, hb1⟩; obtain ⟨M1, hM1⟩ := sz_some w1; have L1 := below_sz hb1 hN hM1)
    | (go_at_call 9; refine (maps_any _ M1 hM1).mono ?_; rintro e w2 ⟨rfl, hb2⟩; obtain ⟨M2, hM2⟩ := sz_some w2; have L2 := below_sz hb2 hM1 hM2)
    | (refine wpl_alloc rfl 44 rfl 9 _ zNine M2 hM2 ?_; intro w3 hM3 hb3 ht3)
    | fail)
  have hS0 : Px w N M2 0 word (fun _ => false) (fun _ => false) (mp0 5 5 1 9 b) w3 :=
    ⟨(A1.below hM1 hb2).below hM2 hb3, rfl, rfl, rfl, rfl, rfl, rfl, ht3,
      fun hF => by have := A1.lt hM1 _ hF; omega, fun k hF => by rcases hF with rfl | hF | ⟨i, hi, _⟩; exact hb; cases hF; exact absurd hi (Nat.not_lt_zero i), by omega,
      (hb1.trans (hb2.mono L1)).trans (hb3.mono (by omega)), fun c _ h => (by cases h), fun i hi => absurd hi (Nat.not_lt_zero i)⟩
  have H0 := hid hS0
  clear hS0 A1 ht3 hb3 hb2 hb1 HS hM1
  go_loopg [10] 9 (fun g i wr => ∃ (k nn : Nat) (th : Nat → Bool) (m : Mp), k ≤ 9 ∧ g = 9 - k ∧ i = .int .i64 k ∧ nn ≤ k ∧ m.b = b ∧ Px w N M2 nn word th th m wr)
  case atStart => exact ⟨0, 0, _, _, by omega, rfl, rfl, by omega, rfl, H0.out⟩
  case round =>
    clear H0
    obtain ⟨k, nn, th, m, hk, rfl, rfl, hnk, hmb', F⟩ := hrel
    have hmb := hid hmb'
    clear hmb'
    obtain ⟨M, hM⟩ := sz_some wr
    have hNM := below_sz F.bel hN hM
    have k0 : (0 : Int) ≤ (k : Int) := by omega
    have k9 : (k : Int) ≤ 9 := by omega
    by_cases hlt : k < l0 ∧ k < 9
    · obtain ⟨hl0, hl9⟩ := hlt
      have i1 : (k : Int) < (l0 : Int) := by omega
      have i2 : (k : Int) < 9 := by omega
      obtain ⟨rb, ro, rfl, hrc⟩ := hr (by omega)
      have dr : wr.cell? ⟨rb, ro + k, none⟩ = some (.int .i64 (Z k)) := (F.bel.cell (p := ⟨rb, ro + k, none⟩) (by have := World.block_lt_of_cell? w _ (hrc k hl0); have e : w.heap.size = N := hN; simp only at this ⊢; omega)).trans (hrc k hl0)
      clear hrc
      generalize Z k = z at dr
      have uz := u64_pos z
      go_wp2_with (first
        | (refine wpl_remU rfl (.tmp 43) (.const (.int .u64 9)) rfl (IntKind.u64.wrap z) 9 rfl rfl uz (by omega) (by omega) ?_; intro c hc Hc; have c9 : (c : Int) < 9 := (by omega); have c0' : (0 : Int) ≤ (c : Int) := (by omega); have HC := hid (by_nat c (by omega)))
        | (refine wpl_bs5 rfl (.tmp 47) (.tmp 48) rfl c word HC.out rfl M hM ?_; intro x1 hX1 hb1 q1)
        | (refine wpl_bs1 rfl (.tmp 50) rfl (b8 c) HC.out (M + 1) hX1 ?_; intro x2 hX2 hb2 v2; have F2 := (F.low hM hb1 hNM).low hX1 hb2 (by omega); have q2 := (q1.below hb2 (by omega)).ats)
        | (go_at_call 10; ((with_reducible refine (Px_upd w x2 N (M + 1 + 1) M2 nn word th th m b hmb.out F2 hX2 (by omega) c hc (by omega) _ _ q2 _ _ v2.ats).mono ?_)); rintro e x3 ⟨rfl, m3, nn3, hnn3, hm3', F3⟩; have hm3 := hid hm3'; clear hm3')
        | (refine wpl_set rfl 4 (.tmp 55) (.const (.bool true)) rfl M2 c rfl (.bool true) rfl szBool rfl rfl 44 9 _ F3.t hc ?_; intro x4 t4 h4; have F4 := F3.mark c t4 h4)
        | fail)
      go_roundg (9 - (k + 1))
      case measure => omega
      case rel => exact ⟨k + 1, nn3, addP th c, m3, by omega, rfl, by go_num, by omega, hm3.out, F4⟩
    · have hcs : ¬ k < l0 ∨ (k < l0 ∧ ¬ k < 9) := by omega
      rcases hcs with hcs | ⟨hcs, hcs2⟩
      · have i1 : ¬ ((k : Int) < (l0 : Int)) := by omega
        go_wp2_with fail
        go_loopg [12, 13] 9 (fun g wa jv w2 => ∃ (j : Nat) (o : Option Nat), j ≤ 9 ∧ g = 9 - j ∧ jv = .int .i64 j ∧ wa = wv o ∧ Wn (fun n => th n = true ∧ msk n word = msk n ask) j o ∧ Px w N M2 nn word th th m w2)
        case atStart => exact ⟨0, none, by omega, rfl, rfl, rfl, fun n hn => by omega, F⟩
        case round =>
          clear F hM hNM
          obtain ⟨j, o, hj, rfl, rfl, rfl, hw, F⟩ := hrel
          have Hw := hid hw
          clear hw
          have j0 : (0 : Int) ≤ (j : Int) := by omega
          by_cases hj8 : j ≤ 8
          · have j8 : (j : Int) ≤ 8 := by omega
            have j9 : (j : Int) < 9 := by omega
            cases ht : th j with
            | false =>
              have d : wr.cell? ⟨M2, j, none⟩ = some (.bool false) := (F.t.cell (by omega)).trans (by rw [ht])
              have Hn : ¬ (th j = true ∧ msk j word = msk j ask) := fun h => by rw [ht] at h; cases h.1
              have Ht := hid Hn
              clear ht Hn
              go_upto_region 16 with fail
              go_quiet (fail)
              go_wp2_with fail
              go_roundg (9 - (j + 1))
              case measure => omega
              case rel => exact ⟨j + 1, o, by omega, rfl, by go_num, rfl, Wn.no Ht.out Hw.out, F.drewN _⟩
            | true =>
              have d : wr.cell? ⟨M2, j, none⟩ = some (.bool true) := (F.t.cell (by omega)).trans (by rw [ht])
              have Ht := hid ht
              clear ht
              by_cases he : msk j word = msk j ask
              · have tq : (v8 word / 2 ^ (8 - j) == v8 ask / 2 ^ (8 - j)) = true := beq_iff_eq.2 ((msk_eq j hj8 word ask).2 he)
                have He := hid he
                clear he
                go_upto_region 16 with fail
                go_quiet (fail)
                try rw [tq]
                go_wp2_with fail
                go_roundg (9 - (j + 1))
                case measure => omega
                case rel => exact ⟨j + 1, some j, by omega, rfl, by go_num, rfl, Wn.yes ⟨Ht.out, He.out⟩, F.drewN _⟩
              · have tq : (v8 word / 2 ^ (8 - j) == v8 ask / 2 ^ (8 - j)) = false := beq_eq_false_iff_ne.2 (fun h => he ((msk_eq j hj8 word ask).1 h))
                go_upto_region 16 with fail
                go_quiet (fail)
                try rw [tq]
                go_wp2_with fail
                go_roundg (9 - (j + 1))
                case measure => omega
                case rel => exact ⟨j + 1, o, by omega, rfl, by go_num, rfl, Wn.no (fun h => he h.2) Hw.out, F.drewN _⟩
          · have j8 : ¬ ((j : Int) ≤ 8) := by omega
            have hj9 : j = 9 := by omega
            have Hj9 := hid hj9
            clear hj9
            have hfn := F.n
            obtain ⟨M, hM⟩ := sz_some wr
            have hNM := below_sz F.bel hN hM
            cases o with
            | none =>
              rw [show wv none = .int .i64 (-1) from rfl]
              have hl : ∀ c, c ≤ 8 → KNo m (key5 c (msk c ask)) := fun c hc => F.kno (by omega) _ (by
                cases ht : th c with
                | false => exact .inl rfl
                | true => exact .inr (fun e => Hw.out c (by have := Hj9.out; omega) ⟨ht, e.symm⟩))
              go_wp2_with (first
                | (refine wpl_bs5 rfl (.const (.int .u8 8)) (.tmp 77) rfl 8 ask rfl rfl M hM ?_; intro x1 hX1 hb1 q1; have F1 := F.low hM hb1 hNM)
                | (go_at_call 12; have U := Look_pno m F1.ty F1.key ask hl (by omega) (some ⟨M, 0, none⟩) 5 x1 (M + 1) hX1 F1.at_ q1.ats; rw [hmb.out] at U; ((with_reducible refine U.mono ?_)); rintro e x2 ⟨rfl, hb2⟩; obtain ⟨X2, hX2⟩ := sz_some x2; have l2 := below_sz hb2 hX1 hX2; have F2 := F1.low hX1 hb2 (by omega))
                | (refine wpl_bs5 rfl (.const (.int .u8 9)) (.tmp 84) rfl 9 ask rfl rfl X2 hX2 ?_; intro x3 hX3 hb3 q3; have F3 := F2.low hX2 hb3 (by omega))
                | (go_at_call 12; have U := Look_pbad m F3.ty F3.key ask (some ⟨X2, 0, none⟩) 5 x3 F3.at_ q3.ats; rw [hmb.out] at U; ((with_reducible refine U.mono ?_)); rintro e x4 ⟨rfl, e1⟩; have e2 := e1.symm; subst e2)
                | fail)
              go_ret
              exact ⟨rfl, F3.bel⟩
            | some n =>
              rw [show wv (some n) = .int .i64 (n : Int) from rfl]
              have hn9 : n < 9 := by have := Hw.out.1; omega
              have n0 : (0 : Int) ≤ (n : Int) := by omega
              have n9 : (n : Int) < 9 := by omega
              obtain ⟨kk, hkk⟩ := F.kyes hn9 Hw.out.2.1.1
              have hval := hid (F.kval hn9 hkk)
              rw [Hw.out.2.1.2] at hkk
              have hl : ∀ c, n < c → c ≤ 8 → KNo m (key5 c (msk c ask)) := fun c hnc hc => F.kno (by omega) _ (by
                cases ht : th c with
                | false => exact .inl rfl
                | true => exact .inr (fun e => Hw.out.2.2 c hnc (by have := Hj9.out; omega) ⟨ht, e.symm⟩))
              have Hkk := hid hkk
              have Hl := hid hl
              clear hkk hl
              go_wp2_with (first
                | (refine wpl_bs5 rfl (.const (.int .u8 8)) (.tmp 77) rfl 8 ask rfl rfl M hM ?_; intro x1 hX1 hb1 q1; have F1 := F.low hM hb1 hNM)
                | (go_at_call 12; have U := Look_p m F1.ty F1.key F1.val n kk (by omega) ask Hkk.out Hl.out (by omega) (some ⟨M, 0, none⟩) 5 x1 (M + 1) hX1 F1.at_ q1.ats; rw [hmb.out] at U; ((with_reducible refine U.mono ?_)); rintro e x2 ⟨⟨K1, hK1, rfl, v3⟩, hb2⟩; obtain ⟨X2, hX2⟩ := sz_some x2; have l2 := below_sz hb2 hX1 hX2; have F2 := F1.low hX1 hb2 (by omega))
                | (refine wpl_bs5 rfl (.const (.int .u8 9)) (.tmp 84) rfl 9 ask rfl rfl X2 hX2 ?_; intro x3 hX3 hb3 q3; have F3 := F2.low hX2 hb3 (by omega); have d3 : x3.cell? ⟨K1, 0, none⟩ = some (.int .u8 (n : Int)) := ((v3.below hb3 (v3.ltN hX2)).cell (j := 0) (by omega)).trans (by rw [hval.out, by_nat n (by omega)]))
                | (go_at_call 12; have U := Look_pbad m F3.ty F3.key ask (some ⟨X2, 0, none⟩) 5 x3 F3.at_ q3.ats; rw [hmb.out] at U; ((with_reducible refine U.mono ?_)); rintro e x4 ⟨rfl, e1⟩; have e2 := e1.symm; subst e2)
                | fail)
              go_ret
              exact ⟨rfl, F3.bel⟩
      · have i1 : (k : Int) < (l0 : Int) := by omega
        have i2 : ¬ ((k : Int) < 9) := by omega
        go_wp2_with fail
        go_loopg [12, 13] 9 (fun g wa jv w2 => ∃ (j : Nat) (o : Option Nat), j ≤ 9 ∧ g = 9 - j ∧ jv = .int .i64 j ∧ wa = wv o ∧ Wn (fun n => th n = true ∧ msk n word = msk n ask) j o ∧ Px w N M2 nn word th th m w2)
        case atStart => exact ⟨0, none, by omega, rfl, rfl, rfl, fun n hn => by omega, F⟩
        case round =>
          clear F hM hNM
          obtain ⟨j, o, hj, rfl, rfl, rfl, hw, F⟩ := hrel
          have Hw := hid hw
          clear hw
          have j0 : (0 : Int) ≤ (j : Int) := by omega
          by_cases hj8 : j ≤ 8
          · have j8 : (j : Int) ≤ 8 := by omega
            have j9 : (j : Int) < 9 := by omega
            cases ht : th j with
            | false =>
              have d : wr.cell? ⟨M2, j, none⟩ = some (.bool false) := (F.t.cell (by omega)).trans (by rw [ht])
              have Hn : ¬ (th j = true ∧ msk j word = msk j ask) := fun h => by rw [ht] at h; cases h.1
              have Ht := hid Hn
              clear ht Hn
              go_upto_region 16 with fail
              go_quiet (fail)
              go_wp2_with fail
              go_roundg (9 - (j + 1))
              case measure => omega
              case rel => exact ⟨j + 1, o, by omega, rfl, by go_num, rfl, Wn.no Ht.out Hw.out, F.drewN _⟩
            | true =>
              have d : wr.cell? ⟨M2, j, none⟩ = some (.bool true) := (F.t.cell (by omega)).trans (by rw [ht])
              have Ht := hid ht
              clear ht
              by_cases he : msk j word = msk j ask
              · have tq : (v8 word / 2 ^ (8 - j) == v8 ask / 2 ^ (8 - j)) = true := beq_iff_eq.2 ((msk_eq j hj8 word ask).2 he)
                have He := hid he
                clear he
                go_upto_region 16 with fail
                go_quiet (fail)
                try rw [tq]
                go_wp2_with fail
                go_roundg (9 - (j + 1))
                case measure => omega
                case rel => exact ⟨j + 1, some j, by omega, rfl, by go_num, rfl, Wn.yes ⟨Ht.out, He.out⟩, F.drewN _⟩
              · have tq : (v8 word / 2 ^ (8 - j) == v8 ask / 2 ^ (8 - j)) = false := beq_eq_false_iff_ne.2 (fun h => he ((msk_eq j hj8 word ask).1 h))
                go_upto_region 16 with fail
                go_quiet (fail)
                try rw [tq]
                go_wp2_with fail
                go_roundg (9 - (j + 1))
                case measure => omega
                case rel => exact ⟨j + 1, o, by omega, rfl, by go_num, rfl, Wn.no (fun h => he h.2) Hw.out, F.drewN _⟩
          · have j8 : ¬ ((j : Int) ≤ 8) := by omega
            have hj9 : j = 9 := by omega
            have Hj9 := hid hj9
            clear hj9
            have hfn := F.n
            obtain ⟨M, hM⟩ := sz_some wr
            have hNM := below_sz F.bel hN hM
            cases o with
            | none =>
              rw [show wv none = .int .i64 (-1) from rfl]
              have hl : ∀ c, c ≤ 8 → KNo m (key5 c (msk c ask)) := fun c hc => F.kno (by omega) _ (by
                cases ht : th c with
                | false => exact .inl rfl
                | true => exact .inr (fun e => Hw.out c (by have := Hj9.out; omega) ⟨ht, e.symm⟩))
              go_wp2_with (first
                | (refine wpl_bs5 rfl (.const (.int .u8 8)) (.tmp 77) rfl 8 ask rfl rfl M hM ?_; intro x1 hX1 hb1 q1; have F1 := F.low hM hb1 hNM)
                | (go_at_call 12; have U := Look_pno m F1.ty F1.key ask hl (by omega) (some ⟨M, 0, none⟩) 5 x1 (M + 1) hX1 F1.at_ q1.ats; rw [hmb.out] at U; ((with_reducible refine U.mono ?_)); rintro e x2 ⟨rfl, hb2⟩; obtain ⟨X2, hX2⟩ := sz_some x2; have l2 := below_sz hb2 hX1 hX2; have F2 := F1.low hX1 hb2 (by omega))
                | (refine wpl_bs5 rfl (.const (.int .u8 9)) (.tmp 84) rfl 9 ask rfl rfl X2 hX2 ?_; intro x3 hX3 hb3 q3; have F3 := F2.low hX2 hb3 (by omega))
                | (go_at_call 12; have U := Look_pbad m F3.ty F3.key ask (some ⟨X2, 0, none⟩) 5 x3 F3.at_ q3.ats; rw [hmb.out] at U; ((with_reducible refine U.mono ?_)); rintro e x4 ⟨rfl, e1⟩; have e2 := e1.symm; subst e2)
                | fail)
              go_ret
              exact ⟨rfl, F3.bel⟩
            | some n =>
              rw [show wv (some n) = .int .i64 (n : Int) from rfl]
              have hn9 : n < 9 := by have := Hw.out.1; omega
              have n0 : (0 : Int) ≤ (n : Int) := by omega
              have n9 : (n : Int) < 9 := by omega
              obtain ⟨kk, hkk⟩ := F.kyes hn9 Hw.out.2.1.1
              have hval := hid (F.kval hn9 hkk)
              rw [Hw.out.2.1.2] at hkk
              have hl : ∀ c, n < c → c ≤ 8 → KNo m (key5 c (msk c ask)) := fun c hnc hc => F.kno (by omega) _ (by
                cases ht : th c with
                | false => exact .inl rfl
                | true => exact .inr (fun e => Hw.out.2.2 c hnc (by have := Hj9.out; omega) ⟨ht, e.symm⟩))
              have Hkk := hid hkk
              have Hl := hid hl
              clear hkk hl
              go_wp2_with (first
                | (refine wpl_bs5 rfl (.const (.int .u8 8)) (.tmp 77) rfl 8 ask rfl rfl M hM ?_; intro x1 hX1 hb1 q1; have F1 := F.low hM hb1 hNM)
                | (go_at_call 12; have U := Look_p m F1.ty F1.key F1.val n kk (by omega) ask Hkk.out Hl.out (by omega) (some ⟨M, 0, none⟩) 5 x1 (M + 1) hX1 F1.at_ q1.ats; rw [hmb.out] at U; ((with_reducible refine U.mono ?_)); rintro e x2 ⟨⟨K1, hK1, rfl, v3⟩, hb2⟩; obtain ⟨X2, hX2⟩ := sz_some x2; have l2 := below_sz hb2 hX1 hX2; have F2 := F1.low hX1 hb2 (by omega))
                | (refine wpl_bs5 rfl (.const (.int .u8 9)) (.tmp 84) rfl 9 ask rfl rfl X2 hX2 ?_; intro x3 hX3 hb3 q3; have F3 := F2.low hX2 hb3 (by omega); have d3 : x3.cell? ⟨K1, 0, none⟩ = some (.int .u8 (n : Int)) := ((v3.below hb3 (v3.ltN hX2)).cell (j := 0) (by omega)).trans (by rw [hval.out, by_nat n (by omega)]))
                | (go_at_call 12; have U := Look_pbad m F3.ty F3.key ask (some ⟨X2, 0, none⟩) 5 x3 F3.at_ q3.ats; rw [hmb.out] at U; ((with_reducible refine U.mono ?_)); rintro e x4 ⟨rfl, e1⟩; have e2 := e1.symm; subst e2)
                | fail)
              go_ret
              exact ⟨rfl, F3.bel⟩
end Go.Proofs.Yteicoheihalnnaa
