/- The law TipstaffSigns: its walk. -/
import Derived.Test.YtnlbfaeagohheaaDoorTop
import Derived.Test.YtnlbfaeagohheaaDoorLaw4
namespace Go.Proofs.YtnlbfaeagohheaaDoor
open Go Go.RowKit Sha
/-- Where the law stands: the sum's box, and the registry. -/
structure St2 (w : World) (N B b : Nat) (s : Nat → BitVec 8) (R : Rg) (w' : World) : Prop where
  q : Below N w w'
  a : Has w' B 23 32 (fun j => By (s j))
  r : Has w' b 98 1057 (rgC R)
  t : Tabs w'
theorem St2.below {w w' w'' : World} {N B b M : Nat} {s : Nat → BitVec 8} {R : Rg} (hb0 : N ≤ b) (h : St2 w N B b s R w') (hM : Sz w' M) (hb : Below M w' w'') : St2 w N B b s R w'' :=
  ⟨h.q.trans (hb.mono (by have := h.r.ltN hM; omega)), h.a.below hb (h.a.ltN hM), h.r.below hb (h.r.ltN hM), h.t.below hb (h.t.ltN hM)⟩
theorem St2.mod {w w' w'' : World} {N B b : Nat} {s : Nat → BitVec 8} {R R' : Rg} (hT : 1 < N) (hb0 : N ≤ b) (hB : B ≠ b) (h : St2 w N B b s R w') (m : Mod b w' w'') (r : Has w'' b 98 1057 (rgC R')) : St2 w N B b s R' w'' :=
  ⟨m.below h.q hb0 (by have := h.r.lt; omega), h.a.mod m hB, r, h.t.mod m (by omega)⟩
theorem St2.drew {w w' : World} {N B b : Nat} {s : Nat → BitVec 8} {R : Rg} (h : St2 w N B b s R w') : St2 w N B b s R (World.drew w') := ⟨below_drew1 h.q, h.a, h.r, ⟨h.t.h, h.t.k⟩⟩
theorem has_one (k : Nat → BitVec 8) : hasB (addR rg0 k) k = true := by
  have e : plO (addR rg0 k) k = some 0 := find_first _ _ _ (by show 0 < 1; omega) (fun j hj => by omega) (by show ((List.range 32).all fun j => k j == k j) = true; simp)
  unfold hasB plB plI
  rw [e]
  rfl
theorem has_gone (k : Nat → BitVec 8) : hasB (spendR (addR rg0 k) 0) k = false := by
  have e : plO (spendR (addR rg0 k) 0) k = some 0 := find_first _ _ _ (by show 0 < 1; omega) (fun j hj => by omega) (by show ((List.range 32).all fun j => k j == k j) = true; simp)
  unfold hasB plB plI
  rw [e]
  rfl
theorem fr_wrong (x y : BitVec 8) (h : x ≠ y) (s : Nat → BitVec 8) : frV (frO (addR rg0 (kD x)) s (sD y s)) = .tuple #[.int .i64 0, .int .i64 129] := by
  rw [fr_none _ _ _ (fun i hi => by
    have : i = 0 := by
      have e : (addR rg0 (kD x)).c = 1 := rfl
      omega
    subst this
    show (!false && fitsB (kD x) s (sD y s)) = false
    rw [show fitsB (kD x) s (sD y s) = false from fits_other x y s h]
    rfl)]
  rfl
theorem v8_ne {x y : BitVec 8} (h : x ≠ y) : (v8 y != v8 x) = true := by
  rw [bne_iff_ne]
  intro e
  exact h (BitVec.eq_of_toNat_eq (by unfold v8 at e; omega))
set_option maxRecDepth 100000 in
set_option maxHeartbeats 1000000 in
theorem law_top_same (p : Option Addr) (n cap : Nat) (D : Nat → BitVec 8) (x : BitVec 8) (w : World) (N : Nat) (hN : Sz w N) (hT : Tabs w) (hcap : n ≤ cap) (hD : Bytes w p n D) :
    Calls Tryd.prog 16 #[.slice p n cap, .int .u8 (v8 x), .int .u8 (v8 x)] w fun e w' => e = .returned (.bool true) ∧ Below N w w' := by
  have hTN := hT.ltN hN
  go_enter Tryd.func16, Tryd.ntmps16
  go_wp2_with fail
  refine (cut_any p n cap 200 D w N hN hcap (by omega) hD).mono ?_
  rintro e w1 ⟨pc, cc, rfl, oc, hpc, hb1⟩
  obtain ⟨M1, hM1⟩ := sz_some w1
  have hNM1 := below_sz hb1 hN hM1
  go_wp2_with fail
  refine (Sum_any pc (min n 200) cc D w1 M1 hM1 (hT.below hb1 hTN) oc.le (by omega) (own_bytes oc)).mono ?_
  rintro e w2 ⟨rfl, hb2⟩
  obtain ⟨M2, hM2⟩ := sz_some w2
  have hMM2 := below_sz hb2 hM1 hM2
  obtain ⟨s, hs⟩ : ∃ s, s = shaD D (min n 200) := ⟨_, rfl⟩
  rw [← hs]
  clear hs
  go_wp2_with (first
    | (refine wpl_alloc rfl 23 rfl 32 _ zer23 M2 hM2 ?_; intro w3 hM3 hb3 h3)
    | (refine wpl_store rfl 23 (.tmp 7) (.tmp 18) rfl M2 32 _ rfl rfl 23 _ h3 inf23 (fun _ _ => rfl) ?_; intro w4 ht4 h4)
    | fail)
  have hM4 := ht4.sz hM3
  have q4 : Below N w w4 := ht4.below ((hb1.trans (hb2.mono (by omega))).trans (hb3.mono (by omega))) (by omega)
  refine (New_any w4 (M2 + 1) hM4).mono ?_
  rintro e w5 ⟨rfl, hb5, r5, hM5⟩
  have S5 : St2 w N M2 (M2 + 1) s rg0 w5 := ⟨q4.trans (hb5.mono (by omega)), h4.below hb5 (by omega), r5, hT.below (q4.trans (hb5.mono (by omega))) hTN⟩
  have hb0 : N ≤ M2 + 1 := by omega
  have hBb : M2 ≠ M2 + 1 := by omega
  clear hb1 oc hb2 hb3 h3 ht4 h4 hb5 r5 q4
  go_wp2_with fail
  refine (stands_any w5 _ hM5 S5.t).mono ?_
  rintro e w6 ⟨rfl, hb6⟩
  have S6 := S5.below hb0 hM5 hb6
  obtain ⟨M6, hM6⟩ := sz_some w6
  go_wp2_with fail
  refine (Key_any _ 1 1 (fun _ => x) _ (M6 + 1) (sz_alloc hM6 _) (S6.t.below (below_new w6 _ _ hM6) (S6.t.ltN hM6)) (by omega) (by omega) (bytes_one w6 x _ rfl _ _)).mono ?_
  rintro e w7 ⟨rfl, hb7⟩
  have S7 := S6.below hb0 hM6 ((below_new w6 _ _ hM6).trans (hb7.mono (Nat.le_succ _)))
  obtain ⟨M7, hM7⟩ := sz_some w7
  go_wp2_with fail
  refine (Add_ok rg0 (M2 + 1) (kD x) w7 M7 hM7 S7.r (by decide) rfl).mono ?_
  rintro e w8 ⟨rfl, hm8, r8⟩
  have S8 := S7.mod hTN hb0 hBb hm8 r8
  clear S5 S6 S7 hb6 hb7 hm8 r8
  obtain ⟨M8, hM8⟩ := sz_some w8
  go_wp2_with (first
    | (refine wpl_load rfl 23 (.tmp 7) rfl M2 rfl 23 32 _ (by exact S8.a.alloc _) _ und23 rfl inf23 ?_)
    | fail)
  refine (Sign_any _ 1 1 (fun _ => x) s _ (M8 + 1) (sz_alloc hM8 _) (S8.t.below (below_new w8 _ _ hM8) (S8.t.ltN hM8)) (by omega) (by omega) (bytes_one w8 x _ rfl _ _)).mono ?_
  rintro e w10 ⟨ps, cs, rfl, o10, hps, hb10⟩
  have S10 := S8.below hb0 hM8 ((below_new w8 _ _ hM8).trans (hb10.mono (Nat.le_succ _)))
  have hps' : ∀ g, blk ps = some g → g ≠ M2 + 1 := fun g hg => by have := hps g hg; have := S8.r.ltN hM8; omega
  obtain ⟨M10, hM10⟩ := sz_some w10
  have hcs := o10.le
  clear hps hb10 S8
  go_wp2_with (first
    | (refine wpl_load rfl 23 (.tmp 7) rfl M2 rfl 23 32 _ S10.a _ und23 rfl inf23 ?_)
    | fail)
  refine (Find_any (addR rg0 (kD x)) (M2 + 1) s (sD x s) ps cs hcs w10 M10 hM10 S10.t (own_bytes o10) S10.r (by show 1 ≤ 32; omega)).mono ?_
  rintro e w11 ⟨rfl, hb11⟩
  rw [show frV (frO (addR rg0 (kD x)) s (sD x s)) = .tuple #[.int .i64 0, .int .i64 0] from fr_one _ _ _ (fits_sig 1 (fun _ => x) s)]
  have S11 := S10.below hb0 hM10 hb11
  have o11 := o10.below hb11 (Nat.le_of_eq hM10)
  obtain ⟨M11, hM11⟩ := sz_some w11
  clear S10 o10 hb11
  go_wp2_with fail
  refine (Key_any _ 1 1 (fun _ => x) _ (M11 + 1) (sz_alloc hM11 _) (S11.t.below (below_new w11 _ _ hM11) (S11.t.ltN hM11)) (by omega) (by omega) (bytes_one w11 x _ rfl _ _)).mono ?_
  rintro e w12 ⟨rfl, hb12'⟩
  have hb12 := (below_new w11 _ _ hM11).trans (hb12'.mono (Nat.le_succ _))
  have S12 := S11.below hb0 hM11 hb12
  have o12 := o11.below hb12 (Nat.le_of_eq hM11)
  obtain ⟨M12, hM12⟩ := sz_some w12
  clear S11 o11 hb12 hb12'
  go_wp2_with fail
  refine (Has_any (addR rg0 (kD x)) (M2 + 1) (kD x) w12 M12 hM12 S12.r (by show 1 ≤ 32; omega)).mono ?_
  rintro e w13 ⟨rfl, hb13⟩
  rw [has_one]
  have S13 := S12.below hb0 hM12 hb13
  have o13 := o12.below hb13 (Nat.le_of_eq hM12)
  clear S12 o12 hb13
  go_wp2_with fail
  refine (Spend_ok (addR rg0 (kD x)) (M2 + 1) 0 w13 S13.r (by show 0 < 1; omega) (by show 1 ≤ 32; omega) rfl).mono ?_
  rintro e w14 ⟨rfl, ht14, r14⟩
  have S14 := S13.mod hTN hb0 hBb ht14.mod r14
  have o14 := o13.touch ht14 hps'
  obtain ⟨M14, hM14⟩ := sz_some w14
  clear S13 o13 ht14 r14
  go_wp2_with (first
    | (refine wpl_load rfl 23 (.tmp 7) rfl M2 rfl 23 32 _ S14.a _ und23 rfl inf23 ?_)
    | fail)
  refine (Find_any (spendR (addR rg0 (kD x)) 0) (M2 + 1) s (sD x s) ps cs hcs w14 M14 hM14 S14.t (own_bytes o14) S14.r (by show 1 ≤ 32; omega)).mono ?_
  rintro e w15 ⟨rfl, hb15⟩
  rw [fr_gone]
  have S15 := S14.below hb0 hM14 hb15
  obtain ⟨M15, hM15⟩ := sz_some w15
  clear S14 o14 hb15
  go_wp2_with fail
  refine (Key_any _ 1 1 (fun _ => x) _ (M15 + 1) (sz_alloc hM15 _) (S15.t.below (below_new w15 _ _ hM15) (S15.t.ltN hM15)) (by omega) (by omega) (bytes_one w15 x _ rfl _ _)).mono ?_
  rintro e w16 ⟨rfl, hb16⟩
  have S16 := S15.below hb0 hM15 ((below_new w15 _ _ hM15).trans (hb16.mono (Nat.le_succ _)))
  obtain ⟨M16, hM16⟩ := sz_some w16
  go_wp2_with fail
  refine (Has_any (spendR (addR rg0 (kD x)) 0) (M2 + 1) (kD x) w16 M16 hM16 S16.r (by show 1 ≤ 32; omega)).mono ?_
  rintro e w17 ⟨rfl, hb17⟩
  rw [has_gone]
  have S17 := S16.below hb0 hM16 hb17
  go_wp2_with fail
  refine (Len_any (spendR (addR rg0 (kD x)) 0) (M2 + 1) w17 S17.r).mono ?_
  rintro e w18 ⟨rfl, rfl⟩
  rw [show (spendR (addR rg0 (kD x)) 0).c = 1 from rfl]
  go_wp2_with fail
  go_ret
  exact ⟨rfl, S17.q⟩
end Go.Proofs.YtnlbfaeagohheaaDoor
