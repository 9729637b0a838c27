/- Contracts of ranges: shifted by each count that may be. -/
import Derived.Test.YtbbfdehipgkjmaaDoorSe7
import Derived.Test.YtbbfdehipgkjmaaDoorSe5
namespace Go.Proofs.YtbbfdehipgkjmaaDoor
open Go Go.RowKit
/-- A count as a word. -/
def kw (k : Nat) : W := BitVec.ofNat 64 k
theorem kw_succ (k : Nat) : kw k + 1#64 = kw (k + 1) := by unfold kw; rw [BitVec.ofNat_add]
theorem kw_lt {k m : Nat} (hm : m ≤ 64) (hk : k ≤ m) : BitVec.ult (kw k) (BitVec.ofNat 64 m) = decide (k < m) := by
 rw [ult_qn]
 unfold qn kw
 rw [BitVec.toNat_ofNat, BitVec.toNat_ofNat, Nat.mod_eq_of_lt (by omega), Nat.mod_eq_of_lt (by omega)]
 simp
/-- What comes of each count below one. -/
def shL (f : W → Rn) (c d : W → Bool) : Nat → List Rn
 | 0 => []
 | k + 1 => bif c (kw k) then (bif d (kw k) then shL f c d k ++ [f (kw k)] else shL f c d k) else shL f c d k
theorem shL_len (f : W → Rn) (c d : W → Bool) : ∀ k, (shL f c d k).length ≤ k
 | 0 => Nat.le_refl _
 | k + 1 => by
  have := shL_len f c d k
  unfold shL
  cases c (kw k) <;> cases d (kw k) <;> simp only [cond_true, cond_false, List.length_append, List.length_singleton] <;> omega
theorem rowC_app (l : List Rn) (n : Nat) (r : Rn) (hn : l.length = n) (j : Nat) (hj : j < (n + 1) * 6) : cat (rowC l) (n * 6) (rC r) j = rowC (l ++ [r]) j := by
 subst hn
 unfold cat rowC
 by_cases h : j < l.length * 6
 ·rw [if_pos h]
  have : j / 6 < l.length := by omega
  simp only [List.getD_eq_getElem?_getD]
  rw [List.getElem?_append_left this]
 ·rw [if_neg h]
  have e1 : j / 6 = l.length := by omega
  have e2 : j - l.length * 6 = j % 6 := by omega
  rw [e1, e2]
  simp
theorem kR : KCell Tryd.prog 27 6 := kCell_of (v := .agg (cellsOf (rC zeroR) 6)) (k := 48) (by kernel_rfl) (by omega) rfl
section
variable {ops : Array Oper} {rest : List Oper} {o : Oper} {a : Act} {w : World} {Q : Exit → Act → World → Prop}
theorem wpl_bsR (hgd : o.guard = none) (x : Operand) (ho : o.op = .buildSlice 96 1 #[(0, x)]) (r : Rn) (hx : a.eval x = rV r) (N : Nat) (hN : Sz w N)
  (h : ∀ w1, Sz w1 (N + 1) → Below N w w1 → Has w1 N 27 6 (rC r) → wpList Tryd.prog ops Q rest (a.put o.dst (.slice (some ⟨N, 0, none⟩) 1 1)) w1) : wpList Tryd.prog ops Q (o :: rest) a w := by
 have e : w.heap.size = N := hN
 subst e
 refine wpl_run hgd (.slice (some ⟨w.heap.size, 0, none⟩) 1 1) (w.alloc (.cells (cellsOf (rC r) 6) 27)) ?_ (h _ (sz_alloc rfl _) (below_new _ _ _ rfl) ?_)
 ·unfold rV at *
  clear h hN
  generalize a.eval = ev at *
  unfold execOp
  simp only [ho]
  go_simp
  kernel_rfl
 ·exact has_new rfl 27 6 (rC r)
end
def shLsl (sh : Rn → W → Rn) (a b : Rn) (k : Nat) : List Rn := shL (fun n => tightR (sh a n)) (fun n => BitVec.ule ((n - b.lo) % 64#64) (b.hi - b.lo)) (fun n => tHas (tAnd b.b (tConst (64#64 - 1#64))) n) k
def shRl (sh : Rn → W → Rn) (a b : Rn) : Rn := joinN (shLsl sh a b 64) (shLsl sh a b 64).length
set_option maxRecDepth 100000 in
set_option maxHeartbeats 16000000 in
theorem Shifted_l (op : Int) (sh : Rn → W → Rn) (SH : ∀ (a : Rn) (n : W) (w : World) (N : Nat), Sz w N → Calls Tryd.prog 71 #[.int .i64 op, rV a, Q n] w fun e w' => e = .returned (rV (sh a n)) ∧ Below N w w') (a b : Rn) (w : World) (N : Nat) (hN : Sz w N) : Calls Tryd.prog 45 #[.int .i64 op, .bool true, rV a, rV b] w fun e w' => e = .returned (rV (shRl sh a b)) ∧ Below N w w' := by
 unfold rV
 go_enter Tryd.func45, Tryd.ntmps45
 go_upto_region 1 with (first
  | (refine wpl_box rfl 27 (.tmp 2) rfl 6 _ rfl (N) hN ?_; intro w1 hN1 hb1 hh1)
  | (refine wpl_box rfl 27 (.tmp 3) rfl 6 _ rfl (N + 1) hN1 ?_; intro w2 hN2 hb2 hh2)
  | (refine wpl_alloc rfl 27 rfl 6 (rC zeroR) zeR (N + 1 + 1) hN2 ?_; intro w3 hN3 hb3 hh3)
  | fail)
 have lo0 : Below N w w3 := ((hb1.trans (hb2.mono (by omega))).trans (hb3.mono (by omega)))
 have k1 := ((hh1.below hb2 (by omega)).below hb3 (by omega))
 have k2 := (hh2.below hb3 (by omega))
 have k3 := hh3
 clear hh1 hb1 hh2 hb2 hh3 hb3 hN1 hN2
 go_upto_region 6 with fail
 refine wp_region_any (by kernel_rfl) ?_
 replace k1 : Has w3.drew N 27 6 (rC a) := k1
 replace k2 : Has w3.drew (N + 1) 27 6 (rC b) := k2
 replace k3 : Has w3.drew (N + 1 + 1) 27 6 (rC zeroR) := k3
 replace hN3 : Sz w3.drew (N + 1 + 1 + 1) := hN3
 replace lo0 : Below N w w3.drew := lo0.drew
 change wpAny _ _ _ _ _ _ _ (World.drew _)
 generalize w3.drew = xw4 at *
 obtain ⟨c5, c6, c7, c8, c9, c10⟩ := r_cells k2
 refine wpAny_pot (rem := [0, 1, 2, 3, 4, 5, 6]) (FG (N + 1 + 1 + 1) (fun j => if j = 0 then some (Value.pointer (some ⟨(N + 1), 0, none⟩)) else if j = 1 then some (Value.agg (cellsOf (nC b.b) 2)) else if j = 2 then some (Q 64#64) else if j = 3 then some (Q (64#64 - 1#64)) else if j = 4 then some (Value.agg (cellsOf (nC (tConst (64#64 - 1#64))) 2)) else if j = 5 then some (Value.agg (cellsOf (nC (tAnd b.b (tConst (64#64 - 1#64)))) 2)) else none) (fun j => (25, 2, nC zeroN))) (TwoN (fun j => if j = 0 then some (Value.pointer (some ⟨(N + 1), 0, none⟩)) else if j = 1 then some (Value.agg (cellsOf (nC b.b) 2)) else if j = 2 then some (Q 64#64) else if j = 3 then some (Q (64#64 - 1#64)) else if j = 4 then some (Value.agg (cellsOf (nC (tConst (64#64 - 1#64))) 2)) else if j = 5 then some (Value.agg (cellsOf (nC (tAnd b.b (tConst (64#64 - 1#64)))) 2)) else none)) (Below (N + 1 + 1 + 1) xw4) _ _ _ _ (by kernel_rfl) (size_dstG (by kernel_rfl)) (Below.refl _ _) ?_ ?_
 ·intro i hi ac wa hI ha hv
  simp only [List.mem_cons, List.not_mem_nil, or_false] at hi
  rcases hi with rfl | rfl | rfl | rfl | rfl | rfl | rfl
  ·exact potg_run rfl rfl (Value.pointer (some ⟨(N + 1), 0, none⟩)) rfl (run_fa 27 (.tmp 7) 0 0 rfl (ha 7 (not_dstG (by kernel_rfl))) faR0) hN3 hI
  ·obtain ⟨v0, hv0a, hv0b⟩ := hv 0 (by simp) (by kernel_rfl)
   have ev0 := hv0b.val rfl
   subst ev0
   exact potg_run rfl rfl (Value.agg (cellsOf (nC b.b) 2)) rfl (run_bits 25 (.tmp 25) rfl (N + 1) (hv0a 25 rfl) 27 (Has.below k2 hI (Has.ltN k2 hN3)) undT szT) hN3 hI
  ·exact potg_run rfl rfl (Q 64#64) rfl (run_mv (x := (.tmp 9)) rfl _ (ha 9 (not_dstG (by kernel_rfl)))) hN3 hI
  ·obtain ⟨v2, hv2a, hv2b⟩ := hv 2 (by simp) (by kernel_rfl)
   have ev2 := hv2b.val rfl
   subst ev2
   exact potg_run rfl rfl (Q (64#64 - 1#64)) rfl ((bin_sub _ 64#64 1#64) _ _ (.tmp 27) (.const (.int .u64 1)) _ wa rfl (hv2a 27 rfl) rfl) hN3 hI
  ·obtain ⟨v3, hv3a, hv3b⟩ := hv 3 (by simp) (by kernel_rfl)
   have ev3 := hv3b.val rfl
   subst ev3
   exact potg_cl rfl rfl 20 _ _ rfl #[(Q (64#64 - 1#64))] (by simp only [List.map_toArray, List.map_cons, List.map_nil, (show ac.eval (.tmp 28) = (Q (64#64 - 1#64)) from (hv3a 28 rfl))] <;> rfl) (by kernel_rfl) (Value.agg (cellsOf (nC (tConst (64#64 - 1#64))) 2)) (fun K hK => Const_any (64#64 - 1#64) wa K hK) rfl hN3 hI
  ·obtain ⟨v1, hv1a, hv1b⟩ := hv 1 (by simp) (by kernel_rfl)
   have ev1 := hv1b.val rfl
   subst ev1
   obtain ⟨v4, hv4a, hv4b⟩ := hv 4 (by simp) (by kernel_rfl)
   have ev4 := hv4b.val rfl
   subst ev4
   exact potg_cl rfl rfl 69 _ _ rfl #[(Value.agg (cellsOf (nC b.b) 2)), (Value.agg (cellsOf (nC (tConst (64#64 - 1#64))) 2))] (by simp only [List.map_toArray, List.map_cons, List.map_nil, (show ac.eval (.tmp 26) = (Value.agg (cellsOf (nC b.b) 2)) from (hv1a 26 rfl)), (show ac.eval (.tmp 29) = (Value.agg (cellsOf (nC (tConst (64#64 - 1#64))) 2)) from (hv4a 29 rfl))] <;> rfl) (by kernel_rfl) (Value.agg (cellsOf (nC (tAnd b.b (tConst (64#64 - 1#64)))) 2)) (fun K hK => And_any b.b (tConst (64#64 - 1#64)) wa K hK) rfl hN3 hI
  ·exact potg_al rfl rfl rfl zeT rfl rfl hN3 hI
 ·intro vals w5_11_ hb5_11_ hF hG
  have e_11_0 := (hF 0 (by simp)).val rfl
  have e_11_1 := (hF 1 (by simp)).val rfl
  have e_11_2 := (hF 2 (by simp)).val rfl
  have e_11_3 := (hF 3 (by simp)).val rfl
  have e_11_4 := (hF 4 (by simp)).val rfl
  have e_11_5 := (hF 5 (by simp)).val rfl
  obtain ⟨b_11_6, l_11_6, e_11_6, h_11_6⟩ := (hF 6 (by simp)).al rfl rfl
  clear hF hG
  simp only [List.foldl_cons, List.foldl_nil, dstOf, List.getElem?_toArray, List.getElem?_cons_succ, List.getElem?_cons_zero, Option.bind_some, Act.put, List.setIfInBounds_toArray, List.set_cons_succ, List.set_cons_zero, e_11_0, e_11_1, e_11_2, e_11_3, e_11_4, e_11_5, e_11_6]
  clear e_11_0 e_11_1 e_11_2 e_11_3 e_11_4 e_11_5 e_11_6
  refine wpAny_chain [7] _ _ _ _ (by kernel_rfl) (by decide) ?_
  simp only [List.filterMap_cons, List.filterMap_nil, List.getElem?_toArray, List.getElem?_cons_succ, List.getElem?_cons_zero]
  have k12 := k1.below hb5_11_ (by omega)
  have k13 := k2.below hb5_11_ (by omega)
  have k14 := k3.below hb5_11_ (by omega)
  have lo15 := lo0.trans (hb5_11_.mono (by omega))
  clear k1 k2 c5 c6 c7 c8 c9 c10 k3 lo0 hb5_11_
  refine wpl_store rfl 25 (.tmp 11) (.tmp 30) rfl b_11_6 2 (nC (tAnd b.b (tConst (64#64 - 1#64)))) rfl rfl 25 _ h_11_6 szT (fun j _ => nC_one _ j) ?_
  intro xw16 t17 k18
  have k19 := k12.touch t17 (by omega)
  have k20 := k13.touch t17 (by omega)
  have k21 := k14.touch t17 (by omega)
  have lo22 := t17.below lo15 (by omega)
  clear h_11_6 k12 k13 k14 lo15 t17
  obtain ⟨M23, hM23⟩ := sz_some xw16
  have lt_24 := k19.ltN hM23
  have lt_25 := k20.ltN hM23
  have lt_26 := k21.ltN hM23
  have lt_27 := k18.ltN hM23
  go_wp2_with fail
  go_loopg [12, 13, 32] 64 (fun m x12 x13 x32 wr => ∃ k : Nat, k ≤ 64 ∧ m = 64 - k ∧ x32 = Q (kw k) ∧ (∃ p cap, x12 = .slice p (shLsl sh a b k).length cap ∧ OwnK wr 27 6 p (shLsl sh a b k).length cap (rowC (shLsl sh a b k)) ∧ (∀ g, blk p = some g → N ≤ g ∧ g ≠ N ∧ g ≠ N + 1 ∧ g ≠ N + 1 + 1 ∧ g ≠ b_11_6)) ∧ Has wr N 27 6 (rC a) ∧ Has wr (N + 1) 27 6 (rC b) ∧ Has wr (N + 1 + 1) 27 6 (rC zeroR) ∧ Has wr b_11_6 25 2 (nC (tAnd b.b (tConst (64#64 - 1#64)))) ∧ Below N w wr)
  case atStart => exact ⟨0, by omega, rfl, rfl, ⟨none, 0, rfl, OwnK.nil _ _ _ _, fun g hg => by cases hg⟩, k19, k20, k21, k18, lo22⟩
  case round =>
   clear k19 k20 k21 k18 lo22 hM23
   obtain ⟨k, hk, rfl, rfl, ⟨p, cap, rfl, ho, hp⟩, ka, kb, kz, kc, lo⟩ := hrel
   obtain ⟨M, hM⟩ := sz_some wr
   have lt1 := ka.ltN hM
   have lt2 := kb.ltN hM
   have lt3 := kz.ltN hM
   have lt4 := kc.ltN hM
   have hlen := shL_len (fun n => tightR (sh a n)) (fun n => BitVec.ule ((n - b.lo) % 64#64) (b.hi - b.lo)) (fun n => tHas (tAnd b.b (tConst (64#64 - 1#64))) n) k
   change (shLsl sh a b k).length ≤ k at hlen
   obtain ⟨n, en⟩ : ∃ n, n = (shLsl sh a b k).length := ⟨_, rfl⟩
   have EN := hid en
   rw [← en] at ho hlen ⊢
   clear en
   by_cases hlt : k < 64
   ·have T9 := hid (show BitVec.ult (kw k) 64#64 = true from (kw_lt (by omega) hk).trans (decide_eq_true hlt))
    go_upto_region 9 with fail
    refine wp_region_later1 (M) ?_
    try simp only [pA]
    refine later_b (x := (.tmp 32)) (y := (.tmp 31)) rfl (BinRun.is T9.out (bin_lss _ (kw k) 64#64)) rfl rfl (by rfl) ?_; simp only [pA]
    refine wpQuiet_nil ?_
    rintro xw28 ⟨qxw28, exw28⟩
    have hbxw28 := qxw28.b
    rw [← exw28] at hbxw28
    clear qxw28 exw28
    have ho29 := ho.below hbxw28 (Nat.le_of_eq hM)
    clear ho
    obtain ⟨M30, hM30⟩ := sz_some xw28
    have lM30 := below_sz hbxw28 hM hM30
    have k31 := ka.below hbxw28 (by omega)
    have k32 := kb.below hbxw28 (by omega)
    have k33 := kz.below hbxw28 (by omega)
    have k34 := kc.below hbxw28 (by omega)
    have lo35 := lo.trans (hbxw28.mono (by omega))
    clear ka kb kz kc lo hbxw28
    cases hc_ : (BitVec.ule ((kw k - b.lo) % 64#64) (b.hi - b.lo))
    ·have C_ := hid hc_
     clear hc_
     go_upto_region 11 with fail
     obtain ⟨c36, c37, c38, c39, c40, c41⟩ := r_cells k32
     refine wp_region_later (M30) (by kernel_rfl) (by kernel_rfl) ?_
     try simp only [pA]
     iterate 2 (go_big_quiet_step (fail))
     refine later_c1 hM30 23 (.tmp 36) rfl rfl und64 rfl c38 (by rfl) ?_; simp only [pA]
     refine later_b (x := (.tmp 35)) (y := (.tmp 37)) rfl (bin_sub _ (kw k) b.lo) rfl rfl (by rfl) ?_; simp only [pA]
     go_big_quiet_step (fail)
     refine later_b (x := (.tmp 38)) (y := (.tmp 39)) rfl (bin_rem _ ((kw k) - b.lo) 64#64 (by decide)) rfl rfl (by rfl) ?_; simp only [pA]
     go_big_quiet_step (fail)
     refine later_c1 hM30 23 (.tmp 41) rfl rfl und64 rfl c39 (by rfl) ?_; simp only [pA]
     go_big_quiet_step (fail)
     refine later_c1 hM30 23 (.tmp 43) rfl rfl und64 rfl c38 (by rfl) ?_; simp only [pA]
     refine later_b (x := (.tmp 42)) (y := (.tmp 44)) rfl (bin_sub _ b.hi b.lo) rfl rfl (by rfl) ?_; simp only [pA]
     refine later_b (x := (.tmp 40)) (y := (.tmp 45)) rfl (BinRun.is C_.out (bin_leq _ (((kw k) - b.lo) % 64#64) (b.hi - b.lo))) rfl rfl (by rfl) ?_; simp only [pA]
     iterate 5 (go_big_quiet_step (fail))
     refine wpQuiet_nil ?_
     rintro xw43 ⟨qxw43, exw43⟩
     have hbxw43 := qxw43.b
     rw [← exw43] at hbxw43
     clear qxw43 exw43
     have ho44 := ho29.below hbxw43 (Nat.le_of_eq hM30)
     clear ho29
     obtain ⟨M45, hM45⟩ := sz_some xw43
     have lM45 := below_sz hbxw43 hM30 hM45
     have k46 := k31.below hbxw43 (by omega)
     have k47 := k32.below hbxw43 (by omega)
     have k48 := k33.below hbxw43 (by omega)
     have k49 := k34.below hbxw43 (by omega)
     have lo50 := lo35.trans (hbxw43.mono (by omega))
     clear k31 k32 c36 c37 c38 c39 c40 c41 k33 k34 lo35 hbxw43
     have E := hid (show (shLsl sh a b (k + 1)) = (shLsl sh a b k) by show shL _ _ _ (k + 1) = _; unfold shL; rw [C_.out, cond_false]; rfl)
     have eE := hid (show Value.slice p n cap = .slice p (shLsl sh a b (k + 1)).length cap by rw [E.out, ← EN.out])
     go_upto_region 13 with fail
     refine wp_region_later1 (M45) ?_
     try simp only [pA]
     refine later_b (x := (.tmp 32)) (y := (.const (.int .u64 1))) rfl (bin_add _ (kw k) 1#64) rfl rfl (by rfl) ?_; simp only [pA]
     go_big_quiet_step (fail)
     refine wpQuiet_nil ?_
     rintro xw51 ⟨qxw51, exw51⟩
     have hbxw51 := qxw51.b
     rw [← exw51] at hbxw51
     clear qxw51 exw51
     have ho52 := ho44.below hbxw51 (Nat.le_of_eq hM45)
     clear ho44
     obtain ⟨M53, hM53⟩ := sz_some xw51
     have lM53 := below_sz hbxw51 hM45 hM53
     have k54 := k46.below hbxw51 (by omega)
     have k55 := k47.below hbxw51 (by omega)
     have k56 := k48.below hbxw51 (by omega)
     have k57 := k49.below hbxw51 (by omega)
     have lo58 := lo50.trans (hbxw51.mono (by omega))
     clear k46 k47 k48 k49 lo50 hbxw51
     have oE : OwnK xw51 27 6 p (shLsl sh a b (k + 1)).length cap (rowC (shLsl sh a b (k + 1))) := by rw [E.out, ← EN.out]; exact ho52
     go_wp2_with fail
     go_roundg (64 - (k + 1))
     case rel => exact ⟨k + 1, by omega, rfl, by rw [← kw_succ], ⟨p, cap, eE.out, oE, hp⟩, k54, k55, k56, k57, lo58⟩
     case measure => omega
    ·have C_ := hid hc_
     clear hc_
     cases hd_ : (tHas (tAnd b.b (tConst (64#64 - 1#64))) (kw k))
     ·have D_ := hid hd_
      clear hd_
      go_upto_region 11 with fail
      obtain ⟨c36, c37, c38, c39, c40, c41⟩ := r_cells k32
      refine wp_region_later (M30) (by kernel_rfl) (by kernel_rfl) ?_
      try simp only [pA]
      iterate 2 (go_big_quiet_step (fail))
      refine later_c1 hM30 23 (.tmp 36) rfl rfl und64 rfl c38 (by rfl) ?_; simp only [pA]
      refine later_b (x := (.tmp 35)) (y := (.tmp 37)) rfl (bin_sub _ (kw k) b.lo) rfl rfl (by rfl) ?_; simp only [pA]
      go_big_quiet_step (fail)
      refine later_b (x := (.tmp 38)) (y := (.tmp 39)) rfl (bin_rem _ ((kw k) - b.lo) 64#64 (by decide)) rfl rfl (by rfl) ?_; simp only [pA]
      go_big_quiet_step (fail)
      refine later_c1 hM30 23 (.tmp 41) rfl rfl und64 rfl c39 (by rfl) ?_; simp only [pA]
      go_big_quiet_step (fail)
      refine later_c1 hM30 23 (.tmp 43) rfl rfl und64 rfl c38 (by rfl) ?_; simp only [pA]
      refine later_b (x := (.tmp 42)) (y := (.tmp 44)) rfl (bin_sub _ b.hi b.lo) rfl rfl (by rfl) ?_; simp only [pA]
      refine later_b (x := (.tmp 40)) (y := (.tmp 45)) rfl (BinRun.is C_.out (bin_leq _ (((kw k) - b.lo) % 64#64) (b.hi - b.lo))) rfl rfl (by rfl) ?_; simp only [pA]
      go_big_quiet_step (fail)
      refine later_row hM30 25 (.tmp 11) rfl (b_11_6) rfl 25 2 _ k34 undT szT (by rfl) ?_; simp only [pA]
      go_big_quiet_step (fail)
      go_big_quiet_step ((go_at_call 26; exact later_of hM30 _ (fun K hK hKN => ret_is D_.out (Has_any (tAnd b.b (tConst (64#64 - 1#64))) (kw k)) _ K hK)))
      go_big_quiet_step (fail)
      refine wpQuiet_nil ?_
      rintro xw42 ⟨qxw42, exw42⟩
      have hbxw42 := qxw42.b
      rw [← exw42] at hbxw42
      clear qxw42 exw42
      have ho43 := ho29.below hbxw42 (Nat.le_of_eq hM30)
      clear ho29
      obtain ⟨M44, hM44⟩ := sz_some xw42
      have lM44 := below_sz hbxw42 hM30 hM44
      have k45 := k31.below hbxw42 (by omega)
      have k46 := k32.below hbxw42 (by omega)
      have k47 := k33.below hbxw42 (by omega)
      have k48 := k34.below hbxw42 (by omega)
      have lo49 := lo35.trans (hbxw42.mono (by omega))
      clear k31 k32 c36 c37 c38 c39 c40 c41 k33 k34 lo35 hbxw42
      have E := hid (show (shLsl sh a b (k + 1)) = (shLsl sh a b k) by show shL _ _ _ (k + 1) = _; unfold shL; rw [C_.out, D_.out, cond_true, cond_false]; rfl)
      have eE := hid (show Value.slice p n cap = .slice p (shLsl sh a b (k + 1)).length cap by rw [E.out, ← EN.out])
      go_upto_region 13 with fail
      refine wp_region_later1 (M44) ?_
      try simp only [pA]
      refine later_b (x := (.tmp 32)) (y := (.const (.int .u64 1))) rfl (bin_add _ (kw k) 1#64) rfl rfl (by rfl) ?_; simp only [pA]
      go_big_quiet_step (fail)
      refine wpQuiet_nil ?_
      rintro xw50 ⟨qxw50, exw50⟩
      have hbxw50 := qxw50.b
      rw [← exw50] at hbxw50
      clear qxw50 exw50
      have ho51 := ho43.below hbxw50 (Nat.le_of_eq hM44)
      clear ho43
      obtain ⟨M52, hM52⟩ := sz_some xw50
      have lM52 := below_sz hbxw50 hM44 hM52
      have k53 := k45.below hbxw50 (by omega)
      have k54 := k46.below hbxw50 (by omega)
      have k55 := k47.below hbxw50 (by omega)
      have k56 := k48.below hbxw50 (by omega)
      have lo57 := lo49.trans (hbxw50.mono (by omega))
      clear k45 k46 k47 k48 lo49 hbxw50
      have oE : OwnK xw50 27 6 p (shLsl sh a b (k + 1)).length cap (rowC (shLsl sh a b (k + 1))) := by rw [E.out, ← EN.out]; exact ho51
      go_wp2_with fail
      go_roundg (64 - (k + 1))
      case rel => exact ⟨k + 1, by omega, rfl, by rw [← kw_succ], ⟨p, cap, eE.out, oE, hp⟩, k53, k54, k55, k56, lo57⟩
      case measure => omega
     ·have D_ := hid hd_
      clear hd_
      go_upto_region 11 with fail
      obtain ⟨c36, c37, c38, c39, c40, c41⟩ := r_cells k32
      refine wp_region_later (M30) (by kernel_rfl) (by kernel_rfl) ?_
      try simp only [pA]
      iterate 2 (go_big_quiet_step (fail))
      refine later_c1 hM30 23 (.tmp 36) rfl rfl und64 rfl c38 (by rfl) ?_; simp only [pA]
      refine later_b (x := (.tmp 35)) (y := (.tmp 37)) rfl (bin_sub _ (kw k) b.lo) rfl rfl (by rfl) ?_; simp only [pA]
      go_big_quiet_step (fail)
      refine later_b (x := (.tmp 38)) (y := (.tmp 39)) rfl (bin_rem _ ((kw k) - b.lo) 64#64 (by decide)) rfl rfl (by rfl) ?_; simp only [pA]
      go_big_quiet_step (fail)
      refine later_c1 hM30 23 (.tmp 41) rfl rfl und64 rfl c39 (by rfl) ?_; simp only [pA]
      go_big_quiet_step (fail)
      refine later_c1 hM30 23 (.tmp 43) rfl rfl und64 rfl c38 (by rfl) ?_; simp only [pA]
      refine later_b (x := (.tmp 42)) (y := (.tmp 44)) rfl (bin_sub _ b.hi b.lo) rfl rfl (by rfl) ?_; simp only [pA]
      refine later_b (x := (.tmp 40)) (y := (.tmp 45)) rfl (BinRun.is C_.out (bin_leq _ (((kw k) - b.lo) % 64#64) (b.hi - b.lo))) rfl rfl (by rfl) ?_; simp only [pA]
      go_big_quiet_step (fail)
      refine later_row hM30 25 (.tmp 11) rfl (b_11_6) rfl 25 2 _ k34 undT szT (by rfl) ?_; simp only [pA]
      go_big_quiet_step (fail)
      go_big_quiet_step ((go_at_call 26; exact later_of hM30 _ (fun K hK hKN => ret_is D_.out (Has_any (tAnd b.b (tConst (64#64 - 1#64))) (kw k)) _ K hK)))
      go_big_quiet_step (fail)
      refine wpQuiet_nil ?_
      rintro xw42 ⟨qxw42, exw42⟩
      have hbxw42 := qxw42.b
      rw [← exw42] at hbxw42
      clear qxw42 exw42
      have ho43 := ho29.below hbxw42 (Nat.le_of_eq hM30)
      clear ho29
      obtain ⟨M44, hM44⟩ := sz_some xw42
      have lM44 := below_sz hbxw42 hM30 hM44
      have k45 := k31.below hbxw42 (by omega)
      have k46 := k32.below hbxw42 (by omega)
      have k47 := k33.below hbxw42 (by omega)
      have k48 := k34.below hbxw42 (by omega)
      have lo49 := lo35.trans (hbxw42.mono (by omega))
      clear k31 k32 c36 c37 c38 c39 c40 c41 k33 k34 lo35 hbxw42
      go_upto_region 12 with fail
      refine wp_region_lit ?_
      try simp only [pA]
      change wpList _ _ _ ((_ :: _ :: _ :: _ :: _ :: _ :: _ :: _ :: []) ++ (_ :: _ :: _ :: [])) _ _
      refine wpList_prefix (C := fun w' => ∃ x : Later M44 xw42, w' = x.w') _ _ _ _ ⟨⟨_, Below.refl _ _⟩, rfl⟩ ?_
      iterate 2 (go_big_quiet_step (fail))
      refine later_row hM44 27 (.tmp 6) rfl (N) rfl 27 6 _ k45 undR szR (by rfl) ?_; simp only [pA]
      iterate 2 (go_big_quiet_step (fail))
      refine later_b (x := (.tmp 55)) (y := (.tmp 56)) rfl (bin_add _ (kw k) 0#64) rfl rfl (by rfl) ?_; simp only [pA]
      go_big_quiet_step ((go_at_call 71; exact later_of hM44 _ (fun K hK hKN => SH a (kw k) _ K hK)))
      go_big_quiet_step ((go_at_call 16; exact later_of hM44 _ (fun K hK hKN => Tight_any (sh a (kw k)) _ K hK)))
      refine wpQuiet_nil ?_
      rintro xw50 ⟨qxw50, exw50⟩
      have hbxw50 := qxw50.b
      rw [← exw50] at hbxw50
      clear qxw50 exw50
      have ho51 := ho43.below hbxw50 (Nat.le_of_eq hM44)
      clear ho43
      obtain ⟨M52, hM52⟩ := sz_some xw50
      have lM52 := below_sz hbxw50 hM44 hM52
      have k53 := k45.below hbxw50 (by omega)
      have k54 := k46.below hbxw50 (by omega)
      have k55 := k47.below hbxw50 (by omega)
      have k56 := k48.below hbxw50 (by omega)
      have lo57 := lo49.trans (hbxw50.mono (by omega))
      clear k45 k46 k47 k48 lo49 hbxw50
      refine wpl_bsR rfl (.tmp 59) rfl (tightR (sh a (kw k))) rfl M52 hM52 ?_
      intro wa hMa hba hra; simp only [pA]
      have ho2 := ho51.below hba (Nat.le_of_eq hM52)
      refine wpl_appK rfl (.tmp 52) (.tmp 60) 96 rfl 27 6 (by omega) undRS kR p n cap rfl (rowC (shLsl sh a b k)) ho2 _ 1 1 rfl (rC (tightR (sh a (kw k)))) hra.cells (fun j _ => rC_one _ j) (by omega) ?_
      intro p2 cap2 wb hob hgr hbk hnn; simp only [pA]
      have k58 := (k53.below hba (by omega)).grew hgr (fun e => by have := hp _ e.symm; omega)
      have k59 := (k54.below hba (by omega)).grew hgr (fun e => by have := hp _ e.symm; omega)
      have k60 := (k55.below hba (by omega)).grew hgr (fun e => by have := hp _ e.symm; omega)
      have k61 := (k56.below hba (by omega)).grew hgr (fun e => by have := hp _ e.symm; omega)
      have lob : Below N w wb := hgr.below (lo57.trans (hba.mono (by omega))) (by have e : wa.heap.size = M52 + 1 := hMa; omega) (fun g hg => (hp g hg).1)
      have hp2 : ∀ g, blk p2 = some g → N ≤ g ∧ g ≠ N ∧ g ≠ N + 1 ∧ g ≠ N + 1 + 1 ∧ g ≠ b_11_6 := fun g hg => by
       rcases hbk with e | e
       ·exact hp g (e ▸ hg)
       ·have e1 : wa.heap.size = M52 + 1 := hMa
        have e2 : g = wa.heap.size := by rw [e] at hg; exact (Option.some.inj hg).symm
        omega
      have E := hid (show (shLsl sh a b (k + 1)) = (shLsl sh a b k) ++ [(tightR (sh a (kw k)))] by show shL _ _ _ (k + 1) = _; unfold shL; rw [C_.out, D_.out, cond_true, cond_true]; rfl)
      have EL := hid (show (shLsl sh a b (k + 1)).length = n + 1 by rw [E.out, List.length_append, ← EN.out]; rfl)
      have oE : OwnK wb 27 6 p2 (shLsl sh a b (k + 1)).length cap2 (rowC (shLsl sh a b (k + 1))) := by rw [EL.out, E.out]; exact hob.congr (fun j hj => rowC_app _ n _ EN.out.symm j hj)
      have eE := hid (show Value.slice p2 (n + 1) cap2 = .slice p2 (shLsl sh a b (k + 1)).length cap2 by rw [EL.out])
      clear hob ho2 ho51 hra hgr hbk hnn
      clear hba
      obtain ⟨M62, hM62⟩ := sz_some wb
      have lt_63 := k58.ltN hM62
      have lt_64 := k59.ltN hM62
      have lt_65 := k60.ltN hM62
      have lt_66 := k61.ltN hM62
      go_upto_region 13 with fail
      refine wp_region_later1 (M62) ?_
      try simp only [pA]
      refine later_b (x := (.tmp 32)) (y := (.const (.int .u64 1))) rfl (bin_add _ (kw k) 1#64) rfl rfl (by rfl) ?_; simp only [pA]
      go_big_quiet_step (fail)
      refine wpQuiet_nil ?_
      rintro xw67 ⟨qxw67, exw67⟩
      have hbxw67 := qxw67.b
      rw [← exw67] at hbxw67
      clear qxw67 exw67
      have ho68 := oE.below hbxw67 (Nat.le_of_eq hM62)
      clear oE
      obtain ⟨M69, hM69⟩ := sz_some xw67
      have lM69 := below_sz hbxw67 hM62 hM69
      have k70 := k58.below hbxw67 (by omega)
      have k71 := k59.below hbxw67 (by omega)
      have k72 := k60.below hbxw67 (by omega)
      have k73 := k61.below hbxw67 (by omega)
      have lo74 := lob.trans (hbxw67.mono (by omega))
      clear k58 k59 k60 k61 lob hbxw67
      go_wp2_with fail
      go_roundg (64 - (k + 1))
      case rel => exact ⟨k + 1, by omega, rfl, by rw [← kw_succ], ⟨p2, cap2, eE.out, ho68, hp2⟩, k70, k71, k72, k73, lo74⟩
      case measure => omega
   ·obtain rfl : k = 64 := by omega
    have T9 := hid (show BitVec.ult (kw 64) 64#64 = false from (kw_lt (by omega) hk).trans (decide_eq_false hlt))
    go_upto_region 9 with fail
    refine wp_region_later1 (M) ?_
    try simp only [pA]
    refine later_b (x := (.tmp 32)) (y := (.tmp 31)) rfl (BinRun.is T9.out (bin_lss _ (kw 64) 64#64)) rfl rfl (by rfl) ?_; simp only [pA]
    refine wpQuiet_nil ?_
    rintro xw28 ⟨qxw28, exw28⟩
    have hbxw28 := qxw28.b
    rw [← exw28] at hbxw28
    clear qxw28 exw28
    have ho29 := ho.below hbxw28 (Nat.le_of_eq hM)
    clear ho
    obtain ⟨M30, hM30⟩ := sz_some xw28
    have lM30 := below_sz hbxw28 hM hM30
    have k31 := ka.below hbxw28 (by omega)
    have k32 := kb.below hbxw28 (by omega)
    have k33 := kz.below hbxw28 (by omega)
    have k34 := kc.below hbxw28 (by omega)
    have lo35 := lo.trans (hbxw28.mono (by omega))
    clear ka kb kz kc lo hbxw28
    go_upto_region 14 with fail
    refine wp_region_lit ?_
    try simp only [pA]
    refine wpl_run rfl (.slice p n cap) _ (run_mv (x := (.tmp 12)) rfl _ rfl) ?_; simp only [pA]
    refine wpl_cl rfl 72 _ _ rfl #[(.slice p n cap)] (by simp only [List.map_toArray, List.map_cons, List.map_nil] <;> rfl) (by kernel_rfl) (Value.agg (cellsOf (rC (joinN (shLsl sh a b 64) n)) 6)) (Joined_any (shLsl sh a b 64) n (hid EN.out.symm) (by omega) p cap xw28 M30 hM30 ho29) ?_
    intro xw36 hbxw36; simp only [pA]
    have ho37 := ho29.below hbxw36 (Nat.le_of_eq hM30)
    clear ho29
    obtain ⟨M38, hM38⟩ := sz_some xw36
    have lM38 := below_sz hbxw36 hM30 hM38
    have k39 := k31.below hbxw36 (by omega)
    have k40 := k32.below hbxw36 (by omega)
    have k41 := k33.below hbxw36 (by omega)
    have k42 := k34.below hbxw36 (by omega)
    have lo43 := lo35.trans (hbxw36.mono (by omega))
    clear k31 k32 k33 k34 lo35 hbxw36
    refine wpl_store rfl 27 (.tmp 8) (.tmp 64) rfl (N + 1 + 1) 6 (rC (joinN (shLsl sh a b 64) n)) rfl rfl 27 _ k41 szR (fun j _ => rC_one _ j) ?_
    intro xw44 t45 k46; try simp only [pA]
    have k47 := k39.touch t45 (by omega)
    have k48 := k40.touch t45 (by omega)
    have k49 := k42.touch t45 (by omega)
    have lo50 := t45.below lo43 (by omega)
    have h51 := t45.sz hM38
    clear k41 k39 k40 k42 lo43 hM38 t45
    obtain ⟨M52, hM52⟩ := sz_some xw44
    have lt_53 := k47.ltN hM52
    have lt_54 := k48.ltN hM52
    have lt_55 := k46.ltN hM52
    have lt_56 := k49.ltN hM52
    go_wp2_with fail
    refine post_r rfl (N + 1 + 1) rfl k46 undR szR rfl ?_
    exact ⟨by unfold shRl; rw [← EN.out]; rfl, lo50⟩
def shLss (sh : Rn → W → Rn) (a b : Rn) (k : Nat) : List Rn := shL (fun n => tightR (sh a n)) (fun n => BitVec.ule ((n - b.lo) % 32#64) (b.hi - b.lo)) (fun n => tHas (tAnd b.b (tConst (32#64 - 1#64))) n) k
def shRs (sh : Rn → W → Rn) (a b : Rn) : Rn := joinN (shLss sh a b 32) (shLss sh a b 32).length
def shLs12s (a b : Rn) (k : Nat) : List Rn := shL (fun n => tightR (shByR12 (tightR (shUpR a 32#64)) (n + 32#64))) (fun n => BitVec.ule ((n - b.lo) % 32#64) (b.hi - b.lo)) (fun n => tHas (tAnd b.b (tConst (32#64 - 1#64))) n) k
def shR12s (a b : Rn) : Rn := joinN (shLs12s a b 32) (shLs12s a b 32).length
end Go.Proofs.YtbbfdehipgkjmaaDoor
