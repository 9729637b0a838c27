/- Tokens: contracts of full, has, rightsOf, Command, Program, Map, Helper. -/
import Derived.Test.YtilhkgbninbkkaaDoorTk1
namespace Go.Proofs.YtilhkgbninbkkaaDoor
open Go Go.RowKit
set_option maxRecDepth 100000 in
theorem full_any (t : Tk) (us : List Tk) (w : World) (hT : Tks w (t :: us)) :
    Calls Tryd.prog 54 #[.pointer (some ⟨t.b, 0, none⟩)] w fun e w' => e = .returned (.bool (decide (4 ≤ (t :: us).length))) ∧ w' = w := by
  obtain ⟨ts, hts⟩ : ∃ ts, ts = t :: us := ⟨_, rfl⟩
  have e0 : Value.pointer (some ⟨t.b, 0, none⟩) = ptrOf (ts.drop 0) := by rw [hts]; rfl
  have hl : 0 < ts.length := by rw [hts]; simp
  rw [← hts] at hT ⊢
  rw [e0]
  clear hts e0
  go_enter Tryd.func54, Tryd.ntmps54
  go_wp2
  go_loop [0, 3] (fun x i => ∃ j : Nat, j ≤ 3 ∧ j < ts.length ∧ i = .int .i64 (j : Int) ∧ x = ptrOf (ts.drop j)) (fun _ i => 3 - (intOf i).toNat)
  case atStart => exact ⟨0, by omega, hl, rfl, rfl⟩
  case round =>
    obtain ⟨j, hj, hlt, rfl, rfl⟩ := hrel
    have j0 : (0 : Int) ≤ (j : Int) := by omega
    by_cases h3 : j < 3
    · have q3 : (j : Int) < 3 := by omega
      obtain ⟨u, eu⟩ := ptr_drop hlt
      have Hu := hT.drop j
      rw [eu] at Hu ⊢
      have cu := Hu.up
      simp only [ptrOf]
      by_cases h4 : j + 1 < ts.length
      · obtain ⟨v, ev⟩ := ptr_drop h4
        have hv : ptrOf (ts.drop (j + 1)) = .pointer (some ⟨v.b, 0, none⟩) := by rw [ev]; rfl
        rw [hv] at cu
        have Hv := hid hv
        clear hv ev eu Hu
        go_wp2
        go_round
        case rel => exact ⟨j + 1, by omega, h4, by go_num, Hv.out.symm⟩
        case measure => simp [intOf]; omega
      · have hv : ptrOf (ts.drop (j + 1)) = .pointer none := by rw [List.drop_eq_nil_of_le (by omega)]; rfl
        rw [hv] at cu
        have hd := hid (show decide (4 ≤ ts.length) = false by simp; omega)
        clear hv eu Hu
        go_wp2
        go_ret
        exact ⟨by rw [hd.out]; rfl, rfl⟩
    · have q3 : ¬ (j : Int) < 3 := by omega
      have hd := hid (show decide (4 ≤ ts.length) = true by simp; omega)
      go_wp2
      go_ret
      exact ⟨by rw [hd.out]; rfl, rfl⟩
/-- Has one the bit? -/
def hasE (x : BitVec 16) (n : Int) : Int := if n < 0 ∨ 15 < n then 22 else if x.getLsbD n.toNat then 0 else 1
theorem bit_and (x : BitVec 16) (k : Nat) (hk : k < 16) : bits BinOp.and IntKind.u16 (u6 x / 2 ^ k) 1 = if x.getLsbD k then 1 else 0 := by
  have h1 : u6 x / 2 ^ k = ((x.toNat / 2 ^ k : Nat) : Int) := by unfold u6; simp
  have h2 : x.toNat / 2 ^ k < 65536 := Nat.lt_of_le_of_lt (Nat.div_le_self _ _) x.isLt
  rw [h1]
  have := u16_and_nat (x.toNat / 2 ^ k) 1 h2 (by omega)
  rw [show (1 : Int) = ((1 : Nat) : Int) from rfl, this, Nat.and_one_is_mod]
  have e : x.getLsbD k = decide (x.toNat / 2 ^ k % 2 = 1) := by
    rw [BitVec.getLsbD, Nat.testBit_eq_decide_div_mod_eq]
  rw [e]
  by_cases h : x.toNat / 2 ^ k % 2 = 1
  · simp [h]
  · have : x.toNat / 2 ^ k % 2 = 0 := by omega
    simp [this]
set_option maxRecDepth 100000 in
theorem has_any (x : BitVec 16) (n : Int) (w : World) :
    Calls Tryd.prog 57 #[.int .u16 (u6 x), .int .i64 n] w fun e w' => e = .returned (.int .i64 (hasE x n)) ∧ w' = w := by
  by_cases h0 : n < 0
  · have e : hasE x n = 22 := by unfold hasE; rw [if_pos (.inl h0)]
    rw [e]
    clear e
    go_enter Tryd.func57, Tryd.ntmps57
    go_wp2
    go_ret
    exact ⟨rfl, rfl⟩
  · by_cases h1 : 15 < n
    · have e : hasE x n = 22 := by unfold hasE; rw [if_pos (.inr h1)]
      rw [e]
      clear e
      go_enter Tryd.func57, Tryd.ntmps57
      go_wp2
      go_ret
      exact ⟨rfl, rfl⟩
    · obtain ⟨k, rfl⟩ : ∃ k : Nat, n = (k : Int) := ⟨n.toNat, by omega⟩
      have hk : k < 16 := by omega
      have hB := bit_and x k hk
      have e : hasE x (k : Int) = if x.getLsbD k then 0 else 1 := by unfold hasE; rw [if_neg (by omega), Int.toNat_natCast]
      rw [e]
      clear e
      have k0 : (0 : Int) ≤ (k : Int) := by omega
      have k1 : ¬ (k : Int) < 0 := by omega
      have k2 : ¬ 15 < (k : Int) := by omega
      have k3 : (k : Int) < 16 := by omega
      cases hb : x.getLsbD k
      · rw [hb, if_neg (by decide)] at hB
        rw [if_neg (by decide)]
        clear hb
        go_enter Tryd.func57, Tryd.ntmps57
        go_wp2
        go_ret
        exact ⟨rfl, rfl⟩
      · rw [hb, if_pos rfl] at hB
        rw [if_pos rfl]
        clear hb
        go_enter Tryd.func57, Tryd.ntmps57
        go_wp2
        go_ret
        exact ⟨rfl, rfl⟩
/-- The rights of a chain's first one; of none none. -/
def rOf (ts : List Tk) : Rg := match ts with
  | [] => rgNone
  | t :: _ => t.r
set_option maxRecDepth 100000 in
theorem rightsOf_any (ts : List Tk) (w : World) (N : Nat) (hN : Sz w N) (hT : Tks w ts) :
    Calls Tryd.prog 58 #[ptrOf ts] w fun e w' => e = .returned (rgV (rOf ts)) ∧ Below N w w' := by
  obtain ⟨dR, u1, u2⟩ := undRR
  cases ts with
  | nil =>
    simp only [ptrOf, rOf]
    go_enter Tryd.func58, Tryd.ntmps58
    go_wp2_with (first
      | (refine wpl_alloc rfl 26 rfl 6 (rgC rgNone) zeRR N hN ?_; intro w1 hN1 hb1 hh1)
      | (refine wpl_build rfl 26 _ rfl (cellsOf (rgC rgNone) 6) (by kernel_rfl) ?_)
      | (refine wpl_store rfl 26 (.tmp 2) (.tmp 5) rfl N 6 (rgC rgNone) rfl rfl 26 _ hh1 szRR (fun j _ => rgC_one _ j) ?_; intro w2 ht2 hh2)
      | fail)
    refine post_rg rfl N rfl hh2 ⟨_, u1, u2⟩ szRR rfl ?_
    exact ⟨rfl, ht2.below hb1 (Nat.le_refl N)⟩
  | cons t us =>
    simp only [ptrOf, rOf]
    go_enter Tryd.func58, Tryd.ntmps58
    go_wp2_with (first
      | (refine wpl_alloc rfl 26 rfl 6 (rgC rgNone) zeRR N hN ?_; intro w1 hN1 hb1 hh1)
      | (refine wpl_load_cells rfl 26 (.tmp 8) rfl t.b 1 rfl 6 (rgC t.r) (hT.below hN hb1).rights _ u1 u2 szRR ?_)
      | (refine wpl_store rfl 26 (.tmp 2) (.tmp 9) rfl N 6 (rgC t.r) rfl rfl 26 _ hh1 szRR (fun j _ => rgC_one _ j) ?_; intro w2 ht2 hh2)
      | fail)
    refine post_rg rfl N rfl hh2 ⟨_, u1, u2⟩ szRR rfl ?_
    exact ⟨rfl, ht2.below hb1 (Nat.le_refl N)⟩
end Go.Proofs.YtilhkgbninbkkaaDoor
