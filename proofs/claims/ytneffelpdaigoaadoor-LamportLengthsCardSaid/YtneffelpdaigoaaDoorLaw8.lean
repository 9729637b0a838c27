/- The law DigestPads: its walk. -/
import Derived.Test.YtneffelpdaigoaaDoorRef10
namespace Go.Proofs.YtneffelpdaigoaaDoor
open Go Go.RowKit Sha
theorem zer5 : (Tryd.prog.info? 5).map (fun i => (i.zero, i.size, i.bytes)) = some (some (.int .u8 0), 1, 1) := by kernel_rfl
/-- A number of 64 bits without its sign. -/
theorem u64_nat (z : Int) : ∃ q : Nat, IntKind.u64.wrap z = (q : Int) := ⟨(IntKind.u64.wrap z).toNat, by
  have : 0 ≤ IntKind.u64.wrap z := by
    show 0 ≤ z % (2 : Int) ^ 64
    omega
  omega⟩
def padT (c : BitVec 8) (j : Nat) : BitVec 8 := BitVec.ofNat 8 (c.toNat + j)
theorem padT_val (c : BitVec 8) (j : Nat) : (v8 c + (j : Int)) % 256 = v8 (padT c j) := by
  unfold v8 padT; rw [BitVec.toNat_ofNat]; omega
set_option maxRecDepth 100000 in
set_option maxHeartbeats 1000000 in
theorem law_pads (z : Int) (c : BitVec 8) (w : World) (N : Nat) (hN : Sz w N) (hT : Tabs w) :
    Calls Tryd.prog 5 #[.int .i64 z, By c] w fun e w' => e = .returned (.bool true) ∧ Below N w w' := by
  have hTN := hT.ltN hN
  obtain ⟨q, hq⟩ := u64_nat z
  obtain ⟨m, hm⟩ : ∃ m : Nat, m = q % 90 := ⟨_, rfl⟩
  have e1 : (q : Int) % 90 = (m : Int) := by omega
  have hm90 : m < 90 := by omega
  have q0 : (0 : Int) ≤ (q : Int) := by omega
  have m0 : (0 : Int) ≤ (m : Int) := by omega
  have m1 : (m : Int) < 90 := by omega
  clear hm
  obtain ⟨k, hk⟩ : ∃ k : Nat, k = 50 + m := ⟨_, rfl⟩
  have e2 : 50 + (m : Int) = (k : Int) := by omega
  have hk1 : k ≤ 139 := by omega
  have hk0 : 50 ≤ k := by omega
  clear hk
  have heq := run_eq_same (P := Tryd.prog) 23 5 32 und23 und5 inf5 cof5 (shaD (padT c) k)
  have HEQ := hid heq
  clear heq
  unfold By
  go_enter Tryd.func5, Tryd.ntmps5
  go_wp2_with (first
    | (refine wpl_makeN rfl 22 (.tmp 13) (.tmp 13) rfl k _ rfl rfl (by omega) 5 1 _ und22 zer5 (by omega) rfl (by omega) N hN ?_; intro w1 hN1 hb1 h1)
    | fail)
  clear e1 e2 hq q0 m0 m1
  go_loopw [7] (fun i wr => ∃ x : Nat, x ≤ k ∧ i = .int .i64 x ∧ Has wr N 5 k (fun j => By (if j < x then padT c j else 0)) ∧ Below N w wr)
    (fun i _ => k - (intOf i).toNat)
  case atStart => exact ⟨0, by omega, rfl, h1.congr (fun j _ => by rw [if_neg (by omega)]; rfl), hb1⟩
  case round =>
    clear h1 hb1
    obtain ⟨x, hx, rfl, h1, qb⟩ := hrel
    by_cases hlt : x < k
    · have d1 : wr.cell? ⟨N, x, none⟩ = some (By (if x < x then padT c x else 0)) := h1.cell hlt
      have d3 := h1.free x
      have hxk : (x : Int) < (k : Int) := by omega
      go_wp2_with fail
      refine ⟨⟨x + 1, by omega, by go_num, (h1.set x _).congr (fun j _ => ?_), (touch_setCell wr ⟨N, x, none⟩ _).below qb (Nat.le_refl N)⟩, by simp [intOf]; omega⟩
      simp only [upd]
      by_cases e : j = x
      · subst e; rw [if_pos rfl, if_pos (by omega)]; exact int_congr (padT_val c j)
      · rw [if_neg e]
        by_cases h2 : j < x
        · rw [if_pos h2, if_pos (by omega)]
        · rw [if_neg h2, if_neg (by omega)]
    · obtain rfl : x = k := by omega
      have hb : Bytes wr (some ⟨N, 0, none⟩) x (padT c) := fun _ => ⟨N, 0, rfl, fun j hj => by rw [Nat.zero_add, h1.cell hj, if_pos hj]⟩
      obtain ⟨M, hM⟩ := sz_some wr
      have hMN : N < M := h1.ltN hM
      have hTr := hT.below qb hTN
      have heq := HEQ.out
      go_wp2_with (first
        | (go_at_call 18; refine (sums_any _ M hM hTr).mono ?_; rintro e w1 ⟨rfl, hb1⟩; obtain ⟨M1, hM1⟩ := sz_some w1; have hMM1 := below_sz hb1 hM hM1; have qb1 := qb.trans (hb1.mono (by omega)); have hB1 := hb.below hM hb1)
        | (go_at_call 17; refine (Sum_any _ x x (padT c) _ M1 hM1 (hT.below qb1 hTN) (Nat.le_refl _) (by omega) hB1).mono ?_; rintro e w2 ⟨rfl, hb2⟩; obtain ⟨M2, hM2⟩ := sz_some w2; have hMM2 := below_sz hb2 hM1 hM2; have qb2 := qb1.trans (hb2.mono (by omega)); have hB2 := hB1.below hM1 hb2)
        | (go_at_call 19; refine (RefSum_any _ x x (padT c) _ M2 hM2 (Nat.le_refl _) (by omega) hB2).mono ?_; rintro e w3 ⟨rfl, hb3⟩; have qb3 := qb2.trans (hb3.mono (by omega)))
        | fail)
      go_ret
      exact ⟨rfl, qb3⟩
end Go.Proofs.YtneffelpdaigoaaDoor
