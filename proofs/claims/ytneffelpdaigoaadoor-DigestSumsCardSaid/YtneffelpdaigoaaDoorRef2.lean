/- times of the document's answer for layer 1. -/
import Derived.Test.YtneffelpdaigoaaDoorRef1
import Derived.Test.YtneffelpdaigoaaDoorAts
import Derived.BigQuiet
namespace Go.Proofs.YtneffelpdaigoaaDoor
open Go Go.RowKit Sha
theorem zer31 : (Tryd.prog.info? 31).map (fun i => (i.zero, i.size, i.bytes)) = some (some (.int .u64 0), 1, 8) := by kernel_rfl
theorem u64_small (z : Int) (h0 : 0 ≤ z) (h1 : z < 18446744073709551616) : IntKind.u64.wrap z = z := IntWalk.u64_in z ⟨h0, by omega⟩
theorem cast_div4 (a b c d : Nat) : ((a : Int) * (b : Int) + (c : Int) + (d : Int)) / 4294967296 = (((a * b + c + d) / 4294967296 : Nat) : Int) := by
  rw [Int.natCast_ediv]; simp only [Int.natCast_add, Int.natCast_mul]; rfl
theorem cast_mod4 (a b c d : Nat) : ((a : Int) * (b : Int) + (c : Int) + (d : Int)) % 4294967296 = (((a * b + c + d) % 4294967296 : Nat) : Int) := by
  rw [Int.natCast_emod]; simp only [Int.natCast_add, Int.natCast_mul]; rfl
set_option maxRecDepth 100000 in
set_option maxHeartbeats 1000000 in
theorem times_any (p q : Option Addr) (n cp m cq : Nat) (A B : Nat → Nat) (w : World) (N : Nat) (hN : Sz w N) (hA : Ats w p n (fun j => U64 (A j))) (hB : Ats w q m (fun j => U64 (B j)))
    (hn : 1 ≤ n) (hn' : n ≤ 10) (hm : 1 ≤ m) (hm' : m ≤ 10) (lA : ∀ k, k < n → A k < 4294967296) (lB : ∀ k, k < m → B k < 4294967296) :
    Calls Tryd.prog 62 #[.slice p n cp, .slice q m cq] w fun e w' => e = .returned (.slice (some ⟨N, 0, none⟩) (n + m) (n + m)) ∧ Below N w w' ∧ Has w' N 31 (n + m) (fun j => U64 (tOut A B m n j)) := by
  have LA := hid lA
  have LB := hid lB
  clear lA lB
  obtain ⟨ba, oa, rfl, hca⟩ := hA (by omega)
  obtain ⟨bb, ob, rfl, hcb⟩ := hB (by omega)
  have HA := hid hca
  have HB := hid hcb
  have hba : ba < N := by have := World.block_lt_of_cell? w _ (hca 0 (by omega)); have e : w.heap.size = N := hN; simp only at this; omega
  have hbb : bb < N := by have := World.block_lt_of_cell? w _ (hcb 0 (by omega)); have e : w.heap.size = N := hN; simp only at this; omega
  clear hA hB hca hcb
  go_enter Tryd.func62, Tryd.ntmps62
  go_wp2_with (first
    | (refine wpl_makeN rfl 87 (.tmp 14) (.tmp 14) rfl (n + m) _ rfl rfl (by omega) 31 8 _ und87 zer31 (by omega) rfl (by omega) N hN ?_; intro w1 hN1 hb1 h1)
    | fail)
  go_loopw [6] (fun i wr => ∃ k : Nat, k ≤ n ∧ i = .int .i64 k ∧ Has wr N 31 (n + m) (fun j => U64 (tOut A B m k j)) ∧ Below N w wr)
    (fun i _ => n - (intOf i).toNat)
  case atStart => exact ⟨0, by omega, rfl, h1, hb1⟩
  case round =>
    clear h1 hb1
    obtain ⟨k, hk, rfl, h1, qb⟩ := hrel
    by_cases hlt : k < n
    · have l1 := tOut_lt A B n m LA.out LB.out k (by omega)
      have L1 := hid l1
      clear l1
      go_wp2_with fail
      go_loopw [7, 8] (fun c i wx => ∃ x : Nat, x ≤ m ∧ i = .int .i64 x ∧ c = U64 (tIn A B k (tOut A B m k) x).2 ∧ Has wx N 31 (n + m) (fun j => U64 ((tIn A B k (tOut A B m k) x).1 j)) ∧ Below N w wx)
        (fun _ i _ => m - (intOf i).toNat)
      case atStart => exact ⟨0, by omega, rfl, rfl, h1, qb⟩
      case round =>
        clear h1 qb
        obtain ⟨x, hx, rfl, rfl, h1, qb⟩ := hrel
        by_cases hltx : x < m
        · obtain ⟨i1, i2⟩ := tIn_lt A B k (tOut A B m k) m (LA.out k hlt) LB.out L1.out x hx
          have ca : wr.cell? ⟨ba, oa + k, none⟩ = some (U64 (A k)) := by rw [qb.cell (p := ⟨ba, oa + k, none⟩) hba]; exact HA.out k hlt
          have cb : wr.cell? ⟨bb, ob + x, none⟩ = some (U64 (B x)) := by rw [qb.cell (p := ⟨bb, ob + x, none⟩) hbb]; exact HB.out x hltx
          have co : wr.cell? ⟨N, k + x, none⟩ = some (U64 ((tIn A B k (tOut A B m k) x).1 (k + x))) := h1.cell (by omega)
          have a1 := LA.out k hlt
          have b1 := LB.out x hltx
          have o1 := i1 (k + x)
          obtain ⟨va, ea⟩ : ∃ va, va = A k := ⟨_, rfl⟩
          obtain ⟨vb, eb⟩ : ∃ vb, vb = B x := ⟨_, rfl⟩
          obtain ⟨vo, eo⟩ : ∃ vo, vo = (tIn A B k (tOut A B m k) x).1 (k + x) := ⟨_, rfl⟩
          obtain ⟨vc, ec⟩ : ∃ vc, vc = (tIn A B k (tOut A B m k) x).2 := ⟨_, rfl⟩
          have hstep := hid (show tIn A B k (tOut A B m k) (x + 1) = (fun j => if j = k + x then (va * vb + vo + vc) % 4294967296 else (tIn A B k (tOut A B m k) x).1 j, (va * vb + vo + vc) / 4294967296) by rw [ea, eb, eo, ec]; rfl)
          rw [← ea] at ca a1
          rw [← eb] at cb b1
          rw [← eo] at co o1
          rw [← ec] at i2 ⊢
          unfold U64 at ca cb co
          rw [show U64 vc = .int .u64 (vc : Int) from rfl]
          clear ea eb eo ec i1
          have hab : va * vb ≤ 4294967295 * 4294967295 := Nat.mul_le_mul (by omega) (by omega)
          have hcast : (va : Int) * (vb : Int) = ((va * vb : Nat) : Int) := by push_cast; rfl
          have p1 : IntKind.u64.wrap ((va : Int) * (vb : Int)) = (va : Int) * (vb : Int) := IntWalk.u64_in _ (by rw [hcast]; omega)
          have p2 : IntKind.u64.wrap ((va : Int) * (vb : Int) + (vo : Int)) = (va : Int) * (vb : Int) + (vo : Int) := IntWalk.u64_in _ (by rw [hcast]; omega)
          have p3 : IntKind.u64.wrap ((va : Int) * (vb : Int) + (vo : Int) + (vc : Int)) = (va : Int) * (vb : Int) + (vo : Int) + (vc : Int) := IntWalk.u64_in _ (by rw [hcast]; omega)
          have n3 : (0 : Int) ≤ (va : Int) * (vb : Int) + (vo : Int) + (vc : Int) := by rw [hcast]; omega
          have HC := hid hcast
          have hk0 : (0 : Int) ≤ (k : Int) := by omega
          have hx0 : (0 : Int) ≤ (x : Int) := by omega
          have hkn : (k : Int) < (n : Int) := by omega
          have hxm : (x : Int) < (m : Int) := by omega
          have hsum : (k : Int) + (x : Int) < (n : Int) + (m : Int) := by omega
          have hs0 : (0 : Int) ≤ (k : Int) + (x : Int) := by omega
          have hsw : IntKind.i64.wrap ((k : Int) + (x : Int)) = (k : Int) + (x : Int) := IntWalk.i64_in _ (by omega)
          have hst : ((k : Int) + (x : Int)).toNat = k + x := by omega
          have hlm : decide ((x : Int) < (m : Int)) = true := by simp; omega
          clear hcast hab a1 b1 o1 i2
          go_wp2_with fail
          go_quiet (fail)
          clear ca cb co
          go_wp2_with (first
            | (refine wpl_set rfl 31 (.tmp 52) (.tmp 51) rfl N (k + x) rfl (.int .u64 (((va : Int) * (vb : Int) + (vo : Int) + (vc : Int)) % 4294967296)) rfl inf31 rfl rfl 31 (n + m) _ (h1.drewN nq) (by omega) ?_; intro w3 ht3 h3)
            | fail)
          refine ⟨⟨x + 1, by omega, by push_cast; rfl, ?_, ?_, ht3.below (below_drewN qb nq) (Nat.le_refl N)⟩, by simp [intOf]; omega⟩
          · rw [hstep.out]
            exact congrArg (Value.int .u64) (cast_div4 va vb vo vc)
          · rw [hstep.out]
            refine h3.congr fun j hj => ?_
            simp only [upd]
            split
            · exact congrArg (Value.int .u64) (cast_mod4 va vb vo vc)
            · rfl
        · obtain ⟨i1, i2⟩ := tIn_lt A B k (tOut A B m k) m (LA.out k hlt) LB.out L1.out m (Nat.le_refl m)
          have hxm : x = m := by omega
          subst hxm
          have o1 : (tIn A B k (tOut A B x k) x).1 (k + x) = 0 := by rw [tIn_far _ _ _ _ _ _ (Nat.le_refl _), tOut_far _ _ _ _ _ (Nat.le_refl _)]
          have co : wr.cell? ⟨N, k + x, none⟩ = some (.int .u64 0) := by rw [h1.cell (by omega), o1]; rfl
          obtain ⟨vc, ec⟩ : ∃ vc, vc = (tIn A B k (tOut A B x k) x).2 := ⟨_, rfl⟩
          have hstep := hid (show tOut A B x (k + 1) = (fun j => if j = k + x then vc else (tIn A B k (tOut A B x k) x).1 j) by funext j; show (if j = k + x then _ else _) = _; split <;> rename_i h <;> simp [h, ec, o1])
          rw [← ec] at i2 ⊢
          clear ec
          rw [show U64 vc = .int .u64 (vc : Int) from rfl]
          have p2 : IntKind.u64.wrap (vc : Int) = (vc : Int) := IntWalk.u64_in _ (by omega)
          have hk0 : (0 : Int) ≤ (k : Int) := by omega
          have hx0 : (0 : Int) ≤ (x : Int) := by omega
          have hsum : (k : Int) + (x : Int) < (n : Int) + (x : Int) := by omega
          have hs0 : (0 : Int) ≤ (k : Int) + (x : Int) := by omega
          have hsw : IntKind.i64.wrap ((k : Int) + (x : Int)) = (k : Int) + (x : Int) := IntWalk.i64_in _ (by omega)
          have hst : ((k : Int) + (x : Int)).toNat = k + x := by omega
          clear i1 i2 o1
          go_wp2_with (first
            | (refine wpl_set rfl 31 (.tmp 69) (.tmp 68) rfl N (k + x) rfl _ rfl inf31 rfl rfl 31 (n + x) _ h1 (by omega) ?_; intro w3 ht3 h3)
            | fail)
          refine ⟨⟨k + 1, by omega, by push_cast; rfl, ?_, ht3.below qb (Nat.le_refl N)⟩, by simp [intOf]; omega⟩
          rw [hstep.out]
          refine h3.congr fun j hj => ?_
          simp only [upd]
          split
          · rfl
          · rfl
    · have hkn : k = n := by omega
      subst hkn
      go_wp2_with fail
      go_ret
      exact ⟨rfl, qb, h1⟩
end Go.Proofs.YtneffelpdaigoaaDoor
