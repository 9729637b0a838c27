/- below of the document's answer for layer 1. -/
import Derived.Test.YtneffelpdaigoaaDoorRef2
namespace Go.Proofs.YtneffelpdaigoaaDoor
open Go Go.RowKit Sha
def blwY (v k j : Nat) : Nat := if j = k then v else 0
/-- Is a number of parts at most v at the place k? From above. -/
def blw (X : Nat → Nat) (v k : Nat) : Nat → Bool
  | 0 => true
  | i + 1 => if X i = blwY v k i then blw X v k i else decide (X i < blwY v k i)
set_option maxRecDepth 100000 in
set_option maxHeartbeats 1000000 in
theorem below_any (p : Option Addr) (n cp v k : Nat) (X : Nat → Nat) (w : World) (N : Nat) (hN : Sz w N) (hX : Ats w p n (fun j => U64 (X j)))
    (hk : k < n) (hn' : n ≤ 40) :
    Calls Tryd.prog 63 #[.slice p n cp, .int .u64 (v : Int), .int .i64 (k : Int)] w fun e w' => e = .returned (.bool (blw X v k n)) ∧ Below N w w' := by
  obtain ⟨ba, oa, rfl, hca⟩ := hX (by omega)
  have HA := hid hca
  have hba : ba < N := by have := World.block_lt_of_cell? w _ (hca 0 (by omega)); have e : w.heap.size = N := hN; simp only at this; omega
  clear hX hca
  have hk0 : (0 : Int) ≤ (k : Int) := by omega
  have hkn : (k : Int) < (n : Int) := by omega
  go_enter Tryd.func63, Tryd.ntmps63
  go_wp2_with (first
    | (refine wpl_makeN rfl 87 (.tmp 10) (.tmp 10) rfl n _ rfl rfl (by omega) 31 8 _ und87 zer31 (by omega) rfl (by omega) N hN ?_; intro w1 hN1 hb1 h1)
    | (refine wpl_set rfl 31 (.tmp 15) (.tmp 14) rfl N k rfl (.int .u64 (v : Int)) rfl inf31 rfl rfl 31 n _ h1 (by omega) ?_; intro w2 ht2 h2)
    | fail)
  have qb := ht2.below hb1 (Nat.le_refl N)
  have h3 : Has w2 N 31 n (fun j => U64 (blwY v k j)) := h2.congr fun j _ => by simp only [upd, blwY]; split <;> rfl
  clear h1 h2 ht2 hb1 hN1
  go_loopw [8] (fun i wr => ∃ t : Nat, t ≤ n ∧ i = .int .i64 ((t : Int) - 1) ∧ Hid (blw X v k n = blw X v k t) ∧ Has wr N 31 n (fun j => U64 (blwY v k j)) ∧ Below N w wr)
    (fun i _ => (intOf i + 1).toNat)
  case atStart => exact ⟨n, by omega, rfl, hid rfl, h3, qb⟩
  case round =>
    clear h3 qb
    obtain ⟨t, ht, rfl, HF, h1, qb⟩ := hrel
    cases t with
    | zero =>
      go_wp2_with fail
      go_ret
      exact ⟨by rw [HF.out]; rfl, qb⟩
    | succ s =>
      rw [show ((s + 1 : Nat) : Int) - 1 = (s : Int) from by omega]
      have hs0 : (0 : Int) ≤ (s : Int) := by omega
      have hsn : (s : Int) < (n : Int) := by omega
      have ca : wr.cell? ⟨ba, oa + s, none⟩ = some (U64 (X s)) := by rw [qb.cell (p := ⟨ba, oa + s, none⟩) hba]; exact HA.out s (by omega)
      have cb : wr.cell? ⟨N, s, none⟩ = some (U64 (blwY v k s)) := h1.cell (by omega)
      have hstep := hid (show blw X v k (s + 1) = if X s = blwY v k s then blw X v k s else decide (X s < blwY v k s) from rfl)
      obtain ⟨x, ex⟩ : ∃ x, x = X s := ⟨_, rfl⟩
      obtain ⟨y, ey⟩ : ∃ y, y = blwY v k s := ⟨_, rfl⟩
      rw [← ex] at ca hstep
      rw [← ey] at cb hstep
      unfold U64 at ca cb
      clear ex ey
      by_cases he : x = y
      · subst he
        have hstep2 := hid (hstep.out.trans (if_pos rfl))
        clear hstep
        go_wp2_with fail
        go_quiet (fail)
        go_wp2_with fail
        exact ⟨⟨s, by omega, rfl, hid (HF.out.trans hstep2.out), h1.drewN _, below_drewN qb _⟩, by simp [intOf]⟩
      · have hstep2 := hid (hstep.out.trans (if_neg he))
        clear hstep
        have hne : ¬ ((x : Int) = (y : Int)) := by omega
        go_wp2_with fail
        go_quiet (fail)
        go_wp2_with fail
        go_quiet (fail)
        go_wp2_with fail
        go_ret
        exact ⟨by rw [HF.out, hstep2.out]; simp, below_drewN (below_drewN qb _) _⟩
end Go.Proofs.YtneffelpdaigoaaDoor
