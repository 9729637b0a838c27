/- Live of objtab at string. -/
import Derived.Test.YtkofhcjgobccoaaObDS
import Derived.Test.YtkofhcjgobccoaaFd2
import Derived.Test.YtkofhcjgobccoaaIdsC
namespace Go.Proofs.Ytkofhcjgobccoaa
open Go Go.RowKit
set_option maxRecDepth 100000 in
set_option maxHeartbeats 1000000 in
theorem OLiveS_any (b : Nat) (size last : Int) (p : Option Addr) (n cap : Nat) (E : Nat → En ByteArray) (hn : n ≤ 1000) (w : World) (N : Nat) (hN : Sz w N) (hO : ObS w b size last p n cap E) :
    Calls Try.prog 9 #[.pointer (some ⟨b, 0, none⟩)] w fun e w' => ∃ q c, e = .returned (.slice q n c) ∧ Own w' 3 q n c (idsC E) ∧ (∀ g, blk q = some g → N ≤ g) ∧ Below N w w' := by
  obtain ⟨fs, hfs⟩ := stES
  have c2 := hO.c2
  go_enter Try.func9, Try.ntmps9
  go_wp2
  go_loopw [3, 13] (fun v i wr => ∃ (j c : Nat) (q : Option Addr), j ≤ n ∧ i = .int .i64 j ∧ v = .slice q j c ∧ Own wr 3 q j c (idsC E) ∧ (∀ g, blk q = some g → N ≤ g) ∧ Below N w wr) (fun _ i _ => n - (intOf i).toNat)
  case atStart => exact ⟨0, 0, none, by omega, rfl, rfl, Own.nil _ _ _, fun _ h => (by cases h), Below.refl _ _⟩
  case round =>
    obtain ⟨j, c, q, hj, rfl, rfl, hown, hq, qb⟩ := hrel
    by_cases he : j < n
    · have hlt : (j : Int) < (n : Int) := by omega
      obtain ⟨M, hM⟩ := sz_some wr
      have hNM := below_sz qb hN hM
      obtain ⟨g, rfl⟩ := hO.ptr (by omega)
      have Hce := hid (fun i hi => (hO.below hN qb).at j he i hi)
      have Hq := hid hq
      have hqM : ∀ g, blk q = some g → g ≠ M := fun g hg => by have := hown.lt g hg; have e : wr.heap.size = M := hM; omega
      obtain ⟨z, hz⟩ : ∃ z, z = (E j).id := ⟨_, rfl⟩
      have Hz := hid hz
      clear hq hz
      go_wp2_with (first
        | (refine wpl_load_cells rfl 43 (.tmp 16) rfl g (j * 3) rfl 3 (oneC Value.string (E j)) Hce.out _ hfs rfl szES ?_)
        | (refine wpl_load_cells rfl 43 (.tmp 15) rfl g (j * 3) rfl 3 (oneC Value.string (E j)) Hce.out _ hfs rfl szES ?_)
        | (refine wpl_alloc rfl 43 rfl 3 _ zES M hM ?_; intro x1 hX1 hb1 ha1)
        | (refine wpl_store rfl 43 (.tmp 5) (.tmp 16) rfl M 3 (oneC Value.string (E j)) rfl rfl 43 _ ha1 szES (fun j _ => oneC_one (fun _ => rfl) _ j) ?_; intro x2 ht2 ha2; have cs2 : x2.cell? ⟨M, 0, none⟩ = some (.int .i64 z) := (ha2.cell (by omega)).trans (by rw [Hz.out]; rfl); have o2 := (hown.below hb1 (Nat.le_of_eq hM)).touch ht2 hqM; have hX2 := ht2.sz hX1)
        | (refine wpl_app rfl (.tmp 17) (.tmp 20) 23 rfl 3 undInts oneInt q j c rfl (idsC E) (o2.alloc _) (some ⟨M + 1, 0, none⟩) 1 1 (by rw [← show x2.heap.size = M + 1 from hX2]; rfl) (fun _ => .int .i64 z) (cells_new_one x2 _ _ (M + 1) hX2) (fun _ _ => rfl) (by omega) ?_; intro p1 cap1 w1 o1 g1 k1 n1)
        | fail)
      have b2 : Below N w x2 := qb.trans ((ht2.below hb1 (Nat.le_refl M)).mono hNM)
      have s1 : Below N w (x2.alloc (.cells #[.int .i64 z] 3)) := b2.trans ((below_new x2 _ (M + 1) hX2).mono (by omega))
      have z1 : (x2.alloc (.cells #[.int .i64 z] 3)).heap.size = M + 1 + 1 := sz_alloc hX2 _
      exact ⟨⟨j + 1, cap1, p1, by omega, by go_num, rfl, o1.congr (fun i hi => by
        unfold cat idsC
        by_cases h : i < j
        · rw [if_pos h]
        · obtain rfl : i = j := by omega
          rw [if_neg h, Hz.out]), ge_step Hq.out (by rw [z1] at k1; exact k1) (by omega), g1.below s1 (by omega) Hq.out⟩, by simp [intOf]; omega⟩
    · obtain rfl : j = n := by omega
      have hlt : ¬ ((j : Int) < (j : Int)) := by omega
      go_wp2
      go_ret
      exact ⟨q, c, rfl, hown, hq, qb⟩
end Go.Proofs.Ytkofhcjgobccoaa
