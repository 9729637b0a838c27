/- The law's own look: what a seed signs is verified. -/
import Derived.Test.YtcampjgemedhlaaDoorLam5
import Derived.Test.YtcampjgemedhlaaDoorRegB
import Derived.Test.YtcampjgemedhlaaDoorDig6
namespace Go.Proofs.YtcampjgemedhlaaDoor
open Go Go.RowKit Sha
theorem bytes_one (w : World) (x : BitVec 8) (v : Int) (hv : v = v8 x) (T : TypeId) (fr : Nat × Nat) : Bytes (w.alloc (.cells #[.int .u8 v] T fr)) (some ⟨w.heap.size, 0, none⟩) 1 (fun _ => x) := fun _ =>
  ⟨w.heap.size, 0, rfl, fun j hj => by
    obtain rfl : j = 0 := by omega
    rw [cell_of_row _ _ _ _ _ _ (heap_alloc_new w _), hv]; rfl⟩
theorem own_bytes {w : World} {E : TypeId} {p : Option Addr} {n c : Nat} {D : Nat → BitVec 8} (h : Own w E p n c (fun j => By (D j))) : Bytes w p n D := fun h0 => by
  obtain ⟨g, e, hc⟩ := h.cell h0
  exact ⟨g, 0, e, hc⟩
/-- A sum that is told byte by byte from its first one. -/
def sumOne (x : BitVec 8) : Nat → BitVec 8 := fun j => if j = 0 then x else 0
theorem run_eq_key0 (x : BitVec 8) (w : World) : (Op.equalIn 10000 23 (.agg (cellsOf (fun j => By (keyD 1 (fun _ => x) j)) 32)) (.agg (cellsOf (fun _ => By 0) 32))).run Tryd.prog w = .ok false w := by
  rw [run_eq_bytes (P := Tryd.prog) 23 5 32 und23 und5 inf5 cof5v (keyD 1 (fun _ => x)) (fun _ => 0) w]
  congr 1
  obtain ⟨j, hj, hn⟩ := key_nonzero x
  rw [List.all_eq_false]
  exact ⟨j, by simpa using hj, by simpa using hn⟩
theorem ver_true (n : Nat) (D s : Nat → BitVec 8) : verAns (keyD n D) s (sigD n D s) = 0 := by unfold verAns; rw [fits_sig]; rfl
set_option maxRecDepth 100000 in
set_option maxHeartbeats 1000000 in
theorem signs_any (w : World) (N : Nat) (hN : Sz w N) (hT : Tabs w) :
    Calls Tryd.prog 27 #[] w fun e w' => e = .returned (.bool true) ∧ Below N w w' := by
  have hTN := hT.ltN hN
  have kc := fun (w : World) (C : Array Value) (n c : Nat) => Lib.run_convert_bytes_const (P := Tryd.prog) w 22 5 C n c und22 und5
  go_enter Tryd.func27, Tryd.ntmps27
  go_wp2_with (first
    | (go_at_call 25; refine (Key_any _ 1 1 (fun _ => 115) _ (N + 1) (sz_alloc hN _) (hT.below (below_new w _ N hN) hTN) (by omega) (by omega) (bytes_one w 115 _ rfl _ _)).mono ?_; rintro e w1 ⟨rfl, hb1'⟩; obtain ⟨M1, hM1⟩ := sz_some w1; have hNM1 := below_sz hb1' (sz_alloc hN _) hM1; have hb1 := (below_new w _ N hN).trans (hb1'.mono (Nat.le_succ N)); clear hb1')
    | (refine wpl_alloc rfl 23 rfl 32 _ zer23 M1 hM1 ?_; intro w2 hM2 hb2 h2)
    | (refine wpl_store rfl 23 (.tmp 1) (.tmp 5) rfl M1 32 _ rfl rfl 23 _ h2 inf23 (fun _ _ => rfl) ?_; intro w3 ht3 h3; have hM3 := ht3.sz hM2; have hb3 : Below N w w3 := ht3.below (hb1.trans (hb2.mono (by omega))) (by omega))
    | (refine wpl_build rfl 23 _ rfl (cellsOf (fun j => By (sumOne 5 j)) 32) (by kernel_rfl) ?_)
    | (go_at_call 26; refine (Sign_any _ 1 1 (fun _ => 115) (sumOne 5) _ (M1 + 1 + 1) (sz_alloc hM3 _) (hT.below (hb3.trans ((below_new w3 _ _ hM3).mono (by omega))) hTN) (by omega) (by omega) (bytes_one w3 115 _ rfl _ _)).mono ?_; rintro e w4 ⟨ps, cs, rfl, ho4, hp4, hb4'⟩; have hb4 := (below_new w3 _ _ hM3).trans (hb4'.mono (Nat.le_succ _)); clear hb4')
    | fail)
  obtain ⟨M4, hM4⟩ := sz_some w4
  have hMM4 := below_sz hb4 hM3 hM4
  have k4 := h3.below hb4 (by omega)
  have q4 : Below N w w4 := hb3.trans (hb4.mono (by omega))
  have hcs := ho4.le
  obtain ⟨g4, rfl, _⟩ := ho4.cell (by omega)
  have hs : ∀ w, (Instr.sliceAt 22 (.slice (some ⟨g4, 0, none⟩) 2048 cs) (some (.int .i64 1)) none none).run Tryd.prog w = .ok (.slice (some ⟨g4, 0 + 1, none⟩) (2048 - 1) (cs - 1)) w := fun w => by
    have := run_slice_from (P := Tryd.prog) 22 5 und22 inf5 (some ⟨g4, 0, none⟩) 2048 cs 1 (by omega) w
    rwa [cutAt_lt g4 0 cs 1 (by omega)] at this
  refine wp_region_any (by kernel_rfl) ?_
  change wpAny _ _ _ _ _ _ _ (World.drew _)
  refine wpAny_take (i := 0) (v := ?v0) rfl (by kernel_rfl) (by kernel_rfl) (by kernel_rfl) (fun _ _ _ h => h) (Or.inl ⟨by rfl, ?y0⟩) ?r0
  case y0 => (intro w; go_simp; first | done | with_reducible rfl)
  refine wpAny_take (i := 1) (v := ?v1) rfl (by kernel_rfl) (by kernel_rfl) (by kernel_rfl) (fun _ _ _ h => h) (Or.inl ⟨by rfl, ?y1⟩) ?r1
  case y1 => (intro w; go_simp; first | done | with_reducible rfl)
  refine wpAny_take (i := 2) (v := .bool true) rfl (by kernel_rfl) (by kernel_rfl) (by kernel_rfl) (fun _ _ _ h => h) (Or.inl ⟨by rfl, ?y2⟩) ?r2
  case y2 => (intro w; go_simp; first | done | with_reducible rfl)
  refine wpAny_take (i := 3) (v := .bool true) rfl (by kernel_rfl) (by kernel_rfl) (by kernel_rfl) (fun _ _ _ h => h) (Or.inl ⟨by rfl, ?y3⟩) ?r3
  case y3 => (intro w; go_simp; first | done | with_reducible rfl)
  refine wpAny_take (i := 5) (v := .agg (cellsOf (fun _ => By 0) 32)) rfl (by kernel_rfl) (by kernel_rfl) (by kernel_rfl) (fun _ _ _ h => h) (Or.inl ⟨by rfl, ?y5⟩) ?r5
  case y5 => (intro w; kernel_rfl)
  simp only [Act.put, List.setIfInBounds_toArray, List.set_cons_succ, List.set_cons_zero, List.getElem_toArray, List.getElem_cons_succ, List.getElem_cons_zero]
  refine wpAny_part [4, 6, 7, 8] _ _ _ _ (by kernel_rfl) ?_
  simp only [List.filterMap_cons, List.filterMap_nil, List.getElem?_toArray, List.getElem?_cons_succ, List.getElem?_cons_zero]
  refine wpl_want (by rfl) ?_
  refine wpl_load rfl 23 (.tmp 1) rfl M1 rfl 23 32 _ (by exact k4) _ und23 rfl inf23 ?_
  refine wpl_want (by rfl) ?_
  refine wpl_neq rfl 23 23 (.tmp 14) (.tmp 15) rfl _ _ rfl rfl _ (by kernel_rfl) (run_eq_key0 115 _) ?_
  refine wpl_pure rfl (v := .bool true) (by intro w; rfl) ?_
  refine wpl_pure rfl (v := .bool true) (by intro w; rfl) ?_
  change wpAny _ _ _ _ _ _ _ _
  simp only [Act.put, List.setIfInBounds_toArray, List.set_cons_succ, List.set_cons_zero]
  refine wpAny_take (i := 10) (v := .agg (cellsOf (fun j => By (sumOne 5 j)) 32)) rfl (by kernel_rfl) (by kernel_rfl) (by kernel_rfl) (fun _ _ _ h => h) (Or.inl ⟨by rfl, ?y10⟩) ?r10
  case y10 => (intro w; kernel_rfl)
  refine wpAny_take (i := 11) (v := .slice (some ⟨g4, 0, none⟩) 2048 cs) rfl (by kernel_rfl) (by kernel_rfl) (by kernel_rfl) (fun _ _ _ h => h) (Or.inl ⟨by rfl, ?y11⟩) ?r11
  case y11 => (intro w; rfl)
  refine wpAny_part [9, 12, 13, 14, 15] _ _ _ _ (by kernel_rfl) ?_
  simp only [Act.put, List.setIfInBounds_toArray, List.set_cons_succ, List.set_cons_zero, List.filterMap_cons, List.filterMap_nil, List.getElem?_toArray, List.getElem?_cons_succ, List.getElem?_cons_zero]
  refine wpl_want (by rfl) ?_
  refine wpl_load rfl 23 (.tmp 1) rfl M1 rfl 23 32 _ (by exact k4) _ und23 rfl inf23 ?_
  refine wpl_want (by rfl) ?_
  dsimp only
  go_wp2_with fail
  refine (Verify_any (keyD 1 (fun _ => 115)) (sumOne 5) (sigD 1 (fun _ => 115) (sumOne 5)) _ cs hcs _ M4 (by exact hM4) (by exact (hT.below q4 hTN).drew) (by exact own_bytes ho4)).mono ?_
  rintro e w5 ⟨rfl, hb5'⟩
  rw [ver_true]
  have hb5 : Below M4 w4 w5 := mod_belowdrew hb5'
  obtain ⟨M5, hM5⟩ := sz_some w5
  have hMM5 := below_sz hb5 hM4 hM5
  dsimp only
  go_step
  refine wpl_want (by rfl) ?_
  refine wpl_pure rfl (v := .bool true) (by intro w; first | rfl | go_simp) ?_
  refine wpl_pure rfl (v := .bool true) (by intro w; rfl) ?_
  refine wpl_pure rfl (v := .bool true) (by intro w; rfl) ?_
  change wpAny _ _ _ _ _ _ _ _
  simp only [Act.put, List.setIfInBounds_toArray, List.set_cons_succ, List.set_cons_zero]
  refine wpAny_take (i := 17) (v := .agg (cellsOf (fun j => By (sumOne 5 j)) 32)) rfl (by kernel_rfl) (by kernel_rfl) (by kernel_rfl) (fun _ _ _ h => h) (Or.inl ⟨by rfl, ?y17⟩) ?r17
  case y17 => (intro w; kernel_rfl)
  refine wpAny_take (i := 18) (v := .slice (some ⟨g4, 0, none⟩) 2048 cs) rfl (by kernel_rfl) (by kernel_rfl) (by kernel_rfl) (fun _ _ _ h => h) (Or.inl ⟨by rfl, ?y18⟩) ?r18
  case y18 => (intro w; rfl)
  simp only [Act.put, List.setIfInBounds_toArray, List.set_cons_succ, List.set_cons_zero]
  refine wpAny_take (i := 19) (v := .slice (some ⟨g4, 0 + 1, none⟩) (2048 - 1) (cs - 1)) rfl (by kernel_rfl) (by kernel_rfl) (by kernel_rfl) (fun _ _ _ h => h) (Or.inl ⟨by rfl, ?y19⟩) ?r19
  case y19 => (intro w; go_simp; first | done | with_reducible rfl)
  refine wpAny_part [16, 20, 21, 22, 23] _ _ _ _ (by kernel_rfl) ?_
  simp only [Act.put, List.setIfInBounds_toArray, List.set_cons_succ, List.set_cons_zero, List.filterMap_cons, List.filterMap_nil, List.getElem?_toArray, List.getElem?_cons_succ, List.getElem?_cons_zero]
  refine wpl_want (by rfl) ?_
  refine wpl_load rfl 23 (.tmp 1) rfl M1 rfl 23 32 _ (by exact k4.below hb5 (by omega)) _ und23 rfl inf23 ?_
  refine wpl_want (by rfl) ?_
  dsimp only
  go_wp2_with fail
  refine (Verify_long (keyD 1 (fun _ => 115)) (sumOne 5) _ (2048 - 1) (cs - 1) (by omega) _ M5 (by exact hM5)).mono ?_
  rintro e w6 ⟨rfl, hb6⟩
  dsimp only
  go_step
  refine wpl_want (by rfl) ?_
  refine wpl_pure rfl (v := .bool true) (by intro w; first | rfl | go_simp) ?_
  refine wpl_pure rfl (v := .bool true) (by intro w; rfl) ?_
  refine wpl_pure rfl (v := .bool true) (by intro w; rfl) ?_
  change wpAny _ _ _ _ _ _ _ _
  refine wpAny_done (by kernel_rfl) ?_ _
  go_wp2_with fail
  go_ret
  exact ⟨rfl, (q4.trans (hb5.mono (by omega))).trans (hb6.mono (by omega))⟩
end Go.Proofs.YtcampjgemedhlaaDoor
