/- region: a memory with a map; whether a cell may be written; Fill where nothing may be written. -/
import Derived.Test.YtjcjmlmdcjkceaaRcl1
import Derived.Test.YtjcjmlmdcjkceaaBa1r
import Derived.Test.YtjcjmlmdcjkceaaBm9r
namespace Go.Proofs.Ytjcjmlmdcjkceaa
open Go Go.RowKit
theorem undPM : Try.prog.underlying 67 = some (.slice 38) := by kernel_rfl
theorem szPM : (Try.prog.info? 38).map (·.size) = some 1 := by kernel_rfl
theorem onePM : OneCell Try.prog 38 := oneCell_of (v := .pointer none) (k := 8) (by kernel_rfl) (by omega) rfl
/-- A memory that has maps. -/
def newMp (X : Nat → W) (mp : Value) : Me := ⟨X, (newM X).B, (newM X).Wr, (newM X).K, mp⟩
set_option maxRecDepth 100000 in
set_option maxHeartbeats 2000000 in
theorem CloneM_one (p : Option Addr) (cap mb : Nat) (w : World) (N : Nat) (hN : Sz w N) (hA : Own w 38 p 1 cap (fun _ => .pointer (some ⟨mb, 0, none⟩))) : Calls Try.prog 35 #[.slice p 1 cap] w fun e w' => (∃ p' cap', e = .returned (.slice p' 1 cap') ∧ Own w' 38 p' 1 cap' (fun _ => .pointer (some ⟨mb, 0, none⟩))) ∧ Below N w w' := by
  obtain ⟨g, rfl, hc⟩ := hA.cell (by omega)
  go_enter Try.func35, Try.ntmps35
  go_wp2_with (first
    | (refine wpl_run rfl (.bool false) _ (run_eqNil (p := some ⟨g, 0, none⟩) (l := 1) (c := cap) (x := .tmp 3) (y := .const (.slice none 0 0)) rfl undPM rfl rfl _) ?_)
    | (refine wpl_lit0 rfl 67 38 rfl undPM szPM N hN (fun _ => .pointer none) ?_; intro w1 hN1 hb1 h1; replace hA := hA.below hb1 (Nat.le_of_eq hN))
    | (refine wpl_app rfl (.tmp 5) (.tmp 6) 67 rfl 38 undPM onePM (some ⟨N, 0, none⟩) 0 0 rfl _ h1 (some ⟨g, 0, none⟩) 1 cap rfl (fun _ => .pointer (some ⟨mb, 0, none⟩)) hA.ats.cells (fun _ _ => rfl) (by omega) ?_; intro p2 c2 w2 h2 g2 hp2 hq2)
    | fail)
  go_ret
  have e1 : w1.heap.size = N + 1 := hN1
  refine ⟨⟨p2, c2, rfl, ?_⟩, g2.below hb1 (by omega) (fun g hg => by simp [blk] at hg; omega)⟩
  rw [Nat.zero_add] at h2
  exact h2.congr (fun j _ => by simp [cat])
set_option maxRecDepth 100000 in
set_option maxHeartbeats 4000000 in
theorem New_one (X : Nat → W) (p : Option Addr) (cap mb : Nat) (w : World) (N : Nat) (hN : Sz w N) (hA : Own w 38 p 1 cap (fun _ => .pointer (some ⟨mb, 0, none⟩))) : Calls Try.prog 14 #[.agg (cellsOf (xC X) 32), .slice p 1 cap] w fun e w' => ∃ b p' c', e = .returned (.pointer (some ⟨b, 0, none⟩)) ∧ N ≤ b ∧ Below N w w' ∧ Has w' b 83 193 (meC (newMp X (.slice p' 1 c'))) ∧ Own w' 38 p' 1 c' (fun _ => .pointer (some ⟨mb, 0, none⟩)) := by
  go_enter Try.func14, Try.ntmps14
  go_upto_region 1 with (first
    | (refine wpl_box rfl 41 (.tmp 0) rfl 32 _ rfl N hN ?_; intro w1 hN1 hb1 h1; replace hA := hA.below hb1 (Nat.le_of_eq hN))
    | fail)
  refine wp_region_inn (fun u => Has u N 41 32 (xC X)) h1.drew (by kernel_rfl) ?_
  have hne := inn_ne (I := fun u => Has u N 41 32 (xC X)) h1.drew
  refine anyI_reads [0, 1] _ _ _ h1.drew (by kernel_rfl) (fun _ _ _ d _ h => by cases d <;> exact h) ?_
  simp only [pickO, List.map_cons, List.map_nil, List.getElem?_toArray, List.getElem?_cons_succ, List.getElem?_cons_zero, Option.getD_some, Act.put, List.setIfInBounds_toArray, List.set_cons_succ, List.set_cons_zero]
  refine inn_val (fun x => run_ld 41 (.tmp 2) rfl N rfl 41 32 _ x.h _ undXr.choose_spec.1 undXr.choose_spec.2 szX) (by rfl) ?_; simp only [Act.put, List.setIfInBounds_toArray, List.set_cons_succ, List.set_cons_zero]
  go_big_quiet_step (fail)
  refine wpQuiet_nil ?_
  clear hne
  refine anyI_part [2, 3, 4, 5] _ _ _ _ (by kernel_rfl) ?_
  simp only [List.filterMap_cons, List.filterMap_nil, List.getElem?_toArray, List.getElem?_cons_succ, List.getElem?_cons_zero]
  change wpList _ _ _ [_] _ _
  go_wp2_with fail
  refine (CloneM_one p cap mb _ (N + 1) (show Sz w1.drew (N + 1) from hN1) (show Own w1.drew _ _ _ _ _ from hA)).mono ?_
  rintro e w2 ⟨⟨p2, c2, rfl, O2⟩, hb2⟩
  have h2 := h1.drew.below hb2 (by omega)
  replace hb1 := hb1.trans ((below_drewN (Below.refl (N + 1) w1) 1).mono (by omega))
  replace hb1 := hb1.trans (hb2.mono (by omega))
  obtain ⟨M2, hM2⟩ := sz_some w2
  have l2 := below_sz hb2 (show Sz w1.drew (N + 1) from hN1) hM2
  dsimp only
  go_step
  refine ⟨h2, ?_⟩
  change wpList _ _ _ [_] _ _
  refine wpl_run rfl (.agg (cellsOf (meC (newMp X (.slice p2 1 c2))) 193)) _ (run_bd 83 _ rfl (cellsOf (meC (newMp X (.slice p2 1 c2))) 193) (by kernel_rfl) _) ?_
  refine ⟨h2, ?_⟩
  change wpList _ _ _ [_] _ _
  refine wpl_box rfl 83 (.tmp 8) rfl 193 _ rfl M2 hM2 ?_
  intro w3 hN3 hb3 h3
  have O3 := O2.below hb3 (Nat.le_of_eq hM2)
  have h4 := h2.below hb3 (by omega)
  refine ⟨h4, ?_⟩
  change wpList _ _ _ [_] _ _
  go_wp2_with fail
  refine ⟨h4, ?_⟩
  change anyI _ _ _ _ _ _ _ _ _
  try simp only [Act.put, List.setIfInBounds_toArray, List.set_cons_succ, List.set_cons_zero, List.getElem_toArray, List.getElem_cons_succ, List.getElem_cons_zero]
  refine anyI_done (by kernel_rfl) ?_
  try simp only [Act.put, List.setIfInBounds_toArray, List.set_cons_succ, List.set_cons_zero, List.getElem_toArray, List.getElem_cons_succ, List.getElem_cons_zero]
  go_wp2_with fail
  go_ret
  exact ⟨M2, p2, c2, rfl, by omega, hb1.trans (hb3.mono (by omega)), h3, O3⟩
end Go.Proofs.Ytjcjmlmdcjkceaa
