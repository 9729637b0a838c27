/- begin and take of digest. -/
import Derived.Test.YtjdclgnlnehjlaaDoorMix
import Derived.Test.YtjdclgnlnehjlaaDoorInns
namespace Go.Proofs.YtjdclgnlnehjlaaDoor
open Go Go.RowKit Sha
/-- The cells of a running sum. -/
def rc (s : Run) (L : Int) : Nat → Value := fun j => if j < 8 then U (s.H j) else if j < 72 then By (s.B (j - 8)) else if j = 72 then .int .i64 (s.f : Int) else .int .u64 L
/-- The package's tables lie where they lay. -/
structure Tabs (w : World) : Prop where
  h : Tab w 0 8 (fun j => U (Hc j))
  k : KHas w
theorem Tabs.lt {w : World} (t : Tabs w) : 2 < w.heap.size := Tab.lt t.k
theorem Tabs.ltN {w : World} (t : Tabs w) {N : Nat} (hN : Sz w N) : 2 < N := by have := t.lt; rwa [show w.heap.size = N from hN] at this
theorem Tabs.below {w w' : World} {B : Nat} (t : Tabs w) (h : Below B w w') (hB : 2 < B) : Tabs w' := ⟨t.h.below h (by omega), Tab.below t.k h hB⟩
theorem Tabs.mod {w w' : World} {R : Nat} (t : Tabs w) (h : Mod R w w') (hR : 2 < R) : Tabs w' := ⟨t.h.mod h (by omega), Tab.mod t.k h (by omega)⟩
def run0 : Run := ⟨Hc, fun _ => 0, 0⟩
theorem zer81 : (Tryd.prog.info? 112).map (fun i => (i.zero, i.size)) = some (some (.agg (cellsOf (rc ⟨fun _ => 0, fun _ => 0, 0⟩ 0) 74)), 74) := by kernel_rfl
theorem inf81 : (Tryd.prog.info? 112).map (·.size) = some 74 := by kernel_rfl
theorem one_rc (s : Run) (L : Int) : ∀ j, j < 74 → (rc s L j).oneCell' = true := fun j _ => by unfold rc; split; rfl; split; rfl; split <;> rfl
theorem und81 : ∃ fs, Tryd.prog.underlying 112 = some (.struct fs) := by
  have h : (match Tryd.prog.underlying 112 with | some (.struct _) => true | _ => false) = true := by kernel_rfl
  cases e : Tryd.prog.underlying 112 with
  | none => rw [e] at h; cases h
  | some d => cases d <;> first | exact ⟨_, rfl⟩ | (rw [e] at h; cases h)
set_option maxRecDepth 100000 in
theorem begin_any (w : World) (N : Nat) (hN : Sz w N) (hT : Tabs w) : Calls Tryd.prog 63 #[] w fun e w' => e = .returned (.agg (cellsOf (rc run0 0) 74)) ∧ Below N w w' := by
  have h1 := hT.ltN hN
  obtain ⟨fs, hfs⟩ := und81
  go_enter Tryd.func63, Tryd.ntmps63
  go_wp2_with (first
    | (refine wpl_alloc rfl 112 rfl 74 _ zer81 N hN ?_; intro w1 hN1 hb1 h1)
    | (refine wpl_load_tab rfl 109 (.global 0) rfl 0 rfl 8 _ ((hT.below hb1 (by omega)).h) _ und37 rfl inf37 ?_)
    | (refine wpl_build rfl 112 _ rfl (cellsOf (rc run0 0) 74) (by kernel_rfl) ?_)
    | (refine wpl_store rfl 112 (.tmp 0) (.tmp 2) rfl N 74 _ rfl rfl 112 _ h1 inf81 (one_rc _ _) ?_; intro w2 ht2 h2)
    | fail)
  exact post_cell Tryd.results63 N rfl h2 _ hfs rfl inf81 rfl ⟨rfl, ht2.below hb1 (by omega)⟩
end Go.Proofs.YtjdclgnlnehjlaaDoor
