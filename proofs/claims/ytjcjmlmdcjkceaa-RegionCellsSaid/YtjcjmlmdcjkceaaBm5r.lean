/- bmap: use. -/
import Derived.Test.YtjcjmlmdcjkceaaBm4r
import Derived.Test.YtjcjmlmdcjkceaaInns
namespace Go.Proofs.Ytjcjmlmdcjkceaa
open Go Go.RowKit
def Mp.use (m : Mp) (k : Nat) : Mp := { m with E := setF (delF m.E k) (m.n - 1) (m.E k) }
set_option maxRecDepth 100000 in
theorem use_plain (m : Mp) (k : Nat) (hk : k < m.n) (hn : m.n ≤ 1000) (ht : m.ty ≠ 2) (w : World) (N : Nat) (hN : Sz w N) (hA : MpAt w m) :
    Calls Try.prog 44 #[.pointer (some ⟨m.b, 0, none⟩), .int .i64 (k : Int)] w fun e w' => e = .returned (.pointer (some ⟨(m.E k).c, 0, none⟩)) ∧ Below N w w' := by
  obtain ⟨g, hg⟩ := hA.ptr (by omega)
  obtain ⟨fs, hfs⟩ := stBE
  have Hce := hid (fun i hi => hA.at hg k hk i hi)
  have d5 := hA.c5
  rw [hg] at d5
  clear hg
  have hlt : (k : Int) < (m.n : Int) := by omega
  have t2 : ((m.ty : Int) == 2) = false := by rw [beq_eq_false_iff_ne]; omega
  go_enter Try.func44, Try.ntmps44
  go_wp2_with (first
    | (refine wpl_load_cells rfl 115 (.tmp 11) rfl g (k * 2) rfl 2 (me1 (m.E k)) Hce.out _ hfs rfl szBE ?_)
    | (refine wpl_alloc rfl 115 rfl 2 _ zBE N hN ?_; intro x1 hX1 hb1 ha1)
    | (refine wpl_store rfl 115 (.tmp 5) (.tmp 12) rfl N 2 (me1 (m.E k)) rfl rfl 115 _ ha1 szBE (fun j _ => me1_one _ j) ?_; intro x2 ht2 ha2; have hb2 := ht2.below hb1 (Nat.le_refl N); have cs1 : x2.cell? ⟨N, 1, none⟩ = some (.pointer (some ⟨(m.E k).c, 0, none⟩)) := ha2.cell (by omega); have d0 := (hA.below hN hb2).c0; clear d5)
    | fail)
  go_ret
  exact ⟨rfl, hb2⟩
end Go.Proofs.Ytjcjmlmdcjkceaa
