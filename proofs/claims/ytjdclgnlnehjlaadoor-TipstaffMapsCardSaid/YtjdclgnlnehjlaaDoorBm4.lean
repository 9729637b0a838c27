/- bmap: place. -/
import Derived.Test.YtjdclgnlnehjlaaDoorBm3
namespace Go.Proofs.YtjdclgnlnehjlaaDoor
open Go Go.RowKit
set_option maxRecDepth 100000 in
theorem place_at (m : Mp) (key : ByteArray) (k : Nat) (hk : k < m.n) (hz : (m.E k).k = key) (hl : ∀ i, i < k → (m.E i).k ≠ key) (hn : m.n ≤ 1000) (w : World) (N : Nat) (hN : Sz w N) (hA : MpAt w m) :
    Calls Tryd.prog 41 #[.pointer (some ⟨m.b, 0, none⟩), .string key] w fun e w' => e = .returned (.int .i64 (k : Int)) ∧ Below N w w' := by
  have hmf : ∀ (fn : Fn) (first cap : Array Value) (w : World), (Instr.makeFunc fn first cap).run Tryd.prog w = .ok (.func fn first cap) w := fun _ _ _ _ => rfl
  have hx : (w.alloc (.cells #[.string key] 9)).cell? ⟨w.heap.size, 0, none⟩ = some (.string key) := by
    rw [World.cell?_alloc_at _ _ _ _ rfl]; rfl
  have hb1 := below_new w (.cells #[.string key] 9) N hN
  have hN1 := sz_alloc hN (.cells #[.string key] 9)
  have A1 := hA.below hN hb1
  have d5 := A1.c5
  have Hz := hid hz
  have Hl := hid hl
  clear hz hl
  go_enter Tryd.func41, Tryd.ntmps41
  go_wp2_with fail
  refine (index_at m key w.heap.size k hk Hz.out Hl.out hn _ (N + 1) hN1 A1 hx).mono ?_
  rintro e w1 ⟨rfl, hb2⟩
  go_wp2
  go_ret
  exact ⟨rfl, hb1.trans (hb2.mono (by omega))⟩
set_option maxRecDepth 100000 in
theorem place_no (m : Mp) (key : ByteArray) (hl : ∀ i, i < m.n → (m.E i).k ≠ key) (hn : m.n ≤ 1000) (w : World) (N : Nat) (hN : Sz w N) (hA : MpAt w m) :
    Calls Tryd.prog 41 #[.pointer (some ⟨m.b, 0, none⟩), .string key] w fun e w' => e = .returned (.int .i64 (-1)) ∧ Below N w w' := by
  have hmf : ∀ (fn : Fn) (first cap : Array Value) (w : World), (Instr.makeFunc fn first cap).run Tryd.prog w = .ok (.func fn first cap) w := fun _ _ _ _ => rfl
  have hx : (w.alloc (.cells #[.string key] 9)).cell? ⟨w.heap.size, 0, none⟩ = some (.string key) := by
    rw [World.cell?_alloc_at _ _ _ _ rfl]; rfl
  have hb1 := below_new w (.cells #[.string key] 9) N hN
  have hN1 := sz_alloc hN (.cells #[.string key] 9)
  have A1 := hA.below hN hb1
  have d5 := A1.c5
  have Hl := hid hl
  clear hl
  go_enter Tryd.func41, Tryd.ntmps41
  go_wp2_with fail
  refine (index_no m key w.heap.size Hl.out hn _ (N + 1) hN1 A1 hx).mono ?_
  rintro e w1 ⟨rfl, hb2⟩
  go_wp2
  go_ret
  exact ⟨rfl, hb1.trans (hb2.mono (by omega))⟩
end Go.Proofs.YtjdclgnlnehjlaaDoor
