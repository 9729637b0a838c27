/- bmap: the other ways of Update; Delete. -/
import Derived.Test.YtjdclgnlnehjlaaDoorMgBm7
namespace Go.Proofs.YtjdclgnlnehjlaaDoor
open Go Go.RowKit
set_option maxRecDepth 100000 in
theorem Upd_frozen (m : Mp) (hfz : m.fz = true) (a b f : Value) (w : World) (hA : MpAt w m) :
    Calls Tryd.prog 19 #[.pointer (some ⟨m.b, 0, none⟩), a, b, f] w fun e w' => e = .returned (.int .i64 1) ∧ w = w' := by
  have d4 := hA.c4
  rw [hfz] at d4
  clear hfz
  go_enter Tryd.func19, Tryd.ntmps19
  go_wp2
  go_ret
  exact ⟨rfl, rfl⟩
end Go.Proofs.YtjdclgnlnehjlaaDoor
