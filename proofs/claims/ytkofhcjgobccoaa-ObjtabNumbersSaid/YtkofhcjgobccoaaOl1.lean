/- holds of the law of objtab, and the walk of ObjtabMost. -/
import Derived.Test.YtkofhcjgobccoaaObTI
import Derived.Test.YtkofhcjgobccoaaObTS
import Derived.Test.YtkofhcjgobccoaaObHI
import Derived.Test.YtkofhcjgobccoaaAts2
import Derived.Test.YtkofhcjgobccoaaMin
namespace Go.Proofs.Ytkofhcjgobccoaa
open Go Go.RowKit
def aS : ByteArray := ⟨#[97]⟩
set_option maxRecDepth 100000 in
theorem holds_any (w : World) (N : Nat) (hN : Sz w N) :
    Calls Try.prog 5 #[] w fun e w' => e = .returned (.bool true) ∧ Below N w w' := by
  go_enter Try.func5, Try.ntmps5
  go_wp2_with fail
  refine (TNewS_any 2 (by omega) (by omega) w N hN (fun _ => ⟨0, 0, aS⟩)).mono ?_
  rintro e w1 ⟨rfl, T1, _⟩
  go_wp2_with fail
  refine (TMakeS_ok aS 1 rfl hN T1 (by omega) (by omega) (by omega) (by omega)).mono ?_
  rintro e w2 ⟨rfl, T2'⟩
  have T2 := T2'.congr (F := fun _ => ⟨1, 1, aS⟩) (fun k hk => by obtain rfl : k = 0 := by omega
                                                                  rfl)
  clear T1 T2'
  go_wp2_with fail
  refine (THoldS_ok 1 0 (by omega) rfl (fun i hi => by omega) (by show (0 : Int) ≤ 1; omega) (by show (1 : Int) < 1000; omega) (by omega) hN T2).mono ?_
  rintro e w3 ⟨rfl, T3'⟩
  have T3 := T3'.congr (F := fun _ => ⟨1, 2, aS⟩) (fun k hk => by obtain rfl : k = 0 := by omega
                                                                  rfl)
  clear T2 T3'
  go_wp2_with fail
  refine (TDropS_more 1 0 (by omega) rfl (fun i hi => by omega) (by show (2 : Int) ≤ 2; omega) (by show (2 : Int) ≤ 1000; omega) (by omega) hN T3).mono ?_
  rintro e w4 ⟨rfl, T4'⟩
  have T4 := T4'.congr (F := fun _ => ⟨1, 1, aS⟩) (fun k hk => by obtain rfl : k = 0 := by omega
                                                                  rfl)
  clear T3 T4'
  go_wp2_with fail
  refine (TDropS_last 1 0 (by omega) rfl (fun i hi => by omega) rfl (by omega) hN T4).mono ?_
  rintro e w5 ⟨rfl, T5⟩
  clear T4
  go_wp2_with fail
  refine (TGetS_no 1 (fun i hi => by omega) (by omega) hN T5).mono ?_
  rintro e w6 ⟨rfl, T6⟩
  go_wp2_with fail
  go_ret
  exact ⟨rfl, T6.bel⟩
end Go.Proofs.Ytkofhcjgobccoaa
