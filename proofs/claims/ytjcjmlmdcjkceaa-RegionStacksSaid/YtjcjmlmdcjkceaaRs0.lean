/- RegionStacks: calls on no memory; sizes, values, places. -/
import Derived.Test.YtjcjmlmdcjkceaaRk0
namespace Go.Proofs.Ytjcjmlmdcjkceaa
open Go Go.RowKit
set_option maxRecDepth 100000 in
theorem None_any (w : World) : Calls Try.prog 7 #[] w fun e w' => e = .returned (.pointer none) ∧ w' = w := by
  go_enter Try.func7, Try.ntmps7
  go_wp2_with fail
  go_ret
  exact ⟨rfl, rfl⟩
set_option maxRecDepth 100000 in
theorem Load_nil (v : Vl) (off n : Int) (w : World) (N : Nat) (hN : Sz w N) : Calls Try.prog 8 #[.pointer none, vlV v, .int .i64 off, .int .i64 n] w fun e w' => e = .returned (.tuple #[vlV zeroV, .int .i64 14]) ∧ Below N w w' := by
  unfold vlV
  go_enter Try.func8, Try.ntmps8
  go_wp2_with (first
    | (refine wpl_box rfl 26 (.tmp 1) rfl 4 _ rfl N hN ?_; intro w1 hN1 hb1 h1)
    | (refine wpl_alloc rfl 26 rfl 4 (vlC zeroV) zeVl (N + 1) hN1 ?_; intro w2 hN2 hb2 h2; replace hb2 := hb1.trans (hb2.mono (by omega)))
    | (refine wpl_run rfl (.agg (cellsOf (vlC zeroV) 4)) _ (run_bd 26 #[] rfl (cellsOf (vlC zeroV) 4) (by kernel_rfl) _) ?_)
    | (refine wpl_store rfl 26 (.tmp 8) (.tmp 21) rfl (N + 1) 4 (vlC zeroV) rfl rfl 26 _ h2 szVl (fun j _ => vlC_one _ j) ?_; intro w5 t5 h5; replace hb2 := t5.below hb2 (by omega))
    | fail)
  exact post_cb (x := .int .i64 14) rfl (N + 1) rfl h5 undVl szVl rfl rfl ⟨rfl, hb2⟩
set_option maxRecDepth 100000 in
theorem Bytes_nil (v : Vl) (n : Int) (w : World) (N : Nat) (hN : Sz w N) : Calls Try.prog 9 #[.pointer none, vlV v, .int .i64 n] w fun e w' => e = .returned (.tuple #[.slice none 0 0, .int .i64 14]) ∧ Below N w w' := by
  unfold vlV
  go_enter Try.func9, Try.ntmps9
  go_wp2_with (first
    | (refine wpl_box rfl 26 (.tmp 1) rfl 4 _ rfl N hN ?_; intro w1 hN1 hb1 h1)
    | fail)
  go_ret2
  exact ⟨rfl, hb1⟩
set_option maxRecDepth 100000 in
theorem Save_nil (v x : Vl) (off n : Int) (w : World) (N : Nat) (hN : Sz w N) : Calls Try.prog 11 #[.pointer none, vlV v, .int .i64 off, .int .i64 n, vlV x] w fun e w' => e = .returned (.int .i64 14) ∧ Below N w w' := by
  unfold vlV
  go_enter Try.func11, Try.ntmps11
  go_wp2_with (first
    | (refine wpl_box rfl 26 (.tmp 1) rfl 4 _ rfl N hN ?_; intro w1 hN1 hb1 h1)
    | (refine wpl_box rfl 26 (.tmp 4) rfl 4 _ rfl (N + 1) hN1 ?_; intro w2 hN2 hb2 h2; replace hb2 := hb1.trans (hb2.mono (by omega)))
    | fail)
  go_ret
  exact ⟨rfl, hb2⟩
set_option maxRecDepth 100000 in
theorem Fill_nil (v : Vl) (x : Value) (w : World) (N : Nat) (hN : Sz w N) : Calls Try.prog 12 #[.pointer none, vlV v, x] w fun e w' => e = .returned (.int .i64 14) ∧ Below N w w' := by
  unfold vlV
  go_enter Try.func12, Try.ntmps12
  go_wp2_with (first
    | (refine wpl_box rfl 26 (.tmp 1) rfl 4 _ rfl N hN ?_; intro w1 hN1 hb1 h1)
    | fail)
  go_ret
  exact ⟨rfl, hb1⟩
set_option maxRecDepth 100000 in
theorem Map_nil (n : Int) (w : World) : Calls Try.prog 13 #[.pointer none, .int .i64 n] w fun e w' => e = .returned (.pointer none) ∧ w' = w := by
  go_enter Try.func13, Try.ntmps13
  go_wp2_with fail
  go_ret
  exact ⟨rfl, rfl⟩
/-- The document's places. -/
def plF (n off : Int) (k : Nat) : Int :=
  if n < -1000000000000 ∨ 1000000000000 < n ∨ off < -1000000000000 ∨ 1000000000000 < off then -1
  else if n + off + 64 < 0 ∨ 64 < n + off + 64 + k then -1 else n + off + 64
theorem plF_ok {n off : Int} {k : Nat} (ho : -1000000 < off ∧ off < 1000000) : plF n off k = if inB n off (-64) 64 = true ∧ at0 n off (-64) + k ≤ 64 then ((at0 n off (-64) : Nat) : Int) else -1 := by
  unfold plF
  by_cases h : inB n off (-64) 64 = true ∧ at0 n off (-64) + k ≤ 64
  · have h1 := of_decide_eq_true h.1
    have h2 : ((at0 n off (-64) : Nat) : Int) = n + off + 64 := by unfold at0; omega
    rw [if_pos h, if_neg (by omega), if_neg (by omega), h2]
  · rw [if_neg h]
    split
    · rfl
    · split
      · rfl
      · exfalso
        rename_i h1 h2
        have h3 : inB n off (-64) 64 = true := decide_eq_true ⟨by omega, by omega⟩
        exact h ⟨h3, by unfold at0; omega⟩
end Go.Proofs.Ytjcjmlmdcjkceaa
