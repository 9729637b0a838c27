/- Tokens: Command, Program, Map; may of the law. -/
import Derived.Test.YtilhkgbninbkkaaDoorTk10
namespace Go.Proofs.YtilhkgbninbkkaaDoor
open Go Go.RowKit
set_option maxRecDepth 100000 in
theorem Command_any (ts : List Tk) (n : Int) (w : World) (N : Nat) (hN : Sz w N) (hT : Tks w ts) :
    Calls Tryd.prog 33 #[ptrOf ts, .int .i64 n] w fun e w' => e = .returned (.int .i64 (hasE (rOf ts).c n)) ∧ Below N w w' := by
  have HR := rightsOf_any ts w N hN hT
  have HS := fun w => has_any (rOf ts).c n w
  have HF := fld_c (rOf ts)
  generalize rOf ts = r at *
  generalize ptrOf ts = V at *
  obtain ⟨E, hE⟩ : ∃ E, E = hasE r.c n := ⟨_, rfl⟩
  rw [← hE] at HS ⊢
  clear hE
  go_enter Tryd.func33, Tryd.ntmps33
  go_wp2_with (first
    | (go_at_call 58; refine HR.mono ?_; rintro e w2 ⟨rfl, b2⟩)
    | (go_at_call 57; refine (HS _).mono ?_; rintro e w3 ⟨rfl, rfl⟩)
    | fail)
  go_ret
  exact ⟨rfl, b2⟩
set_option maxRecDepth 100000 in
theorem Program_any (ts : List Tk) (n : Int) (w : World) (N : Nat) (hN : Sz w N) (hT : Tks w ts) :
    Calls Tryd.prog 34 #[ptrOf ts, .int .i64 n] w fun e w' => e = .returned (.int .i64 (hasE (rOf ts).p n)) ∧ Below N w w' := by
  have HR := rightsOf_any ts w N hN hT
  have HS := fun w => has_any (rOf ts).p n w
  have HF := fld_p (rOf ts)
  generalize rOf ts = r at *
  generalize ptrOf ts = V at *
  obtain ⟨E, hE⟩ : ∃ E, E = hasE r.p n := ⟨_, rfl⟩
  rw [← hE] at HS ⊢
  clear hE
  go_enter Tryd.func34, Tryd.ntmps34
  go_wp2_with (first
    | (go_at_call 58; refine HR.mono ?_; rintro e w2 ⟨rfl, b2⟩)
    | (go_at_call 57; refine (HS _).mono ?_; rintro e w3 ⟨rfl, rfl⟩)
    | fail)
  go_ret
  exact ⟨rfl, b2⟩
set_option maxRecDepth 100000 in
theorem Map_any (ts : List Tk) (n : Int) (w : World) (N : Nat) (hN : Sz w N) (hT : Tks w ts) :
    Calls Tryd.prog 35 #[ptrOf ts, .int .i64 n] w fun e w' => e = .returned (.int .i64 (hasE (rOf ts).m n)) ∧ Below N w w' := by
  have HR := rightsOf_any ts w N hN hT
  have HS := fun w => has_any (rOf ts).m n w
  have HF := fld_m (rOf ts)
  generalize rOf ts = r at *
  generalize ptrOf ts = V at *
  obtain ⟨E, hE⟩ : ∃ E, E = hasE r.m n := ⟨_, rfl⟩
  rw [← hE] at HS ⊢
  clear hE
  go_enter Tryd.func35, Tryd.ntmps35
  go_wp2_with (first
    | (go_at_call 58; refine HR.mono ?_; rintro e w2 ⟨rfl, b2⟩)
    | (go_at_call 57; refine (HS _).mono ?_; rintro e w3 ⟨rfl, rfl⟩)
    | fail)
  go_ret
  exact ⟨rfl, b2⟩
set_option maxRecDepth 100000 in
theorem may_any (x : BitVec 16) (n : Int) (w : World) :
    Calls Tryd.prog 42 #[.int .i64 (hasE x n), .int .u16 (u6 x), .int .i64 n] w fun e w' => e = .returned (.bool true) ∧ w' = w := by
  by_cases h0 : n < 0
  · have e : hasE x n = 22 := by unfold hasE; rw [if_pos (.inl h0)]
    rw [e]
    clear e
    go_enter Tryd.func42, Tryd.ntmps42
    go_wp2
    go_ret
    exact ⟨rfl, rfl⟩
  · by_cases h1 : 15 < n
    · have e : hasE x n = 22 := by unfold hasE; rw [if_pos (.inr h1)]
      rw [e]
      clear e
      go_enter Tryd.func42, Tryd.ntmps42
      go_wp2
      go_ret
      exact ⟨rfl, rfl⟩
    · obtain ⟨k, rfl⟩ : ∃ k : Nat, n = (k : Int) := ⟨n.toNat, by omega⟩
      have hk : k < 16 := by omega
      have hB := bit_and x k hk
      have e : hasE x (k : Int) = if x.getLsbD k then 0 else 1 := by unfold hasE; rw [if_neg (by omega), Int.toNat_natCast]
      rw [e]
      clear e
      have k0 : (0 : Int) ≤ (k : Int) := by omega
      have k1 : ¬ (k : Int) < 0 := by omega
      have k2 : ¬ 15 < (k : Int) := by omega
      have k3 : (k : Int) < 16 := by omega
      cases hb : x.getLsbD k
      · rw [hb, if_neg (by decide)] at hB
        rw [if_neg (by decide)]
        clear hb
        go_enter Tryd.func42, Tryd.ntmps42
        go_wp2
        go_ret
        exact ⟨rfl, rfl⟩
      · rw [hb, if_pos rfl] at hB
        rw [if_pos rfl]
        clear hb
        go_enter Tryd.func42, Tryd.ntmps42
        go_wp2
        go_ret
        exact ⟨rfl, rfl⟩
end Go.Proofs.YtilhkgbninbkkaaDoor
