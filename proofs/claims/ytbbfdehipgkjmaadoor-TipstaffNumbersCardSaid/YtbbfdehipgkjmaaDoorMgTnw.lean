/- Contracts of fdtab: Used, Free; opens of the law. TipstaffNumbers: what is told of its ranges. -/
import Derived.Test.YtbbfdehipgkjmaaDoorMgFd1
import Derived.Test.YtbbfdehipgkjmaaDoorMgYv
import Derived.Test.YtbbfdehipgkjmaaDoorSeq
import Derived.Test.YtbbfdehipgkjmaaDoorBr21
import Derived.Test.YtbbfdehipgkjmaaDoorMgNum
namespace Go.Proofs.YtbbfdehipgkjmaaDoor
open Go Go.RowKit
end Go.Proofs.YtbbfdehipgkjmaaDoor
namespace Go.Proofs.YtbbfdehipgkjmaaDoor
open Go Go.RowKit
/-- A byte as a word. -/
def xt (x : BitVec 8) : W := BitVec.ofNat 64 x.toNat
theorem xt_lt (x : BitVec 8) : (xt x).toNat < 256 := by unfold xt; rw [BitVec.toNat_ofNat]; have := x.isLt; omega
theorem by_yv (x : BitVec 8) : By x = Yv (xt x) := by
  unfold By v8 Yv qn xt
  rw [BitVec.toNat_ofNat, Nat.mod_eq_of_lt (by have := x.isLt; omega)]
theorem lo32_sub3 (x : W) : lo32 (lo32 x - lo32 3#64) = lo32 (x - 3#64) := by
  apply BitVec.eq_of_toNat_eq
  have h := x.isLt
  unfold lo32
  simp only [BitVec.toNat_umod, BitVec.toNat_sub, BitVec.toNat_ofNat]
  have e1 : 4294967296 % 2 ^ 64 = 4294967296 := rfl
  have e2 : 3 % 2 ^ 64 = 3 := rfl
  have e3 : 2 ^ 64 = 18446744073709551616 := rfl
  rw [e1, e2, e3] at *
  omega
theorem hol10_ult (x y : W) : holF 10 true x y = x.ult y := by
  show hol10 true x y = x.ult y
  rfl
/-- All that the law's calls tell, of two bytes, a bound and a shift. -/
theorem tn_facts (x y z : W) (k : Nat) (hx : x.toNat < 256) (hk : k < 16) : ∃ r a a2 b c d : Rn,
    (∀ (w : World) (N : Nat), Sz w N → Calls Tryd.prog 4 #[.int .i64 5, .bool true, rV (lowR1 (obR tAny)), rV (cR y)] w fun e w' => e = .returned (rV r) ∧ Below N w w') ∧
    (∀ (w : World) (N : Nat), Sz w N → Calls Tryd.prog 10 #[rV r, Q (x &&& y)] w fun e w' => e = .returned (.bool true) ∧ Below N w w') ∧
    (∀ (w : World) (N : Nat), Sz w N → Calls Tryd.prog 11 #[.int .i64 10, .bool true, rV r, rV (cR z), .bool ((x &&& y).ult z)] w fun e w' => e = .returned (.tuple #[rV a, rV a2, .bool true]) ∧ Below N w w') ∧
    (∀ (w : World) (N : Nat), Sz w N → Calls Tryd.prog 10 #[rV a, Q (x &&& y)] w fun e w' => e = .returned (.bool true) ∧ Below N w w') ∧
    (∀ (w : World) (N : Nat), Sz w N → Calls Tryd.prog 12 #[rV a, rV r] w fun e w' => e = .returned (.bool true) ∧ Below N w w') ∧
    (∀ (w : World) (N : Nat), Sz w N → Calls Tryd.prog 4 #[.int .i64 6, .bool true, rV a, rV (cR (BitVec.ofInt 64 (k : Int)))] w fun e w' => e = .returned (rV b) ∧ Below N w w') ∧
    (∀ (w : World) (N : Nat), Sz w N → Calls Tryd.prog 4 #[.int .i64 0, .bool true, rV b, rV a] w fun e w' => e = .returned (rV c) ∧ Below N w w') ∧
    (∀ (w : World) (N : Nat), Sz w N → Calls Tryd.prog 4 #[.int .i64 1, .bool false, rV c, rV (cR 3#64)] w fun e w' => e = .returned (rV d) ∧ Below N w w') ∧
    (∀ (w : World) (N : Nat), Sz w N → Calls Tryd.prog 10 #[rV b, Q ((x &&& y) <<< k)] w fun e w' => e = .returned (.bool true) ∧ Below N w w') ∧
    (∀ (w : World) (N : Nat), Sz w N → Calls Tryd.prog 10 #[rV c, Q ((x &&& y) <<< k + (x &&& y))] w fun e w' => e = .returned (.bool true) ∧ Below N w w') ∧
    (∀ (w : World) (N : Nat), Sz w N → Calls Tryd.prog 10 #[rV d, Q (lo32 ((x &&& y) <<< k + (x &&& y) - 3#64))] w fun e w' => e = .returned (.bool true) ∧ Below N w w') := by
  have has : ∀ {r : Rn} {v : W}, In r v → ∀ (w : World) (N : Nat), Sz w N → Calls Tryd.prog 10 #[rV r, Q v] w fun e w' => e = .returned (.bool true) ∧ Below N w w' := fun {r v} h w N hN => by
    have := SHas_any r v w N hN
    rwa [h.has] at this
  have i1 : In (doR 5 true (lowR1 (obR tAny)) (cR y)) (x &&& y) := doR_inQ (byte_in hx) (cR_in y) 5 true (.inr (.inr (.inl rfl)))
  have i2 := ref_in (op := 10) (l := true) (h := (x &&& y).ult z) i1 (cR_in z) (hol10_ult _ _)
  have n2 := ref_nar (op := 10) (l := true) (h := (x &&& y).ult z) i2.1
  have hk2 : (BitVec.ofInt 64 (k : Int) % 64#64).toNat = k := by
    rw [BitVec.toNat_umod, BitVec.ofInt_natCast, BitVec.toNat_ofNat]
    show k % 18446744073709551616 % 64 = k
    omega
  have i3 : In (doR 6 true (refF 10 true (doR 5 true (lowR1 (obR tAny)) (cR y)) (cR z) ((x &&& y).ult z)).1 (cR (BitVec.ofInt 64 (k : Int)))) ((x &&& y) <<< k) := by
    have h := doR_inQ i2.2.1 (cR_in (BitVec.ofInt 64 (k : Int))) 6 true (.inr (.inr (.inr ⟨rfl, rfl⟩)))
    have e : evF 6 true (x &&& y) (BitVec.ofInt 64 (k : Int)) = (x &&& y) <<< k := by
      show (x &&& y) <<< (BitVec.ofInt 64 (k : Int) % 64#64).toNat = _
      rw [hk2]
    rwa [e] at h
  have i4 := doR_inQ i3 i2.2.1 0 true (.inl rfl)
  have i5 := doR_inQ i4 (cR_in 3#64) 1 false (.inr (.inl rfl))
  refine ⟨_, _, (refF 10 true (doR 5 true (lowR1 (obR tAny)) (cR y)) (cR z) ((x &&& y).ult z)).2.1, _, _, _, fun w N hN => Do_q 5 true _ _ (.inr (.inr (.inl rfl))) w N hN, has i1, fun w N hN => ?_, has i2.2.1, fun w N hN => ?_, fun w N hN => Do_q 6 true _ _ (.inr (.inr (.inr ⟨rfl, rfl⟩))) w N hN, fun w N hN => Do_q 0 true _ _ (.inl rfl) w N hN, fun w N hN => Do_q 1 false _ _ (.inr (.inl rfl)) w N hN, has i3, has i4, has ?_⟩
  · have h := Refine_all 10 true (doR 5 true (lowR1 (obR tAny)) (cR y)) (cR z) ((x &&& y).ult z) w N hN
    rwa [i2.1] at h
  · have h := SWithin_any (refF 10 true (doR 5 true (lowR1 (obR tAny)) (cR y)) (cR z) ((x &&& y).ult z)).1 (doR 5 true (lowR1 (obR tAny)) (cR y)) w N hN
    rwa [nar_iff.2 n2.1] at h
  · rw [← lo32_sub3]; exact i5
set_option maxRecDepth 100000 in
theorem topens_any (w : World) (N : Nat) (hN : Sz w N) :
    Calls Tryd.prog 9 #[] w fun e w' => e = .returned (.bool true) ∧ Below N w w' := by
  go_enter Tryd.func9, Tryd.ntmps9
  go_wp2_with fail
  refine (FNew_any 2 (by omega) (by omega) _ N hN).mono ?_
  rintro e w1 ⟨rfl, hb1, hF1, hN1⟩
  go_wp2_with fail
  refine (Open_at (N + 1) N 2 (fun _ => 0) 5 0 (by omega) (by omega) (by omega) rfl (fun i hi => by omega) _ hF1).mono ?_
  rintro e w2 ⟨rfl, ht2, hF2⟩
  have hF2' : Fd w2 (N + 1) N 2 (fun j => if j = 0 then 5 else 0) := hF2.congr (fun _ _ => rfl)
  clear hF2
  go_wp2_with fail
  refine (Get_ok (N + 1) N 2 (fun j => if j = 0 then 5 else 0) 0 (by omega) (by omega) (by simp) _ hF2').mono ?_
  rintro e w3 ⟨rfl, rfl⟩
  go_wp2_with fail
  go_ret
  exact ⟨rfl, ht2.below hb1 (Nat.le_refl N)⟩
end Go.Proofs.YtbbfdehipgkjmaaDoor
