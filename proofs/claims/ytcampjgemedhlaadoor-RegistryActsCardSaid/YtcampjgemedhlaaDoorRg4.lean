/- The law's own look: a key is found till it is spent. -/
import Derived.Test.YtcampjgemedhlaaDoorRg3
import Derived.Test.YtcampjgemedhlaaDoorLam6
namespace Go.Proofs.YtcampjgemedhlaaDoor
open Go Go.RowKit Sha
theorem fr_some (R : Rg) (s sig : Nat → BitVec 8) (k : Nat) (hk : k < R.c) (h0 : ∀ i, i < k → fitR R s sig i = false) (h1 : fitR R s sig k = true) : frO R s sig = some k := find_first _ _ _ hk h0 h1
theorem fr_none (R : Rg) (s sig : Nat → BitVec 8) (h0 : ∀ i, i < R.c → fitR R s sig i = false) : frO R s sig = none := find_none _ _ h0
theorem fr_one (key s sig : Nat → BitVec 8) (h : fitsB key s sig = true) : frV (frO (addR rg0 key) s sig) = .tuple #[.int .i64 0, .int .i64 0] := by
  rw [fr_some (addR rg0 key) s sig 0 (Nat.lt_succ_self 0) (fun i hi => by omega) (by
    show (!false && fitsB key s sig) = true
    rw [h]; rfl)]
  rfl
theorem fr_gone (key s sig : Nat → BitVec 8) : frV (frO (spendR (addR rg0 key) 0) s sig) = .tuple #[.int .i64 0, .int .i64 129] := by
  rw [fr_none (spendR (addR rg0 key) 0) s sig (fun i hi => by
    have : i = 0 := by
      have e : (spendR (addR rg0 key) 0).c = 1 := rfl
      omega
    subst this
    rfl)]
  rfl
theorem Own.mod {w w' : World} {E : TypeId} {p : Option Addr} {n cap : Nat} {f : Nat → Value} {R : Nat} (h : Own w E p n cap f) (m : Mod R w w') (hne : ∀ g, blk p = some g → g ≠ R) : Own w' E p n cap f :=
  h.same (fun k hk => m.block k (h.lt k hk) (hne k hk))
theorem Mod.sz {w w' : World} {R N : Nat} (m : Mod R w w') (hN : Sz w N) : N ≤ w'.heap.size := by have := m.size; have e : w.heap.size = N := hN; omega
theorem below_le_sz {w w' : World} {N M : Nat} (h : Below N w w') (hN : Sz w N) (hM : Sz w' M) : N ≤ M := by have := h.size; have e : w.heap.size = N := hN; have e2 : w'.heap.size = M := hM; omega
theorem pl_rg0 (key : Nat → BitVec 8) : plB rg0 key = false := rfl
set_option maxRecDepth 100000 in
set_option maxHeartbeats 1000000 in
theorem keeps_any (w : World) (N : Nat) (hN : Sz w N) (hT : Tabs w) :
    Calls Tryd.prog 34 #[] w fun e w' => e = .returned (.bool true) ∧ Below N w w' := by
  have hTN := hT.ltN hN
  have kc := fun (w : World) (C : Array Value) (n c : Nat) => Lib.run_convert_bytes_const (P := Tryd.prog) w 22 5 C n c und22 und5
  go_enter Tryd.func34, Tryd.ntmps34
  go_wp2_with (first
    | (go_at_call 39; refine (New_any _ N hN).mono ?_; rintro e w1 ⟨rfl, hb1, r1, hN1⟩)
    | (refine wpl_build rfl 23 _ rfl (cellsOf (fun j => By (sumOne 1 j)) 32) (by kernel_rfl) ?_)
    | (go_at_call 26; refine (Sign_any _ 1 1 (fun _ => 97) (sumOne 1) _ (N + 1 + 1) (sz_alloc hN1 _) (hT.below (hb1.trans ((below_new w1 _ _ hN1).mono (by omega))) hTN) (by omega) (by omega) (bytes_one w1 97 _ rfl _ _)).mono ?_; rintro e w2 ⟨ps, cs, rfl, o2, hp2, hb2'⟩; have hb2 := (below_new w1 _ _ hN1).trans (hb2'.mono (Nat.le_succ _)); clear hb2'; have r2 := r1.below hb2 (by omega); have q2 : Below N w w2 := hb1.trans (hb2.mono (by omega)); obtain ⟨M2, hM2⟩ := sz_some w2; have hMM2 := below_sz hb2 hN1 hM2)
    | (go_at_call 25; refine (Key_any _ 1 1 (fun _ => 97) _ (M2 + 1) (sz_alloc hM2 _) (hT.below (q2.trans ((below_new w2 _ _ hM2).mono (by omega))) hTN) (by omega) (by omega) (bytes_one w2 97 _ rfl _ _)).mono ?_; rintro e w3 ⟨rfl, hb3'⟩; have hb3 := (below_new w2 _ _ hM2).trans (hb3'.mono (Nat.le_succ _)); clear hb3'; have r3 := r2.below hb3 (by omega); have o3 := o2.below hb3 (Nat.le_of_eq hM2); have q3 : Below N w w3 := q2.trans (hb3.mono (by omega)); obtain ⟨M3, hM3⟩ := sz_some w3; have hMM3 := below_sz hb3 hM2 hM3)
    | fail)
  refine (Add_ok rg0 N (keyD 1 (fun _ => 97)) w3 M3 hM3 r3 (by decide) rfl).mono ?_
  rintro e w4 ⟨rfl, hm4, r4⟩
  have o4 := o3.mod hm4 (fun g hg => by have := hp2 g hg; omega)
  have q4 : Below N w w4 := hm4.below q3 (Nat.le_refl N) (below_le q3 hN)
  have t4 : Tabs w4 := hT.below q4 hTN
  obtain ⟨M4, hM4⟩ := sz_some w4
  have hMM4 : M3 ≤ M4 := by have := hm4.sz hM3; have e : w4.heap.size = M4 := hM4; omega
  have hcs := o4.le
  go_wp2_with (first
    | (refine wpl_build rfl 23 _ rfl (cellsOf (fun j => By (sumOne 1 j)) 32) (by kernel_rfl) ?_)
    | fail)
  refine (Find_any (addR rg0 (keyD 1 (fun _ => 97))) N (sumOne 1) (sigD 1 (fun _ => 97) (sumOne 1)) ps cs hcs w4 M4 hM4 t4 (own_bytes o4) r4 (by show 1 ≤ 32; omega)).mono ?_
  rintro e w5 ⟨rfl, hb5⟩
  rw [fr_one _ _ _ (fits_sig 1 (fun _ => 97) (sumOne 1))]
  have r5 := r4.below hb5 (by omega)
  have o5 := o4.below hb5 (Nat.le_of_eq hM4)
  have q5 : Below N w w5 := q4.trans (hb5.mono (by omega))
  go_wp2_with fail
  refine (Spend_ok (addR rg0 (keyD 1 (fun _ => 97))) N 0 w5 r5 (by show 0 < 1; omega) (by show 1 ≤ 32; omega) rfl).mono ?_
  rintro e w6 ⟨rfl, ht6, r6⟩
  have o6 := o5.touch ht6 (fun g hg => by have := hp2 g hg; omega)
  have q6 : Below N w w6 := ht6.below q5 (Nat.le_refl N)
  obtain ⟨M6, hM6⟩ := sz_some w6
  go_wp2_with (first
    | (refine wpl_build rfl 23 _ rfl (cellsOf (fun j => By (sumOne 1 j)) 32) (by kernel_rfl) ?_)
    | fail)
  refine (Find_any (spendR (addR rg0 (keyD 1 (fun _ => 97))) 0) N (sumOne 1) (sigD 1 (fun _ => 97) (sumOne 1)) ps cs hcs w6 M6 hM6 (hT.below q6 hTN) (own_bytes o6) r6 (by show 1 ≤ 32; omega)).mono ?_
  rintro e w7 ⟨rfl, hb7⟩
  rw [fr_gone]
  go_wp2_with fail
  go_ret
  exact ⟨rfl, q6.trans (hb7.mono (below_le_sz q6 hN hM6))⟩
end Go.Proofs.YtcampjgemedhlaaDoor
