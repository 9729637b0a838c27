/- New and place of registry. -/
import Derived.Test.YtcampjgemedhlaaDoorLam5
import Derived.Test.YtcampjgemedhlaaDoorRegB
namespace Go.Proofs.YtcampjgemedhlaaDoor
open Go Go.RowKit Sha
/-- A registry: keys, which of them are spent, how many there are. -/
structure Rg where
  K : Nat → Nat → BitVec 8
  sp : Nat → Bool
  c : Nat
def rgC (R : Rg) : Nat → Value := fun j => if j = 1056 then .int .i64 (R.c : Int) else if j % 33 = 32 then .bool (R.sp (j / 33)) else By (R.K (j / 33) (j % 33))
def rg0 : Rg := ⟨fun _ _ => 0, fun _ => false, 0⟩
/-- Is it the key at i? -/
def eqK (R : Rg) (key : Nat → BitVec 8) (i : Nat) : Bool := (List.range 32).all fun j => R.K i j == key j
def plO (R : Rg) (key : Nat → BitVec 8) : Option Nat := (List.range R.c).find? (eqK R key)
def plI (R : Rg) (key : Nat → BitVec 8) : Nat := (plO R key).getD 0
def plB (R : Rg) (key : Nat → BitVec 8) : Bool := (plO R key).isSome
theorem find_first (p : Nat → Bool) (n k : Nat) (hk : k < n) (h0 : ∀ i, i < k → p i = false) (h1 : p k = true) : (List.range n).find? p = some k := by
  rw [List.find?_range_eq_some]
  exact ⟨h1, by simpa using hk, fun j hj => by rw [h0 j hj]; rfl⟩
theorem find_none (p : Nat → Bool) (n : Nat) (h0 : ∀ i, i < n → p i = false) : (List.range n).find? p = none := by
  rw [List.find?_eq_none]
  intro x hx
  rw [h0 x (by simpa using hx)]
  decide
theorem zer98 : Tryd.prog.built 98 [] = some (cellsOf (rgC rg0) 1057) := by kernel_rfl
theorem inf96 : (Tryd.prog.info? 96).map (·.size) = some 1056 := by kernel_rfl
theorem rg_count (R : Rg) : rgC R 1056 = .int .i64 (R.c : Int) := rfl
theorem rg_key (R : Rg) (i : Nat) (hi : i < 32) (j : Nat) (hj : j < 32) : rgC R (33 * i + j) = By (R.K i j) := by
  unfold rgC; rw [if_neg (by omega), if_neg (by omega), show (33 * i + j) / 33 = i from by omega, show (33 * i + j) % 33 = j from by omega]
theorem rg_sp (R : Rg) (i : Nat) (hi : i < 32) : rgC R (33 * i + 32) = .bool (R.sp i) := by
  unfold rgC; rw [if_neg (by omega), if_pos (by omega), show (33 * i + 32) / 33 = i from by omega]
set_option maxRecDepth 100000 in
theorem New_any (w : World) (N : Nat) (hN : Sz w N) :
    Calls Tryd.prog 39 #[] w fun e w' => e = .returned (.pointer (some ⟨N, 0, none⟩)) ∧ Below N w w' ∧ Has w' N 98 1057 (rgC rg0) ∧ Sz w' (N + 1) := by
  go_enter Tryd.func39, Tryd.ntmps39
  go_wp2_with (first
    | (refine wpl_build rfl 98 _ rfl (cellsOf (rgC rg0) 1057) (by kernel_rfl) ?_)
    | (refine wpl_box rfl 98 (.tmp 1) rfl 1057 _ rfl N hN ?_; intro w1 hN1 hb1 h1)
    | fail)
  go_ret
  exact ⟨rfl, hb1, h1, hN1⟩
/-- What a load of a part of a row runs to. -/
theorem run_ldp {P : Program} {a : Act} {w : World} {o : Oper} (ty : TypeId) (x : Operand) (ho : o.op = .load ty x) (b off : Nat) (hx : a.eval x = .pointer (some ⟨b, off, none⟩)) (T : TypeId) (n : Nat) (f : Nat → Value) (hh : Has w b T n f) (m : Nat) (hm : off + m ≤ n) (g : Nat → Value) (hg : ∀ j, j < m → f (off + j) = g j)
    (d : TypeDesc) (hu : P.underlying ty = some d) (hd : d.isRow = true) (hi : (P.info? ty).map (·.size) = some m) : (execOp a.eval o).run P w = .ok (.value (.agg (cellsOf g m))) w := by
  have hrun := run_load_part (P := P) hh off m hm ty d hu hd hi
  rw [cellsOf_congr hg] at hrun
  unfold execOp
  simp only [ho, hx, Sem.run_bind, hrun, Result.andThen_ok, Sem.run_pure]
theorem below_drew1 {B : Nat} {a w : World} (h : Below B a w) : Below B a w.drew := h.trans ⟨rfl, rfl, rfl, Nat.le_refl _, fun _ _ => rfl⟩
theorem run_eqK (R : Rg) (key : Nat → BitVec 8) (i : Nat) (w : World) : (Op.equalIn 10000 23 (.agg (cellsOf (fun j => By (R.K i j)) 32)) (.agg (cellsOf (fun j => By (key j)) 32))).run Tryd.prog w = .ok (eqK R key i) w :=
  run_eq_bytes (P := Tryd.prog) 23 5 32 und23 und5 inf5 cof5v (R.K i) key w
set_option maxRecDepth 100000 in
set_option maxHeartbeats 1000000 in
theorem place_any (R : Rg) (b : Nat) (key : Nat → BitVec 8) (w : World) (N : Nat) (hN : Sz w N) (hR : Has w b 98 1057 (rgC R)) (hc : R.c ≤ 32) :
    Calls Tryd.prog 59 #[.pointer (some ⟨b, 0, none⟩), .agg (cellsOf (fun j => By (key j)) 32)] w fun e w' => e = .returned (.tuple #[.int .i64 (plI R key : Nat), .bool (plB R key)]) ∧ Below N w w' := by
  have hb : b < N := hR.ltN hN
  go_enter Tryd.func59, Tryd.ntmps59
  go_wp2_with (first
    | (refine wpl_box rfl 23 (.tmp 1) rfl 32 _ rfl N hN ?_; intro w1 hN1 hb1 h1; have r1 := hR.below hb1 hb; have c1 : w1.cell? ⟨b, 1056, none⟩ = some (.int .i64 (R.c : Int)) := r1.cell (by omega))
    | fail)
  clear c1
  go_loopw [11] (fun i wr => ∃ k : Nat, k ≤ R.c ∧ i = .int .i64 k ∧ Hid (∀ i, i < k → eqK R key i = false) ∧ Has wr b 98 1057 (rgC R) ∧ Has wr N 23 32 (fun j => By (key j)) ∧ Below N w wr)
    (fun i _ => R.c - (intOf i).toNat)
  case atStart => exact ⟨0, by omega, rfl, hid (fun i hi => by omega), r1, h1, hb1⟩
  case round =>
    clear r1 h1 hb1
    obtain ⟨k, hk, rfl, HF, r1, h1, qb⟩ := hrel
    by_cases hlt : k < R.c
    · have hk32 : (k : Int) < 32 := by omega
      go_wp2_with fail
      refine wp_region_any (by kernel_rfl) ?_
      change wpAny _ _ _ _ _ _ _ (World.drew _)
      refine wpAny_take (i := 0) (v := .pointer (some ⟨b, 0, none⟩)) rfl (by kernel_rfl) (by kernel_rfl) (by kernel_rfl) (fun _ _ _ h => h) (Or.inl ⟨by rfl, ?y0⟩) ?r0
      case y0 => (intro w; go_simp; first | done | with_reducible rfl)
      refine wpAny_take (i := 1) (v := .int .i64 (k : Int)) rfl (by kernel_rfl) (by kernel_rfl) (by kernel_rfl) (fun _ _ _ h => h) (Or.inl ⟨by rfl, ?y1⟩) ?r1
      case y1 => (intro w; go_simp; first | done | with_reducible rfl)
      refine wpAny_take (i := 2) (v := .pointer (some ⟨b, 0, none⟩)) rfl (by kernel_rfl) (by kernel_rfl) (by kernel_rfl) (fun _ _ _ h => h) (Or.inl ⟨by rfl, ?y2⟩) ?r2
      case y2 => (intro w; go_simp; first | done | with_reducible rfl)
      refine wpAny_take (i := 3) (v := .pointer (some ⟨b, 0, none⟩)) rfl (by kernel_rfl) (by kernel_rfl) (by kernel_rfl) (fun _ _ _ h => h) (Or.inl ⟨by rfl, ?y3⟩) ?r3
      case y3 => (intro w; go_simp; first | done | with_reducible rfl)
      simp only [Act.put, List.setIfInBounds_toArray, List.set_cons_succ, List.set_cons_zero, List.getElem_toArray, List.getElem_cons_succ, List.getElem_cons_zero]
      refine wpAny_take (i := 4) (v := .pointer (some ⟨b, 33 * k, none⟩)) rfl (by kernel_rfl) (by kernel_rfl) (by kernel_rfl) (fun _ _ _ h => h) (Or.inl ⟨by rfl, ?y4⟩) ?r4
      case y4 => (intro w; go_simp)
      refine wpAny_take (i := 5) (v := .pointer (some ⟨b, 33 * k, none⟩)) rfl (by kernel_rfl) (by kernel_rfl) (by kernel_rfl) (fun _ _ _ h => h) (Or.inl ⟨by rfl, ?y5⟩) ?r5
      case y5 => (intro w; go_simp; first | done | with_reducible rfl)
      simp only [Act.put, List.setIfInBounds_toArray, List.set_cons_succ, List.set_cons_zero, List.getElem_toArray, List.getElem_cons_succ, List.getElem_cons_zero]
      refine wpAny_pair 6 7 _ _ (.agg (cellsOf (fun j => By (R.K k j)) 32)) (.agg (cellsOf (fun j => By (key j)) 32)) _ _ _ _ rfl rfl (by refine ⟨?_, ?_, ?_⟩ <;> kernel_rfl) (by rfl) (by rfl) (by rfl) (by rfl)
        (run_ldp 23 (.tmp 19) rfl b (33 * k) rfl 98 1057 _ (by exact r1) 32 (by omega) _ (fun j hj => rg_key R k (by omega) j hj) _ und23 rfl inf23) (run_ld 23 (.tmp 3) rfl N rfl 23 32 _ (by exact h1) _ und23 rfl inf23)
        (run_ldp 23 (.tmp 19) rfl b (33 * k) rfl 98 1057 _ (by exact r1) 32 (by omega) _ (fun j hj => rg_key R k (by omega) j hj) _ und23 rfl inf23) (run_ld 23 (.tmp 3) rfl N rfl 23 32 _ (by exact h1) _ und23 rfl inf23)
        (put_swap _ _ _ _ _ (by omega)) (by omega) ?_
      simp only [Act.put, List.setIfInBounds_toArray, List.set_cons_succ, List.set_cons_zero, List.getElem_toArray, List.getElem_cons_succ, List.getElem_cons_zero]
      refine wpAny_part [8] _ _ _ _ (by kernel_rfl) ?_
      simp only [List.filterMap_cons, List.filterMap_nil, List.getElem?_toArray, List.getElem?_cons_succ, List.getElem?_cons_zero]
      refine wpl_eql rfl 23 23 (.tmp 20) (.tmp 21) rfl _ _ rfl rfl _ (by kernel_rfl) (run_eqK R key k _) ?_
      change wpAny _ _ _ _ _ _ _ _
      refine wpAny_done (by kernel_rfl) ?_ _
      simp only [Act.put, List.setIfInBounds_toArray, List.set_cons_succ, List.set_cons_zero]
      cases hq : eqK R key k
      · go_wp2_with fail
        exact ⟨⟨k + 1, by omega, by go_num, hid (fun i hi => by
          by_cases h : i < k
          · exact HF.out i h
          · obtain rfl : i = k := by omega
            exact hq), by exact r1, by exact h1, below_drew1 qb⟩, by simp [intOf]; omega⟩
      · have hp := find_first (eqK R key) R.c k hlt HF.out hq
        have e1 : plI R key = k := by unfold plI plO; rw [hp]; rfl
        have e2 : plB R key = true := by unfold plB plO; rw [hp]; rfl
        have E1 := hid e1
        have E2 := hid e2
        clear e1 e2 hp
        go_wp2_with fail
        go_ret2
        exact ⟨by rw [E1.out, E2.out]; rfl, below_drew1 qb⟩
    · obtain rfl : k = R.c := by omega
      have hp := find_none (eqK R key) R.c HF.out
      have e1 : plI R key = 0 := by unfold plI plO; rw [hp]; rfl
      have e2 : plB R key = false := by unfold plB plO; rw [hp]; rfl
      have E1 := hid e1
      have E2 := hid e2
      clear e1 e2 hp
      go_wp2_with fail
      go_ret2
      exact ⟨by rw [E1.out, E2.out]; rfl, qb⟩
end Go.Proofs.YtcampjgemedhlaaDoor
