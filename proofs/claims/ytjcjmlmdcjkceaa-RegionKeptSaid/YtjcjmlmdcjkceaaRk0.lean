/- RegionKept: of places that are kept. -/
import Derived.Test.YtjcjmlmdcjkceaaRn1
namespace Go.Proofs.Ytjcjmlmdcjkceaa
open Go Go.RowKit
theorem run_neq_op {P : Program} {a : Act} {w : World} {o : Oper} (t ty : TypeId) (x y : Operand) (ho : o.op = .binOp .neq t x y ty) (A B : Array Value) (hx : a.eval x = .agg A) (hy : a.eval y = .agg B) (r : Bool) (hm : P.eqGuardType P.depth t = false) (h : (Op.equalIn 10000 t (.agg A) (.agg B)).run P w = .ok r w) :
    (execOp a.eval o).run P w = .ok (.value (.bool (!r))) w := by
  unfold execOp
  simp only [ho, hx, hy, Sem.run_bind, run_eqGuard_agg w _ t x y A B hm, run_neq_struct, h, Result.andThen_ok, Sem.run_pure]
/-- Eight values. -/
def keC (K : Nat → Vl) (j : Nat) : Value := vlC (K (j / 4)) (j % 4)
def updK (K : Nat → Vl) (k : Nat) (v : Vl) : Nat → Vl := fun j => if j = k then v else K j
def K0 : Nat → Vl := fun _ => zeroV
theorem keC_at (K : Nat → Vl) (k j : Nat) (h : j < 4) : keC K (0 + k * 4 + j) = vlC (K k) j := by
  unfold keC; rw [show (0 + k * 4 + j) / 4 = k by omega, show (0 + k * 4 + j) % 4 = j by omega]
theorem lay_ke (K : Nat → Vl) (k : Nat) (v : Vl) (j : Nat) : lay (keC K) (0 + k * 4) 4 (vlC v) j = keC (updK K k v) j := by
  unfold lay keC updK
  by_cases e : 0 + k * 4 ≤ j ∧ j < 0 + k * 4 + 4
  · rw [if_pos e, if_pos (by omega), show j % 4 = j - (0 + k * 4) by omega]
  · rw [if_neg e, if_neg (by omega)]
theorem undKr : ∃ d, Try.prog.underlying 74 = some d ∧ d.isRow = true := row_ofN (by kernel_rfl)
theorem szKr : (Try.prog.info? 74).map (·.size) = some 32 := by kernel_rfl
theorem zeKr : (Try.prog.info? 74).map (fun i => (i.zero, i.size)) = some (some (.agg (cellsOf (keC K0) 32)), 32) := by kernel_rfl
/-- A memory that keeps values, and has no numbers. -/
def mK (K : Nat → Vl) : Me := ⟨X0, fun _ => 0#64, fun _ => false, K, .slice none 0 0⟩
def V2 (i : Nat) : Vl := ⟨2, BitVec.ofInt 64 ((i : Nat) : Int), 0, none⟩
/-- What is kept there: nothing, or a place of the context. -/
def okK (K : Nat → Vl) : Prop := ∀ j, K j = zeroV ∨ ∃ i, K j = V2 i
theorem okK_upd {K : Nat → Vl} (h : okK K) (k i : Nat) : okK (updK K k (V2 i)) := fun j => by
  unfold updK
  by_cases e : j = k
  · rw [if_pos e]; exact .inr ⟨i, rfl⟩
  · rw [if_neg e]; exact h j
theorem okK_c {K : Nat → Vl} (h : okK K) (k : Nat) : (K k).c = none := by rcases h k with e | ⟨i, e⟩ <;> rw [e] <;> rfl
theorem V2_ok (i : Nat) : 1 ≤ (V2 i).tag ∧ (V2 i).tag ≤ 5 := ⟨by show (1 : Int) ≤ 2; decide, by show (2 : Int) ≤ 5; decide⟩
theorem mK_new : newM X0 = mK K0 := rfl
theorem sv_k (K : Nat → Vl) (k i : Nat) (h : k < 8) : svS (mK K) (sn S0.n) (((8 * k : Nat) : Int) - 64) 8 (V2 i) = (mK (updK K k (V2 i)), 0) := by
  obtain ⟨e1, e2⟩ := in_off (f := 8 * k) (k := 8) (by omega) (A := sn S0.n) (off := ((8 * k : Nat) : Int) - 64) (by rw [show sn S0.n = 0 from by decide]; omega)
  have hw : wordB (8 * k) 8 = true := by unfold wordB; rw [show 8 * k % 8 = 0 by omega]; rfl
  unfold svS
  rw [e2, if_pos ⟨e1, by omega⟩, if_neg (show ¬ (V2 i).tag = 1 by show ¬ (2 : Int) = 1; decide), if_pos hw]
  congr 1
  unfold kpM kpW Me.setK mK updK
  rw [show 8 * k / 8 = k by omega]
  congr 1
  funext j
  split <;> rfl
/-- Behind the number in the last word. -/
def mL (K : Nat → Vl) (f : Nat) : Me := byM (wrM (mK K) f 1) f 1 1#64
theorem sv_l (K : Nat → Vl) (r : Nat) (h : r < 8) : svS (mK K) (sn S0.n) ((r : Int) - 8) 1 (Vn 1#64) = (mL K (56 + r), 0) := by
  obtain ⟨e1, e2⟩ := in_off (f := 56 + r) (k := 1) (by omega) (A := sn S0.n) (off := (r : Int) - 8) (by rw [show sn S0.n = 0 from by decide]; omega)
  unfold svS
  rw [e2, if_pos ⟨e1, by omega⟩, if_pos (show (Vn 1#64).tag = 1 from rfl)]; rfl
theorem mL_K (K : Nat → Vl) {r k : Nat} (h : k < 7) : (mL K (56 + r)).K k = K k := if_neg (by omega)
theorem mL_W (K : Nat → Vl) {r j : Nat} (h : j < 56) : (mL K (56 + r)).Wr j = false := if_neg (by omega)
theorem ld_k8 (K : Nat → Vl) (r k : Nat) (h : k < 7) : ldS (mL K (56 + r)) (sn S0.n) (((8 * k : Nat) : Int) - 64) 8 = if ((K k).tag != 0) = true then (K k, 0) else (zeroV, 14) := by
  obtain ⟨e1, e2⟩ := in_off (f := 8 * k) (k := 8) (by omega) (A := sn S0.n) (off := ((8 * k : Nat) : Int) - 64) (by rw [show sn S0.n = 0 from by decide]; omega)
  have hw : wordB (8 * k) 8 = true := by unfold wordB; rw [show 8 * k % 8 = 0 by omega]; rfl
  have ha : allT (fun j => (mL K (56 + r)).Wr (8 * k + j)) 8 = false := by
    cases hx : allT (fun j => (mL K (56 + r)).Wr (8 * k + j)) 8
    · rfl
    · have := (allT_iff _ _).1 hx 0 (by omega); rw [mL_W K (by omega)] at this; cases this
  unfold ldS ldF
  rw [e1, e2, ha, hw, decide_eq_true (by omega), show 8 * k / 8 = k by omega, mL_K K h]
  simp only [Bool.not_true, Bool.or_self, Bool.false_eq_true, if_false, Bool.true_and]
theorem ld_k4 (K : Nat → Vl) (r k : Nat) (h : k < 7) : ldS (mL K (56 + r)) (sn S0.n) (((8 * k : Nat) : Int) - 64) 4 = (zeroV, 14) := by
  obtain ⟨e1, e2⟩ := in_off (f := 8 * k) (k := 4) (by omega) (A := sn S0.n) (off := ((8 * k : Nat) : Int) - 64) (by rw [show sn S0.n = 0 from by decide]; omega)
  have ha : allT (fun j => (mL K (56 + r)).Wr (8 * k + j)) 4 = false := by
    cases hx : allT (fun j => (mL K (56 + r)).Wr (8 * k + j)) 4
    · rfl
    · have := (allT_iff _ _).1 hx 0 (by omega); rw [mL_W K (by omega)] at this; cases this
  unfold ldS ldF
  rw [e1, e2, ha, decide_eq_true (by omega), show wordB (8 * k) 4 = false from rfl]
  simp only [Bool.not_true, Bool.or_self, Bool.false_eq_true, if_false, Bool.false_and]
theorem ld_l (K : Nat → Vl) (r : Nat) (h : r < 8) : ∃ v, ldS (mL K (56 + r)) (sn S0.n) ((r : Int) - 8) 1 = (v, 0) := by
  obtain ⟨e1, e2⟩ := in_off (f := 56 + r) (k := 1) (by omega) (A := sn S0.n) (off := (r : Int) - 8) (by rw [show sn S0.n = 0 from by decide]; omega)
  have ha : allT (fun j => (mL K (56 + r)).Wr (56 + r + j)) 1 = true := (allT_iff _ _).2 (fun j hj => if_pos (by omega))
  unfold ldS ldF
  rw [e1, e2, ha, decide_eq_true (by omega), show wordB (56 + r) 1 = false from rfl]
  simp only [Bool.not_true, Bool.or_self, Bool.false_eq_true, if_false, Bool.false_and, if_true]
  exact ⟨_, rfl⟩
end Go.Proofs.Ytjcjmlmdcjkceaa
