/- Ranges as the program lays them; the document's Eval is Eval. -/
import Derived.Test.YtkljnpdojmcipaaSc4
namespace Go.Proofs.Ytkljnpdojmcipaa
open Go Go.RowKit
theorem REval_any (op : Int) (l : Bool) (x y : W) (w : World) (N : Nat) (hN : Sz w N) : Calls Try.prog 11 #[.int .i64 op, .bool l, Q x, Q y] w fun e w' => e = .returned (Q (evF op l x y)) ∧ Below N w w' := by
  cases l
  · by_cases h0 : op = 0
    · subst h0; exact rev_f_0 x y w N hN
    by_cases h1 : op = 1
    · subst h1; exact rev_f_1 x y w N hN
    by_cases h2 : op = 2
    · subst h2; exact rev_f_2 x y w N hN
    by_cases h3 : op = 3
    · subst h3; exact rev_f_3 x y w N hN
    by_cases h4 : op = 4
    · subst h4; exact rev_f_4 x y w N hN
    by_cases h5 : op = 5
    · subst h5; exact rev_f_5 x y w N hN
    by_cases h6 : op = 6
    · subst h6; exact rev_f_6 x y w N hN
    by_cases h7 : op = 7
    · subst h7
      have e : evF 7 false x y = ((x % 4294967296#64) >>> ((y % 4294967296#64) % 32#64).toNat) % 4294967296#64 := (lo_shr x _).symm
      rw [e]; exact rev_f_7 x y w N hN
    by_cases h8 : op = 8
    · subst h8
      have e : evF 8 false x y = (0#64 - x % 4294967296#64) % 4294967296#64 := by rw [BitVec.zero_sub]; rfl
      rw [e]; exact rev_f_8 x y w N hN
    by_cases h9 : op = 9
    · subst h9; exact rev_f_9 x y w N hN
    by_cases h10 : op = 10
    · subst h10; exact rev_f_10 x y w N hN
    by_cases h11 : op = 11
    · subst h11; exact rev_f_11 x y w N hN
    by_cases h12 : op = 12
    · subst h12
      have h := rev_f_12 x y w N hN
      have e : evF 12 false x y = _ := (ar32 x (lo32 y % 32#64).toNat (h_lt32 _)).symm
      rw [e]; exact h
    have e : evF op false x y = 0#64 % 4294967296#64 := by
      show evS op x y = _
      unfold evS evL
      rw [if_neg h6, if_neg h7, if_neg h12, if_neg h0, if_neg h1, if_neg h2, if_neg h3, if_neg h4, if_neg h5, if_neg h6, if_neg h7, if_neg h8, if_neg h9, if_neg h10, if_neg h11, if_neg h12]; rfl
    rw [e]
    exact rev_f_o x y op (beq_eq_false_iff_ne.2 h0) (beq_eq_false_iff_ne.2 h1) (beq_eq_false_iff_ne.2 h2) (beq_eq_false_iff_ne.2 h3) (beq_eq_false_iff_ne.2 h4) (beq_eq_false_iff_ne.2 h5) (beq_eq_false_iff_ne.2 h6) (beq_eq_false_iff_ne.2 h7) (beq_eq_false_iff_ne.2 h8) (beq_eq_false_iff_ne.2 h9) (beq_eq_false_iff_ne.2 h10) (beq_eq_false_iff_ne.2 h11) (beq_eq_false_iff_ne.2 h12) w N hN
  · by_cases h0 : op = 0
    · subst h0; exact rev_t_0 x y w N hN
    by_cases h1 : op = 1
    · subst h1; exact rev_t_1 x y w N hN
    by_cases h2 : op = 2
    · subst h2; exact rev_t_2 x y w N hN
    by_cases h3 : op = 3
    · subst h3; exact rev_t_3 x y w N hN
    by_cases h4 : op = 4
    · subst h4; exact rev_t_4 x y w N hN
    by_cases h5 : op = 5
    · subst h5; exact rev_t_5 x y w N hN
    by_cases h6 : op = 6
    · subst h6; exact rev_t_6 x y w N hN
    by_cases h7 : op = 7
    · subst h7; exact rev_t_7 x y w N hN
    by_cases h8 : op = 8
    · subst h8
      have e : evF 8 true x y = 0#64 - x := by rw [BitVec.zero_sub]; rfl
      rw [e]; exact rev_t_8 x y w N hN
    by_cases h9 : op = 9
    · subst h9; exact rev_t_9 x y w N hN
    by_cases h10 : op = 10
    · subst h10; exact rev_t_10 x y w N hN
    by_cases h11 : op = 11
    · subst h11; exact rev_t_11 x y w N hN
    by_cases h12 : op = 12
    · subst h12
      have h := rev_t_12 x y w N hN
      have e : evF 12 true x y = _ := (ar64 x (y % 64#64).toNat (sh_lt64 y)).symm
      rw [e]; exact h
    have e : evF op true x y = 0#64 := by
      show evL op x y = _
      unfold evL
      rw [if_neg h0, if_neg h1, if_neg h2, if_neg h3, if_neg h4, if_neg h5, if_neg h6, if_neg h7, if_neg h8, if_neg h9, if_neg h10, if_neg h11, if_neg h12]
    rw [e]
    exact rev_t_o x y op (beq_eq_false_iff_ne.2 h0) (beq_eq_false_iff_ne.2 h1) (beq_eq_false_iff_ne.2 h2) (beq_eq_false_iff_ne.2 h3) (beq_eq_false_iff_ne.2 h4) (beq_eq_false_iff_ne.2 h5) (beq_eq_false_iff_ne.2 h6) (beq_eq_false_iff_ne.2 h7) (beq_eq_false_iff_ne.2 h8) (beq_eq_false_iff_ne.2 h9) (beq_eq_false_iff_ne.2 h10) (beq_eq_false_iff_ne.2 h11) (beq_eq_false_iff_ne.2 h12) w N hN
/-- A range: bits, bounds without a sign, bounds with one. -/
structure Rn where
  b : Nm
  lo : W
  hi : W
  sl : W
  sh : W
def rC (r : Rn) : Nat → Value := fun j => if j = 0 then Q r.b.v else if j = 1 then Q r.b.m else if j = 2 then Q r.lo else if j = 3 then Q r.hi else if j = 4 then S r.sl else S r.sh
def rV (r : Rn) : Value := .agg (cellsOf (rC r) 6)
theorem rC_one (r : Rn) (j : Nat) : (rC r j).oneCell' = true := by
  unfold rC Q S
  repeat' split
  all_goals rfl
def zeroR : Rn := ⟨zeroN, 0#64, 0#64, 0#64, 0#64⟩
theorem undR : ∃ d, Try.prog.underlying 41 = some d ∧ d.isRow = true := row_ofN (by kernel_rfl)
theorem szR : (Try.prog.info? 41).map (·.size) = some 6 := by kernel_rfl
theorem zeR : (Try.prog.info? 41).map (fun i => (i.zero, i.size)) = some (some (.agg (cellsOf (rC zeroR) 6)), 6) := by kernel_rfl
theorem r_cells {w : World} {b T : Nat} {a : Rn} (h : Has w b T 6 (rC a)) : w.cell? ⟨b, 0, none⟩ = some (Q a.b.v) ∧ w.cell? ⟨b, 1, none⟩ = some (Q a.b.m) ∧ w.cell? ⟨b, 2, none⟩ = some (Q a.lo) ∧ w.cell? ⟨b, 3, none⟩ = some (Q a.hi) ∧ w.cell? ⟨b, 4, none⟩ = some (S a.sl) ∧ w.cell? ⟨b, 5, none⟩ = some (S a.sh) :=
  ⟨h.cell (by omega), h.cell (by omega), h.cell (by omega), h.cell (by omega), h.cell (by omega), h.cell (by omega)⟩
theorem post_r {fn : Func} {R : Ending → World → Prop} {p : Tmp} {T : TypeId} {a : Act} {w : World} (hr : fn.results = #[.cell p T]) (b : Nat) (hp : a.tmps.getD p undef = .pointer (some ⟨b, 0, none⟩))
    {r : Rn} (hh : Has w b T 6 (rC r)) (hu : ∃ d, Try.prog.underlying T = some d ∧ d.isRow = true) (hi : (Try.prog.info? T).map (·.size) = some 6)
    (hdef : a.defers = []) (hR : R (.returned (rV r)) w) : bodyPost Try.prog fn R .ret a w := by
  obtain ⟨d, h1, h2⟩ := hu
  exact post_cell hr b hp hh d h1 h2 hi hdef hR
/-- The bits of a range, read as a whole. -/
theorem run_bits {a : Act} {w : World} {o : Oper} (ty : TypeId) (x : Operand) (ho : o.op = .load ty x) (b : Nat) (hx : a.eval x = .pointer (some ⟨b, 0, none⟩)) (T : TypeId) {r : Rn} (hh : Has w b T 6 (rC r))
    (hu : ∃ d, Try.prog.underlying ty = some d ∧ d.isRow = true) (hi : (Try.prog.info? ty).map (·.size) = some 2) : (execOp a.eval o).run Try.prog w = .ok (.value (.agg (cellsOf (nC r.b) 2))) w := by
  obtain ⟨d, h1, h2⟩ := hu
  have h := run_load_part (P := Try.prog) hh 0 2 (by omega) ty d h1 h2 hi
  have e : cellsOf (fun j => rC r (0 + j)) 2 = cellsOf (nC r.b) 2 := cellsOf_congr fun j hj => by
    rcases (show j = 0 ∨ j = 1 by omega) with rfl | rfl <;> rfl
  rw [e] at h
  unfold execOp
  simp only [ho, hx, Sem.run_bind, h, Result.andThen_ok, Sem.run_pure]
def cR (x : W) : Rn := ⟨tConst x, x, x, x, x⟩
def obR (n : Nm) : Rn := ⟨n, 0#64, BitVec.allOnes 64, BitVec.ofInt 64 (-9223372036854775808), BitVec.ofInt 64 9223372036854775807⟩
def sHas (a : Rn) (x : W) : Bool := tHas a.b x && (a.lo.ule x && (x.ule a.hi && (a.sl.sle x && x.sle a.sh)))
end Go.Proofs.Ytkljnpdojmcipaa
