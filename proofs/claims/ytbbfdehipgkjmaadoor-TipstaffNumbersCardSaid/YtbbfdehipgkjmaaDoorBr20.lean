/- Contracts of what a jump tells: its parts, of any number. -/
import Derived.Test.YtbbfdehipgkjmaaDoorBr9
namespace Go.Proofs.YtbbfdehipgkjmaaDoor
open Go Go.RowKit
/-- What is so where a comparison is not to hold. -/
def oppF (op : Int) : Int := if op = 1 then 5 else if op = 2 then 11 else if op = 3 then 10 else if op = 4 then (-1) else if op = 5 then 1 else if op = 6 then 13 else if op = 7 then 12 else if op = 10 then 3 else if op = 11 then 2 else if op = 12 then 7 else if op = 13 then 6 else 0
/-- Do the lower halves tell what the whole numbers do? -/
def aslF (op : Int) (a b : Rn) : Bool := if op = 6 then aslS6 a b else if op = 7 then aslS7 a b else if op = 12 then aslS12 a b else if op = 13 then aslS13 a b else aslO op a b
/-- Two ranges by what is so. -/
def bndF (op : Int) (a b : Rn) : Rn × Rn × Bool := if op = 1 then bnd1 a b else if op = 2 then bnd2 a b else if op = 3 then bnd3 a b else if op = 10 then bnd10 a b else if op = 11 then bnd11 a b else if op = 6 then bnd6 a b else if op = 7 then bnd7 a b else if op = 12 then bnd12 a b else if op = 13 then bnd13 a b else if op = 5 then bnd5 a b else if op = (-1) then bndn a b else (a, b, true)
/-- Does a comparison hold? -/
def holF (op : Int) (l : Bool) (x y : W) : Bool := if op = 1 then hol1 l x y else if op = 2 then hol2 l x y else if op = 3 then hol3 l x y else if op = 4 then hol4 l x y else if op = 5 then hol5 l x y else if op = 6 then hol6 l x y else if op = 7 then hol7 l x y else if op = 10 then hol10 l x y else if op = 11 then hol11 l x y else if op = 12 then hol12 l x y else if op = 13 then hol13 l x y else false
theorem Opp_all (op : Int) (w : World) (N : Nat) (hN : Sz w N) : Calls Tryd.prog 28 #[.int .i64 op] w fun e w' => e = .returned (.int .i64 (oppF op)) ∧ Below N w w' := by
  by_cases h1 : op = 1
  · subst h1; exact Opp_1 w N hN
  replace h1 := beq_eq_false_iff_ne.2 h1
  by_cases h2 : op = 2
  · subst h2; exact Opp_2 w N hN
  replace h2 := beq_eq_false_iff_ne.2 h2
  by_cases h3 : op = 3
  · subst h3; exact Opp_3 w N hN
  replace h3 := beq_eq_false_iff_ne.2 h3
  by_cases h4 : op = 4
  · subst h4; exact Opp_4 w N hN
  replace h4 := beq_eq_false_iff_ne.2 h4
  by_cases h5 : op = 5
  · subst h5; exact Opp_5 w N hN
  replace h5 := beq_eq_false_iff_ne.2 h5
  by_cases h6 : op = 6
  · subst h6; exact Opp_6 w N hN
  replace h6 := beq_eq_false_iff_ne.2 h6
  by_cases h7 : op = 7
  · subst h7; exact Opp_7 w N hN
  replace h7 := beq_eq_false_iff_ne.2 h7
  by_cases h10 : op = 10
  · subst h10; exact Opp_10 w N hN
  replace h10 := beq_eq_false_iff_ne.2 h10
  by_cases h11 : op = 11
  · subst h11; exact Opp_11 w N hN
  replace h11 := beq_eq_false_iff_ne.2 h11
  by_cases h12 : op = 12
  · subst h12; exact Opp_12 w N hN
  replace h12 := beq_eq_false_iff_ne.2 h12
  by_cases h13 : op = 13
  · subst h13; exact Opp_13 w N hN
  replace h13 := beq_eq_false_iff_ne.2 h13
  rw [show oppF op = oppo op from by unfold oppF; simp only [if_neg (beq_eq_false_iff_ne.1 h1), if_neg (beq_eq_false_iff_ne.1 h2), if_neg (beq_eq_false_iff_ne.1 h3), if_neg (beq_eq_false_iff_ne.1 h4), if_neg (beq_eq_false_iff_ne.1 h5), if_neg (beq_eq_false_iff_ne.1 h6), if_neg (beq_eq_false_iff_ne.1 h7), if_neg (beq_eq_false_iff_ne.1 h10), if_neg (beq_eq_false_iff_ne.1 h11), if_neg (beq_eq_false_iff_ne.1 h12), if_neg (beq_eq_false_iff_ne.1 h13)]; rfl]
  exact Opp_o op w N hN h1 h2 h3 h4 h5 h6 h7 h10 h11 h12 h13
theorem AsLong_all (op : Int) (a b : Rn) (w : World) (N : Nat) (hN : Sz w N) : Calls Tryd.prog 32 #[.int .i64 op, rV a, rV b] w fun e w' => e = .returned (.bool (aslF op a b)) ∧ Below N w w' := by
  by_cases h6 : op = 6
  · subst h6; exact AsLong_6 a b w N hN
  replace h6 := beq_eq_false_iff_ne.2 h6
  by_cases h7 : op = 7
  · subst h7; exact AsLong_7 a b w N hN
  replace h7 := beq_eq_false_iff_ne.2 h7
  by_cases h12 : op = 12
  · subst h12; exact AsLong_12 a b w N hN
  replace h12 := beq_eq_false_iff_ne.2 h12
  by_cases h13 : op = 13
  · subst h13; exact AsLong_13 a b w N hN
  replace h13 := beq_eq_false_iff_ne.2 h13
  rw [show aslF op a b = aslO op a b from by unfold aslF; simp only [if_neg (beq_eq_false_iff_ne.1 h6), if_neg (beq_eq_false_iff_ne.1 h7), if_neg (beq_eq_false_iff_ne.1 h12), if_neg (beq_eq_false_iff_ne.1 h13)]]
  exact AsLong_o op a b w N hN h6 h7 h12 h13
theorem Bnd_all (op : Int) (a b : Rn) (w : World) (N : Nat) (hN : Sz w N) : Calls Tryd.prog 33 #[.int .i64 op, rV a, rV b] w fun e w' => e = .returned (.tuple #[rV (bndF op a b).1, rV (bndF op a b).2.1, .bool (bndF op a b).2.2]) ∧ Below N w w' := by
  by_cases h1 : op = 1
  · subst h1; exact Bnd_1 a b w N hN
  replace h1 := beq_eq_false_iff_ne.2 h1
  by_cases h2 : op = 2
  · subst h2; exact Bnd_2 a b w N hN
  replace h2 := beq_eq_false_iff_ne.2 h2
  by_cases h3 : op = 3
  · subst h3; exact Bnd_3 a b w N hN
  replace h3 := beq_eq_false_iff_ne.2 h3
  by_cases h10 : op = 10
  · subst h10; exact Bnd_10 a b w N hN
  replace h10 := beq_eq_false_iff_ne.2 h10
  by_cases h11 : op = 11
  · subst h11; exact Bnd_11 a b w N hN
  replace h11 := beq_eq_false_iff_ne.2 h11
  by_cases h6 : op = 6
  · subst h6; exact Bnd_6 a b w N hN
  replace h6 := beq_eq_false_iff_ne.2 h6
  by_cases h7 : op = 7
  · subst h7; exact Bnd_7 a b w N hN
  replace h7 := beq_eq_false_iff_ne.2 h7
  by_cases h12 : op = 12
  · subst h12; exact Bnd_12 a b w N hN
  replace h12 := beq_eq_false_iff_ne.2 h12
  by_cases h13 : op = 13
  · subst h13; exact Bnd_13 a b w N hN
  replace h13 := beq_eq_false_iff_ne.2 h13
  by_cases h5 : op = 5
  · subst h5; exact Bnd_5 a b w N hN
  replace h5 := beq_eq_false_iff_ne.2 h5
  by_cases hn : op = (-1)
  · subst hn; exact Bnd_n a b w N hN
  replace hn := beq_eq_false_iff_ne.2 hn
  rw [show bndF op a b = bndo op a b from by unfold bndF; simp only [if_neg (beq_eq_false_iff_ne.1 h1), if_neg (beq_eq_false_iff_ne.1 h2), if_neg (beq_eq_false_iff_ne.1 h3), if_neg (beq_eq_false_iff_ne.1 h10), if_neg (beq_eq_false_iff_ne.1 h11), if_neg (beq_eq_false_iff_ne.1 h6), if_neg (beq_eq_false_iff_ne.1 h7), if_neg (beq_eq_false_iff_ne.1 h12), if_neg (beq_eq_false_iff_ne.1 h13), if_neg (beq_eq_false_iff_ne.1 h5), if_neg (beq_eq_false_iff_ne.1 hn)]; rfl]
  exact Bnd_o op a b w N hN h1 h2 h3 h10 h11 h6 h7 h12 h13 h5 hn
theorem Hol_all (op : Int) (l : Bool) (x y : W) (w : World) (N : Nat) (hN : Sz w N) : Calls Tryd.prog 31 #[.int .i64 op, .bool l, Q x, Q y] w fun e w' => e = .returned (.bool (holF op l x y)) ∧ Below N w w' := by
  by_cases h1 : op = 1
  · subst h1; exact Hol_1 l x y w N hN
  replace h1 := beq_eq_false_iff_ne.2 h1
  by_cases h2 : op = 2
  · subst h2; exact Hol_2 l x y w N hN
  replace h2 := beq_eq_false_iff_ne.2 h2
  by_cases h3 : op = 3
  · subst h3; exact Hol_3 l x y w N hN
  replace h3 := beq_eq_false_iff_ne.2 h3
  by_cases h4 : op = 4
  · subst h4; exact Hol_4 l x y w N hN
  replace h4 := beq_eq_false_iff_ne.2 h4
  by_cases h5 : op = 5
  · subst h5; exact Hol_5 l x y w N hN
  replace h5 := beq_eq_false_iff_ne.2 h5
  by_cases h6 : op = 6
  · subst h6; exact Hol_6 l x y w N hN
  replace h6 := beq_eq_false_iff_ne.2 h6
  by_cases h7 : op = 7
  · subst h7; exact Hol_7 l x y w N hN
  replace h7 := beq_eq_false_iff_ne.2 h7
  by_cases h10 : op = 10
  · subst h10; exact Hol_10 l x y w N hN
  replace h10 := beq_eq_false_iff_ne.2 h10
  by_cases h11 : op = 11
  · subst h11; exact Hol_11 l x y w N hN
  replace h11 := beq_eq_false_iff_ne.2 h11
  by_cases h12 : op = 12
  · subst h12; exact Hol_12 l x y w N hN
  replace h12 := beq_eq_false_iff_ne.2 h12
  by_cases h13 : op = 13
  · subst h13; exact Hol_13 l x y w N hN
  replace h13 := beq_eq_false_iff_ne.2 h13
  rw [show holF op l x y = holo op l x y from by unfold holF; simp only [if_neg (beq_eq_false_iff_ne.1 h1), if_neg (beq_eq_false_iff_ne.1 h2), if_neg (beq_eq_false_iff_ne.1 h3), if_neg (beq_eq_false_iff_ne.1 h4), if_neg (beq_eq_false_iff_ne.1 h5), if_neg (beq_eq_false_iff_ne.1 h6), if_neg (beq_eq_false_iff_ne.1 h7), if_neg (beq_eq_false_iff_ne.1 h10), if_neg (beq_eq_false_iff_ne.1 h11), if_neg (beq_eq_false_iff_ne.1 h12), if_neg (beq_eq_false_iff_ne.1 h13)]; cases l <;> rfl]
  exact Hol_o op l x y w N hN h1 h2 h3 h4 h5 h6 h7 h10 h11 h12 h13
theorem bin_beqb {P : Program} {T : TypeId} (hT : P.underlying T = some .bool) (p q : Bool) : BinRun P .eql T (.bool p) (.bool q) (.bool (p == q)) := by
  intro ρ o x y ty w ho hx hy
  have := run_equalIn_bool (P := P) w 9999 T p q hT
  unfold execOp
  simp only [ho, hx, hy, Sem.run_bind]
  have e : (eqGuard .eql T x y (.bool p) (.bool q)).run P w = .ok () w := by unfold eqGuard; rfl
  simp only [e, Result.andThen_ok, binOp, Sem.run_bind, Op.equal, Op.maxDepth, this, Sem.run_pure]
theorem run_eqlI {P : Program} {a : Act} {o : Oper} {x y : Operand} {T ty : TypeId} {p q : Int} {r : Bool} (ho : o.op = .binOp .eql T x y ty) (hx : a.eval x = .int .i64 p) (hy : a.eval y = .int .i64 q) (h : (p == q) = r) (w : World) : (execOp a.eval o).run P w = .ok (.value (.bool r)) w := by
  subst h
  unfold execOp
  simp only [ho, hx, hy]
  go_simp
end Go.Proofs.YtbbfdehipgkjmaaDoor
