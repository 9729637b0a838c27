/- What is asked of two ranges: its words. -/
import Derived.Test.YtmdcopmgkhjfnaaSr2
import Derived.Test.YtmdcopmgkhjfnaaSm11
namespace Go.Proofs.Ytmdcopmgkhjfnaa
open Go Go.RowKit
theorem later_ofB {P : Program} {N : Nat} {w : World} {f : FuncId} {args : Array Value} {v : Value} (hN : Sz w N) (x : Later N w) (h : ∀ M, Sz x.w' M → Below N w x.w' → Calls P f args x.w' fun e w' => e = .returned v ∧ Below M x.w' w') :
  Calls P f args x.w' fun e w'' => e = .returned v ∧ ∃ y : Later N w, w'' = y.w' := later_of hN x fun M hM _ => h M hM x.b
theorem run_mulL {P : Program} {a : Act} {o : Oper} {x y : Operand} {T ty : TypeId} {p q r : Int} (ho : o.op = .binOp .mul T x y ty) (hx : a.eval x = .int .i64 p) (hy : a.eval y = .int .i64 q) (hr : IntKind.i64.wrap (p * q) = r) (w : World) : (execOp a.eval o).run P w = .ok (.value (.int .i64 r)) w := by
 subst hr
 unfold execOp
 simp only [ho, hx, hy]
 go_simp
/-- A range that is asked about, and a number of it. -/
def csA (Z : Nat → W) (n : Nat) (d u : W) : Rn := arA (lnE n Z d) (lnN n) u
def csX (Z : Nat → W) (n : Nat) (d : W) (z : Int) : W := lnE n Z d (rm z (lnN n))
theorem cs_in (Z : Nat → W) (n : Nat) (d u : W) (z : Int) : In (csA Z n d u) (csX Z n d z) := arA_in _ _ _ _ (rm_lt _ _ (ln_pos n).1)
theorem cs_rgt (Z : Nat → W) (n : Nat) (d u : W) : Rgt (csA Z n d u).b := arA_rgt _ _ _ (ln_pos n).1
end Go.Proofs.Ytmdcopmgkhjfnaa
