/- Laws of ranges' operations: shifts with a sign by whatever count, '^', sums with what is carried, the least and the greatest of four; two ranges and a bool told. -/
import Derived.Test.YtaeggclcjpcnoaaSc12
import Derived.Laws.Externs
import Derived.OrdersHeld
namespace Go.Proofs.Ytaeggclcjpcnoaa
open Go Go.RowKit
theorem fdiv_min (z : Int) (h1 : -9223372036854775808 ≤ z) (h2 : z < 9223372036854775808) (n : Nat) : z.fdiv (2 ^ (min n 64)) = z >>> n := by
  by_cases h : n ≤ 64
  · rw [Nat.min_eq_left h, fdiv_pow]
  · rw [Nat.min_eq_right (by omega), fdiv_pow]
    have e : ∀ m : Nat, 64 ≤ m → z >>> m = if 0 ≤ z then 0 else -1 := fun m hm => by
      rw [Int.shiftRight_eq_div_pow]
      have hp : (9223372036854775808 : Int) < ((2 ^ m : Nat) : Int) := by
        have : 2 ^ 64 ≤ 2 ^ m := Nat.pow_le_pow_right (by decide) hm
        omega
      split
      · exact Int.ediv_eq_zero_of_lt (by assumption) (by omega)
      · rename_i hz
        refine Int.ediv_eq_iff_of_pos (by omega) |>.2 ⟨by omega, by omega⟩
    rw [e 64 (by omega), e n (by omega)]
section
variable {P : Program} (T : TypeId)
theorem sn_bnd (p : W) : -9223372036854775808 ≤ sn p ∧ sn p < 9223372036854775808 := by
  have h1 := qn_lo p; have h2 := qn_hi p
  rw [sn_def]; split <;> omega
theorem bin_sshrg (p q : W) : BinRun P .shr T (S p) (Q q) (S (p.sshiftRight q.toNat)) := binRun_of fun w => by
  show (Op.shift .shr .i64 (sn p) .u64 (qn q)).run P w = _
  have h1 := qn_lo q
  have e : (sn p).fdiv (2 ^ (min (qn q).toNat 64)) = sn (p.sshiftRight q.toNat) := by
    have e1 : (qn q).toNat = q.toNat := rfl
    rw [e1, fdiv_min _ (sn_bnd p).1 (sn_bnd p).2]
    unfold sn; rw [BitVec.toInt_sshiftRight]
  unfold Op.shift S
  rw [if_neg (by omega), ← e]; rfl
theorem shl_sn (p : W) (n : Nat) : IntKind.i64.wrap (sn p * 2 ^ (min n 64)) = sn (p <<< n) := by
  rw [wrap_s]
  congr 1
  apply BitVec.eq_of_toNat_eq
  have e1 : sn p % 18446744073709551616 = qn p := by
    have h1 := qn_lo p; have h2 := qn_hi p
    rw [sn_def]; split <;> omega
  have e2 : (sn p * 2 ^ (min n 64)) % 18446744073709551616 = (qn p * 2 ^ (min n 64)) % 18446744073709551616 := by
    rw [Int.mul_emod, e1, ← Int.emod_eq_of_lt (qn_lo p) (qn_hi p), ← Int.mul_emod, Int.emod_eq_of_lt (qn_lo p) (qn_hi p)]
  have e3 := shl_qn p n
  rw [wrap_u] at e3
  have e4 := congrArg qn (qn_inj e3)
  rw [qn_ofInt] at e4
  rw [← e2] at e4
  have e5 := qn_ofInt (sn p * 2 ^ (min n 64))
  have : qn (BitVec.ofInt 64 (sn p * 2 ^ min n 64)) = qn (p <<< n) := by rw [e5, e4]
  unfold qn at this
  omega
theorem bin_sshl (p q : W) : BinRun P .shl T (S p) (Q q) (S (p <<< q.toNat)) := binRun_of fun w => by
  show (Op.shift .shl .i64 (sn p) .u64 (qn q)).run P w = _
  have h1 := qn_lo q
  have e1 : (qn q).toNat = q.toNat := rfl
  unfold Op.shift S
  rw [if_neg (by omega), ← shl_sn p q.toNat]; rfl
theorem bin_sshlK (p : W) (n : Nat) : BinRun P .shl T (S p) (.int .i64 (n : Int)) (S (p <<< n)) := binRun_of fun w => by
  show (Op.shift .shl .i64 (sn p) .i64 (n : Int)).run P w = _
  unfold Op.shift S
  rw [if_neg (by omega), ← shl_sn p n]; rfl
theorem sn_xor (p q : W) : IntKind.i64.wrap (qn (p ^^^ q)) = sn (p ^^^ q) := by rw [wrap_s, ofInt_qn]
theorem bits_sxor (p q : W) (w : World) : (Op.intBits .xor .i64 (sn p) (sn q)).run P w = .ok (S (p ^^^ q)) w := by
  have e : IntKind.i64.wrap (((BitVec.ofInt 64 (sn p) ^^^ BitVec.ofInt 64 (sn q)).toNat : Nat) : Int) = sn (p ^^^ q) := by
    rw [ofInt_sn, ofInt_sn]; exact sn_xor p q
  unfold S
  rw [← e]; rfl
theorem bin_sxor (p q : W) : BinRun P .xor T (S p) (S q) (S (p ^^^ q)) := binRun_of fun w => bits_sxor p q w
end
section
variable {P : Program} {a : Act} {o : Oper} {w : World} {x y z u : Operand} {T ty : TypeId}
theorem run_snot {p : W} (ho : o.op = .unOp .xor T x) (hx : a.eval x = S p) (w : World) : (execOp a.eval o).run P w = .ok (.value (S (~~~p))) w := by
  have e := bits_sxor (P := P) (BitVec.allOnes 64) p w
  rw [show BitVec.allOnes 64 ^^^ p = ~~~p from BitVec.allOnes_xor, show sn (BitVec.allOnes 64) = -1 by decide] at e
  unfold execOp
  simp only [ho, hx]
  unfold S
  simp only [Op.unary, Sem.run_bind, IntKind.signed, if_true]
  rw [e]
  rfl
/-- What is carried out of a sum. -/
def addO (p q : W) : W := if p.toNat + q.toNat < 18446744073709551616 then 0#64 else 1#64
theorem add64_run (p q : W) (w : World) : (callFunc 123 #[Q p, Q q, .int .u64 0]).run Try.prog w = .ok (.value (.tuple #[Q (p + q), Q (addO p q)])) w := by
  have h1 := qn_lo p; have h2 := qn_hi p; have h3 := qn_lo q; have h4 := qn_hi q
  have e1 : (qn p + qn q + 0) % 18446744073709551616 = qn (p + q) := by unfold qn; rw [BitVec.toNat_add]; omega
  have e2 : (qn p + qn q + 0) / 18446744073709551616 = qn (addO p q) := by
    unfold addO
    split
    · rename_i h; rw [show qn 0#64 = 0 by decide]; unfold qn at *; omega
    · rename_i h; rw [show qn 1#64 = 1 by decide]; unfold qn at *; omega
  unfold Q
  rw [run_callFunc_extern Try.func123 (by kernel_rfl) (by kernel_rfl) (by kernel_rfl) (e := add64Entry) (by kernel_rfl), run_add64 (qn p) (qn q) 0 h1 h3 (by omega) (by omega), e1, e2]
  rfl
theorem run_add64Q {p q : W} {ts : Array TypeId} (ho : o.op = .call { callee := .value (.func 123), args := #[x, y, .const (.int .u64 0)], argTypes := ts }) (hx : a.eval x = Q p) (hy : a.eval y = Q q) (w : World) : (execOp a.eval o).run Try.prog w = .ok (.value (.tuple #[Q (p + q), Q (addO p q)])) w := by
  have h := add64_run p q w
  have hm : (#[x, y, .const (.int .u64 0)] : Array Operand).map a.eval = #[Q p, Q q, .int .u64 0] := by
    simp only [List.map_toArray, List.map_cons, List.map_nil, hx, hy]; rfl
  unfold execOp
  simp only [ho, resolve, invoke, hm, Act.eval, Deferred.ofValue, Sem.run_bind, Sem.run_pure, Result.andThen_ok]
  exact h
def sMin4 (p q r t : W) : W := sMin (sMin (sMin p q) r) t
def sMax4 (p q r t : W) : W := sMax (sMax (sMax p q) r) t
theorem run_min4I {k : IntKind} {l m n j : Int} (ho : o.op = .call { callee := .builtin .min, args := #[x, y, z, u], argTypes := #[T, T, T, T] }) (hx : a.eval x = .int k l) (hy : a.eval y = .int k m) (hz : a.eval z = .int k n) (hu : a.eval u = .int k j) :
    (execOp a.eval o).run P w = .ok (.value (.int k (let s := if m < l then m else l; let s := if n < s then n else s; if j < s then j else s))) w := by
  have hrun : (Builtin.min_ #[T, T, T, T] o.type #[.int k l, .int k m, .int k n, .int k j]).run P w = .ok (.int k (let s := if m < l then m else l; let s := if n < s then n else s; if j < s then j else s)) w := by
    simp [Builtin.min_, Builtin.min2]
  simp [execOp, ho, resolve, invoke, builtin, hx, hy, hz, hu, hrun, Result.andThen]
theorem run_max4I {k : IntKind} {l m n j : Int} (ho : o.op = .call { callee := .builtin .max, args := #[x, y, z, u], argTypes := #[T, T, T, T] }) (hx : a.eval x = .int k l) (hy : a.eval y = .int k m) (hz : a.eval z = .int k n) (hu : a.eval u = .int k j) :
    (execOp a.eval o).run P w = .ok (.value (.int k (let s := if m > l then m else l; let s := if n > s then n else s; if j > s then j else s))) w := by
  have hrun : (Builtin.max_ #[T, T, T, T] o.type #[.int k l, .int k m, .int k n, .int k j]).run P w = .ok (.int k (let s := if m > l then m else l; let s := if n > s then n else s; if j > s then j else s)) w := by
    simp [Builtin.max_, Builtin.max2]
  simp [execOp, ho, resolve, invoke, builtin, hx, hy, hz, hu, hrun, Result.andThen]
theorem sn_min2 (p q : W) : (if sn q < sn p then sn q else sn p) = sn (sMin p q) := by
  unfold sMin; rw [show q.slt p = decide (sn q < sn p) from rfl]; by_cases h : sn q < sn p <;> simp [h]
theorem sn_max2 (p q : W) : (if sn q > sn p then sn q else sn p) = sn (sMax p q) := by
  unfold sMax; rw [show p.slt q = decide (sn p < sn q) from rfl]; by_cases h : sn p < sn q <;> simp [h]
theorem run_min4S {p q r t : W} (ho : o.op = .call { callee := .builtin .min, args := #[x, y, z, u], argTypes := #[T, T, T, T] }) (hx : a.eval x = S p) (hy : a.eval y = S q) (hz : a.eval z = S r) (hu : a.eval u = S t) (w : World) : (execOp a.eval o).run P w = .ok (.value (S (sMin4 p q r t))) w := by
  rw [run_min4I ho hx hy hz hu]
  simp only [sn_min2]; rfl
theorem run_max4S {p q r t : W} (ho : o.op = .call { callee := .builtin .max, args := #[x, y, z, u], argTypes := #[T, T, T, T] }) (hx : a.eval x = S p) (hy : a.eval y = S q) (hz : a.eval z = S r) (hu : a.eval u = S t) (w : World) : (execOp a.eval o).run P w = .ok (.value (S (sMax4 p q r t))) w := by
  rw [run_max4I ho hx hy hz hu]
  simp only [sn_max2]; rfl
def kMax4 (p q r t : Nat) : Nat := max (max (max p q) r) t
theorem run_max4K {p q r t : Nat} (ho : o.op = .call { callee := .builtin .max, args := #[x, y, z, u], argTypes := #[T, T, T, T] }) (hx : a.eval x = .int .i64 (p : Int)) (hy : a.eval y = .int .i64 (q : Int)) (hz : a.eval z = .int .i64 (r : Int)) (hu : a.eval u = .int .i64 (t : Int)) (w : World) : (execOp a.eval o).run P w = .ok (.value (.int .i64 (kMax4 p q r t : Int))) w := by
  rw [run_max4I ho hx hy hz hu]
  have h : ∀ m n : Nat, (if (n : Int) > (m : Int) then (n : Int) else (m : Int)) = ((max m n : Nat) : Int) := fun m n => by split <;> omega
  simp only [h]; rfl
end
section
variable {P : Program} {ops : Array Oper} {Q : Exit → Act → World → Prop} {md : Region.Mode} {S : World → Prop}
/-- An operation that reads is taken first; where it writes is told. -/
theorem held_take {i : Nat} {oi : Oper} {v : Value} {d : Option Tmp} {fuel : Nat} {listed : Array Bool} {a : Act} {w : World} (hi : ops[i]? = some oi) (hd : oi.dst = d)
    (hs : Region.noSelect ops = true) (hf : Region.free md ops listed i = true) (hr : (Region.ready md ops listed).contains i = true)
    (hQ : ∀ c a w, Q (.panic c) (a.put d v) w → Q (.panic c) a w) (hy : YieldsIf P ops S oi v a) (hS : S w)
    (h : wpAnyH P md ops Q S fuel (listed.setIfInBounds i true) (a.put d v) w) : wpAnyH P md ops Q S (fuel + 1) listed a w := by
  subst hd
  exact wpAnyH_take hi hs hf hr hQ hy hS h
theorem wpl_setN {rest : List Oper} {o : Oper} {a : Act} {w : World} (hg : o.guard = none) (hd : o.dst = none) (ty : TypeId) (x y : Operand) (ho : o.op = .store ty x y) (b k : Nat) (hx : a.eval x = .pointer (some ⟨b, k, none⟩)) (v : Value) (hy : a.eval y = v)
    (hi : (P.info? ty).map (·.size) = some 1) (hv : v.cells = #[v]) (h1 : v.oneCell' = true) (T n : Nat) (f : Nat → Value) (hh : Has w b T n f) (hk : k < n)
    (h : ∀ w1, Touch b w w1 → Has w1 b T n (upd f k v) → wpList P ops Q rest a w1) : wpList P ops Q (o :: rest) a w := by
  refine wpl_set hg ty x y ho b k hx v hy hi hv h1 T n f hh hk fun w1 t h' => ?_
  rw [hd]
  exact h w1 t h'
end
theorem post_rrb {fn : Func} {R : Ending → World → Prop} {p q u : Tmp} {T T2 : TypeId} {a : Act} {w : World} (hr : fn.results = #[.cell p T, .cell q T2, .tmp u]) (b c : Nat) (hp : a.tmps.getD p undef = .pointer (some ⟨b, 0, none⟩)) (hq : a.tmps.getD q undef = .pointer (some ⟨c, 0, none⟩))
    {r s : Rn} (hh : Has w b T 6 (rC r)) (hk : Has w c T2 6 (rC s)) (hu : ∃ d, Try.prog.underlying T = some d ∧ d.isRow = true) (hu2 : ∃ d, Try.prog.underlying T2 = some d ∧ d.isRow = true) (hi : (Try.prog.info? T).map (·.size) = some 6) (hi2 : (Try.prog.info? T2).map (·.size) = some 6) {x : Value} (hx : a.tmps.getD u undef = x)
    (hdef : a.defers = []) (hR : R (.returned (.tuple #[rV r, rV s, x])) w) : bodyPost Try.prog fn R .ret a w := by
  obtain ⟨d, h1, h2⟩ := hu
  obtain ⟨d2, g1, g2⟩ := hu2
  refine bodyPost_ret (v := .tuple #[rV r, rV s, x]) ?_ hdef hR
  have hld := run_loadVar_row (P := Try.prog) w b T T (cellsOf (rC r) 6) (0, 0) d hh h1 (by cases d <;> simp_all) (by rw [hi, size_cellsOf])
  have hld2 := run_loadVar_row (P := Try.prog) w c T2 T2 (cellsOf (rC s) 6) (0, 0) d2 hk g1 (by cases d2 <;> simp_all) (by rw [hi2, size_cellsOf])
  have hres : (results fn a.tmps).run Try.prog w = ((asAddr (a.tmps.getD p undef)).run Try.prog w).andThen fun a1 w1 => ((loadVar T a1).run Try.prog w1).andThen fun v w2 => ((asAddr (a.tmps.getD q undef)).run Try.prog w2).andThen fun a3 w3 => ((loadVar T2 a3).run Try.prog w3).andThen fun v4 w4 => .ok (.tuple #[v, v4, a.tmps.getD u undef]) w4 := by
    simp only [results, hr]
    simp [Sem.run_bind, Result.andThen]
  rw [hres, hp, hq, hx]
  simp [asAddr, hld, hld2, rV]
end Go.Proofs.Ytaeggclcjpcnoaa
