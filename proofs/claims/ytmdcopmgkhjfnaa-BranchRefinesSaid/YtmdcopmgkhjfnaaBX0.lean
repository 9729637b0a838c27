/- What is asked of jumps: two ranges, a number of each, a comparison. -/
import Derived.Test.YtmdcopmgkhjfnaaSr1
import Derived.Test.YtmdcopmgkhjfnaaBWx
namespace Go.Proofs.Ytmdcopmgkhjfnaa
open Go Go.RowKit
/-- What is asked: two rows of words, a place in each, bits that aren't known, a comparison. -/
structure Ce where
  p0 : Option Addr
  n0 : Nat
  c0 : Nat
  p1 : Option Addr
  n1 : Nat
  c1 : Nat
  z0 : Int
  z1 : Int
  u0 : W
  u1 : W
  op : Int
  l : Bool
def ceC (s : Ce) : Nat → Value
  | 0 => .slice s.p0 s.n0 s.c0
  | 1 => .slice s.p1 s.n1 s.c1
  | 2 => .int .i64 s.z0
  | 3 => .int .i64 s.z1
  | 4 => Q s.u0
  | 5 => Q s.u1
  | 6 => .int .i64 s.op
  | _ => .bool s.l
def zeroCe : Ce := ⟨none, 0, 0, none, 0, 0, 0, 0, 0#64, 0#64, 0, false⟩
theorem undCe : ∃ d, Try.prog.underlying 58 = some d ∧ d.isRow = true := row_ofN (by kernel_rfl)
theorem szCe : (Try.prog.info? 58).map (·.size) = some 8 := by kernel_rfl
theorem ce_cells {w : World} {b T : Nat} {p0 p1 : Option Addr} {n0 c0 n1 c1 : Nat} {z0 z1 : Int} {u0 u1 : W} {op : Int} {l : Bool} (h : Has w b T 8 (ceC ⟨p0, n0, c0, p1, n1, c1, z0, z1, u0, u1, op, l⟩)) : w.cell? ⟨b, 0, none⟩ = some (.slice p0 n0 c0) ∧ w.cell? ⟨b, 1, none⟩ = some (.slice p1 n1 c1) ∧ w.cell? ⟨b, 2, none⟩ = some (.int .i64 z0) ∧ w.cell? ⟨b, 3, none⟩ = some (.int .i64 z1) ∧ w.cell? ⟨b, 4, none⟩ = some (Q u0) ∧ w.cell? ⟨b, 5, none⟩ = some (Q u1) ∧ w.cell? ⟨b, 6, none⟩ = some (.int .i64 op) ∧ w.cell? ⟨b, 7, none⟩ = some (.bool l) :=
  ⟨h.cell (by omega), h.cell (by omega), h.cell (by omega), h.cell (by omega), h.cell (by omega), h.cell (by omega), h.cell (by omega), h.cell (by omega)⟩
/-- The numbers of a range: some, and one more. -/
def rfE (n : Nat) (Z : Nat → W) (d : W) (j : Nat) : W := if j < min n 8 then Z j else d
def rfN (n : Nat) : Nat := if n = 1 then 1 else min n 8 + 1
theorem rfN_le (n : Nat) : 1 ≤ rfN n ∧ rfN n ≤ min n 8 + 1 := by unfold rfN; split <;> omega
theorem nz_of {n : Nat} (h : 1 ≤ n ∧ n ≤ 9) : BitVec.ofNat 64 n ≠ 0#64 := fun e => by
  have := congrArg BitVec.toNat e
  rw [BitVec.toNat_ofNat, Nat.mod_eq_of_lt (by omega)] at this
  have e0 : (0#64).toNat = 0 := rfl
  omega
theorem ne_some {b M : Nat} (h : b ≠ M) : some b ≠ blk (some (⟨M, 0, none⟩ : Addr)) := fun e => h (Option.some.inj e)
theorem ge_some {N M : Nat} (h : N ≤ M) : ∀ g, blk (some (⟨M, 0, none⟩ : Addr)) = some g → N ≤ g := fun g e => by
  have e2 : M = g := Option.some.inj e
  omega
theorem ne_blk {p : Option Addr} {n : Nat} (h : ∀ k, blk p = some k → k < n) : blk p ≠ blk (some (⟨n, 0, none⟩ : Addr)) := fun e => Nat.lt_irrefl n (h n e)
theorem apart_blk {p q : Option Addr} {n : Nat} (h1 : ∀ k, blk p = some k → k < n) (h2 : ∀ k, blk q = some k → n ≤ k) : blk p = none ∨ blk p ≠ blk q := by
  cases h : blk p with
  | none => exact Or.inl rfl
  | some k =>
    refine Or.inr fun e => ?_
    have a := h1 k h
    have b := h2 k e.symm
    omega
theorem Ats.ltN {w : World} {g off n M : Nat} {f : Nat → Value} (h : Ats w (some ⟨g, off, none⟩) n f) (hn : 0 < n) (hM : Sz w M) : g < M := by
  have := World.block_lt_of_cell? w _ (at_L h hn)
  have e : w.heap.size = M := hM
  simp only at this
  omega
theorem wpl_bs0 {ops : Array Oper} {rest : List Oper} {o : Oper} {a : Act} {w : World} {Q' : Exit → Act → World → Prop} (hgd : o.guard = none) (ho : o.op = .buildSlice 27 0 #[]) (N : Nat) (hN : Sz w N)
    (h : ∀ w1, Sz w1 (N + 1) → Below N w w1 → Own w1 22 (some ⟨N, 0, none⟩) 0 0 (fun _ => Q 0#64) → wpList Try.prog ops Q' rest (a.put o.dst (.slice (some ⟨N, 0, none⟩) 0 0)) w1) : wpList Try.prog ops Q' (o :: rest) a w := by
  have e : w.heap.size = N := hN
  subst e
  refine wpl_run hgd (.slice (some ⟨w.heap.size, 0, none⟩) 0 0) (w.alloc (.cells (cellsOf (fun _ => Q 0#64) 0) 22)) ?_ (h _ (sz_alloc rfl _) (below_new _ _ _ rfl) (own_has (has_new rfl 22 0 _)))
  clear h hN
  generalize a.eval = ev at *
  unfold execOp
  simp only [ho]
  go_simp
  kernel_rfl
/-- What lies behind two appends: some words of a row, and one more. -/
theorem rf_cells (n : Nat) (Z : Nat → W) (d : W) (j : Nat) (hj : j < 0 + min n 8 + 1) : cat (cat (fun _ => Q 0#64) 0 (fun j => Q (Z j))) (0 + min n 8) (fun _ => Q d) j = Q (rfE n Z d j) := by
  unfold cat rfE
  by_cases h : j < min n 8
  · rw [if_pos (by omega), if_neg (by omega), if_pos h, Nat.sub_zero]
  · rw [if_neg (by omega), if_neg h]
end Go.Proofs.Ytmdcopmgkhjfnaa
