/- turn of the document's answer for layer 1; slices of words that are made whole. -/
import Derived.Test.YtneffelpdaigoaaDoorDig4
import Derived.Test.YtneffelpdaigoaaDoorOwn
import Derived.Test.YtneffelpdaigoaaDoorReg4
import Derived.Laws.MakeOwn
namespace Go.Proofs.YtneffelpdaigoaaDoor
open Go Go.RowKit Sha
theorem one31 : OneCell Tryd.prog 31 := oneCell_of (k := 8) (v := .int .u64 0) (by kernel_rfl) (by omega) rfl
theorem und87 : Tryd.prog.underlying 87 = some (.slice 31) := by kernel_rfl
theorem und31 : Tryd.prog.underlying 31 = some (.int .u64) := by kernel_rfl
theorem inf31 : (Tryd.prog.info? 31).map (·.size) = some 1 := by kernel_rfl
set_option maxRecDepth 100000 in
theorem turn_any (x : W32) (n : Nat) (hn : 1 ≤ n) (hn' : n ≤ 31) (w : World) :
    Calls Tryd.prog 67 #[.int .u32 (u x), .int .i64 (n : Int)] w fun e w' => e = .returned (.int .u32 (u (rr x n))) ∧ ∃ k, w' = w.drewN k := by
  have h0 := u_lo x
  have h1 := u_hi x
  have e1 := hid (rr_walk x n)
  have n0 : (0 : Int) ≤ (n : Int) := by omega
  have n1 : (n : Int) ≤ 31 := by omega
  have n2 : (1 : Int) ≤ (n : Int) := by omega
  have hs : (32 - (n : Int)).toNat = 32 - n := by omega
  have hw : IntKind.i64.wrap (32 - (n : Int)) = 32 - (n : Int) := IntWalk.i64_in _ (by omega)
  have hp : (0 : Int) ≤ 32 - (n : Int) := by omega
  go_enter Tryd.func67, Tryd.ntmps67
  go_wp2_with fail
  go_quiet (fail)
  go_wp2_with fail
  go_ret
  exact ⟨congrArg (fun z => Ending.returned (.int .u32 z)) e1.out, nq, rfl⟩
/-- A slice that is made whole. -/
theorem wpl_makeN {P : Program} {ops : Array Oper} {rest : List Oper} {o : Oper} {a : Act} {w : World} {Q : Exit → Act → World → Prop} (hgd : o.guard = none) (T : TypeId) (x y : Operand) (ho : o.op = .makeSlice T x y) (c : Nat) (zc : Int) (hx : a.eval x = .int .i64 zc) (hy : a.eval y = .int .i64 zc) (hzc : zc = (c : Int))
    (E : TypeId) (k : Nat) (z : Value) (ht : P.underlying T = some (.slice E)) (hi : (P.info? E).map (fun i => (i.zero, i.size, i.bytes)) = some (some z, 1, k)) (hk : k ≤ 1000) (hz : z.cells = #[z]) (hc : c ≤ 1000000)
    (N : Nat) (hN : Sz w N) (h : ∀ w1, Sz w1 (N + 1) → Below N w w1 → Has w1 N E c (fun _ => z) → wpList P ops Q rest (a.put o.dst (.slice (some ⟨N, 0, none⟩) c c)) w1) : wpList P ops Q (o :: rest) a w := by
  subst hzc
  cases hq : P.info? E with
  | none => simp [hq] at hi
  | some i =>
    simp [hq] at hi
    obtain ⟨h1, h2, h3⟩ := hi
    have hb : i.bytes * c ≤ 1000 * 1000000 := Nat.mul_le_mul (by omega) hc
    have hr := run_make (P := P) w T E i z ht hq h1 .i64 .i64 (c : Int) (c : Int) (by omega) (by omega) (by rw [← Int.natCast_mul]; omega) (by omega)
    rw [h2, Nat.mul_one, Int.toNat_natCast, hz] at hr
    have e : w.heap.size = N := hN
    have hcells : madeCells #[z] c = cellsOf (fun _ => z) c := by
      apply Array.ext_getElem?
      intro j
      by_cases hj : j < c
      · simp [madeCells, cellsOf, hj, Nat.mod_one]
      · simp [madeCells, cellsOf, hj]
    rw [hcells, e] at hr
    refine wpl_run hgd (.slice (some ⟨N, 0, none⟩) c c) (w.alloc (.cells (cellsOf (fun _ => z) c) E)) ?_ (h _ (sz_alloc hN _) (below_new w _ N hN) (by have := Has.new w E c (fun _ => z); rwa [e] at this))
    unfold execOp
    simp only [ho, hx, hy, Sem.run_bind, hr, Result.andThen_ok, Sem.run_pure]
def U64 (n : Nat) : Value := .int .u64 (n : Int)
/-- A product's parts of 32 bits: the inner loop's cells and what is carried. -/
def tIn (A B : Nat → Nat) (i : Nat) (o : Nat → Nat) : Nat → (Nat → Nat) × Nat
  | 0 => (o, 0)
  | k + 1 => (fun j => if j = i + k then (A i * B k + (tIn A B i o k).1 (i + k) + (tIn A B i o k).2) % 4294967296 else (tIn A B i o k).1 j, (A i * B k + (tIn A B i o k).1 (i + k) + (tIn A B i o k).2) / 4294967296)
/-- The outer loop's. -/
def tOut (A B : Nat → Nat) (m : Nat) : Nat → Nat → Nat
  | 0 => fun _ => 0
  | i + 1 => fun j => if j = i + m then (tIn A B i (tOut A B m i) m).1 j + (tIn A B i (tOut A B m i) m).2 else (tIn A B i (tOut A B m i) m).1 j
theorem part_lt {a b c d : Nat} (ha : a < 4294967296) (hb : b < 4294967296) (hc : c < 4294967296) (hd : d < 4294967296) : (a * b + c + d) / 4294967296 < 4294967296 := by
  have h : a * b ≤ 4294967295 * 4294967295 := Nat.mul_le_mul (by omega) (by omega)
  omega
theorem tIn_lt (A B : Nat → Nat) (i : Nat) (o : Nat → Nat) (m : Nat) (hA : A i < 4294967296) (hB : ∀ k, k < m → B k < 4294967296) (ho : ∀ j, o j < 4294967296) : ∀ k, k ≤ m → (∀ j, (tIn A B i o k).1 j < 4294967296) ∧ (tIn A B i o k).2 < 4294967296
  | 0, _ => ⟨ho, by show 0 < _; omega⟩
  | k + 1, h => by
    obtain ⟨h1, h2⟩ := tIn_lt A B i o m hA hB ho k (by omega)
    refine ⟨fun j => ?_, part_lt hA (hB k (by omega)) (h1 _) h2⟩
    simp only [tIn]
    split
    · omega
    · exact h1 j
theorem tIn_far (A B : Nat → Nat) (i : Nat) (o : Nat → Nat) : ∀ k j, i + k ≤ j → (tIn A B i o k).1 j = o j
  | 0, _, _ => rfl
  | k + 1, j, h => by
    simp only [tIn]
    rw [if_neg (by omega), tIn_far A B i o k j (by omega)]
theorem tOut_far (A B : Nat → Nat) (m : Nat) : ∀ i j, i + m ≤ j → tOut A B m i j = 0
  | 0, _, _ => rfl
  | i + 1, j, h => by
    simp only [tOut]
    rw [if_neg (by omega), tIn_far _ _ _ _ _ _ (by omega), tOut_far A B m i j (by omega)]
theorem tOut_lt (A B : Nat → Nat) (n m : Nat) (hA : ∀ k, k < n → A k < 4294967296) (hB : ∀ k, k < m → B k < 4294967296) : ∀ i, i ≤ n → ∀ j, tOut A B m i j < 4294967296
  | 0, _, _ => by show 0 < _; omega
  | i + 1, h, j => by
    have ih := tOut_lt A B n m hA hB i (by omega)
    obtain ⟨h1, h2⟩ := tIn_lt A B i (tOut A B m i) m (hA i (by omega)) hB ih m (Nat.le_refl m)
    simp only [tOut]
    split
    · rename_i e
      rw [e, tIn_far _ _ _ _ _ _ (Nat.le_refl _), tOut_far _ _ _ _ _ (Nat.le_refl _)]
      omega
    · exact h1 j
end Go.Proofs.YtneffelpdaigoaaDoor
