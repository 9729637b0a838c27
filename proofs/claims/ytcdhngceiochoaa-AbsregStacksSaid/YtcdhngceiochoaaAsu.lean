/- AbsregStacks: words of its walk: acts, rows of acts, the document's stack as one value; what the inner loops ask. -/
import Derived.Test.YtcdhngceiochoaaAst
namespace Go.Proofs.Ytcdhngceiochoaa
open Go Go.RowKit
structure Ax where
  at_ : Int
  sz : Int
  v : Bool
def actC (z : Ax) : Nat → Value
  | 0 => .int .i64 z.at_
  | 1 => .int .i64 z.sz
  | _ => .bool z.v
def zeroX : Ax := ⟨0, 0, false⟩
theorem actC_one (z : Ax) (j : Nat) : (actC z j).oneCell' = true := by unfold actC; split <;> rfl
theorem undAx : ∃ d, Try.prog.underlying 83 = some d ∧ d.isRow = true := row_ofN (by kernel_rfl)
theorem szAx : (Try.prog.info? 83).map (·.size) = some 3 := by kernel_rfl
theorem zeAx : (Try.prog.info? 83).map (fun i => (i.zero, i.size)) = some (some (.agg (cellsOf (actC zeroX) 3)), 3) := by kernel_rfl
theorem undAxs : Try.prog.underlying 69 = some (.slice 83) := by kernel_rfl
theorem ax_cells {w : World} {b T : Nat} {z : Ax} (h : Has w b T 3 (actC z)) : w.cell? ⟨b, 0, none⟩ = some (.int .i64 z.at_) ∧ w.cell? ⟨b, 1, none⟩ = some (.int .i64 z.sz) ∧ w.cell? ⟨b, 2, none⟩ = some (.bool z.v) :=
  ⟨h.cell (j := 0) (by omega), h.cell (j := 1) (by omega), h.cell (j := 2) (by omega)⟩
/-- A row of acts that was read. -/
def Rowx (w : World) (p : Option Addr) (n : Nat) (Z : Nat → Ax) : Prop := 0 < n → ∃ b off, p = some ⟨b, off, none⟩ ∧ ∀ k, k < n → ∀ j, j < 3 → w.cell? ⟨b, off + k * 3 + j, none⟩ = some (actC (Z k) j)
theorem run_ixK {P : Program} {a : Act} {o : Oper} (T E : TypeId) (s : Nat) (hu : P.underlying T = some (.slice E)) (hs : (P.info? E).map (·.size) = some s) (x y : Operand) (ho : o.op = .indexAddr T x y) {q off cap k n : Nat} (hx : a.eval x = .slice (some ⟨q, off, none⟩) n cap) (hy : a.eval y = .int .i64 (k : Int)) (hk : k < n) (w : World) : (execOp a.eval o).run P w = .ok (.value (.pointer (some ⟨q, off + k * s, none⟩))) w := by
  cases hq : P.info? E with
  | none => simp [hq] at hs
  | some i =>
    have hi : i.size = s := by simpa [hq] using hs
    have h1 : ¬ (n ≤ k) := by omega
    unfold execOp
    simp only [ho, hx, hy]
    simp [Instr.indexAt, Instr.sureAddr, asIntOf, Sem.run_bind, run_underlying hu, sizeOf, typeInfo, hq, hi, Addr.add, h1, hk]
def sz5 (j : Nat) : Nat := if j = 0 then 1 else if j = 1 then 2 else if j = 2 then 4 else 8
theorem sz5_of (j : Nat) : sz5 j = 1 ∨ sz5 j = 2 ∨ sz5 j = 4 ∨ sz5 j = 8 := by
  unfold sz5
  split
  · exact .inl rfl
  split
  · exact .inr (.inl rfl)
  split
  · exact .inr (.inr (.inl rfl))
  · exact .inr (.inr (.inr rfl))
def s5C (j : Nat) : Value := .int .i64 ((sz5 j : Nat) : Int)
section
variable {ops : Array Oper} {rest : List Oper} {o : Oper} {a : Act} {w : World} {Q : Exit → Act → World → Prop}
theorem wpl_bsn5 (hgd : o.guard = none) (ho : o.op = .buildSlice 60 5 #[(0, .const (.int .i64 1)), (1, .const (.int .i64 2)), (2, .const (.int .i64 4)), (3, .const (.int .i64 8)), (4, .const (.int .i64 8))]) (N : Nat) (hN : Sz w N)
    (h : ∀ w1, Sz w1 (N + 1) → Below N w w1 → Has w1 N 3 5 s5C → wpList Try.prog ops Q rest (a.put o.dst (.slice (some ⟨N, 0, none⟩) 5 5)) w1) : wpList Try.prog ops Q (o :: rest) a w := by
  have e : w.heap.size = N := hN
  subst e
  refine wpl_run hgd (.slice (some ⟨w.heap.size, 0, none⟩) 5 5) (w.alloc (.cells (cellsOf s5C 5) 3)) ?_ (h _ (sz_alloc rfl _) (below_new _ _ _ rfl) (has_new rfl 3 5 _))
  clear h hN
  generalize a.eval = ev at *
  unfold execOp
  simp only [ho]
  go_simp
  kernel_rfl
end
def skP (x : (Nat → Bool) × (Nat → Nat)) : Nat → Value := skC x.1 x.2
theorem zeSk : (Try.prog.info? 81).map (fun i => (i.zero, i.size)) = some (some (.agg (cellsOf (skP (fun _ => false, fun _ => 0)) 72)), 72) := by kernel_rfl
theorem skP_one (x : (Nat → Bool) × (Nat → Nat)) (j : Nat) : (skP x j).oneCell' = true := by unfold skP skC; split <;> rfl
/-- What is told of a word. -/
def wkF (k : Nat) : Int := wrap64 (wrap64 (8 * ((k : Nat) : Int)) - 64)
def ldA (W : Nat → Bool) (K : Nat → Nat) (k : Nat) : Ar := if K k = 0 then (if allW (stOf W K) (8 * k) 8 = true then numA (lowF (obR tAny) 8) else zeroA) else kpA (K k)
def ldB (W : Nat → Bool) (K : Nat → Nat) (k : Nat) : Bool := if K k = 0 then allW (stOf W K) (8 * k) 8 else true
theorem load_word {W : Nat → Bool} {K : Nat → Nat} {k : Nat} (hk : k < 8) : loadF (stOf W K) (wrap64 (wrap64 (8 * ((k : Nat) : Int)) - 64)) 8 = (ldA W K k, ldB W K k) := by
  unfold ldA ldB
  by_cases h : K k = 0
  · rw [if_pos h, if_pos h, load_none hk ((kpA_k _).2 h)]
    cases allW (stOf W K) (8 * k) 8 <;> rfl
  · rw [if_neg h, if_neg h, load_kept hk (by show ((kpA (K k)).k != 0) = true; rw [bne_iff_ne]; exact fun e => h ((kpA_k _).1 e))]
    rfl
theorem ready_byte {W : Nat → Bool} {K : Nat → Nat} {j : Nat} (hj : j < 64) : readyF (stOf W K) (wrap64 (((j : Nat) : Int) - 64)) 1 = W j := by
  have e : wrap64 (((j : Nat) : Int) - 64) = (j : Int) - 64 := wrap_id (by omega) (by omega)
  rw [e]
  unfold readyF
  rw [show decide ((1 : Int) ≤ 0) = false from rfl, cond_false, inside_t (by omega) (by omega) (by omega), cond_true, index_at (by omega) (by omega), show ((j : Int) - 64 + 64).toNat = j by omega, show (1 : Int).toNat = 1 from rfl, Bool.eq_iff_iff, allW_iff]
  constructor
  · intro h; exact h 0 (by omega)
  · intro h x hx; rw [show j + x = j by omega]; exact h
/-- So many bytes of a word are a number's. -/
def rdW (W : Nat → Bool) (k n : Nat) : Bool := decide (∀ x, x < n → W (8 * k + x) = true)
theorem rdW_zero (W : Nat → Bool) (k : Nat) : rdW W k 0 = true := decide_eq_true (fun _ h => absurd h (by omega))
theorem rdW_succ (W : Nat → Bool) (k n : Nat) : rdW W k (n + 1) = (rdW W k n && W (8 * k + n)) := by
  unfold rdW
  rw [Bool.eq_iff_iff, Bool.and_eq_true, decide_eq_true_eq, decide_eq_true_eq]
  constructor
  · intro h; exact ⟨fun x hx => h x (by omega), h n (by omega)⟩
  · intro h x hx
    by_cases e : x = n
    · subst e; exact h.2
    · exact h.1 x (by omega)
theorem rdW_all (W : Nat → Bool) (K : Nat → Nat) (k : Nat) : allW (stOf W K) (8 * k) 8 = rdW W k 8 := rfl
theorem ok_kpA {x : Nat} (h : x < 1000) : okA (kpA x) := by
  unfold kpA
  by_cases e : x = 0
  · rw [if_pos e]; unfold okA zeroA; decide
  · rw [if_neg e]; unfold okA; simp only; omega
theorem ok_lit (k : Int) (h : k = 0 ∨ k = 2 ∨ k = 3) : okA ⟨k, zeroR, 0, 0, 0, 0⟩ := by rcases h with rfl | rfl | rfl <;> (unfold okA; decide)
theorem ok_start (i : Nat) : okA (startS.R i) := by
  by_cases h1 : i = 10
  · subst h1; exact ok_lit 3 (.inr (.inr rfl))
  by_cases h2 : i = 1
  · subst h2; exact ok_lit 2 (.inr (.inl rfl))
  have e : startS.R i = ⟨0, zeroR, 0, 0, 0, 0⟩ := by unfold startS St.setR; simp only; rw [if_neg h1, if_neg h2]; rfl
  rw [e]; exact ok_lit 0 (.inl rfl)
set_option maxRecDepth 100000 in
theorem ok_stc {W : Nat → Bool} {K : Nat → Nat} (hK : ∀ k, K k < 1000) (j : Nat) : okC (stC (stOf W K) j) := by
  unfold stC
  split
  · exact ok_arc (ok_start _) _
  · split
    · trivial
    · have h : okA ((stOf W K).K ((j - 185) / 11)) := ok_kpA (hK ((j - 185) / 11))
      exact ok_arc h _
set_option maxRecDepth 100000 in
theorem run_eqSt {W : Nat → Bool} {K : Nat → Nat} (hK : ∀ k, K k < 1000) (w : World) : (Op.equalIn 10000 76 (.agg (cellsOf (stC (stOf W K)) 273)) (.agg (cellsOf (stC (stOf W K)) 273))).run Try.prog w = .ok true w := by
  have hc : ∀ c ∈ (cellsOf (stC (stOf W K)) 273).toList, okC c := by
    generalize hs : stC (stOf W K) = f
    have hf : ∀ j, okC (f j) := fun j => by rw [← hs]; exact ok_stc hK j
    clear hs
    intro c hc
    simp only [cellsOf, List.mem_map, List.mem_range] at hc
    obtain ⟨j, hj, rfl⟩ := hc
    exact hf j
  exact run_eq_self 8 (by omega) (by kernel_rfl) (by kernel_rfl) (D := 8) (by kernel_rfl) hc w
end Go.Proofs.Ytcdhngceiochoaa
