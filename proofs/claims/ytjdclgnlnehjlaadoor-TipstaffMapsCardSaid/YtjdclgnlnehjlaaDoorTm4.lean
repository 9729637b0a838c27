/- TipstaffMaps: laws of its walk. -/
import Derived.Test.YtjdclgnlnehjlaaDoorTm3
import Derived.Test.YtjdclgnlnehjlaaDoorMgStdc
import Derived.Test.YtjdclgnlnehjlaaDoorMgEq
namespace Go.Proofs.YtjdclgnlnehjlaaDoor
open Go Go.RowKit
theorem und3p : Tryd.prog.underlying 51 = some (.array 3 27) := by kernel_rfl
theorem und8b : Tryd.prog.underlying 53 = some (.array 8 35) := by kernel_rfl
theorem szMp : (Tryd.prog.info? 27).map (·.size) = some 1 := by kernel_rfl
theorem szBB : (Tryd.prog.info? 35).map (·.size) = some 1 := by kernel_rfl
theorem ze3p : (Tryd.prog.info? 51).map (fun i => (i.zero, i.size)) = some (some (.agg (cellsOf (fun _ => Value.pointer none) 3)), 3) := by kernel_rfl
theorem ze8b : (Tryd.prog.info? 53).map (fun i => (i.zero, i.size)) = some (some (.agg (cellsOf (rowV (fun _ => none)) 8)), 8) := by kernel_rfl
theorem undMpp : ∃ e, Tryd.prog.underlying 27 = some (.pointer e) := by
  have h : (match Tryd.prog.underlying 27 with | some (.pointer _) => true | _ => false) = true := by kernel_rfl
  cases e : Tryd.prog.underlying 27 with
  | none => rw [e] at h; cases h
  | some d => cases d <;> first | exact ⟨_, rfl⟩ | (rw [e] at h; cases h)
section
variable {P : Program} {ops : Array Oper} {Q : Exit → Act → World → Prop} {i : Nat} {o : Oper} {a : Act} {w w0 : World} {TL N : Nat} {V : Nat → Option Value} {n : Nat → Nat} {D : Nat → Nat → BitVec 8} {rem : List Nat}
/-- A new list of four bytes. -/
theorem pob_bs4 (hi : ops[i]? = some o) (hg : o.guard = none) (x y z t : Operand) (ho : o.op = .buildSlice 35 4 #[(0, x), (1, y), (2, z), (3, t)]) (d0 d1 d2 d3 : BitVec 8) (hx : a.eval x = By d0) (hy : a.eval y = By d1) (hz : a.eval z = By d2) (ht : a.eval t = By d3) (hn : n i = 4) (hD : ∀ j, j < 4 → four d0 d1 d2 d3 j = D i j) (h8 : i ≠ 8) (hV : V i = none) (hN : Sz w0 N) (hI : Below N w0 w) : wpOp Tryd.prog ops Q i (potB' ops w0 TL N V n D rem i a w) a w := by
  obtain ⟨M, hM⟩ := sz_some w
  have l := below_sz hI hN hM
  refine op_listB hi (wpl_bs4 hg x y z t ho d0 d1 d2 d3 hx hy hz ht M hM (fun w1 hM1 hb1 hh => wpl_nilBB (pob_step hi _ hN hI w1 (fun M' hM' => ?_) ?_)))
  · obtain rfl : M = M' := hM.symm.trans hM'
    exact hb1
  · rw [show Value.slice (some ⟨M, 0, none⟩) 4 4 = .slice (some ⟨M, 0, none⟩) (n i) 4 by rw [hn]]
    exact FB.mk_row hV h8 ⟨l, by omega, hh.ltN hM1 |> fun h => (by have e : w1.heap.size = M + 1 := hM1; omega), fun h0 => ⟨M, 0, rfl, fun j hj => by rw [Nat.zero_add, hh.cell (by omega), hD j (by omega)]⟩⟩
theorem run_ia3 {x y : Operand} {t e : TypeId} {b m k : Nat} (ho : o.op = .indexAddr t x y) (hx : a.eval x = .pointer (some ⟨b, 0, none⟩)) {kk : IntKind} (hy : a.eval y = .int kk (k : Int)) (hu : P.underlying t = some (.array m e)) (hs : (P.info? e).map (·.size) = some 1) (hk : k < m) (w : World) : (execOp a.eval o).run P w = .ok (.value (.pointer (some ⟨b, k, none⟩))) w := by
  cases hq : P.info? e with
  | none => rw [hq] at hs; cases hs
  | some u =>
    rw [hq] at hs
    have h1 : u.size = 1 := by simpa using hs
    have h2 : ¬ (m ≤ k) := by omega
    unfold execOp
    simp only [ho, hx, hy]
    simp [Instr.indexAt, Instr.sureAddr, asIntOf, Sem.run_bind, run_underlying hu, sizeOf, typeInfo, hq, h1, Addr.add, h2, hk]
    exact fun h => h.symm
theorem run_iaS8 {x y : Operand} {t e : TypeId} {g off n' c k : Nat} {b : Option Addr} (ho : o.op = .indexAddr t x y) (hx : a.eval x = .slice b n' c) (hb : b = some ⟨g, off, none⟩) (hy : a.eval y = .int .i64 (k : Int)) (hu : P.underlying t = some (.slice e)) (hs : (P.info? e).map (·.size) = some 1) (hk : k < n') (w : World) : (execOp a.eval o).run P w = .ok (.value (.pointer (some ⟨g, off + k, none⟩))) w := by
  subst hb
  cases hq : P.info? e with
  | none => rw [hq] at hs; cases hs
  | some u =>
    rw [hq] at hs
    have h1 : u.size = 1 := by simpa using hs
    have h2 : ¬ (n' ≤ k) := by omega
    unfold execOp
    simp only [ho, hx, hy]
    simp [Instr.indexAt, Instr.sureAddr, asIntOf, Sem.run_bind, run_underlying hu, sizeOf, typeInfo, hq, h1, Addr.add, h2, hk]
/-- A byte's rest by eight. -/
theorem run_rem8 {x y : Operand} {T ty : TypeId} {d : BitVec 8} {m : Nat} (ho : o.op = .binOp .rem T x y ty) (hx : a.eval x = By d) (hy : a.eval y = .int .u8 8) (hm : d.toNat % 8 = m) (w : World) : (execOp a.eval o).run P w = .ok (.value (By (b8 m))) w := by
  have hlt : m < 256 := by omega
  rw [← by_nat m hlt]
  have e : IntKind.u8.wrap ((d.toNat : Int).tmod 8) = ((m : Nat) : Int) := by
    rw [show (8 : Int) = ((8 : Nat) : Int) from rfl, ← Int.ofNat_tmod, hm]
    simp [IntKind.wrap, IntKind.signed, IntKind.bits]; omega
  have hx' : a.eval x = .int .u8 ((d.toNat : Nat) : Int) := hx
  have e3 : ((d.toNat : Nat) : Int).tmod 8 = (m : Int) := by
    rw [show (8 : Int) = ((8 : Nat) : Int) from rfl, ← Int.ofNat_tmod, hm]
  have e4 : ((d.toNat : Nat) : Int) % 8 = (m : Int) := by omega
  unfold execOp; simp only [ho, hx', hy]; go_simp
  first | done | exact e | exact e3 | exact e4 | (simp [e3, e]; done) | (simp [e4, e]; done) | (rw [e3, ← e, e3]; done)
end
theorem cof8m : Tryd.prog.cellsOf 5 = 1 := by kernel_rfl
theorem eqSum (D : Nat → BitVec 8) (w : World) : (Op.equalIn 10000 40 (.agg (cellsOf (fun j => By (D j)) 32)) (.agg (cellsOf (fun j => By (D j)) 32))).run Tryd.prog w = .ok true w := by
  rw [run_eq_bytes (P := Tryd.prog) 40 5 32 und23 und5 inf5 cof8m D D w]
  congr 1
  simp
def iN : Nat → Value := fun j => .int .i64 (j : Int)
section
variable {ops : Array Oper} {rest : List Oper} {o : Oper} {a : Act} {w : World} {Q : Exit → Act → World → Prop}
theorem wpl_bsI3 (hgd : o.guard = none) (ho : o.op = .buildSlice 52 3 #[(0, .const (.int .i64 0)), (1, .const (.int .i64 1)), (2, .const (.int .i64 2))]) (N : Nat) (hN : Sz w N)
    (h : ∀ w1, Sz w1 (N + 1) → Below N w w1 → Has w1 N 3 3 iN → wpList Tryd.prog ops Q rest (a.put o.dst (.slice (some ⟨N, 0, none⟩) 3 3)) w1) : wpList Tryd.prog ops Q (o :: rest) a w := by
  have e : w.heap.size = N := hN
  subst e
  refine wpl_run hgd (.slice (some ⟨w.heap.size, 0, none⟩) 3 3) (w.alloc (.cells (cellsOf iN 3) 3)) ?_ (h _ (sz_alloc rfl _) (below_new _ _ _ rfl) (has_new rfl 3 3 _))
  clear h hN
  generalize a.eval = ev at *
  unfold execOp
  simp only [ho]
  go_simp
  kernel_rfl
def two (a b : BitVec 8) : Nat → BitVec 8 := fun j => if j = 0 then a else b
theorem wpl_bsB2 (hgd : o.guard = none) (x y : Operand) (ho : o.op = .buildSlice 35 2 #[(0, x), (1, y)]) (d0 d1 : BitVec 8) (hx : a.eval x = By d0) (hy : a.eval y = By d1) (N : Nat) (hN : Sz w N)
    (h : ∀ w1, Sz w1 (N + 1) → Below N w w1 → Has w1 N 5 2 (fun j => By (two d0 d1 j)) → wpList Tryd.prog ops Q rest (a.put o.dst (.slice (some ⟨N, 0, none⟩) 2 2)) w1) : wpList Tryd.prog ops Q (o :: rest) a w := by
  have e : w.heap.size = N := hN
  subst e
  refine wpl_run hgd (.slice (some ⟨w.heap.size, 0, none⟩) 2 2) (w.alloc (.cells #[By d0, By d1] 5)) ?_ (h _ (sz_alloc rfl _) (below_new _ _ _ rfl) ?_)
  · unfold By at *
    clear h hN
    generalize a.eval = ev at *
    unfold execOp
    simp only [ho]
    go_simp
  · exact has_new rfl 5 2 (fun j => By (two d0 d1 j))
end
/-- What of the six maps stands where in the law's first loop. -/
def THa (th : Nat → Bool) : Nat → Nat → Bool := fun i x => if i % 3 = 0 then true else if i < 3 then th x else false
def VVa (V : Nat → Nat → BitVec 8) : Nat → Nat → Nat → BitVec 8 := fun i x j => if i < 3 then V x j else 0#8
def THm (th : Nat → Bool) (k c : Nat) : Nat → Nat → Bool := fun i x => if i < c then (if i % 3 = 0 then true else thS th k x) else THa th i x
def VVm (V : Nat → Nat → BitVec 8) (k : Nat) (D : Nat → BitVec 8) (c : Nat) : Nat → Nat → Nat → BitVec 8 := fun i x j => if i < c then vS V k D x j else VVa V i x j
/-- .. and in its second. -/
def THb (th : Nat → Bool) (p : Nat) : Nat → Nat → Bool := fun i x => if i % 3 = 0 then true else if i < 3 then th x else (th x && decide (p ≤ x))
def VVb (V : Nat → Nat → BitVec 8) (p : Nat) : Nat → Nat → Nat → BitVec 8 := fun i x j => if i < 3 then V x j else if p ≤ x then V x j else 0#8
def THc (th : Nat → Bool) (k c : Nat) : Nat → Nat → Bool := fun i x => if 3 ≤ i ∧ i < 3 + c then THb th k i x else THb th (k + 1) i x
def VVc (V : Nat → Nat → BitVec 8) (k c : Nat) : Nat → Nat → Nat → BitVec 8 := fun i x j => if 3 ≤ i ∧ i < 3 + c then VVb V k i x j else VVb V (k + 1) i x j
section
variable {th : Nat → Bool} {V : Nat → Nat → BitVec 8} {k c i x j : Nat} {D : Nat → BitVec 8}
theorem thm_step (hc : c < 3) : THm th k (c + 1) i x = setN (THm th k c) c (thS (THm th k c c) k) i x := by
  unfold setN
  by_cases e : i = c
  · subst e
    rw [if_pos rfl]
    unfold thS THm
    rw [if_pos (show i < i + 1 by omega), if_neg (show ¬ i < i by omega)]
    unfold THa thS
    by_cases e0 : i % 3 = 0
    · rw [if_pos e0, if_pos e0]; split <;> rfl
    · rw [if_neg e0, if_neg e0, if_pos hc]
  · rw [if_neg e]
    unfold THm
    by_cases e1 : i < c
    · rw [if_pos e1, if_pos (show i < c + 1 by omega)]
    · rw [if_neg e1, if_neg (show ¬ i < c + 1 by omega)]
theorem vvm_step (hc : c < 3) : VVm V k D (c + 1) i x j = setN (VVm V k D c) c (vS (VVm V k D c c) k D) i x j := by
  unfold setN
  by_cases e : i = c
  · subst e
    rw [if_pos rfl]
    show VVm V k D (i + 1) i x j = (if x = k then D else VVm V k D i i x) j
    by_cases e0 : x = k
    · rw [if_pos e0]; unfold VVm vS; rw [if_pos (show i < i + 1 by omega), if_pos e0]
    · rw [if_neg e0]; unfold VVm vS; rw [if_pos (show i < i + 1 by omega), if_neg e0, if_neg (show ¬ i < i by omega)]; unfold VVa; rw [if_pos hc]
  · rw [if_neg e]
    unfold VVm
    by_cases e1 : i < c
    · rw [if_pos e1, if_pos (show i < c + 1 by omega)]
    · rw [if_neg e1, if_neg (show ¬ i < c + 1 by omega)]
theorem thm_end : THa (thS th k) i x = THm th k 3 i x := by
  unfold THm THa
  by_cases e : i < 3
  · rw [if_pos e, if_pos e]
  · rw [if_neg e, if_neg e, if_neg e]
theorem vvm_end : VVa (vS V k D) i x j = VVm V k D 3 i x j := by
  unfold VVm VVa
  by_cases e : i < 3
  · rw [if_pos e, if_pos e]
  · rw [if_neg e, if_neg e, if_neg e]
theorem thb_start (hx : x < 8) : THb th 8 i x = THa th i x := by
  unfold THb THa
  rw [decide_eq_false (show ¬ 8 ≤ x by omega), Bool.and_false]
theorem vvb_start (hx : x < 8) : VVb V 8 i x j = VVa V i x j := by
  unfold VVb VVa
  rw [if_neg (show ¬ 8 ≤ x by omega)]
theorem thc_step (ht : th k = true) : THc th k (c + 1) i x = setN (THc th k c) (3 + c) (thS (THc th k c (3 + c)) k) i x := by
  unfold setN
  by_cases e : i = 3 + c
  · subst e
    rw [if_pos rfl]
    unfold thS THc
    rw [if_pos (show 3 ≤ 3 + c ∧ 3 + c < 3 + (c + 1) by omega), if_neg (show ¬ (3 ≤ 3 + c ∧ 3 + c < 3 + c) by omega)]
    unfold THb
    by_cases e0 : (3 + c) % 3 = 0
    · rw [if_pos e0, if_pos e0]; split <;> rfl
    · rw [if_neg e0, if_neg e0, if_neg (show ¬ 3 + c < 3 by omega), if_neg (show ¬ 3 + c < 3 by omega)]
      by_cases e1 : x = k
      · rw [if_pos e1, e1, ht, decide_eq_true (Nat.le_refl k)]; rfl
      · rw [if_neg e1, show decide (k ≤ x) = decide (k + 1 ≤ x) from decide_eq_decide.2 (by omega)]
  · rw [if_neg e]
    unfold THc
    by_cases e1 : 3 ≤ i ∧ i < 3 + c
    · rw [if_pos e1, if_pos (show 3 ≤ i ∧ i < 3 + (c + 1) by omega)]
    · rw [if_neg e1, if_neg (show ¬ (3 ≤ i ∧ i < 3 + (c + 1)) by omega)]
theorem vvc_step : VVc V k (c + 1) i x j = setN (VVc V k c) (3 + c) (vS (VVc V k c (3 + c)) k (V k)) i x j := by
  unfold setN
  by_cases e : i = 3 + c
  · subst e
    rw [if_pos rfl]
    show VVc V k (c + 1) (3 + c) x j = (if x = k then V k else VVc V k c (3 + c) x) j
    unfold VVc
    rw [if_pos (show 3 ≤ 3 + c ∧ 3 + c < 3 + (c + 1) by omega)]
    by_cases e1 : x = k
    · rw [if_pos e1]; unfold VVb; rw [if_neg (show ¬ 3 + c < 3 by omega), e1, if_pos (Nat.le_refl k)]
    · rw [if_neg e1]
      show _ = (if 3 ≤ 3 + c ∧ 3 + c < 3 + c then VVb V k (3 + c) x j else VVb V (k + 1) (3 + c) x j)
      rw [if_neg (show ¬ (3 ≤ 3 + c ∧ 3 + c < 3 + c) by omega)]
      unfold VVb
      rw [if_neg (show ¬ 3 + c < 3 by omega), if_neg (show ¬ 3 + c < 3 by omega)]
      by_cases e2 : k ≤ x
      · rw [if_pos e2, if_pos (show k + 1 ≤ x by omega)]
      · rw [if_neg e2, if_neg (show ¬ k + 1 ≤ x by omega)]
  · rw [if_neg e]
    unfold VVc
    by_cases e1 : 3 ≤ i ∧ i < 3 + c
    · rw [if_pos e1, if_pos (show 3 ≤ i ∧ i < 3 + (c + 1) by omega)]
    · rw [if_neg e1, if_neg (show ¬ (3 ≤ i ∧ i < 3 + (c + 1)) by omega)]
theorem thc_end (hi : i < 6) : THb th k i x = THc th k 3 i x := by
  unfold THc
  by_cases e : 3 ≤ i ∧ i < 3 + 3
  · rw [if_pos e]
  · rw [if_neg e]; unfold THb; rw [if_pos (show i < 3 by omega), if_pos (show i < 3 by omega)]
theorem vvc_end (hi : i < 6) : VVb V k i x j = VVc V k 3 i x j := by
  unfold VVc
  by_cases e : 3 ≤ i ∧ i < 3 + 3
  · rw [if_pos e]
  · rw [if_neg e]; unfold VVb; rw [if_pos (show i < 3 by omega), if_pos (show i < 3 by omega)]
theorem thc_zero : THc th k 0 i x = THb th (k + 1) i x := by unfold THc; rw [if_neg (by omega)]
theorem vvc_zero : VVc V k 0 i x j = VVb V (k + 1) i x j := by unfold VVc; rw [if_neg (by omega)]
theorem thb_skip (ht : th k = false) : THb th k i x = THb th (k + 1) i x := by
  unfold THb
  by_cases e1 : x = k
  · rw [e1, ht]; rfl
  · rw [show decide (k ≤ x) = decide (k + 1 ≤ x) from decide_eq_decide.2 (by omega)]
theorem vvb_skip (hv : ∀ j, V k j = 0#8) : VVb V k i x j = VVb V (k + 1) i x j := by
  unfold VVb
  by_cases e : i < 3
  · rw [if_pos e, if_pos e]
  · rw [if_neg e, if_neg e]
    by_cases e1 : x = k
    · rw [if_pos (show k ≤ x by omega), if_neg (show ¬ k + 1 ≤ x by omega), e1, hv]
    · by_cases e2 : k ≤ x
      · rw [if_pos e2, if_pos (show k + 1 ≤ x by omega)]
      · rw [if_neg e2, if_neg (show ¬ k + 1 ≤ x by omega)]
theorem tha_none : THa (fun _ => false) i x = th0 (ty3 i) x := by
  unfold THa th0 ty3
  by_cases e : i % 3 = 0
  · rw [if_pos e, e]; rfl
  · rw [if_neg e]
    have : (i % 3 == 0) = false := beq_eq_false_iff_ne.2 e
    rw [this]; split <;> rfl
end
end Go.Proofs.YtjdclgnlnehjlaaDoor
