/- What the laws of jumps share: ranges of the document, rests. -/
import Derived.Test.YtmdcopmgkhjfnaaBr24
import Derived.Test.YtmdcopmgkhjfnaaSr0
namespace Go.Proofs.Ytmdcopmgkhjfnaa
open Go Go.RowKit
theorem tells_any (w : World) (N : Nat) (hN : Sz w N) : Calls Try.prog 35 #[] w fun e w' => e = .returned (.bool true) ∧ Below N w w' := by
  have := Tells_any w N hN
  rwa [tells_true] at this
theorem bin_remK {P : Program} {T : TypeId} {n m : Nat} (hm : 0 < m ∧ n < 1000000) : BinRun P .rem T (.int .i64 (n : Int)) (.int .i64 (m : Int)) (.int .i64 ((n % m : Nat) : Int)) := binRun_of fun w => by
  have h0 : ¬ ((m : Int) = 0) := by omega
  have e : (n : Int).tmod (m : Int) = ((n % m : Nat) : Int) := by rw [Int.tmod_eq_emod_of_nonneg (by omega)]; exact (Int.natCast_emod n m).symm
  show (Op.intDiv .rem .i64 (n : Int) (m : Int)).run P w = _
  unfold Op.intDiv
  rw [if_neg h0, ← e]
  rfl
theorem bin_quoK {P : Program} {T : TypeId} {n m : Nat} (hm : 0 < m ∧ n < 1000000) : BinRun P .quo T (.int .i64 (n : Int)) (.int .i64 (m : Int)) (.int .i64 ((n / m : Nat) : Int)) := binRun_of fun w => by
  have h0 : ¬ ((m : Int) = 0) := by omega
  have e : (n : Int).tdiv (m : Int) = ((n / m : Nat) : Int) := by rw [Int.tdiv_eq_ediv_of_nonneg (by omega)]; exact (Int.natCast_ediv n m).symm
  have h1 := Nat.div_le_self n m
  show (Op.intDiv .quo .i64 (n : Int) (m : Int)).run P w = _
  unfold Op.intDiv
  rw [if_neg h0]
  simp only [e]
  have e2 : IntKind.i64.wrap ((n / m : Nat) : Int) = ((n / m : Nat) : Int) := by
    generalize n / m = z at *
    simp [IntKind.wrap, IntKind.signed, IntKind.bits]
    omega
  rw [e2]
  rfl
theorem run_remK {P : Program} {a : Act} {o : Oper} {x y : Operand} {T ty : TypeId} {n m : Nat} (ho : o.op = .binOp .rem T x y ty) (hx : a.eval x = .int .i64 (n : Int)) (hy : a.eval y = .int .i64 (m : Int)) (hm : 0 < m ∧ n < 1000000) (w : World) : (execOp a.eval o).run P w = .ok (.value (.int .i64 ((n % m : Nat) : Int))) w := bin_remK hm a.eval o x y ty w ho hx hy
theorem run_quoK {P : Program} {a : Act} {o : Oper} {x y : Operand} {T ty : TypeId} {n m : Nat} (ho : o.op = .binOp .quo T x y ty) (hx : a.eval x = .int .i64 (n : Int)) (hy : a.eval y = .int .i64 (m : Int)) (hm : 0 < m ∧ n < 1000000) (w : World) : (execOp a.eval o).run P w = .ok (.value (.int .i64 ((n / m : Nat) : Int))) w := bin_quoK hm a.eval o x y ty w ho hx hy
def toR15 (a : Rn) : Rn :=
  ⟨⟨a.b.v, a.b.m⟩, a.lo, a.hi, a.sl, a.sh⟩
set_option maxRecDepth 100000 in
set_option maxHeartbeats 4000000 in
theorem To15_ (a : Rn) (w : World) (N : Nat) (hN : Sz w N) : Calls Try.prog 38 #[rV a] w fun e w' => e = .returned (rV (toR15 a)) ∧ Below N w w' := by
  obtain ⟨rr, er⟩ : ∃ rr, rr = (toR15 a) := ⟨_, rfl⟩
  rw [← er]
  have ER := hid er
  clear er
  unfold rV
  go_enter Try.func38, Try.ntmps38
  go_upto_region 1 with (first
    | (refine wpl_box rfl 34 (.tmp 0) rfl 6 _ rfl (N) hN ?_; intro w1 hN1 hb1 hh1)
    | (refine wpl_alloc rfl 41 rfl 6 (rC zeroR) zeR (N + 1) hN1 ?_; intro w2 hN2 hb2 hh2)
    | fail)
  have lo0 : Below N w w2 := (hb1.trans (hb2.mono (by omega)))
  have k1 := (hh1.below hb2 (by omega))
  have k2 := hh2
  clear hh1 hb1 hh2 hb2 hN1
  go_upto_region 1 with fail
  refine wp_region_lit ?_
  try simp only [pA]
  change wpList _ _ _ ((_ :: _ :: _ :: _ :: _ :: _ :: _ :: _ :: _ :: _ :: _ :: _ :: _ :: _ :: _ :: _ :: []) ++ (_ :: [])) _ _
  obtain ⟨c3, c4, c5, c6, c7, c8⟩ := r_cells k1
  refine wpList_prefix (C := fun w' => ∃ x : Later (N + 1 + 1) w2, w' = x.w') _ _ _ _ ⟨⟨_, Below.refl _ _⟩, rfl⟩ ?_
  iterate 2 (go_big_quiet_step (fail))
  refine later_c1 hN2 22 (.tmp 4) rfl rfl und64 rfl c3 (by rfl) ?_; simp only [pA]
  iterate 2 (go_big_quiet_step (fail))
  refine later_c1 hN2 22 (.tmp 7) rfl rfl und64 rfl c4 (by rfl) ?_; simp only [pA]
  refine later_val (fun q => run_bd 39 _ rfl (cellsOf (nC ⟨a.b.v, a.b.m⟩) 2) (by kernel_rfl) q.w') (by rfl) ?_; simp only [pA]
  go_big_quiet_step (fail)
  refine later_c1 hN2 22 (.tmp 10) rfl rfl und64 rfl c5 (by rfl) ?_; simp only [pA]
  go_big_quiet_step (fail)
  refine later_c1 hN2 22 (.tmp 12) rfl rfl und64 rfl c6 (by rfl) ?_; simp only [pA]
  go_big_quiet_step (fail)
  refine later_c1 hN2 2 (.tmp 14) rfl rfl undI64 rfl c7 (by rfl) ?_; simp only [pA]
  go_big_quiet_step (fail)
  refine later_c1 hN2 2 (.tmp 16) rfl rfl undI64 rfl c8 (by rfl) ?_; simp only [pA]
  refine later_val (fun q => run_bd 41 _ rfl (cellsOf (rC ⟨⟨a.b.v, a.b.m⟩, a.lo, a.hi, a.sl, a.sh⟩) 6) (by kernel_rfl) q.w') (by rfl) ?_; simp only [pA]
  refine wpQuiet_nil (laterE hN2 ?_)
  intro xw9 M10 hbxw9 hM10 lM10
  have k11 := k1.below hbxw9 (by omega)
  have k12 := k2.below hbxw9 (by omega)
  have lo13 := lo0.trans (hbxw9.mono (by omega))
  clear k1 c3 c4 c5 c6 c7 c8 k2 lo0 hbxw9
  refine wpl_store rfl 41 (.tmp 2) (.tmp 18) rfl (N + 1) 6 (rC ⟨⟨a.b.v, a.b.m⟩, a.lo, a.hi, a.sl, a.sh⟩) rfl rfl 41 _ k12 szR (fun j _ => rC_one _ j) ?_
  intro xw14 t15 k16; try simp only [pA]
  have k17 := k11.touch t15 (by omega)
  have lo18 := t15.below lo13 (by omega)
  have h19 := t15.sz hM10
  clear k12 k11 lo13 hM10 t15
  obtain ⟨M20, hM20⟩ := sz_some xw14
  have lt_21 := k17.ltN hM20
  have lt_22 := k16.ltN hM20
  go_wp2_with fail
  refine post_r rfl (N + 1) rfl k16 undR szR rfl ?_
  exact ⟨by rw [ER.out]; first | rfl | (simp only [toR15, bB] <;> rfl), lo18⟩
theorem To15_any (a : Rn) (w : World) (N : Nat) (hN : Sz w N) : Calls Try.prog 38 #[rV a] w fun e w' => e = .returned (rV a) ∧ Below N w w' := To15_ a w N hN
end Go.Proofs.Ytmdcopmgkhjfnaa
