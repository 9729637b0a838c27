/- BranchHolds: the walk, of any operation. -/
import Derived.Test.YtmdcopmgkhjfnaaBr13
namespace Go.Proofs.Ytmdcopmgkhjfnaa
open Go Go.RowKit
theorem sgn_eq (x : W) : BitVec.signExtend 64 (s32 (lo32 x)) = rsigF x false := by
  unfold rsigF s32 lo32
  simp only [cond_false]
  apply BitVec.eq_of_toNat_eq
  have hx : (x % 4294967296#64).toNat < 4294967296 := by rw [BitVec.toNat_umod]; exact Nat.mod_lt _ (by decide)
  generalize x % 4294967296#64 = y at hx
  rw [BitVec.signExtend, BitVec.toNat_ofInt, BitVec.toInt_eq_toNat_cond, BitVec.toNat_setWidth]
  cases h : BitVec.ule 2147483648#64 y
  · have h' : ¬ 2147483648 ≤ y.toNat := by simpa [BitVec.ule] using h
    simp only [cond_false]; split <;> omega
  · have h' : 2147483648 ≤ y.toNat := by simpa [BitVec.ule] using h
    simp only [cond_true, BitVec.toNat_sub]
    split
    · omega
    · rw [show (4294967296#64).toNat = 4294967296 from rfl]; omega
theorem hol_1 (l : Bool) (x y : W) : (hol1 l x y == rhol1 l x y) = true := by
  cases l <;> simp only [hol1, rhol1, cond_true, cond_false, lo32, beq_self_eq_true]
theorem hol_2 (l : Bool) (x y : W) : (hol2 l x y == rhol2 l x y) = true := by
  cases l <;> simp only [hol2, rhol2, cond_true, cond_false, lo32, beq_self_eq_true]
theorem hol_3 (l : Bool) (x y : W) : (hol3 l x y == rhol3 l x y) = true := by
  cases l <;> simp only [hol3, rhol3, cond_true, cond_false, lo32, beq_self_eq_true]
theorem hol_4 (l : Bool) (x y : W) : (hol4 l x y == rhol4 l x y) = true := by
  cases l <;> simp only [hol4, rhol4, cond_true, cond_false, lo32, beq_self_eq_true]
theorem hol_5 (l : Bool) (x y : W) : (hol5 l x y == rhol5 l x y) = true := by
  cases l <;> simp only [hol5, rhol5, cond_true, cond_false, lo32, beq_self_eq_true]
theorem hol_6 (l : Bool) (x y : W) : (hol6 l x y == rhol6 l x y) = true := by
  cases l
  · simp only [hol6, rhol6, cond_false, sgn_eq, beq_self_eq_true]
  · simp only [hol6, rhol6, rsigF, cond_true, beq_self_eq_true]
theorem hol_7 (l : Bool) (x y : W) : (hol7 l x y == rhol7 l x y) = true := by
  cases l
  · simp only [hol7, rhol7, cond_false, sgn_eq, beq_self_eq_true]
  · simp only [hol7, rhol7, rsigF, cond_true, beq_self_eq_true]
theorem hol_10 (l : Bool) (x y : W) : (hol10 l x y == rhol10 l x y) = true := by
  cases l <;> simp only [hol10, rhol10, cond_true, cond_false, lo32, beq_self_eq_true]
theorem hol_11 (l : Bool) (x y : W) : (hol11 l x y == rhol11 l x y) = true := by
  cases l <;> simp only [hol11, rhol11, cond_true, cond_false, lo32, beq_self_eq_true]
theorem hol_12 (l : Bool) (x y : W) : (hol12 l x y == rhol12 l x y) = true := by
  cases l
  · simp only [hol12, rhol12, cond_false, sgn_eq, beq_self_eq_true]
  · simp only [hol12, rhol12, rsigF, cond_true, beq_self_eq_true]
theorem hol_13 (l : Bool) (x y : W) : (hol13 l x y == rhol13 l x y) = true := by
  cases l
  · simp only [hol13, rhol13, cond_false, sgn_eq, beq_self_eq_true]
  · simp only [hol13, rhol13, rsigF, cond_true, beq_self_eq_true]
set_option maxRecDepth 100000 in
set_option maxHeartbeats 8000000 in
theorem bh_any (z : Int) (l : Bool) (hol : W → W → Bool) (rhol : W → W → Bool) (d : Nat → W) (w : World) (N : Nat) (hN : Sz w N) (hhol : ∀ (x y : W) (w : World) (N : Nat), Sz w N → Calls Try.prog 36 #[.int .i64 z, .bool l, Q x, Q y] w fun e w' => e = .returned (.bool (hol x y)) ∧ Below N w w') (hrhol : ∀ (x y : W) (w : World) (N : Nat), Sz w N → Calls Try.prog 37 #[.int .i64 z, .bool l, Q x, Q y] w fun e w' => e = .returned (.bool (rhol x y)) ∧ Below N w w') (heq : ∀ x y, (hol x y == rhol x y) = true) : Calls Try.prog 9 #[(Value.int .i64 z), (Value.bool l), (Value.agg (cellsOf (dC d) 2))] w fun e w' => e = .returned (.bool true) ∧ Below N w w' := by
  have H0 := hid (heq (d 0) (d 1))
  have H1 := hid tells_true
  go_enter Try.func9, Try.ntmps9
  go_upto_region 1 with (first
    | (refine wpl_box rfl 23 (.tmp 2) rfl 2 _ rfl (N) hN ?_; intro w1 hN1 hb1 hh1)
    | fail)
  have lo0 : Below N w w1 := hb1
  have k1 := hh1
  clear hh1 hb1
  go_upto_region 1 with fail
  obtain ⟨c2, c3⟩ := d_cells k1
  refine wp_region_later ((N + 1)) (by kernel_rfl) (by kernel_rfl) ?_
  try simp only [pA]
  go_big_quiet_step ((go_at_call 35; exact later_of hN1 _ (fun K hK hKN => ret_is H1.out (Tells_any) _ K hK)))
  iterate 4 (go_big_quiet_step (fail))
  refine later_c1 hN1 22 (.tmp 11) rfl rfl und64 rfl c2 (by rfl) ?_; simp only [pA]
  go_big_quiet_step (fail)
  refine later_c1 hN1 22 (.tmp 13) rfl rfl und64 rfl c3 (by rfl) ?_; simp only [pA]
  go_big_quiet_step ((go_at_call 36; exact later_of hN1 _ (fun K hK hKN => hhol (d 0) (d 1) _ K hK)))
  iterate 3 (go_big_quiet_step (fail))
  refine later_c1 hN1 22 (.tmp 18) rfl rfl und64 rfl c2 (by rfl) ?_; simp only [pA]
  go_big_quiet_step (fail)
  refine later_c1 hN1 22 (.tmp 20) rfl rfl und64 rfl c3 (by rfl) ?_; simp only [pA]
  go_big_quiet_step ((go_at_call 37; exact later_of hN1 _ (fun K hK hKN => hrhol (d 0) (d 1) _ K hK)))
  refine later_val (fun q => run_eqb 4 4 (.tmp 15) (.tmp 22) rfl undBool (p := (hol (d 0) (d 1))) (q := (rhol (d 0) (d 1))) (r := true) rfl rfl H0.out) (by rfl) ?_; simp only [pA]
  iterate 2 (go_big_quiet_step (fail))
  refine wpQuiet_nil (laterE hN1 ?_)
  intro xw4 M5 hbxw4 hM5 lM5
  have k6 := k1.below hbxw4 (by omega)
  have lo7 := lo0.trans (hbxw4.mono (by omega))
  clear k1 c2 c3 lo0 hbxw4
  go_wp2_with fail
  go_ret
  exact ⟨rfl, lo7⟩
theorem law_bholds (op : Int) (l : Bool) (d : Nat → W) (w : World) (N : Nat) (hN : Sz w N) : Calls Try.prog 9 #[.int .i64 op, .bool l, (Value.agg (cellsOf (dC d) 2))] w fun e w' => e = .returned (.bool true) ∧ Below N w w' := by
  by_cases h1 : (op == 1) = true
  · obtain rfl := eq_of_beq h1
    exact bh_any 1 l (hol1 l) (rhol1 l) d w N hN (Hol_1 l) (RHol_1 l) (hol_1 l)
  replace h1 := Bool.eq_false_iff.mpr h1
  by_cases h2 : (op == 2) = true
  · obtain rfl := eq_of_beq h2
    exact bh_any 2 l (hol2 l) (rhol2 l) d w N hN (Hol_2 l) (RHol_2 l) (hol_2 l)
  replace h2 := Bool.eq_false_iff.mpr h2
  by_cases h3 : (op == 3) = true
  · obtain rfl := eq_of_beq h3
    exact bh_any 3 l (hol3 l) (rhol3 l) d w N hN (Hol_3 l) (RHol_3 l) (hol_3 l)
  replace h3 := Bool.eq_false_iff.mpr h3
  by_cases h4 : (op == 4) = true
  · obtain rfl := eq_of_beq h4
    exact bh_any 4 l (hol4 l) (rhol4 l) d w N hN (Hol_4 l) (RHol_4 l) (hol_4 l)
  replace h4 := Bool.eq_false_iff.mpr h4
  by_cases h5 : (op == 5) = true
  · obtain rfl := eq_of_beq h5
    exact bh_any 5 l (hol5 l) (rhol5 l) d w N hN (Hol_5 l) (RHol_5 l) (hol_5 l)
  replace h5 := Bool.eq_false_iff.mpr h5
  by_cases h6 : (op == 6) = true
  · obtain rfl := eq_of_beq h6
    exact bh_any 6 l (hol6 l) (rhol6 l) d w N hN (Hol_6 l) (RHol_6 l) (hol_6 l)
  replace h6 := Bool.eq_false_iff.mpr h6
  by_cases h7 : (op == 7) = true
  · obtain rfl := eq_of_beq h7
    exact bh_any 7 l (hol7 l) (rhol7 l) d w N hN (Hol_7 l) (RHol_7 l) (hol_7 l)
  replace h7 := Bool.eq_false_iff.mpr h7
  by_cases h10 : (op == 10) = true
  · obtain rfl := eq_of_beq h10
    exact bh_any 10 l (hol10 l) (rhol10 l) d w N hN (Hol_10 l) (RHol_10 l) (hol_10 l)
  replace h10 := Bool.eq_false_iff.mpr h10
  by_cases h11 : (op == 11) = true
  · obtain rfl := eq_of_beq h11
    exact bh_any 11 l (hol11 l) (rhol11 l) d w N hN (Hol_11 l) (RHol_11 l) (hol_11 l)
  replace h11 := Bool.eq_false_iff.mpr h11
  by_cases h12 : (op == 12) = true
  · obtain rfl := eq_of_beq h12
    exact bh_any 12 l (hol12 l) (rhol12 l) d w N hN (Hol_12 l) (RHol_12 l) (hol_12 l)
  replace h12 := Bool.eq_false_iff.mpr h12
  by_cases h13 : (op == 13) = true
  · obtain rfl := eq_of_beq h13
    exact bh_any 13 l (hol13 l) (rhol13 l) d w N hN (Hol_13 l) (RHol_13 l) (hol_13 l)
  replace h13 := Bool.eq_false_iff.mpr h13
  exact bh_any op l (holo op l) (rholo op l) d w N hN (fun x y w N h => Hol_o op l x y w N h h1 h2 h3 h4 h5 h6 h7 h10 h11 h12 h13) (fun x y w N h => RHol_o op l x y w N h h1 h2 h3 h4 h5 h6 h7 h10 h11 h12 h13) (fun x y => by cases l <;> rfl)
end Go.Proofs.Ytmdcopmgkhjfnaa
