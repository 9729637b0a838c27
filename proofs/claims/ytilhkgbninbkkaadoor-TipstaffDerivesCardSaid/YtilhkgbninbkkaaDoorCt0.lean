/- Rights as words: strings.Cut at a space, of texts of whatever length. (For TipstaffDerives: the shelf's own contract asks for fewer than 2 ^ 32 bytes.) -/
import Derived.Test.YtilhkgbninbkkaaDoorMgPu2
import Derived.Lib.IndexBytes
namespace Go.Proofs.YtilhkgbninbkkaaDoor
open Go Go.RowKit
theorem slTo (s : ByteArray) (i : Nat) (hi : (i : Int) ≤ (s.size : Int)) (i0 : (0 : Int) ≤ (i : Int)) (w : World) : (Instr.sliceAt 9 (.string s) none (some (.int .i64 (i : Int))) none).run Tryd.prog w = .ok (.string (s.extract 0 i)) w := by
  go_simp
theorem slFrom (s : ByteArray) (i : Nat) (hi : (i : Int) ≤ (s.size : Int)) (i0 : (0 : Int) ≤ (i : Int)) (w : World) : (Instr.sliceAt 9 (.string s) (some (.int .i64 (i : Int))) none none).run Tryd.prog w = .ok (.string (s.extract i s.size)) w := by
  go_simp
section
variable {a : Act} {o : Oper} {x y : Operand} {s : ByteArray} {i : Nat}
theorem run_slTo (ho : o.op = .slice 9 x none (some y) none) (hx : a.eval x = .string s) (hy : a.eval y = .int .i64 (i : Int)) (hi : (i : Int) ≤ (s.size : Int)) (w : World) : (execOp a.eval o).run Tryd.prog w = .ok (.value (.string (s.extract 0 i))) w := by
  have h9 := slTo s i hi (by omega) w
  unfold execOp
  simp only [ho, hx, hy, Option.map_some, Option.map_none, Sem.run_bind, h9, Result.andThen_ok, Sem.run_pure]
theorem run_slFr (ho : o.op = .slice 9 x (some y) none none) (hx : a.eval x = .string s) (hy : a.eval y = .int .i64 (i : Int)) (hi : (i : Int) ≤ (s.size : Int)) (w : World) : (execOp a.eval o).run Tryd.prog w = .ok (.value (.string (s.extract i s.size))) w := by
  have h9 := slFrom s i hi (by omega) w
  unfold execOp
  simp only [ho, hx, hy, Option.map_some, Option.map_none, Sem.run_bind, h9, Result.andThen_ok, Sem.run_pure]
theorem run_add1c {P : Program} {T ty : TypeId} (ho : o.op = .binOp .add T x y ty) (hx : a.eval x = .int .i64 (i : Int)) (hy : a.eval y = .int .i64 1) (hi : i < 1000000000000000) (w : World) : (execOp a.eval o).run P w = .ok (.value (.int .i64 ((i + 1 : Nat) : Int))) w := by
  have e : IntKind.i64.wrap ((i : Int) + 1) = ((i + 1 : Nat) : Int) := by rw [IntKind.wrap_i64]; omega
  have e2 : IntKind.i64.wrap ((i : Int) + 1) = (i : Int) + 1 := by rw [IntKind.wrap_i64]; omega
  unfold execOp; simp only [ho, hx, hy]; go_simp; first | done | exact e | exact e2 | (rw [e2]; rfl)
end
theorem index_lt : ∀ (s : List UInt8) (i : Nat), Lib.index s [32] = (i : Int) → i < s.length
  | [], i, h => by
    have h2 : Lib.index [] [32] = -1 := by simp [Lib.index]
    have h3 : (-1 : Int) = (i : Int) := h2.symm.trans h
    omega
  | x :: l, i, h => by
    have ih : ∀ j : Nat, Lib.index l [32] = (j : Int) → j < l.length := fun j hj => index_lt l j hj
    have e : Lib.index (x :: l) [32] = if ([32] : List UInt8).isPrefixOf (x :: l) then (0 : Int) else if Lib.index l [32] == -1 then -1 else Lib.index l [32] + 1 := rfl
    rw [e] at h
    split at h
    · show i < l.length + 1
      have : i = 0 := by omega
      omega
    · split at h
      · omega
      · rename_i hq
        have hge : -1 ≤ Lib.index l [32] := by rw [Lib.index_one]; exact Lib.indexByte_ge _ _
        have hne : Lib.index l [32] ≠ -1 := fun e9 => hq (by rw [e9]; rfl)
        generalize Lib.index l [32] = z at *
        have h5 : z = ((i - 1 : Nat) : Int) := by omega
        have := ih (i - 1) h5
        show i < l.length + 1
        omega
theorem ext_data (s : ByteArray) (i j : Nat) : (s.extract i j).data.toList = (s.data.toList.take j).drop i := by
  rw [ByteArray.data_extract, Array.toList_extract]
  simp [List.extract, List.drop_take]
theorem ba_ext {s t : ByteArray} (h : s.data.toList = t.data.toList) : s = t := ByteArray.ext (Array.ext' h)
set_option maxRecDepth 100000 in
theorem slCut_sp (s : ByteArray) (hs : s.size ≤ 281474976710656) (w : World) (N : Nat) (hN : Sz w N) : Calls Tryd.prog 89 #[.string s, .string ⟨#[32]⟩] w fun e w' => (∃ b, e = .returned (.tuple #[.string (wordOf s), .string (restOf s), .bool b])) ∧ Below N w w' := by
  have HI := fun w => Tryd.stringslite_Index_one s 32 w
  rw [← Lib.index_one] at HI
  have hge : -1 ≤ Lib.index s.data.toList [32] := by rw [Lib.index_one]; exact Lib.indexByte_ge _ _
  by_cases h0 : 0 ≤ Lib.index s.data.toList [32]
  · obtain ⟨i, ei⟩ := Int.eq_ofNat_of_zero_le h0
    rw [ei] at HI
    have hi : i < s.size := by rw [Lib.size_eq]; exact index_lt _ _ ei
    have ew : wordOf s = s.extract 0 i := ba_ext (by rw [ext_data]; unfold wordOf Lib.cut; rw [ei, if_pos (by omega)]; simp)
    have er : restOf s = s.extract (i + 1) s.size := ba_ext (by rw [ext_data, Lib.size_eq, List.take_length]; unfold restOf Lib.cut; rw [ei, if_pos (by omega)]; simp)
    rw [ew, er]
    clear ew er
    have hil : (i : Int) ≤ (s.size : Int) := by omega
    have hil2 : (i : Int) + 1 ≤ (s.size : Int) := by omega
    have i0 : (0 : Int) ≤ (i : Int) := by omega
    have hsz : (s.size : Int) ≤ 281474976710656 := by omega
    clear hge h0
    have EI := hid ei
    clear ei
    go_enter Tryd.func89, Tryd.ntmps89
    go_upto_region 3 with (go_at_call 100; refine (HI _).mono ?_; rintro e u ⟨rfl, hu⟩; have hu2 := hu.symm; subst hu2; clear hu)
    refine wp_region_later N (by kernel_rfl) (by kernel_rfl) ?_
    try simp only [Act.put, List.setIfInBounds_toArray, List.set_cons_succ, List.set_cons_zero]
    go_big_quiet_step (fail)
    go_big_quiet_step (fail)
    refine later_val (v := .string (s.extract 0 i)) (fun q => run_slTo (x := .tmp 13) (y := .tmp 14) rfl rfl rfl hil _) (by rfl) ?_; try simp only [Act.put, List.setIfInBounds_toArray, List.set_cons_succ, List.set_cons_zero]
    go_big_quiet_step (fail)
    go_big_quiet_step (fail)
    go_big_quiet_step (fail)
    go_big_quiet_step (fail)
    refine later_val (v := .int .i64 ((i + 1 : Nat) : Int)) (fun q => run_add1c (x := .tmp 17) (y := .tmp 19) rfl rfl rfl (by omega) _) (by rfl) ?_; try simp only [Act.put, List.setIfInBounds_toArray, List.set_cons_succ, List.set_cons_zero]
    refine later_val (v := .string (s.extract (i + 1) s.size)) (fun q => run_slFr (x := .tmp 16) (y := .tmp 20) rfl rfl rfl (by omega) _) (by rfl) ?_; try simp only [Act.put, List.setIfInBounds_toArray, List.set_cons_succ, List.set_cons_zero]
    go_big_quiet_step (fail)
    go_big_quiet_step (fail)
    go_big_quiet_step (fail)
    refine wpQuiet_nil (laterE hN ?_)
    intro w2 M2 b2 hM2 l2
    go_wp2_with fail
    exact bodyPost_ret (results_tmp3 rfl _ _ _) rfl ⟨⟨true, rfl⟩, b2⟩
  · have ei : Lib.index s.data.toList [32] = -1 := by omega
    rw [ei] at HI
    have e1 : wordOf s = s := by unfold wordOf Lib.cut; rw [ei, if_neg (by omega)]
    have e2 : restOf s = ⟨#[]⟩ := by unfold restOf Lib.cut; rw [ei, if_neg (by omega)]
    rw [e1, e2]
    clear hge h0 ei e1 e2
    go_enter Tryd.func89, Tryd.ntmps89
    go_wp2_with (go_at_call 100; refine (HI _).mono ?_; rintro e u ⟨rfl, hu⟩; have hu2 := hu.symm; subst hu2; clear hu)
    exact bodyPost_ret (results_tmp3 rfl _ _ _) rfl ⟨⟨false, rfl⟩, Below.refl N _⟩
end Go.Proofs.YtilhkgbninbkkaaDoor
