/- Pairs of registers, as they were read. -/
import Derived.Test.YtaeggclcjpcnoaaArgK
import Derived.Test.YtaeggclcjpcnoaaApr
namespace Go.Proofs.Ytaeggclcjpcnoaa
open Go Go.ChangeShapes Go.WideShapes Go.ChangeAt Go.WideMaps Go.WideElems Go.RowKit
theorem bounds_i64 {k : Int} (h : (Lit.int .i64 k).wf = true) : -9223372036854775808 ≤ k ∧ k ≤ 9223372036854775807 := by
  simp only [Lit.wf, Bool.and_eq_true, decide_eq_true_eq] at h
  have e1 : IntKind.i64.min = -9223372036854775808 := by decide
  have e2 : IntKind.i64.max = 9223372036854775807 := by decide
  rw [e1, e2] at h; exact h
theorem S_of_int (z : Int) (h0 : -9223372036854775808 ≤ z) (h1 : z ≤ 9223372036854775807) : Value.int .i64 z = S (BitVec.ofInt 64 z) := by
  unfold S
  rw [sn_ofInt]
  congr 1
  split <;> omega
theorem at_sub {cs : List Value} {o c i : Nat} {v : Value} (h : ((cs.drop o).take c)[i]? = some v) (hi : i < c) : cs[o + i]? = some v := by
  simpa [hi, List.getElem?_take, List.getElem?_drop] using h
section
variable {H : Type} {enc : TypeId × Value → H} {w : World} {base : Nat} {sp : Nat → Bool} {held : Bool}
theorem fsRg : (Try.prog.underlying 41).map (fldsAre [(39, 0), (22, 2), (22, 3), (2, 4), (2, 5)]) = some true := by kernel_rfl
theorem fsAr : (Try.prog.underlying 71).map (fldsAre [(3, 0), (41, 1), (3, 7), (3, 8), (2, 9), (2, 10)]) = some true := by kernel_rfl
theorem fsPr : (Try.prog.underlying 93).map (fldsAre [(71, 0), (71, 11), (23, 22), (23, 24)]) = some true := by kernel_rfl
theorem cfNm : Try.prog.cellsOf 39 = 2 := by kernel_rfl
theorem cfI64 : Try.prog.cellsOf 2 = 1 := by kernel_rfl
theorem cfRg : Try.prog.cellsOf 41 = 6 := by kernel_rfl
theorem cfAr : Try.prog.cellsOf 71 = 11 := by kernel_rfl
theorem cf2q : Try.prog.cellsOf 23 = 2 := by kernel_rfl
theorem cfPr : Try.prog.cellsOf 93 = 26 := by kernel_rfl
theorem nmFs : (Try.prog.underlying 39).map num2Fs = some true := by kernel_rfl
theorem u2q : Try.prog.underlying 23 = some (.array 2 22) := by kernel_rfl
set_option maxRecDepth 100000 in
theorem open_srg {fuel : Nat} {cs : List Value} {x : DataW H × List MemPlace} (h : DataW.trod enc Try.prog w base sp held fuel 41 cs = some x) : ∃ r : Rn, ∀ j, j < 6 → cs[j]? = some (rC r j) := by
  obtain ⟨fs, hu, hl⟩ := flds_of fsRg
  obtain ⟨y0, m0, e0⟩ := trod_fld hu hl h 0 _ _ rfl
  obtain ⟨y1, m1, e1⟩ := trod_fld hu hl h 1 _ _ rfl
  obtain ⟨y2, m2, e2⟩ := trod_fld hu hl h 2 _ _ rfl
  obtain ⟨y3, m3, e3⟩ := trod_fld hu hl h 3 _ _ rfl
  obtain ⟨y4, m4, e4⟩ := trod_fld hu hl h 4 _ _ rfl
  obtain ⟨q, hq⟩ := open_numc nmFs cfNm e0
  rw [cfNm] at hq
  rw [cofU64] at e1 e2
  rw [cfI64] at e3 e4
  obtain ⟨z1, r1, _, w1⟩ := DataW.trod_int und64 e1
  obtain ⟨z2, r2, _, w2⟩ := DataW.trod_int und64 e2
  obtain ⟨z3, r3, _, w3⟩ := DataW.trod_int (show Try.prog.underlying 2 = some (.int .i64) by kernel_rfl) e3
  obtain ⟨z4, r4, _, w4⟩ := DataW.trod_int (show Try.prog.underlying 2 = some (.int .i64) by kernel_rfl) e4
  have w1 := bounds_u64 w1
  have w2 := bounds_u64 w2
  have w3 := bounds_i64 w3
  have w4 := bounds_i64 w4
  refine ⟨⟨q, BitVec.ofInt 64 z1, BitVec.ofInt 64 z2, BitVec.ofInt 64 z3, BitVec.ofInt 64 z4⟩, fun j hj => ?_⟩
  rcases (show j = 0 ∨ j = 1 ∨ j = 2 ∨ j = 3 ∨ j = 4 ∨ j = 5 by omega) with rfl | rfl | rfl | rfl | rfl | rfl
  · exact at_rowN (o := 0) (n := 2) (j := 0) hq (by omega)
  · exact at_rowN (o := 0) (n := 2) (j := 1) hq (by omega)
  · rw [at_oneN r1, Q_of_int z1 w1.1 w1.2]; rfl
  · rw [at_oneN r2, Q_of_int z2 w2.1 w2.2]; rfl
  · rw [at_oneN r3, S_of_int z3 w3.1 w3.2]; rfl
  · rw [at_oneN r4, S_of_int z4 w4.1 w4.2]; rfl
theorem arC_at (k sl id lo hi : Int) (r : Rn) (cs : List Value) (h0 : cs[0]? = some (.int .i64 k)) (hr : ∀ j, j < 6 → cs[1 + j]? = some (rC r j)) (h7 : cs[7]? = some (.int .i64 sl)) (h8 : cs[8]? = some (.int .i64 id)) (h9 : cs[9]? = some (.int .i64 lo)) (h10 : cs[10]? = some (.int .i64 hi)) : ∀ (j : Nat), j < 11 → cs[j]? = some (arC ⟨k, r, sl, id, lo, hi⟩ j)
  | 0, _ => h0
  | 1, _ => hr 0 (by decide)
  | 2, _ => hr 1 (by decide)
  | 3, _ => hr 2 (by decide)
  | 4, _ => hr 3 (by decide)
  | 5, _ => hr 4 (by decide)
  | 6, _ => hr 5 (by decide)
  | 7, _ => h7
  | 8, _ => h8
  | 9, _ => h9
  | 10, _ => h10
  | n + 11, h => absurd h (by omega)
set_option maxRecDepth 100000 in
theorem open_arc {fuel : Nat} {cs : List Value} {x : DataW H × List MemPlace} (h : DataW.trod enc Try.prog w base sp held fuel 71 cs = some x) : ∃ a : Ar, ∀ j, j < 11 → cs[j]? = some (arC a j) := by
  obtain ⟨fs, hu, hl⟩ := flds_of fsAr
  obtain ⟨y0, m0, e0⟩ := trod_fld hu hl h 0 _ _ rfl
  obtain ⟨y1, m1, e1⟩ := trod_fld hu hl h 1 _ _ rfl
  obtain ⟨y2, m2, e2⟩ := trod_fld hu hl h 2 _ _ rfl
  obtain ⟨y3, m3, e3⟩ := trod_fld hu hl h 3 _ _ rfl
  obtain ⟨y4, m4, e4⟩ := trod_fld hu hl h 4 _ _ rfl
  obtain ⟨y5, m5, e5⟩ := trod_fld hu hl h 5 _ _ rfl
  obtain ⟨r, hr⟩ := open_srg e1
  rw [cfRg] at hr
  rw [cofI1] at e0 e2 e3
  rw [cfI64] at e4 e5
  obtain ⟨z0, r0, _, _⟩ := DataW.trod_int undInt e0
  obtain ⟨z2, r2, _, _⟩ := DataW.trod_int undInt e2
  obtain ⟨z3, r3, _, _⟩ := DataW.trod_int undInt e3
  obtain ⟨z4, r4, _, _⟩ := DataW.trod_int (show Try.prog.underlying 2 = some (.int .i64) by kernel_rfl) e4
  obtain ⟨z5, r5, _, _⟩ := DataW.trod_int (show Try.prog.underlying 2 = some (.int .i64) by kernel_rfl) e5
  exact ⟨_, arC_at z0 z2 z3 z4 z5 r cs (at_oneN r0) (fun j hj => at_sub (hr j hj) hj) (at_oneN r2) (at_oneN r3) (at_oneN r4) (at_oneN r5)⟩
set_option maxRecDepth 100000 in
theorem open_pr {v : Value} {d : DataW H} {p : List MemPlace} {r : Reach} {b0 : Nat} (hv : Value.okWide Try.prog w r b0 93 v) (h : DataW.Trod enc Try.prog w base sp held 93 v d p) : ∃ p : Pr, v = .agg (cellsOf (prC p) 26) := by
  obtain ⟨fs, hu, hl⟩ := flds_of fsPr
  obtain ⟨cs, rfl, _⟩ := okWide_struct hu hv
  obtain ⟨fuel, hf⟩ := h
  have hlen := trod_len hu hf
  rw [cfPr] at hlen
  obtain ⟨y0, m0, e0⟩ := trod_fld hu hl hf 0 _ _ rfl
  obtain ⟨y1, m1, e1⟩ := trod_fld hu hl hf 1 _ _ rfl
  obtain ⟨y2, m2, e2⟩ := trod_fld hu hl hf 2 _ _ rfl
  obtain ⟨y3, m3, e3⟩ := trod_fld hu hl hf 3 _ _ rfl
  obtain ⟨a, ha⟩ := open_arc e0
  obtain ⟨b, hb⟩ := open_arc e1
  obtain ⟨n, hn⟩ := open_warr u2q cf2q e2
  obtain ⟨m, hm⟩ := open_warr u2q cf2q e3
  rw [cfAr] at ha hb
  rw [cf2q] at hn hm
  refine ⟨⟨a, b, n, m⟩, ?_⟩
  congr 1
  apply Array.ext'
  simp only [Value.cells, cellsOf] at hlen ha hb hn hm ⊢
  refine List.ext_getElem? fun j => ?_
  by_cases hj : j < 26
  · have e : ((List.range 26).map (prC ⟨a, b, n, m⟩))[j]? = some (prC ⟨a, b, n, m⟩ j) := by simp [hj]
    rw [e]
    unfold prC
    by_cases h1 : j < 11
    · rw [if_pos h1]
      have := at_sub (ha j h1) h1
      rw [Nat.zero_add] at this; exact this
    rw [if_neg h1]
    by_cases h2 : j < 22
    · rw [if_pos h2]
      have := at_sub (hb (j - 11) (by omega)) (by omega)
      rw [show 11 + (j - 11) = j by omega] at this; exact this
    rw [if_neg h2]
    by_cases h3 : j < 24
    · rw [if_pos h3]
      have := at_rowN (j := j - 22) hn (by omega)
      rw [show 22 + (j - 22) = j by omega] at this; exact this
    rw [if_neg h3]
    have := at_rowN (j := j - 24) hm (by omega)
    rw [show 24 + (j - 24) = j by omega] at this; exact this
  · rw [List.getElem?_eq_none (by simpa using (by omega : cs.toList.length ≤ j)), List.getElem?_eq_none (by simp; omega)]
end
end Go.Proofs.Ytaeggclcjpcnoaa
