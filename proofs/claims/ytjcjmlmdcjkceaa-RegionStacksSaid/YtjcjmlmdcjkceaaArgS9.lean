/- A row of calls on a stack of memory, as it was read. -/
import Derived.Test.YtjcjmlmdcjkceaaArgN2
import Derived.Test.YtjcjmlmdcjkceaaRu2
namespace Go.Proofs.Ytjcjmlmdcjkceaa
open Go Go.ChangeShapes Go.WideShapes Go.ChangeAt Go.WideMaps Go.WideElems Go.RowKit
theorem bounds_i64 {k : Int} (h : (Lit.int .i64 k).wf = true) : -9223372036854775808 ≤ k ∧ k ≤ 9223372036854775807 := by
  simp only [Lit.wf, Bool.and_eq_true, decide_eq_true_eq] at h
  have e1 : IntKind.i64.min = -9223372036854775808 := by decide
  have e2 : IntKind.i64.max = 9223372036854775807 := by decide
  rw [e1, e2] at h; exact h
theorem bounds_u8w {k : Int} (h : (Lit.int .u8 k).wf = true) : 0 ≤ k ∧ k ≤ 255 := by
  simp only [Lit.wf, Bool.and_eq_true, decide_eq_true_eq] at h
  have e1 : IntKind.u8.min = 0 := by decide
  have e2 : IntKind.u8.max = 255 := by decide
  rw [e1, e2] at h
  exact h
theorem sml_lt {z : Int} (h0 : 0 ≤ z) (h1 : z ≤ 255) : sml (BitVec.ofInt 64 z) := fun i hi => by
  obtain ⟨k, rfl⟩ := Int.eq_ofNat_of_zero_le h0
  have e : BitVec.ofInt 64 ((k : Nat) : Int) = BitVec.ofNat 64 k := BitVec.ofInt_natCast 64 k
  rw [e, BitVec.getLsbD_ofNat]
  rw [Nat.testBit_lt_two_pow (Nat.lt_of_lt_of_le (show k < 2 ^ 8 by omega) (Nat.pow_le_pow_right (by omega) hi)), Bool.and_false]
theorem Yv_int {z : Int} (h0 : 0 ≤ z) (h1 : z ≤ 255) : Value.int .u8 z = Yv (BitVec.ofInt 64 z) := by
  obtain ⟨k, rfl⟩ := Int.eq_ofNat_of_zero_le h0
  have e : BitVec.ofInt 64 ((k : Nat) : Int) = BitVec.ofNat 64 k := BitVec.ofInt_natCast 64 k
  unfold Yv qn
  rw [e, BitVec.toNat_ofNat, Nat.mod_eq_of_lt (by omega)]
section
variable {H : Type} {enc : TypeId × Value → H} {w : World} {base : Nat} {sp : Nat → Bool} {held : Bool}
theorem open_yvs {fuel : Nat} {cs : List Value} {x : DataW H × List MemPlace} (h : DataW.trod enc Try.prog w base sp held fuel 32 cs = some x) :
    ∃ (q : Option Addr) (n cap : Nat) (D : Nat → W), cs = [.slice q n cap] ∧ n ≤ cap ∧ Ats w q n (fun j => Yv (D j)) ∧ ∀ j, sml (D j) := by
  rcases open_ints undSY undY (by kernel_rfl) h with ⟨hcs, _⟩ | ⟨a, l, c, zs, hcs, _, hl, hm, hz, _, hcell, hwz⟩
  · exact ⟨none, 0, 0, fun _ => 0#64, hcs, Nat.le_refl _, fun h0 => absurd h0 (by omega), fun _ => sml_0⟩
  · have hz' : l ≤ zs.length := by rw [hz]; split <;> omega
    refine ⟨some a, l, c, fun j => if j < l then BitVec.ofInt 64 (zs.getD j 0) else 0#64, hcs, hl, fun h0 => ?_, fun j => ?_⟩
    · have hc0 := hcell 0 (by omega)
      have ha : a = ⟨a.block, a.off, none⟩ := plain_addr (v := .int .u8 (zs.getD 0 0)) (by simpa [Addr.add] using hc0)
      refine ⟨a.block, a.off, by rw [← ha], fun j hj => ?_⟩
      have hcj := hcell j (by omega)
      rw [ha, Addr.add_mid] at hcj
      have hb := bounds_u8w (hwz (zs.getD j 0) (by rw [List.getD_eq_getElem?_getD, List.getElem?_eq_getElem (by omega)]; exact List.getElem_mem _))
      rw [hcj]
      show some (Value.int .u8 (zs.getD j 0)) = some (Yv (if j < l then BitVec.ofInt 64 (zs.getD j 0) else 0#64))
      rw [if_pos hj]
      exact congrArg some (Yv_int hb.1 hb.2)
    · by_cases hj : j < l
      · have hb := bounds_u8w (hwz (zs.getD j 0) (by rw [List.getD_eq_getElem?_getD, List.getElem?_eq_getElem (by omega)]; exact List.getElem_mem _))
        show sml (if j < l then _ else _)
        rw [if_pos hj]; exact sml_lt hb.1 hb.2
      · show sml (if j < l then _ else _)
        rw [if_neg hj]; exact sml_0
set_option maxRecDepth 100000 in
theorem open_acs {fuel : Nat} {v : Value} {x : DataW H × List MemPlace} (h : DataW.trod enc Try.prog w base sp held fuel 22 [v] = some x) :
    ∃ (q : Option Addr) (n cap : Nat) (Z : Nat → AxR), v = .slice q n cap ∧ n ≤ cap ∧ n ≤ maxLen ∧ RowA w q n Z ∧ ∀ k, k < n → okX w (Z k) := by
  obtain ⟨fs, hu, hl⟩ := flds_of (T := 51) (l := [(3, 0), (2, 1), (2, 2), (3, 3), (23, 4), (32, 5)]) (by kernel_rfl)
  have cofA : Try.prog.cellsOf 51 = 6 := by kernel_rfl
  have k1 : Try.prog.cellsOf 2 = 1 := by kernel_rfl
  have k4 : Try.prog.cellsOf 23 = 1 := by kernel_rfl
  have k5 : Try.prog.cellsOf 32 = 1 := by kernel_rfl
  rcases Deep.open_slice undAcs h with ⟨hcs, _⟩ | ⟨a, l, c, m, k, D, Pl, hcs, _, hle, hm, hmm, _, hel⟩
  · exact ⟨none, 0, 0, fun _ => zeroX, by simpa using hcs, Nat.le_refl _, Nat.zero_le _, fun h0 => absurd h0 (by omega), fun k hk => absurd hk (by omega)⟩
  · have hlm : l ≤ m := by rw [hmm]; split <;> omega
    have hall : ∀ i : Nat, ∃ z : AxR, i < l → (∀ j, j < 6 → w.cell? (a.add (i * 6 + j)) = some (acC z j)) ∧ okX w z := fun i => by
      by_cases hi : i < l
      · obtain ⟨cs', h1, h2⟩ := hel i (by omega)
        rw [cofA] at h1
        obtain ⟨_, hlen, hat⟩ := World.cells?_some h1
        obtain ⟨y0, m0, e0⟩ := trod_fld hu hl h2 0 _ _ rfl
        obtain ⟨y1, m1, e1⟩ := trod_fld hu hl h2 1 _ _ rfl
        obtain ⟨y2, m2, e2⟩ := trod_fld hu hl h2 2 _ _ rfl
        obtain ⟨y3, m3, e3⟩ := trod_fld hu hl h2 3 _ _ rfl
        obtain ⟨y4, m4, e4⟩ := trod_fld hu hl h2 4 _ _ rfl
        obtain ⟨y5, m5, e5⟩ := trod_fld hu hl h2 5 _ _ rfl
        rw [cofI1] at e0
        rw [k1] at e1
        rw [k1] at e2
        rw [cofI1] at e3
        rw [k4] at e4
        rw [k5] at e5
        obtain ⟨z0, r0, _, _⟩ := DataW.trod_int (show Try.prog.underlying 3 = some (.int .i64) by kernel_rfl) e0
        obtain ⟨z1, r1, _, w1⟩ := DataW.trod_int (show Try.prog.underlying 2 = some (.int .i64) by kernel_rfl) e1
        obtain ⟨z2, r2, _, w2⟩ := DataW.trod_int (show Try.prog.underlying 2 = some (.int .i64) by kernel_rfl) e2
        obtain ⟨z3, r3, _, _⟩ := DataW.trod_int (show Try.prog.underlying 3 = some (.int .i64) by kernel_rfl) e3
        obtain ⟨z4, r4, _, w4⟩ := DataW.trod_int (show Try.prog.underlying 23 = some (.int .u64) by kernel_rfl) e4
        obtain ⟨q5, n5, c5, D5, r5, l5, a5, s5⟩ := open_yvs e5
        have b1 := bounds_i64 w1
        have b2 := bounds_i64 w2
        have b4 := bounds_u64 w4
        refine ⟨⟨z0, z1, z2, z3, BitVec.ofInt 64 z4, q5, n5, c5, D5⟩, fun _ => ⟨fun j hj => ?_, ⟨⟨b1.1, Int.lt_of_le_of_lt b1.2 (by decide)⟩, ⟨b2.1, Int.lt_of_le_of_lt b2.2 (by decide)⟩, l5, a5, s5⟩⟩⟩
        rw [← Go.Deep.add_add, hat j hj]
        rcases (show j = 0 ∨ j = 1 ∨ j = 2 ∨ j = 3 ∨ j = 4 ∨ j = 5 by omega) with rfl | rfl | rfl | rfl | rfl | rfl
        · exact at_oneN r0
        · exact at_oneN r1
        · exact at_oneN r2
        · exact at_oneN r3
        · exact (at_oneN r4).trans (congrArg some (Q_of_int z4 b4.1 b4.2))
        · exact at_oneN r5
      · exact ⟨zeroX, fun h => absurd h hi⟩
    obtain ⟨Z, hZ⟩ := Classical.axiomOfChoice hall
    refine ⟨some a, l, c, Z, by simpa using hcs, hle, by omega, fun h0 => ?_, fun k hk => (hZ k hk).2⟩
    have hc0 := (hZ 0 h0).1 0 (by omega)
    have ha : a = ⟨a.block, a.off, none⟩ := plain_addr (v := acC (Z 0) 0) (by simpa [Addr.add] using hc0)
    refine ⟨a.block, a.off, by rw [← ha], fun i hi j hj => ?_⟩
    have hcj := (hZ i hi).1 j hj
    rw [ha, Addr.add_mid] at hcj
    rw [Nat.add_assoc]
    exact hcj
end
end Go.Proofs.Ytjcjmlmdcjkceaa
