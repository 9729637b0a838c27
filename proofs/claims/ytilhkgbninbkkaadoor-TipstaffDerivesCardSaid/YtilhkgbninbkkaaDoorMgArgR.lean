/- What TipstaffDerives' row shares with the others: seven tables and errors as the row's condition gives them; a row of texts, none longer than memory. Arguments opened: rights, numbers of 32 bits. -/
import Derived.Test.YtilhkgbninbkkaaDoorMgLift6
import Derived.Test.YtilhkgbninbkkaaDoorMgLtl
import Derived.Deep.Strs
import Derived.Lib.SmallJoins
namespace Go.Proofs.YtilhkgbninbkkaaDoor
open Go Go.ChangeShapes Go.WideShapes Go.ChangeAt Go.WideMaps Go.WideElems Go.RowKit Sha
def laid7 : List (String × DataW Unit) := [("math/bits.deBruijn32tab", Rows.laid_math_bits_deBruijn32tab), ("math/bits.deBruijn64tab", Rows.laid_math_bits_deBruijn64tab), ("internal/strconv.uint64pow10", Rows.laid_internal_strconv_uint64pow10), ("tipstaff/digest.beginnings", Rows.laid_tipstaff_digest_beginnings), ("tipstaff/digest.constants", Rows.laid_tipstaff_digest_constants), ("strconv.ErrRange", Rows.laid_strconv_ErrRange), ("strconv.ErrSyntax", Rows.laid_strconv_ErrSyntax)]
theorem laid7_met (os : Os) (args : Array Value) : laidMetH Tryd.prog laid7 ((World.doorLaid Tryd.prog 400 os).forCall (fun _ _ => 0) ⟨#[], args, []⟩).memory :=
  laidMetH_of_parts3 (fuel := 8) (laidMet_of_run' 8 (by kernel_rfl) (by kernel_rfl)) (by kernel_rfl) (by kernel_rfl)
theorem gH7 : Tryd.prog.globalNamed "tipstaff/digest.beginnings" = some 1 := by kernel_rfl
theorem gK7 : Tryd.prog.globalNamed "tipstaff/digest.constants" = some 2 := by kernel_rfl
theorem tH7 : (Tryd.prog.globals[1]?).map (·.type) = some 118 := by kernel_rfl
theorem tK7 : (Tryd.prog.globals[2]?).map (·.type) = some 144 := by kernel_rfl
theorem und7a : Tryd.prog.underlying 117 = some (.int .u32) := by kernel_rfl
theorem cof7a : Tryd.prog.cellsOf 117 = 1 := by kernel_rfl
theorem laid7_of {W : World} (h : laidMetH Tryd.prog laid7 W) (hs : W.ShapedOpen Tryd.prog) : Db W ∧ Er W ∧ Tabs W := by
  rw [MakeChecks.laidMetH_plain _ _ _ (by kernel_rfl)] at h
  obtain ⟨ps, ⟨g0, t0, cs0, f0, p0, q0, hg0, ht0, hv0, hd0, ⟨g1, t1, cs1, f1, p1, q1, hg1, ht1, hv1, hd1, ⟨g2, t2, cs2, f2, p2, q2, hg2, ht2, hv2, hd2, ⟨g3, t3, cs3, f3, p3, q3, hg3, ht3, hv3, hd3, ⟨g4, t4, cs4, f4, p4, q4, hg4, ht4, hv4, hd4, ⟨g5, t5, cs5, f5, p5, q5, hg5, ht5, hv5, hd5, ⟨g6, t6, cs6, f6, p6, q6, hg6, ht6, hv6, hd6, _, _⟩, _⟩, _⟩, _⟩, _⟩, _⟩, _⟩, _, _⟩ := h
  obtain rfl := Option.some.inj (gEr.symm.trans hg5)
  obtain rfl := Option.some.inj (tEr.symm.trans ht5)
  obtain rfl := Option.some.inj (gEs.symm.trans hg6)
  obtain rfl := Option.some.inj (tEs.symm.trans ht6)
  obtain rfl := Option.some.inj (gH7.symm.trans hg3)
  obtain rfl := Option.some.inj (gK7.symm.trans hg4)
  obtain rfl := Option.some.inj (tH7.symm.trans ht3)
  obtain rfl := Option.some.inj (tK7.symm.trans ht4)
  have a0 := row_of_laid (L := hL.map Int.ofNat) und37 und7a cof7a (by kernel_rfl) hd3
  have a1 := row_of_laid (L := kL.map Int.ofNat) und36 und7a cof7a (by kernel_rfl) hd4
  obtain ⟨T0, fr0, b0⟩ := block_of_var _ _ _ hg3 hv3
  obtain ⟨T1, fr1, b1⟩ := block_of_var _ _ _ hg4 hv4
  refine ⟨db_of hg1 ht1 hv1 hd1, ⟨err_of hg6 hv6 hd6, err_of hg5 hv5 hd5, maxLen_of hs⟩, ⟨T0, fr0, ?_⟩, ⟨T1, fr1, ?_⟩⟩
  · rw [b0]
    have : cs3 = cellsOf (fun j => U (Hc j)) 8 := by
      apply Array.ext'; rw [a0]; rfl
    rw [this]
  · rw [b1]
    have : cs4 = cellsOf (fun j => U (Kc j)) 64 := by
      apply Array.ext'; rw [a1]; rfl
    rw [this]
section
variable {H : Type} {enc : TypeId × Value → H} {w : World} {base : Nat} {sp : Nat → Bool} {held : Bool}
theorem weights_mem {P : Program} {e : TypeId} : ∀ {ds : List (DataW H)} {d : DataW H}, d ∈ ds → ∀ x ∈ d.weights P e, x ∈ DataW.weightsAll P e ds
  | a :: r, d, hd, x, hx => by
    unfold DataW.weightsAll
    rcases List.mem_cons.1 hd with rfl | hd
    · exact List.mem_append_left _ hx
    · exact List.mem_append_right _ (weights_mem hd x hx)
theorem open_textsW {fuel : Nat} {v : Value} {d : DataW H} {p : List MemPlace} (h : DataW.trod enc Tryd.prog w base sp held fuel 84 [v] = some (d, p)) (hw : (d.weights Tryd.prog 84).all (· ≤ reachBytes) = true) :
    ∃ (q : Option Addr) (n cap : Nat) (T : Nat → ByteArray), v = .slice q n cap ∧ n ≤ cap ∧ n ≤ maxLen ∧ Ats w q n (fun k => .string (T k)) ∧ ∀ k, k < n → (T k).size ≤ 281474976710656 := by
  have hu : Tryd.prog.underlying 84 = some (.slice 9) := by kernel_rfl
  rcases Deep.open_strs hu (show Tryd.prog.underlying 9 = some .string by kernel_rfl) (by kernel_rfl) h with ⟨hcs, _⟩ | ⟨a, l, c, m, S, hcs, _, hl, hm, hmm, hx, hcell⟩
  · exact ⟨none, 0, 0, fun _ => ⟨#[]⟩, by simpa using hcs, Nat.le_refl _, Nat.zero_le _, fun h0 => absurd h0 (by omega), fun k hk => absurd hk (by omega)⟩
  · have hlm : l ≤ m := by rw [hmm]; split <;> omega
    refine ⟨some a, l, c, S, by simpa using hcs, hl, by omega, fun h0 => ?_, fun k hk => ?_⟩
    · have hc0 := (hcell 0 (by omega)).1
      have ha : a = ⟨a.block, a.off, none⟩ := by
        have hz : a.add 0 = a := by simp [Addr.add]
        rw [hz] at hc0
        obtain ⟨b, o, s⟩ := a
        cases s with
        | none => rfl
        | some x =>
          unfold World.cell? at hc0
          split at hc0 <;> simp at hc0
      refine ⟨a.block, a.off, by rw [← ha], fun j hj => ?_⟩
      have hcj := (hcell j (by omega)).1
      rw [ha, Addr.add_mid] at hcj
      exact hcj
    · simp only [Prod.mk.injEq] at hx
      rw [hx.1] at hw
      have hmem : (S k).data.toList.length ∈ DataW.weights Tryd.prog 84 (.slice ((List.range l).map fun i => (.lit (.string (S i).data.toList) : DataW H)) ((List.range (m - l)).map fun j => .lit (.string (S (l + j)).data.toList))) := by
        unfold DataW.weights
        rw [hu]
        refine List.mem_cons_of_mem _ (List.mem_append_left _ ?_)
        refine weights_mem (d := .lit (.string (S k).data.toList)) (List.mem_map.2 ⟨k, List.mem_range.2 hk, rfl⟩) _ ?_
        unfold DataW.weights
        exact List.mem_singleton.2 rfl
      have := List.all_eq_true.1 hw _ hmem
      have h2 : (S k).data.toList.length ≤ reachBytes := by simpa using this
      rw [Lib.size_eq]
      unfold reachBytes at h2
      omega
end
end Go.Proofs.YtilhkgbninbkkaaDoor
namespace Go.Proofs.YtilhkgbninbkkaaDoor
open Go Go.ChangeShapes Go.WideShapes Go.ChangeAt Go.WideMaps Go.WideElems Go.RowKit
section
variable {H : Type} {enc : TypeId × Value → H} {w : World} {base : Nat} {sp : Nat → Bool} {held : Bool}
end
end Go.Proofs.YtilhkgbninbkkaaDoor
