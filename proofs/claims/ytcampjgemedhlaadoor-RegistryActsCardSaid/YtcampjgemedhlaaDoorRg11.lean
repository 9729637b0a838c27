/- Registry's Add, Spend and Find, and the document's, in one row each: they tell the same. -/
import Derived.Test.YtcampjgemedhlaaDoorRg5
import Derived.Test.YtcampjgemedhlaaDoorRg8
import Derived.Test.YtcampjgemedhlaaDoorRg10
namespace Go.Proofs.YtcampjgemedhlaaDoor
open Go Go.RowKit Sha
/-- What Add tells, and what it leaves. -/
def addE (R : Rg) (key : Nat → BitVec 8) : Int := if plB R key then 17 else if R.c = 32 then 28 else 0
def addS (R : Rg) (key : Nat → BitVec 8) : Rg := if plB R key then R else if R.c = 32 then R else addR R key
theorem addS_le (R : Rg) (key : Nat → BitVec 8) (hc : R.c ≤ 32) : (addS R key).c ≤ 32 := by
  unfold addS
  split
  · exact hc
  · split
    · exact hc
    · show R.c + 1 ≤ 32; omega
theorem Add_all (R : Rg) (b : Nat) (key : Nat → BitVec 8) (w : World) (N : Nat) (hN : Sz w N) (hR : Has w b 98 1057 (rgC R)) (hc : R.c ≤ 32) :
    Calls Tryd.prog 35 #[.pointer (some ⟨b, 0, none⟩), .agg (cellsOf (fun j => By (key j)) 32)] w fun e w' => e = .returned (.int .i64 (addE R key)) ∧ Mod b w w' ∧ Has w' b 98 1057 (rgC (addS R key)) := by
  unfold addE addS
  cases hp : plB R key
  · by_cases h : R.c = 32
    · rw [if_neg Bool.false_ne_true, if_neg Bool.false_ne_true, if_pos h, if_pos h]
      exact (Add_full R b key w N hN hR h hp).mono fun e w' ⟨he, hb⟩ => ⟨he, mod_of_below hN hb, hR.below hb (hR.ltN hN)⟩
    · rw [if_neg Bool.false_ne_true, if_neg Bool.false_ne_true, if_neg h, if_neg h]
      exact Add_ok R b key w N hN hR (by omega) hp
  · rw [if_pos rfl, if_pos rfl]
    exact (Add_there R b key w N hN hR hc hp).mono fun e w' ⟨he, hb⟩ => ⟨he, mod_of_below hN hb, hR.below hb (hR.ltN hN)⟩
/-- The document's registry, wherever its two lists lie; what else lies there is as it was. -/
def Moved (d : Nat) (pk ps : Option Addr) (R : Rg) (w w' : World) : Prop :=
  ∃ (pk' : Option Addr) (ck' : Nat) (ps' : Option Addr) (cs' : Nat), Dc w' d R pk' ck' ps' cs' ∧ Gr3 d (blk pk) (blk ps) w w' ∧ (blk pk' = blk pk ∨ ∃ g, blk pk' = some g ∧ w.heap.size ≤ g) ∧ (blk ps' = blk ps ∨ ∃ g, blk ps' = some g ∧ w.heap.size ≤ g)
theorem Moved.still {d N ck cs : Nat} {pk ps : Option Addr} {R : Rg} {w w' : World} (hN : Sz w N) (h : Dc w d R pk ck ps cs) (b : Below N w w') : Moved d pk ps R w w' :=
  ⟨pk, ck, ps, cs, h.below b hN, Gr3.of_below hN b, .inl rfl, .inl rfl⟩
theorem DAdd_all (R : Rg) (d : Nat) (pk ps : Option Addr) (ck cs : Nat) (key : Nat → BitVec 8) (w : World) (N : Nat) (hN : Sz w N) (hD : Dc w d R pk ck ps cs) (hc : R.c ≤ 32) :
    Calls Tryd.prog 40 #[.pointer (some ⟨d, 0, none⟩), .agg (cellsOf (fun j => By (key j)) 32)] w fun e w' => e = .returned (.int .i64 (addE R key)) ∧ Moved d pk ps (addS R key) w w' := by
  refine (DAdd_any R d pk ps ck cs key w N hN hD hc).mono ?_
  unfold addE addS
  rintro e w' (⟨h1, rfl, hb⟩ | ⟨h1, h2, rfl, hb⟩ | ⟨h1, h2, rfl, h⟩)
  · rw [h1, if_pos rfl, if_pos rfl]
    exact ⟨rfl, Moved.still hN hD hb⟩
  · rw [h1, if_neg Bool.false_ne_true, if_neg Bool.false_ne_true, if_pos h2, if_pos h2]
    exact ⟨rfl, Moved.still hN hD hb⟩
  · rw [h1, if_neg Bool.false_ne_true, if_neg Bool.false_ne_true, if_neg (by omega), if_neg (by omega)]
    exact ⟨rfl, h⟩
/-- What Spend tells, and what it leaves. -/
def spE (R : Rg) (i : Int) : Int := if i < 0 ∨ (R.c : Int) ≤ i then 2 else if R.sp i.toNat then 129 else 0
def spS (R : Rg) (i : Int) : Rg := if i < 0 ∨ (R.c : Int) ≤ i then R else if R.sp i.toNat then R else spendR R i.toNat
theorem spS_le (R : Rg) (i : Int) (hc : R.c ≤ 32) : (spS R i).c ≤ 32 := by
  unfold spS
  split
  · exact hc
  · split
    · exact hc
    · exact hc
theorem Spend_all (R : Rg) (b : Nat) (i : Int) (w : World) (N : Nat) (hN : Sz w N) (hR : Has w b 98 1057 (rgC R)) (hc : R.c ≤ 32) :
    Calls Tryd.prog 37 #[.pointer (some ⟨b, 0, none⟩), .int .i64 i] w fun e w' => e = .returned (.int .i64 (spE R i)) ∧ Touch b w w' ∧ Has w' b 98 1057 (rgC (spS R i)) := by
  have tr : Touch b w w := ⟨rfl, rfl, rfl, rfl, fun _ _ => rfl⟩
  unfold spE spS
  by_cases h : i < 0 ∨ (R.c : Int) ≤ i
  · rw [if_pos h, if_pos h]
    exact (Spend_out R b i w hR h).mono fun e w' ⟨he, hw⟩ => ⟨he, hw ▸ tr, hw ▸ hR⟩
  · rw [if_neg h, if_neg h]
    obtain ⟨n, rfl⟩ : ∃ n : Nat, i = n := ⟨i.toNat, by omega⟩
    rw [Int.toNat_natCast]
    cases hs : R.sp n
    · rw [if_neg Bool.false_ne_true, if_neg Bool.false_ne_true]
      exact Spend_ok R b n w hR (by omega) hc hs
    · rw [if_pos rfl, if_pos rfl]
      exact (Spend_spent R b n w hR (by omega) hc hs).mono fun e w' ⟨he, hw⟩ => ⟨he, hw ▸ tr, hw ▸ hR⟩
theorem DSpend_all (R : Rg) (d : Nat) (pk ps : Option Addr) (ck cs : Nat) (i : Int) (w : World) (N : Nat) (hN : Sz w N) (hD : Dc w d R pk ck ps cs) (hc : R.c ≤ 32) :
    Calls Tryd.prog 42 #[.pointer (some ⟨d, 0, none⟩), .int .i64 i] w fun e w' => e = .returned (.int .i64 (spE R i)) ∧ Moved d pk ps (spS R i) w w' := by
  unfold spE spS
  by_cases h : i < 0 ∨ (R.c : Int) ≤ i
  · rw [if_pos h, if_pos h]
    exact (DSpend_out R d pk ps ck cs i w hD h).mono fun e w' ⟨he, hw⟩ => ⟨he, Moved.still hN hD (hw ▸ Below.refl N w)⟩
  · rw [if_neg h, if_neg h]
    obtain ⟨n, rfl⟩ : ∃ n : Nat, i = n := ⟨i.toNat, by omega⟩
    rw [Int.toNat_natCast]
    cases hs : R.sp n
    · rw [if_neg Bool.false_ne_true, if_neg Bool.false_ne_true]
      exact (DSpend_ok R d pk ps ck cs n w hD (by omega) hc hs).mono fun e w' ⟨he, gs, hg, ht, hD'⟩ => ⟨he, pk, ck, ps, cs, hD', ⟨ht.os, ht.tape, ht.output, Nat.le_of_eq ht.size.symm, fun k _ _ _ h3 => ht.block k (fun e => h3 (by rw [e, hg]))⟩, .inl rfl, .inl rfl⟩
    · rw [if_pos rfl, if_pos rfl]
      exact (DSpend_spent R d pk ps ck cs n w hD (by omega) hc hs).mono fun e w' ⟨he, hw⟩ => ⟨he, Moved.still hN hD (hw ▸ Below.refl N w)⟩
theorem frV_two (o : Option Nat) : ∃ x f : Int, frV o = .tuple #[.int .i64 x, .int .i64 f] := by
  cases o
  · exact ⟨_, _, rfl⟩
  · exact ⟨_, _, rfl⟩
end Go.Proofs.YtcampjgemedhlaaDoor
