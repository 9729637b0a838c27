/- BmapPrefix: cut. A region that draws its order: a head that reads and calls (only new memory), then a tail that comes in its order. Nothing of the program. TipstaffMaps: a map of keys below eight: which are there, what values they have. -/
import Derived.Test.YtjdclgnlnehjlaaDoorMgSrt
import Derived.Test.YtjdclgnlnehjlaaDoorMgBm1
import Derived.Test.YtjdclgnlnehjlaaDoorBase
import Derived.Test.YtjdclgnlnehjlaaDoorSu4
namespace Go.Proofs.YtjdclgnlnehjlaaDoor
open Go Go.RowKit
/-- The first b bits of a byte. -/
def msk (b : Nat) (a : BitVec 8) : BitVec 8 := a &&& (255#8 <<< (8 - b))
theorem msk_val (b : Nat) (hb : b ≤ 8) (a : BitVec 8) : bits BinOp.and IntKind.u8 (v8 a) (255 * 2 ^ (8 - b) % 256) = v8 (msk b a) := by
  have : ∀ y : Fin 9, ∀ x : Fin 256, bits BinOp.and IntKind.u8 (v8 (BitVec.ofFin x)) (255 * 2 ^ (8 - y.val) % 256) = v8 (msk y.val (BitVec.ofFin x)) := by decide +kernel
  exact this ⟨b, by omega⟩ a.toFin
end Go.Proofs.YtjdclgnlnehjlaaDoor
namespace Go.Proofs.YtjdclgnlnehjlaaDoor
open Go Go.RowKit
theorem wp_region_later_tail {P : Program} {id : Nat} {Q : Exit → Act → World → Prop} {a : Act} {w : World} {l : List Oper} (N n : Nat) (hm : P.follows .mixedOrders = true) (hB : Region.lexTailB .any l.toArray n = true)
    (h : wpQuiet P l.toArray (fun w' => ∃ x : Later N w, w' = x.w') (fun a' => ∀ w', (∃ x : Later N w, w' = x.w') → wpList P l.toArray Q (l.drop n) a' w') (l.take n) a) : (Code.region id l.toArray true).wp P Q a w := by
  simp only [Region.lexTailB, Bool.and_eq_true, decide_eq_true_eq] at hB
  obtain ⟨⟨⟨⟨hsel, hn⟩, hs⟩, hc⟩, hlex⟩ := hB
  have hn' : n < l.length := by simpa using hn
  have htl : (l.take n).length = n := by simp; omega
  have hdl : (l.drop n).length = l.toArray.size - n := by simp
  have inv0 : HeadInv .any l.toArray n (Array.replicate l.toArray.size false) :=
    ⟨by simp, fun j oj _ hl => (by rw [getD_replicate_false] at hl; cases hl), fun t _ ht => getD_in (by simpa using ht) (getD_replicate_false _ _)⟩
  have H := hdQ_lex (md := .any) (g := l.toArray.size - n) hsel hs hc hn (l.take n) 0 _ a (fun j hj => by
    have hj' : j < n := by rw [htl] at hj; exact hj
    simp [hj']) (by simpa using htl) inv0 (by rw [htl]; exact hlex) h
  refine wp_region_any hm ?_
  have := any_of_hdQ (Q := Q) (g := l.toArray.size - n) (fun s a' w' hw' hL => by
    have := wpAny_of_seq (md := .any) (Q' := Q) (l.drop n) n s a' w' (fun j => by simp [List.getElem?_drop]) (by rw [hdl]; exact hL.1) (hL.2 w' hw')
    rwa [hdl] at this) _ _ _ w.drew ⟨⟨w.drew, (Below.refl N w).drew⟩, rfl⟩ H
  rw [htl, show n + (l.toArray.size - n) = l.toArray.size by omega] at this
  exact this
end Go.Proofs.YtjdclgnlnehjlaaDoor
namespace Go.Proofs.YtjdclgnlnehjlaaDoor
open Go Go.RowKit
theorem b8_inj {i j : Nat} (hi : i < 256) (hj : j < 256) (h : b8 i = b8 j) : i = j := by
  unfold b8 at h
  have := congrArg BitVec.toNat h
  rw [BitVec.toNat_ofNat, BitVec.toNat_ofNat, Nat.mod_eq_of_lt (by omega), Nat.mod_eq_of_lt (by omega)] at this
  exact this
theorem key4_inj {i j : Nat} (hi : i < 256) (hj : j < 256) (h : key4 i = key4 j) : i = j := by
  have := strOf_inj h 0 (by omega)
  exact b8_inj hi hj this
section
variable {n : Nat} {E : Nat → Me} {κ : Nat → Nat} {th : Nat → Bool} {V : Nat → Nat → BitVec 8} {m : Mp} {ty : Nat} {w : World}
end
end Go.Proofs.YtjdclgnlnehjlaaDoor
