/- A region that draws its order: a head that only reads (its callees may draw), then a tail that comes in its order: one walk of the head, in the text's order, and the tail behind it, in every world that the draws leave. Nothing of the program. A region that draws its order: a head that reads and calls (only new memory), then a tail that comes in its order. Nothing of the program. A region that draws, some operations of which may come late. Nothing of the program. -/
import Derived.StillTail
import Derived.Deep.QuietTactic
import Derived.BigQuiet
import Derived.Test.YtbbfdehipgkjmaaDoorBase
import Derived.OrdersHeld
namespace Go.Proofs.YtbbfdehipgkjmaaDoor
open Go
section
variable {P : Program} {ops : Array Oper} {md : Region.Mode} {C : World → Prop}
end
end Go.Proofs.YtbbfdehipgkjmaaDoor
namespace Go.Proofs.YtbbfdehipgkjmaaDoor
open Go Go.RowKit
end Go.Proofs.YtbbfdehipgkjmaaDoor
namespace Go.Proofs.YtbbfdehipgkjmaaDoor
open Go Go.RowKit
section
variable {P : Program} {md : Region.Mode} {ops : Array Oper} {Q : Exit → Act → World → Prop}
theorem wpAny_fuel {m n : Nat} {listed : Array Bool} {a : Act} {w : World} (h : m = n) (hh : wpAny P md ops Q n listed a w) : wpAny P md ops Q m listed a w := h ▸ hh
theorem wpAny_potL {rem : List Nat} (lt : List Nat) (F : Nat → Value → World → Prop) (G : Nat → Nat → Value → Value → Prop) (I : World → Prop) (Fu : Nat) (listed0 : Array Bool) (a0 : Act) (w0 : World) (hchk : (potO md ops listed0 rem (rem.filter (fun j => !lt.contains j)) && decide (rem.length ≤ Fu)) = true)
    (hsize : ∀ i ∈ rem, ∀ t, dstOf ops i = some t → t < a0.tmps.size) (hI : I w0)
    (hstep : ∀ i ∈ rem, ∀ a w, I w → (∀ t, (∀ j ∈ rem, dstOf ops j ≠ some t) → a.tmps.getD t undef = a0.tmps.getD t undef) →
      (∀ j ∈ rem, waitsB md ops i j = true → ∃ v, (∀ t, dstOf ops j = some t → a.tmps.getD t undef = v) ∧ F j v w) →
      wpOp P ops Q i (fun a' w' => ∃ v, a' = a.put (dstOf ops i) v ∧ F i v w' ∧ I w' ∧ ∀ j ∈ rem, ∀ u, j ≠ i → F j u w → F j u w' ∧ G j i u v ∧ G i j v u) a w)
    (hend : ∀ (L : Nat → Bool) (vals : Nat → Value) w, I w → (∀ j ∈ rem, L j = true → F j (vals j) w) → (∀ j ∈ rem, ∀ k ∈ rem, j ≠ k → L j = true → L k = true → G j k (vals j) (vals k)) → (∀ j ∈ rem, lt.contains j = false → L j = true) →
      wpAny P md ops Q (Fu - rem.length + left L rem) (marks L rem listed0) (puts ops L vals rem a0) w) : wpAny P md ops Q Fu listed0 a0 w0 := by
  simp only [Bool.and_eq_true, decide_eq_true_eq] at hchk
  have n0 : ∀ (r : List Nat) (l : Array Bool), marks (fun _ => false) r l = l := fun r => by
    induction r with
    | nil => intro l; rfl
    | cons i r ih => intro l; simp only [marks, Bool.false_eq_true, if_false]; exact ih l
  have n1 : ∀ (vals : Nat → Value) (r : List Nat) (a : Act), puts ops (fun _ => false) vals r a = a := fun vals r => by
    induction r with
    | nil => intro l; rfl
    | cons i r ih => intro l; simp only [puts, Bool.false_eq_true, if_false]; exact ih l
  have lf : left (fun _ => false) rem = rem.length := by unfold left; simp
  have := wpAny_potO_go (P := P) (Q := Q) (md := md) (ops := ops) (F := F) (G := G) (I := I) (listed0 := listed0) (a0 := a0) (Fu := Fu - rem.length) (must := rem.filter (fun j => !lt.contains j)) (fun i hi => (List.mem_filter.1 hi).1) hchk.1 hsize hstep
    (fun L vals w hL hw hf hg => hend L vals w hw hf hg (fun j hj h => hL j (List.mem_filter.2 ⟨hj, by rw [h]; rfl⟩)))
    rem.length (fun _ => false) listed0 a0 w0 lf ⟨(n0 rem listed0).symm, hI, (fun j _ h => Bool.noConfusion h), ⟨fun _ => undef, (n1 _ rem a0).symm, ⟨(fun j _ h => Bool.noConfusion h), (fun j _ k _ _ h _ => Bool.noConfusion h)⟩⟩⟩
  rwa [Nat.sub_add_cancel hchk.2] at this
end
end Go.Proofs.YtbbfdehipgkjmaaDoor
