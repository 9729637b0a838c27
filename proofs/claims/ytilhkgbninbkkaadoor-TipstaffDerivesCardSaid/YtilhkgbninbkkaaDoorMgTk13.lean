/- TokenForged: words; the document's own rights; a step's cells. Tokens: More, the document's own answer. -/
import Derived.Test.YtilhkgbninbkkaaDoorTk8
namespace Go.Proofs.YtilhkgbninbkkaaDoor
open Go Go.RowKit
section
variable {P : Program} {ops : Array Oper} {rest : List Oper} {o : Oper} {a : Act} {w : World} {Q : Exit → Act → World → Prop}
end
theorem insI_self {f : Nat → Nat} {c : Nat} (a : Int) : insI f c a a = isIn c a := by
  cases h : isIn c a
  · unfold insI; rw [h]; rfl
  · obtain ⟨k, rfl, hk⟩ := isIn_get h
    exact (ins_nat hk).2 (mem_self f k)
section
variable {w0 w w' : World} {N b c rb cp : Nat} {p : Option Addr} {f : Nat → Nat}
end
end Go.Proofs.YtilhkgbninbkkaaDoor
namespace Go.Proofs.YtilhkgbninbkkaaDoor
open Go Go.RowKit
section
variable {b c cp : Nat} {p : Option Addr} {f : Nat → Nat} {qc : Option Addr} {nc capc : Nat} {A : Nat → Int} {R : Nat → Rg} {a : Int} {r : Rg}
end
end Go.Proofs.YtilhkgbninbkkaaDoor
