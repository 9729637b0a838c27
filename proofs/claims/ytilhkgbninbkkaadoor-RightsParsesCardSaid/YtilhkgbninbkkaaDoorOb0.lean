/- Which blocks may have turned; a slice that is cut; append where there is room; clear. Nothing of the program. -/
import Derived.Test.YtilhkgbninbkkaaDoorOw2
namespace Go.Proofs.YtilhkgbninbkkaaDoor
open Go Go.RowKit
section
variable {S R : Nat → Prop} {a b c w w' : World}
end
section
variable {w : World} {E s g n m cap : Nat} {p : Option Addr} {f : Nat → Value}
end
section
variable {P : Program}
variable {ops : Array Oper} {rest : List Oper} {o : Oper} {a : Act} {w : World} {Q : Exit → Act → World → Prop}
end
end Go.Proofs.YtilhkgbninbkkaaDoor
