/- Contracts of the document: does a comparison hold. -/
import Derived.Test.YtbbfdehipgkjmaaDoorBr8
namespace Go.Proofs.YtbbfdehipgkjmaaDoor
open Go Go.RowKit
def rsigF (x : W) (l : Bool) : W :=
  bif l then x
  else bif (BitVec.ule 2147483648#64 (x % 4294967296#64)) then ((x % 4294967296#64) - 4294967296#64)
  else (x % 4294967296#64)
end Go.Proofs.YtbbfdehipgkjmaaDoor
