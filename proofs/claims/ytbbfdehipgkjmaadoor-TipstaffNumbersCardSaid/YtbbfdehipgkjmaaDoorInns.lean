/- Plain words on regions: what is read while calls go on. Nothing of the program. -/
import Derived.Test.YtbbfdehipgkjmaaDoorBase
namespace Go.Proofs.YtbbfdehipgkjmaaDoor
open Go Go.RowKit
section
variable {P : Program} {md : Region.Mode} {ops : Array Oper} {Q : Exit → Act → World → Prop}
end
end Go.Proofs.YtbbfdehipgkjmaaDoor
namespace Go.Proofs.YtbbfdehipgkjmaaDoor
open Go Go.RowKit
section
variable {P : Program} {md : Region.Mode} {ops : Array Oper} {Q : Exit → Act → World → Prop}
end
end Go.Proofs.YtbbfdehipgkjmaaDoor
namespace Go.Proofs.YtbbfdehipgkjmaaDoor
open Go Go.RowKit
section
variable {P : Program} {md : Region.Mode} {ops : Array Oper} {Q : Exit → Act → World → Prop} {s : Nat}
end
end Go.Proofs.YtbbfdehipgkjmaaDoor
