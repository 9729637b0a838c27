/- Plain: the words of 32 bits as the walk spells them. Nothing of the program. -/
import Derived.WalkKit
import Derived.Test.YtilhkgbninbkkaaDoorSha
namespace Go.Proofs.YtilhkgbninbkkaaDoor
open Go Sha
def u (x : W32) : Int := (x.toNat : Int)
def U (x : W32) : Value := .int .u32 (u x)
end Go.Proofs.YtilhkgbninbkkaaDoor
