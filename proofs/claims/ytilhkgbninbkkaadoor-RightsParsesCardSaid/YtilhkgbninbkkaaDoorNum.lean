/- Plain: the words of 32 bits as the walk spells them. Nothing of the program. -/
import Derived.WalkKit
import Derived.Test.YtilhkgbninbkkaaDoorSha
namespace Go.Proofs.YtilhkgbninbkkaaDoor
open Go Sha
def u (x : W32) : Int := (x.toNat : Int)
def v8 (x : BitVec 8) : Int := (x.toNat : Int)
def By (x : BitVec 8) : Value := .int .u8 (v8 x)
end Go.Proofs.YtilhkgbninbkkaaDoor
