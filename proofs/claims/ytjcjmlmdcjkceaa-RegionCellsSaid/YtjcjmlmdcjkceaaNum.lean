/- Plain: the words of 32 bits as the walk spells them. Nothing of the program. -/
import Derived.WalkKit
import Derived.Test.YtjcjmlmdcjkceaaSha
namespace Go.Proofs.Ytjcjmlmdcjkceaa
open Go Sha
def u (x : W32) : Int := (x.toNat : Int)
def U (x : W32) : Value := .int .u32 (u x)
def v8 (x : BitVec 8) : Int := (x.toNat : Int)
def By (x : BitVec 8) : Value := .int .u8 (v8 x)
end Go.Proofs.Ytjcjmlmdcjkceaa
