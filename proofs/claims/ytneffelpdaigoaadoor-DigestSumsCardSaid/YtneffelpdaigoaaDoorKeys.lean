/- Plain: the keys of all seeds of one byte, reckoned at once. Nothing of the program but what the contracts' words are. -/
import Derived.Test.YtneffelpdaigoaaDoorMsg
namespace Go.Proofs.YtneffelpdaigoaaDoor.Sha
def h0P (n : Nat) : P8 := ⟨1779033703 * one n, 3144134277 * one n, 1013904242 * one n, 2773480762 * one n, 1359893119 * one n, 2600822924 * one n, 528734635 * one n, 1541459225 * one n⟩
def secL (n i b : Nat) (X : Nat) : List Nat := [0, one n, X, 0, (33554560 + i * 65536 + b * 256) * one n, 0, 0, 0, 0, 0, 0, 0, 0, 0, 0, 152 * one n]
def leafL (n : Nat) (s : P8) : List Nat := [s.a, s.b, s.c, s.d, s.e, s.f, s.g, s.h, 2147483648 * one n, 0, 0, 0, 0, 0, 0, 256 * one n]
def leafP (n X i b : Nat) : P8 := compP (msk n) (one n) (h0P n) (leafL n (compP (msk n) (one n) (h0P n) (secL n i b X)))
def bothL (s t : P8) : List Nat := [s.a, s.b, s.c, s.d, s.e, s.f, s.g, s.h, t.a, t.b, t.c, t.d, t.e, t.f, t.g, t.h]
def keyP (n X : Nat) : Nat → P8
  | 0 => h0P n
  | t + 1 => compP (msk n) (one n) (keyP n X t) (bothL (leafP n X t 0) (leafP n X t 1))
def keyF (n X : Nat) : P8 := compP (msk n) (one n) (keyP n X 32) [2147483648 * one n, 0, 0, 0, 0, 0, 0, 0, 0, 0, 0, 0, 0, 0, 0, 16384 * one n]
def seedP (n : Nat) : Nat := pk (fun l => BitVec.ofNat 32 (l % 256 * 16777216)) n
end Go.Proofs.YtneffelpdaigoaaDoor.Sha
