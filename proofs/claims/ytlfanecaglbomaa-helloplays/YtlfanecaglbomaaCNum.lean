/- Plain numbers: an identity as a natural number below 2^128 and as an array of sixteen bytes. -/
import Derived.WalkKit
namespace Go.Proofs.Ytlfanecaglbomaa
open Go.RowKit
def byt (n i : Nat) : Nat := n / 256 ^ (15 - i) % 256
def idA (n : Nat) : Array Value := Array.ofFn (n := 16) fun i => Value.int .u8 (byt n i)
theorem Yw (n : Nat) : (idA n).size = 16 := by simp [idA]
theorem idA_get (n k : Nat) (h : k < 16) : (idA n)[k]? = some (.int .u8 (byt n k)) := by simp [idA, h]
theorem byt_lt (n k : Nat) : byt n k < 256 := Nat.mod_lt _ (by omega)
def top : Nat := 340282366920938463463374607431768211456
end Go.Proofs.Ytlfanecaglbomaa
