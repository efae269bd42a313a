/- Plain numbers: an identity as a natural number below 2^128 and as an array of sixteen bytes. -/
import Derived.WalkKit
namespace Go.Proofs.YtmjblbgalkjmiaaGreat
open Go.RowKit
/-- Byte number i (the highest first) of a number. -/
def byt (n i : Nat) : Nat := n / 256 ^ (15 - i) % 256
/-- A number as the array of an identity. -/
def idA (n : Nat) : Array Value := Array.ofFn (n := 16) fun i => Value.int .u8 (byt n i)
theorem idA_size (n : Nat) : (idA n).size = 16 := by simp [idA]
theorem idA_get (n k : Nat) (h : k < 16) : (idA n)[k]? = some (.int .u8 (byt n k)) := by simp [idA, h]
theorem idA_one (n : Nat) : (idA n).all (·.oneCell') = true := by
  rw [Array.all_eq_true]
  intro i hi
  simp [idA, Value.oneCell']
/-- The number of all identities. -/
def top : Nat := 340282366920938463463374607431768211456
end Go.Proofs.YtmjblbgalkjmiaaGreat
