/- Lists of a table: those that are asked for, by their keys. -/
import Derived.Test.YtkjnefgenffhcaaGP10
namespace Go.Proofs.Ytkjnefgenffhcaa
open Go.RowKit Go.Maps
def SZ (n : Nat) (w : World) : Prop := n ≤ w.heap.size
section
variable {w w' : World} {b r g n : Nat} {L S : List En}
theorem SZ.gro (h : SZ n w) (G : Gro w w') : SZ n w' := Nat.le_trans h G.size
theorem SZ.le (h : SZ n w) (e : w.heap.size ≤ w'.heap.size) : SZ n w' := Nat.le_trans h e
theorem SZ.ne (_ : SZ n w) (_ : w.heap.size = g) : True := trivial
theorem SZ.st {x : Obj} (h : SZ n w) (St : Stored w w' g x) (_ : True) : SZ n w' := Nat.le_trans h (Nat.le_of_eq St.size.symm)
theorem RgM.ne (h : RgM w b r L S) (e : w.heap.size = g) : b ≠ g ∧ r ≠ g := by
  have h1 := h.tm.lt
  have h2 := h.lt
  omega
variable {ops : Array Oper} {rest : List Oper} {o : Oper} {T : List Value} {ds : List Deferred} {Q : Exit → Act → World → Prop}
end
end Go.Proofs.Ytkjnefgenffhcaa
