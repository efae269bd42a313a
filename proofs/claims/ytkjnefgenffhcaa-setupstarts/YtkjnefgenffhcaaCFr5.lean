/- Frames: arguments that are rows of numbers, opened; how great they can be. -/
import Derived.Test.YtkjnefgenffhcaaRows
import Derived.Test.YtkjnefgenffhcaaCFr
import Derived.Test.YtkjnefgenffhcaaCB4
import Derived.ProofKit
import Derived.OpenShut
import Derived.SizedLaws
import Derived.JoinedCond
import Derived.Test.YtkjnefgenffhcaaCQ0
namespace Go.Proofs.Ytkjnefgenffhcaa
open Go.ChangeShapes Go.WideShapes Go.ChangeAt Go.RowKit
theorem getD_mem {α : Type} (l : List α) (d : α) (k : Nat) (h : k < l.length) : l.getD k d ∈ l := by
  rw [List.getD_eq_getElem?_getD, List.getElem?_eq_getElem h]
  exact List.getElem_mem h
end Go.Proofs.Ytkjnefgenffhcaa
namespace Go.Proofs.Ytkjnefgenffhcaa
open Go.ChangeShapes Go.WideShapes Go.ChangeAt Go.RowKit
theorem cells3 : Try.prog.cellsOf 3 = 1 := by kernel_rfl
structure IC (w : World) (ao : Option Addr) (cap : Nat) (xs : List Int) : Prop where
  fit : xs.length ≤ cap
  bare : ao = none → cap = 0
  cell : ∀ ad, ao = some ad → ∀ j, j < xs.length → w.cell? (ad.add j) = some (.int .i64 (xs.getD j 0))
theorem IC.at {w : World} {ao : Option Addr} {cap : Nat} {xs : List Int} (h : IC w ao cap xs) {j : Nat} (hj : j < xs.length) : ∃ ad, ao = some ad ∧ w.cell? (ad.add j) = some (.int .i64 (xs.getD j 0)) := by
  cases hao : ao with
  | none => have := h.bare hao; have := h.fit; omega
  | some ad => exact ⟨ad, rfl, h.cell ad hao j hj⟩
end Go.Proofs.Ytkjnefgenffhcaa
