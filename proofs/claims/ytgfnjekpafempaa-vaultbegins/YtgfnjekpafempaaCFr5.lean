/- Arguments that are lists of bytes, and numbers, opened. -/
import Derived.Test.YtgfnjekpafempaaRows
import Derived.Test.YtgfnjekpafempaaCFr
import Derived.Test.YtgfnjekpafempaaCB4
import Derived.ProofKit
import Derived.OpenShut
import Derived.SizedLaws
import Derived.JoinedCond
import Derived.Test.YtgfnjekpafempaaCQ0
namespace Go.Proofs.Ytgfnjekpafempaa
open Go.ChangeShapes Go.WideShapes Go.ChangeAt Go.RowKit
theorem cells3 : Try.prog.cellsOf 3 = 1 := by kernel_rfl
structure IC (w : World) (ao : Option Addr) (cap : Nat) (xs : List Int) : Prop where
  fit : xs.length ≤ cap
  bare : ao = none → cap = 0
  cell : ∀ ad, ao = some ad → ∀ j, j < xs.length → w.cell? (ad.add j) = some (.int .i64 (xs.getD j 0))
theorem IC.at {w : World} {ao : Option Addr} {cap : Nat} {xs : List Int} (h : IC w ao cap xs) {j : Nat} (hj : j < xs.length) : ∃ ad, ao = some ad ∧ w.cell? (ad.add j) = some (.int .i64 (xs.getD j 0)) := by
  cases hao : ao with
  | none => have := h.bare hao; have := h.fit; omega
  | some ad => exact ⟨ad, rfl, h.cell ad hao j hj⟩
end Go.Proofs.Ytgfnjekpafempaa
