/- What holds of who is wanted: both or neither, greedy, enough, all around, whoever comes. No program. -/
import Derived.Test.YtjahegiopigblaaGI1
namespace Go.Proofs.Ytjahegiopigblaa
open Go.RowKit
/-! ### Greedy -/
/-- Nearness told by places on the way clockwise from some place. -/
def fr (T D X : Nat) : Nat := if D ≤ X then X - D else X + T - D
def br (T D X : Nat) : Nat := if X ≤ D then D - X else D + T - X
def far (T D X : Nat) : Nat := if br T D X < fr T D X then br T D X else fr T D X
end Go.Proofs.Ytjahegiopigblaa
