/- Walks. -/
import Derived.Test.YtfabgonoonanfaaEBase
import Derived.Test.YtfabgonoonanfaaEW2
namespace Go.Proofs.Ytfabgonoonanfaa
open Go.RowKit
theorem cmpN_neg (a b : Nat) : (cmpN a b < 0) = (a < b) := by
  unfold cmpN
  apply propext
  split
  · simp [*]
  · split <;> simp_all
end Go.Proofs.Ytfabgonoonanfaa
