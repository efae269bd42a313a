/- Walks. -/
import Derived.Test.YtfabgonoonanfaaBase
import Derived.Test.YtfabgonoonanfaaW2
namespace Go.Proofs.Ytfabgonoonanfaa
open Go.RowKit

/-- How far two are apart, the shorter way. -/
def farN (a b : Nat) : Nat := if subN b a < subN a b then subN b a else subN a b
theorem farN_lt (a b : Nat) : farN a b < top := by unfold farN; split <;> exact subN_lt _ _
theorem cmpN_neg (a b : Nat) : (cmpN a b < 0) = (a < b) := by
  unfold cmpN
  apply propext
  split
  · simp [*]
  · split <;> simp_all
end Go.Proofs.Ytfabgonoonanfaa
