/- Walks. -/
import Derived.Test.YtfabgonoonanfaaBase
import Derived.Test.YtfabgonoonanfaaW4
namespace Go.Proofs.Ytfabgonoonanfaa
open Go.RowKit

/-- Is a nearer to d than b is? -/
def nearN (d a b : Nat) : Bool := if farN a d = farN b d then decide (subN a d < subN b d) else decide (farN a d < farN b d)
end Go.Proofs.Ytfabgonoonanfaa
