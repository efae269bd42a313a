/- Walks. -/
import Derived.Test.YtljihaihhnamfaaBase
import Derived.Test.YtljihaihhnamfaaW4
namespace Go.Proofs.Ytljihaihhnamfaa
open Go.RowKit

/-- Is a nearer to d than b is? -/
def nearN (d a b : Nat) : Bool := if farN a d = farN b d then decide (subN a d < subN b d) else decide (farN a d < farN b d)
end Go.Proofs.Ytljihaihhnamfaa
