/- Walks. -/
import Derived.Test.YtkckjkimjeakcabBase
import Derived.Test.YtkckjkimjeakcabW4
namespace Go.Proofs.Ytkckjkimjeakcab
open Go.RowKit

/-- Is a nearer to d than b is? -/
def nearN (d a b : Nat) : Bool := if farN a d = farN b d then decide (subN a d < subN b d) else decide (farN a d < farN b d)
end Go.Proofs.Ytkckjkimjeakcab
