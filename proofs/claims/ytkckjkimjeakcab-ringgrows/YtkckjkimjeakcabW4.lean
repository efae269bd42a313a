/- Walks. -/
import Derived.Test.YtkckjkimjeakcabBase
import Derived.Test.YtkckjkimjeakcabW3
namespace Go.Proofs.Ytkckjkimjeakcab
open Go.RowKit

end Go.Proofs.Ytkckjkimjeakcab
