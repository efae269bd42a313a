/- Walks. -/
import Derived.Test.YtljihaihhnamfaaBase
import Derived.Test.YtljihaihhnamfaaW3
namespace Go.Proofs.Ytljihaihhnamfaa
open Go.RowKit

end Go.Proofs.Ytljihaihhnamfaa
