/- Walks. -/
import Derived.Test.YtfabgonoonanfaaBase
import Derived.Test.YtfabgonoonanfaaW3
namespace Go.Proofs.Ytfabgonoonanfaa
open Go.RowKit

end Go.Proofs.Ytfabgonoonanfaa
