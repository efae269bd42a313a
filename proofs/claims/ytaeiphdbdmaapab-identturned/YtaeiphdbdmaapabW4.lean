/- Walks. -/
import Derived.Test.YtaeiphdbdmaapabBase
import Derived.Test.YtaeiphdbdmaapabW3
namespace Go.Proofs.Ytaeiphdbdmaapab
open Go.RowKit

end Go.Proofs.Ytaeiphdbdmaapab
