/- Facts on this program: the type of identities, their reading, comparing and indexing. -/
import Derived.Test.YtmjblbgalkjmiaaGreatRows
import Derived.Test.YtmjblbgalkjmiaaGreatBNum
import Derived.Test.YtmjblbgalkjmiaaGreatBOps
namespace Go.Proofs.YtmjblbgalkjmiaaGreat
open Go.RowKit
theorem follows : Tryz.prog.follows .mixedOrders = true := by kernel_rfl
end Go.Proofs.YtmjblbgalkjmiaaGreat
