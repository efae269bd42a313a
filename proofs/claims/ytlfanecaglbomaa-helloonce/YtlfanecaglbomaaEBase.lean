/- Facts on this program: the type of identities, their reading, comparing and indexing. -/
import Derived.Test.YtlfanecaglbomaaRows
import Derived.WalkKit
import Derived.Test.YtlfanecaglbomaaEOps
namespace Go.Proofs.Ytlfanecaglbomaa
open Go.RowKit
theorem follows : Try.prog.follows .mixedOrders = true := by kernel_rfl
end Go.Proofs.Ytlfanecaglbomaa
