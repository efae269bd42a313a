/- Facts on this program: the type of identities, their reading, comparing and indexing. -/
import Derived.Test.YthmcnlmphikicaaRows
import Derived.Test.YthmcnlmphikicaaCNum
import Derived.Test.YthmcnlmphikicaaCOps
namespace Go.Proofs.Ythmcnlmphikicaa
open Go.RowKit
theorem size23 : (Try.prog.info? 23).map (·.size) = some 16 := by kernel_rfl
theorem zero23 (w : World) : (zeroValue 23).run Try.prog w = .ok (.agg (idA 0)) w := by rw [Try.zeroValue23]; rfl
theorem follows : Try.prog.follows .mixedOrders = true := by kernel_rfl
end Go.Proofs.Ythmcnlmphikicaa
