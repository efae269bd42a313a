/- Plain numbers: an identity as two words of 64 bits. -/
import Derived.Test.YtfabgonoonanfaaENum
namespace Go.Proofs.Ytfabgonoonanfaa
open Go.RowKit
/-- 2^64. -/
def half : Nat := 18446744073709551616
end Go.Proofs.Ytfabgonoonanfaa
