/- Plain numbers: an identity as two words of 64 bits. -/
import Derived.Test.YtjahegiopigblaaGNum
namespace Go.Proofs.Ytjahegiopigblaa
open Go.RowKit
/-- 2^64. -/
def half : Nat := 18446744073709551616
end Go.Proofs.Ytjahegiopigblaa
