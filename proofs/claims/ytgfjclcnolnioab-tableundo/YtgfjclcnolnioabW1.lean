/- Walks. -/
import Derived.Test.YtgfjclcnolnioabBase
import Derived.Test.YtgfjclcnolnioabNum2
namespace Go.Proofs.Ytgfjclcnolnioab
open Go.RowKit

theorem wrap_u64 (n : Nat) (h : n < half) : IntKind.u64.wrap (n : Int) = n := by
  unfold half at h
  simp [IntKind.wrap, IntKind.bits, IntKind.signed]
  omega
end Go.Proofs.Ytgfjclcnolnioab
