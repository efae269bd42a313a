/- Wire: the document's own reading of a number. -/
import Derived.Test.YtgfnjekpafempaaBB7
namespace Go.Proofs.Ytgfnjekpafempaa
open Go.RowKit
section
variable {P : Program} {o : Oper} {A : Act}
theorem wrap_u (r : Nat) (h : r < lim) : IntKind.u64.wrap (r : Int) = (r : Int) := by
  unfold lim at h
  simp [IntKind.wrap, IntKind.bits, IntKind.signed]
  omega
end
end Go.Proofs.Ytgfnjekpafempaa
