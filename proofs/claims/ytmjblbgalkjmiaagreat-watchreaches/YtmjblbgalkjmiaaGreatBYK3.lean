/- A run in the kernel: a call that is told. -/
import Derived.Test.YtmjblbgalkjmiaaGreatBYD
namespace Go.Proofs.YtmjblbgalkjmiaaGreat
open EX
set_option maxRecDepth 1000000
theorem yc4 : (fB yh5 fun HL => laysK HL .leaf fun t => fB yh6 fun DL => callK Tryz.prog (execK Tryz.prog (noM) 100000) 125 ⟨[pv 178 0]⟩ ⟨t, 5083⟩ (tellK (.tuple ⟨[]⟩) DL 14870)) True = True := by kernel_rfl
end Go.Proofs.YtmjblbgalkjmiaaGreat
