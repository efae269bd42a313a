/- A run in the kernel: a call that is told. -/
import Derived.Test.YtmjblbgalkjmiaaGreatBYD
namespace Go.Proofs.YtmjblbgalkjmiaaGreat
open EX
set_option maxRecDepth 1000000
theorem yc9 : (fB yh6 fun HL => laysK HL .leaf fun t => fB yh13 fun DL => callK Tryz.prog (execK Tryz.prog (orM myj5 (orM myj6 (orM myj7 (orM myj8 (noM))))) 100000) 125 ⟨[pv 178 0]⟩ ⟨t, 14870⟩ (tellK (.tuple ⟨[]⟩) DL 26826)) True = True := by kernel_rfl
end Go.Proofs.YtmjblbgalkjmiaaGreat
