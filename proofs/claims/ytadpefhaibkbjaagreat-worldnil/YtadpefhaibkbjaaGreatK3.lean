/- A run in the kernel: a call that is told. -/
import Derived.Test.YtadpefhaibkbjaaGreatD
namespace Go.Proofs.YtadpefhaibkbjaaGreat
open EX
set_option maxRecDepth 1000000
theorem c8 : (fB h4 fun HL => laysK HL .leaf fun t => fB h11 fun DL => callK Tryz.prog (execK Tryz.prog (orM mj4 (orM mj5 (orM mj6 (orM mj7 (noM))))) 100000) 14 ⟨[pv 178 0, .agg ⟨[iv .i64 11, iv .i64 0, iv .i64 0, iv .i64 1, iv .u8 0, iv .u8 0, iv .u8 0, iv .u8 0, iv .u8 0, iv .u8 0, iv .u8 0, iv .u8 0, iv .u8 0, iv .u8 0, iv .u8 0, iv .u8 0, iv .u8 0, iv .u8 0, iv .u8 0, iv .u8 0, .slice none 0 0]⟩]⟩ ⟨t, 14872⟩ (tellK (.bool true) DL 26829)) True = True := by kernel_rfl
end Go.Proofs.YtadpefhaibkbjaaGreat
