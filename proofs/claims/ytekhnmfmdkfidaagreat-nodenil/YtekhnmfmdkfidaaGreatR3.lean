/- What the row of this law says of the program, fact by fact. -/
import Derived.Test.YtekhnmfmdkfidaaGreatRows
import Derived.ProofKit
import Derived.KernelRfl
namespace Go.Proofs.YtekhnmfmdkfidaaGreat
set_option maxRecDepth 100000
theorem laidOut : laidOutB Tryz.prog = true := by kernel_rfl
theorem rowed : mapsRowed Tryz.prog = true := by kernel_rfl
theorem in_place : (Rows.nodeNilRow.inPlace == Tryz.prog.inPlace 7) = true := by kernel_rfl
theorem unfollowed_ok : (Rows.nodeNilRow.unfollowed == Tryz.prog.unfollowed 7) = true := by kernel_rfl
theorem recurses_ok : (Rows.nodeNilRow.recurses == Tryz.prog.recurses 7) = true := by kernel_rfl
theorem named_ok : (Rows.nodeNilRow.named == Tryz.prog.varsNamed 7) = true := by kernel_rfl
theorem row_wf : Rows.nodeNilRow.wf (OpenSpec.ofChange Rows.nodeNilSpec) = true := by kernel_rfl
end Go.Proofs.YtekhnmfmdkfidaaGreat
