/- What the row of this law says of the program, fact by fact. -/
import Derived.Test.YtadpefhaibkbjaaGreatRows
import Derived.ProofKit
import Derived.KernelRfl
namespace Go.Proofs.YtadpefhaibkbjaaGreat
set_option maxRecDepth 100000
theorem laidOut : laidOutB Tryz.prog = true := by kernel_rfl
theorem rowed : mapsRowed Tryz.prog = true := by kernel_rfl
theorem in_place : (Rows.worldNilRow.inPlace == Tryz.prog.inPlace 8) = true := by kernel_rfl
theorem unfollowed_ok : (Rows.worldNilRow.unfollowed == Tryz.prog.unfollowed 8) = true := by kernel_rfl
theorem recurses_ok : (Rows.worldNilRow.recurses == Tryz.prog.recurses 8) = true := by kernel_rfl
theorem named_ok : (Rows.worldNilRow.named == Tryz.prog.varsNamed 8) = true := by kernel_rfl
theorem row_wf : Rows.worldNilRow.wf (OpenSpec.ofChange Rows.worldNilSpec) = true := by kernel_rfl
end Go.Proofs.YtadpefhaibkbjaaGreat
