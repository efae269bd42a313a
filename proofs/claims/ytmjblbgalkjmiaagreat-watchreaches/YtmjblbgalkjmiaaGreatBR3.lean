/- What the row of this law says of the program, fact by fact. -/
import Derived.Test.YtmjblbgalkjmiaaGreatRows
import Derived.ProofKit
import Derived.KernelRfl
namespace Go.Proofs.YtmjblbgalkjmiaaGreat
set_option maxRecDepth 100000
theorem laidOutR : laidOutB Tryz.prog = true := by kernel_rfl
theorem rowed : mapsRowed Tryz.prog = true := by kernel_rfl
theorem in_place : (Rows.watchReachesRow.inPlace == Tryz.prog.inPlace 8) = true := by kernel_rfl
theorem unfollowed_ok : (Rows.watchReachesRow.unfollowed == Tryz.prog.unfollowed 8) = true := by kernel_rfl
theorem recurses_ok : (Rows.watchReachesRow.recurses == Tryz.prog.recurses 8) = true := by kernel_rfl
theorem named_ok : (Rows.watchReachesRow.named == Tryz.prog.varsNamed 8) = true := by kernel_rfl
theorem row_wf : Rows.watchReachesRow.wf (OpenSpec.ofChange Rows.watchReachesSpec) = true := by kernel_rfl
end Go.Proofs.YtmjblbgalkjmiaaGreat
