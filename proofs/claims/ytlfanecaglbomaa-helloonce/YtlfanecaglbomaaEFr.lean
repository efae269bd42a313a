/- Frames: every array of 16 bytes is a number below 2^128; arguments read again behind a call that leaves memory as it was. -/
import Derived.Test.YtlfanecaglbomaaRows
import Derived.Test.YtlfanecaglbomaaEBase
import Derived.ProofKit
import Derived.OpenShut
namespace Go.Proofs.Ytlfanecaglbomaa
open Go.ChangeShapes Go.WideShapes Go.ChangeAt Go.RowKit
theorem Try.own : ownKnob Try.prog.godebug = none := by kernel_rfl
theorem Try.laidOut : laidOutB Try.prog = true := by kernel_rfl
theorem cells5 : Try.prog.cellsOf 5 = 1 := by kernel_rfl
end Go.Proofs.Ytlfanecaglbomaa
