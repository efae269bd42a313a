/- Frames: every array of 16 bytes is a number below 2^128; arguments read again behind a call that leaves memory as it was. -/
import Derived.Test.YtgfnjekpafempaaRows
import Derived.Test.YtgfnjekpafempaaCBase
import Derived.ProofKit
import Derived.OpenShut
namespace Go.Proofs.Ytgfnjekpafempaa
open Go.ChangeShapes Go.WideShapes Go.ChangeAt Go.RowKit
theorem Try.own : ownKnob Try.prog.godebug = none := by kernel_rfl
theorem Try.laidOut : laidOutB Try.prog = true := by kernel_rfl
end Go.Proofs.Ytgfnjekpafempaa
