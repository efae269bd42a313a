/- Frames: arguments that are rows of numbers, opened; how great they can be. -/
import Derived.Test.YtmpnepbmpmkmkaaRows
import Derived.Test.YtmpnepbmpmkmkaaDFr
import Derived.Test.YtmpnepbmpmkmkaaDB4
import Derived.ProofKit
import Derived.OpenShut
import Derived.SizedLaws
import Derived.JoinedCond
namespace Go.Proofs.Ytmpnepbmpmkmkaa
open Go.ChangeShapes Go.WideShapes Go.ChangeAt Go.RowKit
theorem getD_mem {α : Type} (l : List α) (d : α) (k : Nat) (h : k < l.length) : l.getD k d ∈ l := by
  rw [List.getD_eq_getElem?_getD, List.getElem?_eq_getElem h]
  exact List.getElem_mem h
end Go.Proofs.Ytmpnepbmpmkmkaa
