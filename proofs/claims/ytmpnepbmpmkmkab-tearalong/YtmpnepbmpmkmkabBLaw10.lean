/- A region in whatever order in which several operations change what was there. -/
import Derived.Test.YtmpnepbmpmkmkabBLaw7
namespace Go.Proofs.Ytmpnepbmpmkmkab
open Go.RowKit
def allVal (posts : List PostE) : List Nat → Prop
  | [] => True
  | j :: r => (∃ v, postE posts j = .val v) ∧ allVal posts r
theorem allVal_at {posts : List PostE} : ∀ {S : List Nat}, allVal posts S → ∀ j ∈ S, ∃ v, postE posts j = .val v
  | [], _, _, h => by cases h
  | _ :: _, h, j, hj => by
    rcases List.mem_cons.1 hj with rfl | hj
    · exact h.1
    · exact allVal_at h.2 j hj
end Go.Proofs.Ytmpnepbmpmkmkab
