/- What the row of this law says of the program. -/
import Derived.Test.YtmjblbgalkjmiaaGreatBR3
namespace Go.Proofs.YtmjblbgalkjmiaaGreat
set_option maxRecDepth 100000
theorem and_of {a b : Bool} (h : a = true) (k : b = true) : (a && b) = true := by rw [h, k]; rfl
set_option maxHeartbeats 8000000 in
theorem joined : joinedFacts Tryz.prog 8 Tryz.f8 Rows.watchReachesSpec Rows.watchReachesRow = true := by
  unfold joinedFacts
  refine and_of (and_of (and_of (and_of (and_of (and_of (and_of (and_of (and_of (and_of (and_of (and_of (and_of (and_of (and_of (and_of (and_of (and_of (and_of (and_of (and_of (and_of (and_of (and_of (and_of (and_of (and_of (and_of (and_of (and_of (and_of row_wf laidOutR) rowed) ?_) ?_) ?_) ?_) ?_) ?_) in_place) unfollowed_ok) recurses_ok) named_ok) ?_) ?_) ?_) ?_) ?_) ?_) ?_) ?_) ?_) ?_) ?_) ?_) ?_) ?_) ?_) ?_) ?_) ?_) ?_
  all_goals (as_aux_lemma => kernel_rfl)
end Go.Proofs.YtmjblbgalkjmiaaGreat
