/- Walks. -/
import Derived.Test.YtkckjkimjeakcaaBase
import Derived.Test.YtkckjkimjeakcaaW6
namespace Go.Proofs.Ytkckjkimjeakcaa
open Go.RowKit

/-- The place of the one of the first k that is nearest to d. -/
def bestI (d : Nat) (l : List Nat) : Nat → Int
  | 0 => -1
  | k + 1 => if bestI d l k < 0 then k else if nearN d (l.getD k 0) (l.getD (bestI d l k).toNat 0) = true then k else bestI d l k
theorem bestI_bd (d : Nat) (l : List Nat) : ∀ k, -1 ≤ bestI d l k ∧ bestI d l k < k ∧ (0 < k → 0 ≤ bestI d l k)
  | 0 => by simp [bestI]
  | k + 1 => by
    have h := bestI_bd d l k
    unfold bestI
    split
    · omega
    · split <;> omega
end Go.Proofs.Ytkckjkimjeakcaa
