/- Walks. -/
import Derived.Test.YtjahegiopigblaaEBase
import Derived.Test.YtjahegiopigblaaEW6
import Derived.Test.YtjahegiopigblaaELaw2
namespace Go.Proofs.Ytjahegiopigblaa
open Go.RowKit
theorem subN_inj (a b d : Nat) (ha : a < top) (hb : b < top) (hd : d < top) (h : subN a d = subN b d) : a = b := by
  unfold subN top at *
  omega
theorem near_irr (d a : Nat) : nearN d a a = false := by simp [nearN]
theorem near_not (d a b : Nat) (ha : a < top) (hb : b < top) (hd : d < top) (hab : a ≠ b) : nearN d b a = !nearN d a b := by
  have h1 := subN_inj a b d ha hb hd
  unfold nearN
  by_cases h2 : farN a d = farN b d
  · have h3 : subN a d ≠ subN b d := fun e => hab (h1 e)
    rw [if_pos h2, if_pos h2.symm]
    by_cases h4 : subN a d < subN b d
    · have h5 : ¬ subN b d < subN a d := by omega
      simp [h4, h5]
    · have h5 : subN b d < subN a d := by omega
      simp [h4, h5]
  · rw [if_neg h2, if_neg (Ne.symm h2)]
    by_cases h4 : farN a d < farN b d
    · have h5 : ¬ farN b d < farN a d := by omega
      simp [h4, h5]
    · have h5 : farN b d < farN a d := by omega
      simp [h4, h5]
theorem near_iff (d a b : Nat) : nearN d a b = true ↔ farN a d < farN b d ∨ (farN a d = farN b d ∧ subN a d < subN b d) := by
  unfold nearN
  split
  · rename_i h; simp [h]
  · rename_i h; simp [h]
theorem near_trans (d a b c : Nat) (h1 : nearN d a b = true) (h2 : nearN d b c = true) : nearN d a c = true := by
  rw [near_iff] at *
  omega
end Go.Proofs.Ytjahegiopigblaa
