/- Trails as lists of numbers: rounds taken out, steps, places, how many differ. -/
import Derived.Test.YtkjnefgenffhcaaGLaw
namespace Go.Proofs.Ytkjnefgenffhcaa
open Go.RowKit
/-- Where a place stands last among the first k; nought, if nowhere. -/
def lstF (l : List Int) : Nat → Int → Int
  | 0, _ => 0
  | k + 1, x => if x = l.getD k 0 then (k : Int) else lstF l k x
/-- How many differ. -/
def dcn {α : Type} [DecidableEq α] : List α → Nat
  | [] => 0
  | x :: r => if x ∈ r then dcn r else dcn r + 1
theorem dcn_le {α : Type} [DecidableEq α] : ∀ l : List α, dcn l ≤ l.length
  | [] => Nat.le_refl _
  | x :: r => by
    have := dcn_le r
    unfold dcn
    split <;> simp only [List.length_cons] <;> omega
theorem dcn_nodup {α : Type} [DecidableEq α] : ∀ l : List α, dcn l = l.length ↔ l.Nodup
  | [] => by simp [dcn]
  | x :: r => by
    have h1 := dcn_le r
    have h2 := dcn_nodup r
    unfold dcn
    rw [List.nodup_cons, List.length_cons]
    split
    · rename_i h
      constructor
      · intro h; omega
      · intro h3; exact absurd h h3.1
    · rename_i h
      constructor
      · intro h3; exact ⟨h, h2.1 (by omega)⟩
      · intro h3; have := h2.2 h3.2; omega
theorem dcn_simple (l : List Int) : decide (((dcn l.reverse : Nat) : Int) = ((l.length : Nat) : Int)) = decide l.Nodup := by
  apply decide_eq_decide.2
  have h := dcn_nodup l.reverse
  rw [List.length_reverse, (List.reverse_perm l).nodup_iff] at h
  rw [← h]
  omega
theorem take_rev {l : List Int} {k : Nat} (h : k < l.length) : (l.take (k + 1)).reverse = l.getD k 0 :: (l.take k).reverse := by
  rw [List.take_add_one, List.getElem?_eq_getElem h]
  simp [List.getD_eq_getElem?_getD, h]
/-- Where a place stands first; -1. -/
def plc (l : List Int) (x : Int) : Int := if x ∈ l then ((l.idxOf x : Nat) : Int) else -1
theorem getD_memZ {l : List Int} {j : Nat} (hj : j < l.length) : l.getD j 0 ∈ l := by
  have : l.getD j 0 = l[j] := by simp [List.getD_eq_getElem?_getD, hj]
  rw [this]
  exact List.getElem_mem hj
theorem plc_at {l : List Int} {x : Int} {j : Nat} (hj : j < l.length) (he : l.getD j 0 = x) (hn : ∀ i, i < j → l.getD i 0 ≠ x) : plc l x = (j : Int) := by
  have hm : x ∈ l := he ▸ getD_memZ hj
  have h1 := List.idxOf_lt_length_of_mem hm
  have h2 : l[l.idxOf x] = x := List.getElem_idxOf h1
  have h3 : l.getD (l.idxOf x) 0 = x := by
    rw [List.getD_eq_getElem?_getD, List.getElem?_eq_getElem h1]
    exact h2
  have h4 : ¬ l.idxOf x < j := fun h => hn _ h h3
  have h5 : ¬ j < l.idxOf x := fun h => by
    have h6 := List.not_of_lt_findIdx h
    have h7 : l[j] = x := by
      rw [← he]
      simp [List.getD_eq_getElem?_getD, hj]
    rw [h7] at h6
    simp at h6
  unfold plc
  rw [if_pos hm]
  omega
theorem plc_none {l : List Int} {x : Int} (h : ∀ i, i < l.length → l.getD i 0 ≠ x) : plc l x = -1 := by
  unfold plc
  rw [if_neg]
  intro hm
  obtain ⟨i, hi, rfl⟩ := List.mem_iff_getElem.1 hm
  exact h i hi (by simp [List.getD_eq_getElem?_getD, hi])
theorem plc_nodup {l : List Int} (h : l.Nodup) {i : Nat} (hi : i < l.length) : plc l (l.getD i 0) = (i : Int) := by
  refine plc_at hi rfl fun j hj e => ?_
  rw [List.nodup_iff_pairwise_ne, List.pairwise_iff_getElem] at h
  have hj' : j < l.length := by omega
  refine h j i hj' hi hj ?_
  simpa [List.getD_eq_getElem?_getD, hi, hj'] using e
theorem upto_succ {p : Nat → Prop} {j : Nat} (h : ∀ i, i < j → p i) (hj : p j) : ∀ i, i < j + 1 → p i := fun i hi => by
  by_cases e : i = j
  · exact e ▸ hj
  · exact h i (by omega)
end Go.Proofs.Ytkjnefgenffhcaa
