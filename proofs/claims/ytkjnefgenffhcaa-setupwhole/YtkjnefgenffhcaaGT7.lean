/- The laws on new memory and on two trails that make one. -/
import Derived.Test.YtkjnefgenffhcaaGT5
namespace Go.Proofs.Ytkjnefgenffhcaa
open Go.RowKit Go.Maps
section
variable {w w' : World} {B : Nat} {ao : Option Addr} {cap : Nat} {l : List Int}
theorem OI.apart (h : OI w B ao cap l) {g : Nat} {x : Obj} (S : Stored w w' g x) (hg : g < B) : OI w' B ao cap l := ⟨h.own.apart S (fun ad ha => by have := (h.own.ge ad ha).1; omega), h.all⟩
/-- The block of a row of one's own that isn't empty. -/
theorem OI.blk (h : OI w B ao cap l) (h0 : 0 < l.length) : ∃ g cur, ao = some ⟨g, 0, none⟩ ∧ B ≤ g ∧ w.heap[g]? = some (.cells cur 3 (0, 0)) ∧ l.length ≤ cap ∧ cap ≤ maxLen ∧ cur.size = cap ∧ cur.toList.take l.length = ci l := by
  rcases h.own.own.2 with ⟨h1, h2⟩ | ⟨g, c, cur, h1, hB, h2, h3, h4, h5, h6⟩
  · omega
  · injection h1 with e1 e2 e3
    subst e1 e3
    exact ⟨g, cur, rfl, hB, h2, h3, h4, by omega, by rwa [Nat.mul_one] at h6⟩
theorem OI.put (h : OI w B ao cap l) {g j : Nat} {cur : Array Value} (hg : ao = some ⟨g, 0, none⟩) (hc : w.heap[g]? = some (.cells cur 3 (0, 0))) (hj : j < l.length) (y : Int) (hy : I64t y) (St : Stored w w' g (.cells (splice cur j #[.int .i64 y]) 3 (0, 0))) : OI w' B ao cap (l.set j y) := by
  subst hg
  obtain ⟨g2, cur2, h1, hB, h2, h3, h4, h5, h6⟩ := h.blk (by omega)
  cases h1
  rw [hc] at h2
  cases h2
  have hs : splice cur j #[.int .i64 y] = cur.setIfInBounds j (.int .i64 y) := splice_one _ _ _ (by omega)
  refine ⟨OX.made St.new hB (by rw [List.length_set]; exact h3) h4 ?_ (ci_len _) ?_ (ci_one _), fun x hx => ?_⟩
  · rw [hs]
    simpa using h5
  · rw [hs, List.length_set, Array.toList_setIfInBounds, Nat.mul_one, List.take_set, h6]
    simp [ci, List.map_set]
  · rcases List.mem_or_eq_of_mem_set hx with hx | hx
    · exact h.all x hx
    · exact hx ▸ hy
end
end Go.Proofs.Ytkjnefgenffhcaa
