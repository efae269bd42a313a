/- Identities and rows of them as arguments. -/
import Derived.Test.YtkckjkimjeakcaaI15
import Derived.Test.YtkckjkimjeakcaaFr
import Derived.ProofKit
namespace Go.Proofs.Ytkckjkimjeakcaa
open Go.ChangeShapes Go.WideShapes Go.ChangeAt Go.RowKit

section
variable {H : Type} {enc : TypeId × Value → H} {w : World} {spare : Nat → Bool} {held : Bool}
theorem cells_rowI {a : Addr} {n : Nat} {l : List Value} {base : Nat} (h : w.cells? base a n = some l) : ∀ r, r < n → w.cell? (a.add r) = l[r]? := by
  intro r hr
  unfold World.cells? at h
  split at h
  · exact mapM_some_get h r r (by simp [hr])
  · cases h
/-- A slice of identities, opened. -/
theorem open_ids {v : Value} {d : DataW H} {ps : List MemPlace} (hd : DataW.Trod enc Try.prog w 0 spare held 24 v d ps) (hv : v.cells.toList = [v]) :
    ∃ ao cap l, v = .slice ao l.length cap ∧ RC w ao cap l := by
  obtain ⟨fuel, hf⟩ := hd
  rw [hv] at hf
  rcases DataW.trod_slice Try.underlying24 hf with ⟨h0, _⟩ | ⟨a, len, cap, elems, rest, n, _, h0, _, hb, hl, hm, hlen, hel, _, _⟩
  · simp only [List.cons.injEq, and_true] at h0
    exact ⟨none, 0, [], h0, RC.nil w⟩
  · simp only [List.cons.injEq, and_true] at h0
    have key : ∀ i, ∃ x, i < len → x < top ∧ w.cells? 0 (a.add (i * 16)) 16 = some (idA x).toList := fun i => by
      by_cases hi : i < len
      · have h1 := hel i hi
        rw [List.getElem?_eq_getElem (by omega), cells23] at h1
        cases hc : w.cells? 0 (a.add (i * 16)) 16 with
        | none => rw [hc] at h1; cases h1
        | some lst =>
          rw [hc] at h1
          obtain ⟨x, hx, hh⟩ := id_of_trod h1
          exact ⟨x, fun _ => ⟨hx, by rw [hh]⟩⟩
      · exact ⟨0, fun h => absurd h hi⟩
    obtain ⟨f, hfun⟩ := Classical.axiomOfChoice key
    have hlen' : ((List.range len).map f).length = len := by simp
    refine ⟨some a, cap, (List.range len).map f, by rw [hlen']; exact h0, ⟨⟨fl_len _, by rw [hlen']; omega, fun h => (by cases h), fun ad ha j u hu => ?_, fl_one⟩, fun x hx => ?_⟩⟩
    · cases ha
      have hj := (List.getElem?_eq_some_iff.1 hu).1
      rw [fl_len, hlen'] at hj
      rw [fl_get _ j (by rw [hlen']; exact hj)] at hu
      have hg : ((List.range len).map f).getD (j / 16) 0 = f (j / 16) := by
        rw [List.getD_eq_getElem?_getD, List.getElem?_map, List.getElem?_range (by omega)]
        rfl
      rw [hg] at hu
      have hc := cells_rowI (hfun (j / 16) (by omega)).2 (j % 16) (by omega)
      rw [add_add, show j / 16 * 16 + j % 16 = j by omega] at hc
      rw [hc]
      exact hu
    · obtain ⟨i, hi, rfl⟩ := List.mem_map.1 hx
      exact (hfun i (List.mem_range.1 hi)).1
end
end Go.Proofs.Ytkckjkimjeakcaa
