/- Rows of numbers as arguments. -/
import Derived.Test.YtjbpgiphimmleaaT6
import Derived.Test.YtjbpgiphimmleaaFr
import Derived.ProofKit
namespace Go.Proofs.Ytjbpgiphimmleaa
open Go.ChangeShapes Go.WideShapes Go.ChangeAt Go.RowKit

section
variable {H : Type} {enc : TypeId × Value → H} {w : World} {base : Nat} {spare : Nat → Bool} {held : Bool}
/-- A slice of numbers, opened. -/
theorem open_row22 {r : Reach} {b0 : Nat} {v : Value} {d : DataW H} {ps : List MemPlace} (hval : Value.okWide Try.prog w r b0 22 v) (hd : DataW.Trod enc Try.prog w base spare held 22 v d ps) :
    ∃ ao cap l, v = .slice ao (List.length l) cap ∧ RC w ao cap l := by
  obtain ⟨a0, len0, cap0, rfl⟩ := okWide_slice Try.underlying22 hval
  obtain ⟨fuel, hf⟩ := hd
  rcases open_ints Try.underlying22 Try.underlying3 cellsI hf with ⟨hcs, hx⟩ | ⟨a, len, cap, zs, hcs, _, hl, hm, hz, hx, hcell, hwz⟩
  · exact ⟨none, 0, [], by simpa [Value.cells] using hcs, RC.nil w⟩
  · have hle : len ≤ zs.length := by rw [hz]; split <;> omega
    have hlen : (zs.take len).length = len := by simp; omega
    refine ⟨some a, cap, zs.take len, by rw [hlen]; simpa [Value.cells] using hcs, ⟨⟨ci_len _, by omega, fun h => by (cases h), fun ad ha j v hv => ?_, ci_one _⟩, fun x hx => I64.of (hwz x (List.mem_of_mem_take hx))⟩⟩
    cases ha
    have hj := (List.getElem?_eq_some_iff.1 hv).1
    rw [ci_len, Nat.mul_one] at hj
    rw [ci_get hj] at hv
    rw [← hv]
    rw [hlen] at hj
    rw [hcell j (by omega)]
    have h3 : (zs.take len).getD j 0 = zs.getD j 0 := by
      rw [List.getD_eq_getElem?_getD, List.getElem?_take, if_pos hj, List.getD_eq_getElem?_getD]
    rw [h3]
end
end Go.Proofs.Ytjbpgiphimmleaa
