/- Arguments that are lists of numbers, opened, with their lengths. -/
import Derived.Test.YthlfjbnfeclkmaaFr5
namespace Go.Proofs.Ythlfjbnfeclkmaa
open Go.ChangeShapes Go.WideShapes Go.ChangeAt Go.RowKit

theorem cells2 : Try.prog.cellsOf 2 = 1 := by kernel_rfl
section
variable {H : Type} {enc : TypeId × Value → H} {w : World} {base : Nat} {spare : Nat → Bool} {held : Bool}
theorem open_isl2 {r : Reach} {b0 : Nat} {v : Value} {d : DataW H} {ps : List MemPlace} (hval : Value.okWide Try.prog w r b0 46 v) (hd : DataW.Trod enc Try.prog w base spare held 46 v d ps) :
    ∃ ao cap xs, v = .slice ao (List.length xs) cap ∧ IC w ao cap xs ∧ xs.length < 9223372036854775808 := by
  obtain ⟨a0, len0, cap0, rfl⟩ := okWide_slice Try.underlying46 hval
  obtain ⟨fuel, hf⟩ := hd
  rcases open_ints Try.underlying46 Try.underlying2 cells2 hf with ⟨hcs, hx⟩ | ⟨a, len, cap, zs, hcs, _, hl, hm, hz, hx, hcell, hwz⟩
  · exact ⟨none, 0, [], by simpa [Value.cells] using hcs, ⟨by simp, fun _ => rfl, fun ad h => by (cases h)⟩, by decide⟩
  · have hle : len ≤ zs.length := by rw [hz]; split <;> omega
    have hlen : (zs.take len).length = len := by simp; omega
    refine ⟨some a, cap, zs.take len, by rw [hlen]; simpa [Value.cells] using hcs, ⟨by omega, fun h => by (cases h), fun ad ha j hj => ?_⟩, by simp only [maxLen] at hm; omega⟩
    cases ha
    rw [hlen] at hj
    rw [hcell j (by omega)]
    have h3 : (zs.take len).getD j 0 = zs.getD j 0 := by
      rw [List.getD_eq_getElem?_getD, List.getElem?_take, if_pos hj, List.getD_eq_getElem?_getD]
    rw [h3]
end
end Go.Proofs.Ythlfjbnfeclkmaa
