/- Arguments that are scripts of calls, opened. -/
import Derived.Test.YtaejjmoocnpdaaaFr2
import Derived.Test.YtaejjmoocnpdaaaD9
namespace Go.Proofs.Ytaejjmoocnpdaaa
open Go.ChangeShapes Go.WideShapes Go.ChangeAt Go.RowKit

theorem cells3 : Try.prog.cellsOf 3 = 1 := by kernel_rfl
theorem cells22 : Try.prog.cellsOf 22 = 1 := by kernel_rfl
theorem flat_get : ∀ (os : List OpV) (m : Nat) (v : Value), (os.flatMap opC)[m]? = some v → ∃ o, os[m / 3]? = some o ∧ (opC o)[m % 3]? = some v
  | [], m, v, h => by simp at h
  | x :: os, m, v, h => by
    rw [List.flatMap_cons] at h
    by_cases hm : m < 3
    · rw [List.getElem?_append_left (by simpa [opC] using hm)] at h
      exact ⟨x, by rw [Nat.div_eq_of_lt hm]; rfl, by rw [Nat.mod_eq_of_lt hm]; exact h⟩
    · rw [List.getElem?_append_right (by simp [opC]; omega)] at h
      have hl : (opC x).length = 3 := rfl
      rw [hl] at h
      obtain ⟨o, h1, h2⟩ := flat_get os (m - 3) v h
      refine ⟨o, ?_, ?_⟩
      · have : m / 3 = (m - 3) / 3 + 1 := by omega
        rw [this, List.getElem?_cons_succ]
        exact h1
      · have : m % 3 = (m - 3) % 3 := by omega
        rw [this]
        exact h2
theorem flat_len3 : ∀ (os : List OpV), (os.flatMap opC).length = os.length * 3
  | [] => rfl
  | x :: os => by
    rw [List.flatMap_cons, List.length_append, flat_len3 os, List.length_cons]
    have hl : (opC x).length = 3 := rfl
    omega
section
variable {H : Type} {enc : TypeId × Value → H} {w : World} {base : Nat} {spare : Nat → Bool} {held : Bool}
theorem weights_all {P : Program} {e : TypeId} : ∀ (l : List (DataW H)) (d : DataW H), d ∈ l → ∀ y ∈ d.weights P e, y ∈ DataW.weightsAll P e l
  | [], _, h, _, _ => by cases h
  | x :: l, d, h, y, hy => by
    rw [DataW.weightsAll, List.mem_append]
    rcases List.mem_cons.1 h with rfl | h
    · exact .inl hy
    · exact .inr (weights_all l d h y hy)
end
end Go.Proofs.Ytaejjmoocnpdaaa
