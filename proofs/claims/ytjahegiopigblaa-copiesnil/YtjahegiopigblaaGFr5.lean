/- Arguments that are lists of bytes, and numbers, opened. -/
import Derived.Test.YtjahegiopigblaaGFr2
import Derived.Test.YtjahegiopigblaaGQ0
namespace Go.Proofs.Ytjahegiopigblaa
open Go.ChangeShapes Go.WideShapes Go.ChangeAt Go.RowKit
structure IC (w : World) (ao : Option Addr) (cap : Nat) (xs : List Int) : Prop where
  fit : xs.length ≤ cap
  bare : ao = none → cap = 0
  cell : ∀ ad, ao = some ad → ∀ j, j < xs.length → w.cell? (ad.add j) = some (.int .i64 (xs.getD j 0))
theorem IC.at {w : World} {ao : Option Addr} {cap : Nat} {xs : List Int} (h : IC w ao cap xs) {j : Nat} (hj : j < xs.length) : ∃ ad, ao = some ad ∧ w.cell? (ad.add j) = some (.int .i64 (xs.getD j 0)) := by
  cases hao : ao with
  | none => have := h.bare hao; have := h.fit; omega
  | some ad => exact ⟨ad, rfl, h.cell ad hao j hj⟩
section
variable {H : Type} {enc : TypeId × Value → H} {w : World} {base : Nat} {spare : Nat → Bool} {held : Bool}
theorem weights_all {P : Program} {e : TypeId} : ∀ (l : List (DataW H)) (d : DataW H), d ∈ l → ∀ y ∈ d.weights P e, y ∈ DataW.weightsAll P e l
  | [], _, h, _, _ => by cases h
  | x :: l, d, h, y, hy => by
    rw [DataW.weightsAll, List.mem_append]
    rcases List.mem_cons.1 h with rfl | h
    · exact .inl hy
    · exact .inr (weights_all l d h y hy)
end
end Go.Proofs.Ytjahegiopigblaa
