/- Frames: arguments that are rows of numbers, opened; how great they can be. -/
import Derived.Test.YtjahegiopigblaaRows
import Derived.Test.YtjahegiopigblaaGFr
import Derived.Test.YtjahegiopigblaaGB4
import Derived.ProofKit
import Derived.OpenShut
import Derived.SizedLaws
import Derived.JoinedCond
namespace Go.Proofs.Ytjahegiopigblaa
open Go.ChangeShapes Go.WideShapes Go.ChangeAt Go.RowKit
theorem getD_mem {α : Type} (l : List α) (d : α) (k : Nat) (h : k < l.length) : l.getD k d ∈ l := by
  rw [List.getD_eq_getElem?_getD, List.getElem?_eq_getElem h]
  exact List.getElem_mem h
theorem bytes5 : Try.prog.bytesOf 5 = 1 := by kernel_rfl
section
variable {H : Type} {enc : TypeId × Value → H} {w : World} {base : Nat} {spare : Nat → Bool} {held : Bool}
/-- How the reading of a row of numbers is as long as the row. -/
def asLong (d : DataW H) (l : List Nat) : Prop := (d = .nil ∧ l = []) ∨ ∃ el sp, d = .slice el sp ∧ el.length = l.length
theorem open_row {t e : TypeId} {k : IntKind} {b : Nat} (T : NumT Try.prog t e k b) (hc : Try.prog.cellsOf e = 1) (hk : k.min = 0) {fuel : Nat} {cs : List Value} {x : DataW H × List MemPlace} (hd : DataW.trod enc Try.prog w base spare held fuel t cs = some x) :
    ∃ ao cap l, cs = [.slice ao (List.length l) cap] ∧ NC w k ao cap l ∧ cap ≤ maxLen ∧ asLong x.1 l := by
  rcases open_ints T.und T.ue hc hd with ⟨hcs, hx⟩ | ⟨a, len, cap, zs, hcs, _, hl, hm, hz, hx, hcell, hwz⟩
  · exact ⟨none, 0, [], hcs, NC.nil _ _, by decide, .inl ⟨by rw [hx], rfl⟩⟩
  · have hle : len ≤ zs.length := by rw [hz]; split <;> omega
    have hlen : ((zs.take len).map Int.toNat).length = len := by simp; omega
    have hb : ∀ z ∈ zs, 0 ≤ z ∧ z ≤ k.max := fun z hz => by
      have := hwz z hz
      simp [Lit.wf, hk] at this
      exact this
    refine ⟨some a, cap, (zs.take len).map Int.toNat, by rw [hlen]; exact hcs, ⟨by omega, fun h => by (cases h), fun ad ha j hj => ?_, fun x hx => ?_⟩, hm, .inr ⟨_, _, by rw [hx], by rw [hlen]; simp [lits]; omega⟩⟩
    · cases ha
      rw [hlen] at hj
      rw [hcell j (by omega)]
      have h1 : zs.getD j 0 ∈ zs := getD_mem zs 0 j (by omega)
      have h2 := hb _ h1
      have h3 : ((zs.take len).map Int.toNat).getD j 0 = (zs.getD j 0).toNat := by
        rw [List.getD_eq_getElem?_getD, List.getElem?_map, List.getElem?_take, if_pos hj, List.getD_eq_getElem?_getD, List.getElem?_eq_getElem (by omega)]
        rfl
      rw [h3, Int.toNat_of_nonneg h2.1]
    · obtain ⟨z, hz1, rfl⟩ := List.mem_map.1 hx
      have := hb z (List.mem_of_mem_take hz1)
      omega
end
end Go.Proofs.Ytjahegiopigblaa
