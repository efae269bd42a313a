/- A path begins, a Setup comes: the document's. -/
import Derived.Test.YtkjnefgenffhcaaEZ3
import Derived.Test.YtkjnefgenffhcaaEP16
namespace Go.Proofs.Ytkjnefgenffhcaa
open Go.RowKit Go.Maps
def boxZ (B : Nat) (t : TypeId) (cs : Array Value) : PostE := PostE.ex (fun v x => ∃ g, v = .pointer (some ⟨g, 0, none⟩) ∧ B ≤ g ∧ x.heap[g]? = some (.cells cs t (0, 0))) (fun _ _ _ G ⟨g, h1, h2, h3⟩ => ⟨g, h1, h2, G.has h3⟩)
theorem fill_boxZ (B : Nat) (t : TypeId) (cs : Array Value) (v : Value) : (boxZ B t cs).fill v = v := rfl
end Go.Proofs.Ytkjnefgenffhcaa
