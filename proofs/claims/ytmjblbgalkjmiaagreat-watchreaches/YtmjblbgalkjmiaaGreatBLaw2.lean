/- Laws over any program: a region that draws its order, reads, makes new blocks and fills them, told operation by operation. -/
import Derived.Test.YtmjblbgalkjmiaaGreatBLaw
import Derived.Test.YtmjblbgalkjmiaaGreatBOps
namespace Go.Proofs.YtmjblbgalkjmiaaGreat
open Go.RowKit
section
variable {P : Program}
/-- What an operation leaves: kind 0: this value; kind 1: a new block, that the operation 'other' fills with 'late'; kind 2: it fills the block that the operation 'other' has laid. -/
structure PostS where
  kind : Nat
  value : Value
  type : TypeId
  cells : Array Value
  late : Array Value
  other : Nat
def PostS.val (v : Value) : PostS := ⟨0, v, 0, #[], #[], 0⟩
def PostS.new (t : TypeId) (cs late : Array Value) (j : Nat) : PostS := ⟨1, undef, t, cs, late, j⟩
def PostS.put (j : Nat) : PostS := ⟨2, undef, 0, #[], #[], j⟩
structure PostS.step (k tk : PostS) (tv v : Value) (w w' : World) : Prop where
  isVal : k.kind = 0 → Gro w w' ∧ v = k.value
  isNew : k.kind = 1 → Gro w w' ∧ ∃ g, v = .pointer (some ⟨g, 0, none⟩) ∧ w'.heap[g]? = some (.cells k.cells k.type (0, 0)) ∧ w.heap.size ≤ g
  isPut : 2 ≤ k.kind → ∃ g, tv = .pointer (some ⟨g, 0, none⟩) ∧ Stored w w' g (.cells tk.late tk.type (0, 0))
def PostS.upon (P : Program) (k tk : PostS) (tv : Value) (w : World) : Result Next → Prop
  | .ok (.value v) w' => k.step tk tv v w w'
  | .ok .skip w' => k.step tk tv undef w w'
  | .ok (.enter f args) w' => Calls P f args w' fun e w'' => ∃ v, e = .returned v ∧ k.step tk tv v w w''
  | _ => False
/-! ### The same, for a region that is written out -/
def PostS.fill (k : PostS) (v : Value) : Value :=
  match k.kind with
  | 0 => k.value
  | _ => v
end
end Go.Proofs.YtmjblbgalkjmiaaGreat
