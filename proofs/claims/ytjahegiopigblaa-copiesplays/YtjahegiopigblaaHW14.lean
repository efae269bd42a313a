/- Laws over any program: a region that draws its order, reads, makes new blocks and fills them, told operation by operation. -/
import Derived.Test.YtjahegiopigblaaHLaw
import Derived.Test.YtjahegiopigblaaHOps
import Derived.Test.YtjahegiopigblaaHB4
import Derived.Test.YtjahegiopigblaaHW6
namespace Go.Proofs.Ytjahegiopigblaa
open Go.RowKit
section
variable {P : Program}
/-- What an operation leaves: kind 0: this value; kind 1: a new block, that the operation 'other' fills with 'late'; kind 2: it fills the block that the operation 'other' has laid. -/
structure PostS where
  kind : Nat
  value : Value
  type : TypeId
  cells : Array Value
  late : Array Value
  other : Nat
def PostS.val (v : Value) : PostS := ⟨0, v, 0, #[], #[], 0⟩
def PostS.new (t : TypeId) (cs late : Array Value) (j : Nat) : PostS := ⟨1, undef, t, cs, late, j⟩
def PostS.put (j : Nat) : PostS := ⟨2, undef, 0, #[], #[], j⟩
structure PostS.holds (L : Nat → Bool) (B : Nat) (k : PostS) (v : Value) (w : World) : Prop where
  isVal : k.kind = 0 → v = k.value
  isNew : k.kind = 1 → ∃ g, v = .pointer (some ⟨g, 0, none⟩) ∧ w.heap[g]? = some (.cells (if L k.other = true then k.late else k.cells) k.type (0, 0)) ∧ B ≤ g
structure PostS.step (k tk : PostS) (tv v : Value) (w w' : World) : Prop where
  isVal : k.kind = 0 → Gro w w' ∧ v = k.value
  isNew : k.kind = 1 → Gro w w' ∧ ∃ g, v = .pointer (some ⟨g, 0, none⟩) ∧ w'.heap[g]? = some (.cells k.cells k.type (0, 0)) ∧ w.heap.size ≤ g
  isPut : 2 ≤ k.kind → ∃ g, tv = .pointer (some ⟨g, 0, none⟩) ∧ Stored w w' g (.cells tk.late tk.type (0, 0))
def PostS.upon (P : Program) (k tk : PostS) (tv : Value) (w : World) : Result Next → Prop
  | .ok (.value v) w' => k.step tk tv v w w'
  | .ok .skip w' => k.step tk tv undef w w'
  | .ok (.enter f args) w' => Calls P f args w' fun e w'' => ∃ v, e = .returned v ∧ k.step tk tv v w w''
  | _ => False
/-! ### The same, for a region that is written out -/
def PostS.fill (k : PostS) (v : Value) : Value :=
  match k.kind with
  | 0 => k.value
  | _ => v
theorem PostS.fill_of_holds {L : Nat → Bool} {B : Nat} {k : PostS} {v : Value} {w : World} (h : k.holds L B v w) : k.fill v = v := by
  obtain ⟨n, u, t, cs, ls, oo⟩ := k
  cases n with
  | zero => exact (h.isVal rfl).symm
  | succ n => rfl
end
end Go.Proofs.Ytjahegiopigblaa
namespace Go.Proofs.Ytjahegiopigblaa
open Go.RowKit
theorem subN_inj (a b d : Nat) (ha : a < top) (hb : b < top) (hd : d < top) (h : subN a d = subN b d) : a = b := by
  unfold subN top at *
  omega
theorem near_irr (d a : Nat) : nearN d a a = false := by simp [nearN]
theorem near_not (d a b : Nat) (ha : a < top) (hb : b < top) (hd : d < top) (hab : a ≠ b) : nearN d b a = !nearN d a b := by
  have h1 := subN_inj a b d ha hb hd
  unfold nearN
  by_cases h2 : farN a d = farN b d
  · have h3 : subN a d ≠ subN b d := fun e => hab (h1 e)
    rw [if_pos h2, if_pos h2.symm]
    by_cases h4 : subN a d < subN b d
    · have h5 : ¬ subN b d < subN a d := by omega
      simp [h4, h5]
    · have h5 : subN b d < subN a d := by omega
      simp [h4, h5]
  · rw [if_neg h2, if_neg (Ne.symm h2)]
    by_cases h4 : farN a d < farN b d
    · have h5 : ¬ farN b d < farN a d := by omega
      simp [h4, h5]
    · have h5 : farN b d < farN a d := by omega
      simp [h4, h5]
theorem near_iff (d a b : Nat) : nearN d a b = true ↔ farN a d < farN b d ∨ (farN a d = farN b d ∧ subN a d < subN b d) := by
  unfold nearN
  split
  · rename_i h; simp [h]
  · rename_i h; simp [h]
theorem near_trans (d a b c : Nat) (h1 : nearN d a b = true) (h2 : nearN d b c = true) : nearN d a c = true := by
  rw [near_iff] at *
  omega
end Go.Proofs.Ytjahegiopigblaa
