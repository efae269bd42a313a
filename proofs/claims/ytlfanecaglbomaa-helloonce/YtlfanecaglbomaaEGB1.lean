/- Laws of earlier stages, turned to this program (GB1). -/
import Derived.Test.YtlfanecaglbomaaEA2
import Derived.Test.YtlfanecaglbomaaELaw10
namespace Go.Proofs.Ytlfanecaglbomaa
open Go.RowKit
theorem GroR.below {rb B : Nat} {a b : World} (h : GroR rb a b) (hB : B ≤ rb) (hs : B ≤ a.heap.size) : Below B a b := ⟨h.os, h.tape, h.output, h.size, fun k hk => h.old k (by omega) (by omega)⟩
section
variable {P : Program}
structure PostS.step (k tk : PostS) (tv v : Value) (w w' : World) : Prop where
  isVal : k.kind = 0 → Gro w w' ∧ v = k.value
  isNew : k.kind = 1 → Gro w w' ∧ ∃ g, v = pK g 0 ∧ w'.heap[g]? = some (.cells k.cells k.type (0, 0)) ∧ w.heap.size ≤ g
  isPut : 2 ≤ k.kind → ∃ g, tv = pK g 0 ∧ Stored w w' g (.cells tk.late tk.type (0, 0))
def PostS.upon (P : Program) (k tk : PostS) (tv : Value) (w : World) : Result Next → Prop
  | .ok (.value v) w' => k.step tk tv v w w'
  | .ok .skip w' => k.step tk tv undef w w'
  | .ok (.enter f args) w' => Calls P f args w' fun e w'' => ∃ v, e = .returned v ∧ k.step tk tv v w w''
  | _ => False
def PostS.fill (k : PostS) (v : Value) : Value :=
  match k.kind with
  | 0 => k.value
  | _ => v
structure OpOK2 (P : Program) (ops : Array Oper) (k tk : PostS) (tv : Value) (o : Oper) (A : Act) (w : World) : Prop where
  out : if Region.wanted o (yielded ops A.tmps) = true then k.upon P tk tv w ((execOp A.eval o).run P w) else k.step tk tv undef w w
end
section
variable {P : Program}
variable {ops : Array Oper} {o : Oper} {A : Act} {w : World} {tk : PostS} {tv : Value}
theorem OpOK2.of_new {t : TypeId} {cs late : Array Value} {j : Nat} (h : OpOK P ops (.new t cs) o A w) : OpOK2 P ops (.new t cs late j) tk tv o A w := by
  constructor
  have h := h.out
  have st : ∀ u w', Gro w w' ∧ (PostK.new t cs).gives u w w' → (PostS.new t cs late j).step tk tv u w w' := fun u w' ⟨h1, h2⟩ => ⟨fun h => (by cases h), fun _ => ⟨h1, h2⟩, fun h => by simp [PostS.new] at h⟩
  split
  · rename_i hw
    rw [if_pos hw] at h
    cases hr : (execOp A.eval o).run P w with
    | halt x w' => rw [hr] at h; exact h
    | ok n w' =>
      rw [hr] at h
      cases n <;> simp only [PostK.upon] at h <;> simp only [PostS.upon]
      case value u => exact st _ _ h
      case skip => exact st _ _ h
      case enter f args => exact h.mono fun e w'' ⟨u, he, hu⟩ => ⟨u, he, st _ _ hu⟩
  · rename_i hw
    rw [if_neg hw] at h
    exact st _ _ ⟨Gro.refl _, h⟩
end
end Go.Proofs.Ytlfanecaglbomaa
