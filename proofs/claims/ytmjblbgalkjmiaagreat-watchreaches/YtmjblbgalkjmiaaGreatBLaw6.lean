/- A region in whatever order, over any program, in which one operation changes what was there: what may run ahead of it lays values, all else runs behind it. -/
import Derived.Test.YtmjblbgalkjmiaaGreatBLaw3
namespace Go.Proofs.YtmjblbgalkjmiaaGreat
open Go.RowKit
section
variable {P : Program}
def PostE.uponX (P : Program) (R1 : World → Prop) (k : PostE) : Result Next → Prop
  | .ok (.value v) w' => R1 w' ∧ k.p v w'
  | .ok .skip w' => R1 w' ∧ k.p undef w'
  | .ok (.enter f args) w' => Calls P f args w' fun e w'' => ∃ v, e = .returned v ∧ R1 w'' ∧ k.p v w''
  | _ => False
theorem Oper.wp_of_uponX {o : Oper} {R1 : World → Prop} {k : PostE} {a : Act} {w : World} {K : Act → World → Prop} {Q : Exit → Act → World → Prop} {r : Result Next} (he : (execOp a.eval o).run P w = r) (h : k.uponX P R1 r)
    (hK : ∀ v w', R1 w' → k.p v w' → K (a.put o.dst v) w') : o.wp P a w K Q := by
  unfold Oper.wp
  rw [he]
  cases r with
  | ok n w' =>
    cases n <;> simp only [PostE.uponX] at h <;> simp only [Oper.upon]
    case value v => exact hK _ _ h.1 h.2
    case skip => exact hK _ _ h.1 h.2
    case enter f args => exact Calls.mono h fun e w'' ⟨v, he, hg, hv⟩ => by subst he; exact hK _ _ hg hv
  | halt x w' => simp only [PostE.uponX] at h
structure OpX (P : Program) (ops : Array Oper) (R1 : World → Prop) (k : PostE) (o : Oper) (A : Act) (w : World) : Prop where
  want : Region.wanted o (yielded ops A.tmps) = true
  out : k.uponX P R1 ((execOp A.eval o).run P w)
theorem opX_store {ops : Array Oper} {R1 : World → Prop} {o : Oper} {A : Act} {w : World} (k : PostE) (hw : Region.wanted o (yielded ops A.tmps) = true) (ty : TypeId) (x y : Operand) (ho : o.op = .store ty x y)
    (g off : Nat) (hx : A.eval x = .pointer (some ⟨g, off, none⟩)) (v : Value) (hy : A.eval y = v) (t : TypeId) (old : Array Value) (hg : w.heap[g]? = some (.cells old t (0, 0))) (vs : Array Value) (hc : v.cells = vs) (hi : (P.info? ty).map (·.size) = some vs.size) (hle : off + vs.size ≤ old.size) (h1 : vs.all (·.oneCell') = true) (new : Array Value) (hn : splice old off vs = new)
    (H : ∀ w', Stored w w' g (.cells new t (0, 0)) → R1 w' ∧ k.p undef w') : OpX P ops R1 k o A w :=
  ⟨hw, by
    subst hc
    subst hn
    have := H _ (stored_setRow _ hg)
    unfold execOp
    simp only [ho, hx, hy, Instr.storeAt, Instr.sureAddr, Sem.run_bind, Sem.run_pure, Result.andThen_ok, run_storeVar_at w g off t ty old v hg hi hle h1]
    exact this⟩
end
end Go.Proofs.YtmjblbgalkjmiaaGreat
