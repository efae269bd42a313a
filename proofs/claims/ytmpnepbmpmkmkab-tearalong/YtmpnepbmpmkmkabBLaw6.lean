/- A region in whatever order, over any program, in which one operation changes what was there: what may run ahead of it lays values, all else runs behind it. -/
import Derived.Test.YtmpnepbmpmkmkabBLaw3
namespace Go.Proofs.Ytmpnepbmpmkmkab
open Go.RowKit
section
variable {P : Program}
def PostE.uponX (P : Program) (R1 : World → Prop) (k : PostE) : Result Next → Prop
  | .ok (.value v) w' => R1 w' ∧ k.p v w'
  | .ok .skip w' => R1 w' ∧ k.p undef w'
  | .ok (.enter f args) w' => Calls P f args w' fun e w'' => ∃ v, e = .returned v ∧ R1 w'' ∧ k.p v w''
  | _ => False
theorem Oper.wp_of_uponX {o : Oper} {R1 : World → Prop} {k : PostE} {a : Act} {w : World} {K : Act → World → Prop} {Q : Exit → Act → World → Prop} {r : Result Next} (he : (execOp a.eval o).run P w = r) (h : k.uponX P R1 r)
    (hK : ∀ v w', R1 w' → k.p v w' → K (a.put o.dst v) w') : o.wp P a w K Q := by
  unfold Oper.wp
  rw [he]
  cases r with
  | ok n w' =>
    cases n <;> simp only [PostE.uponX] at h <;> simp only [Oper.upon]
    case value v => exact hK _ _ h.1 h.2
    case skip => exact hK _ _ h.1 h.2
    case enter f args => exact Calls.mono h fun e w'' ⟨v, he, hg, hv⟩ => by subst he; exact hK _ _ hg hv
  | halt x w' => simp only [PostE.uponX] at h
structure GrowInvP (ops : Array Oper) (n : Nat) (D : List (Nat × Nat)) (posts : Nat → PostE) (a0 : Act) (R0 R1 : World → Prop) (e0 : Nat) (listed : Array Bool) (vals : Nat → Value) (a : Act) (w : World) : Prop where
  size : listed.size = ops.size
  late : ∀ i, n ≤ i → listed.getD i false = false
  closed : ∀ j o, ops[j]? = some o → listed.getD j false = true → ∀ e ∈ edges o, listed.getD e false = true
  defers : a.defers = a0.defers
  tsize : a.tmps.size = a0.tmps.size
  slot : ∀ i d, (i, d) ∈ D → listed.getD i false = true → a.tmps[d]? = some (vals i)
  other : ∀ s, (∀ p ∈ D, p.2 ≠ s) → a.tmps[s]? = a0.tmps[s]?
  ahead : listed.getD e0 false = false → R0 w
  behind : listed.getD e0 false = true → R1 w
  post : ∀ i, i < n → listed.getD i false = true → (posts i).p (vals i) w
structure OpX (P : Program) (ops : Array Oper) (R1 : World → Prop) (k : PostE) (o : Oper) (A : Act) (w : World) : Prop where
  want : Region.wanted o (yielded ops A.tmps) = true
  out : k.uponX P R1 ((execOp A.eval o).run P w)
theorem opX_call {ops : Array Oper} {R1 : World → Prop} {o : Oper} {A : Act} {w : World} (k : PostE) (hw : Region.wanted o (yielded ops A.tmps) = true) (c : Call) (f : FuncId) (hen : ∀ args w, (callFunc f args).run P w = .ok (.enter f args) w) (ho : o.op = .call c) (hc : c.callee = .value (.func f)) (xs : List Operand) (hxs : c.args = xs.toArray) (vs : List Value) (hvs : xs.map A.eval = vs)
    (H : Calls P f vs.toArray w fun e w' => ∃ v, e = .returned v ∧ R1 w' ∧ k.p v w') : OpX P ops R1 k o A w :=
  ⟨hw, by rw [run_call c f hen ho hc, hxs, List.map_toArray, hvs]; exact H⟩
end
end Go.Proofs.Ytmpnepbmpmkmkab
