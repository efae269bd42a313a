/- The order of keys, and entries sorted by it. -/
import Derived.Test.YtkjnefgenffhcaaGP6
namespace Go.Proofs.Ytkjnefgenffhcaa.D
open Go.RowKit
section
variable {P : Program} {ops : Array Oper} {rest : List Oper} {o : Oper} {T : List Value} {ds : List Deferred} {w : World} {Q : Exit → Act → World → Prop}
theorem s_box (dst : Nat) (hd : o.dst = some dst) (hgd : o.guard = none) (ty : TypeId) (x : Operand) (ho : o.op = .box ty x) (v : Value) (hx : (⟨T.toArray, ds⟩ : Act).eval x = v) (cs : Array Value) (hc : v.cells = cs)
    (h : ∀ w' g, Gro w w' → w.heap.size = g → w'.heap[g]? = some (.cells cs ty (0, 0)) → wpList P ops Q rest ⟨(T.set dst (.pointer (some ⟨g, 0, none⟩))).toArray, ds⟩ w') : wpList P ops Q (o :: rest) ⟨T.toArray, ds⟩ w := by
  subst hc
  refine wpList_box hgd ty x ho v hx ?_
  intro w' g G e k
  rw [hd, put_list]
  exact h w' g G e k
theorem s_bsl (dst : Nat) (hd : o.dst = some dst) (hgd : o.guard = none) (t : TypeId) (n : Nat) (l : List (Nat × Operand)) (ho : o.op = .buildSlice t n l.toArray) (vals : List (Nat × Value)) (hv : (l.map fun p => (p.1, (⟨T.toArray, ds⟩ : Act).eval p.2)) = vals) (cs : Array Value) (e : TypeId)
    (hr : (Instr.buildSlice t n vals.toArray).run P w = .ok (.slice (some ⟨w.heap.size, 0, none⟩) n n) (w.alloc (.cells cs e)))
    (h : ∀ w' g, Gro w w' → w.heap.size = g → w'.heap[g]? = some (.cells cs e (0, 0)) → wpList P ops Q rest ⟨(T.set dst (.slice (some ⟨g, 0, none⟩) n n)).toArray, ds⟩ w') : wpList P ops Q (o :: rest) ⟨T.toArray, ds⟩ w := by
  refine wpList_plain hgd fun _ hK => ?_
  have he := run_bsl (A := ⟨T.toArray, ds⟩) t n l ho vals hv hr
  unfold Oper.wp
  rw [he, Oper.upon_value, hd, put_list]
  exact hK _ _ (h _ _ (gro_alloc _ _) rfl (heap_alloc_new _ _))
end
end Go.Proofs.Ytkjnefgenffhcaa.D
