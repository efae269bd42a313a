/- slices.SortFunc over a row of items, by their keys. -/
import Derived.Test.YtgfnjekpafempabBP5
import Derived.Test.YtgfnjekpafempabBM1
namespace Go.Proofs.Ytgfnjekpafempab.D
open Go.RowKit
section
variable {P : Program} {ops : Array Oper} {rest : List Oper} {o : Oper} {T : List Value} {ds : List Deferred} {w : World} {Q : Exit → Act → World → Prop}
theorem s_box (dst : Nat) (hd : o.dst = some dst) (hgd : o.guard = none) (ty : TypeId) (x : Operand) (ho : o.op = .box ty x) (v : Value) (hx : (⟨T.toArray, ds⟩ : Act).eval x = v) (cs : Array Value) (hc : v.cells = cs)
    (h : ∀ w' g, Gro w w' → w.heap.size = g → w'.heap[g]? = some (.cells cs ty (0, 0)) → wpList P ops Q rest ⟨(T.set dst (.pointer (some ⟨g, 0, none⟩))).toArray, ds⟩ w') : wpList P ops Q (o :: rest) ⟨T.toArray, ds⟩ w := by
  subst hc
  refine wpList_box hgd ty x ho v hx ?_
  intro w' g G e k
  rw [hd, put_list]
  exact h w' g G e k
end
end Go.Proofs.Ytgfnjekpafempab.D
namespace Go.Proofs.Ytgfnjekpafempab
open Go.RowKit Go.Shelf Go.Lib Go.Sort
def KNi (l : List IM) : Prop := (l.map (·.key)).Nodup
theorem KNi.perm {l m : List IM} (h : KNi l) (p : l.Perm m) : KNi m := (List.Perm.nodup_iff (p.map _)).1 h
end Go.Proofs.Ytgfnjekpafempab
