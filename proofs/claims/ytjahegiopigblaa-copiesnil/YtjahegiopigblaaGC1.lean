/- What copies' functions keep in memory. -/
import Derived.Test.YtjahegiopigblaaGM2
import Derived.Test.YtjahegiopigblaaGI4
import Derived.Test.YtjahegiopigblaaGG7
namespace Go.Proofs.Ytjahegiopigblaa
open Go.RowKit
theorem rIk : RowT Try.prog 24 23 kI.sz 16 (.agg (idA 0)) := ⟨Try.underlying24, info_of (by kernel_rfl), idA_size 0, by decide⟩
theorem bsI (a : Nat) (w : World) : (Instr.buildSlice 24 1 #[(0, .agg (idA a))]).run Try.prog w = .ok (.slice (some ⟨w.heap.size, 0, none⟩) 1 1) (w.alloc (.cells ([a].flatMap kI.E).toArray 23)) := by kernel_rfl
theorem bsI2 (a b : Nat) (w : World) : (Instr.buildSlice 24 2 #[(0, .agg (idA a)), (1, .agg (idA b))]).run Try.prog w = .ok (.slice (some ⟨w.heap.size, 0, none⟩) 2 2) (w.alloc (.cells ([a, b].flatMap kI.E).toArray 23)) := by kernel_rfl
theorem run_ldKI {o : Oper} {A : Act} {w : World} {ao : Option Addr} {cap : Nat} {l : List Nat} (h : RK kI w ao cap l) (x : Operand) (ho : o.op = .load 23 x) (j : Nat) (hx : A.eval x = .pointer (pK kI ao j 0)) (hj : j < l.length) : (execOp A.eval o).run Try.prog w = .ok (.value (.agg (idA (l.getD j 0)))) w :=
  run_ldK h 23 _ Try.underlying23 rfl 0 16 size23 (by decide) x ho j hx hj _ (by show ((idA (l.getD j 0)).toList.drop 0).take 16 = _; rw [List.drop_zero, List.take_of_length_le (by rw [idA_len]; exact Nat.le_refl _)])
theorem ofRC {w : World} {ao : Option Addr} {cap : Nat} {l : List Nat} (h : RC w ao cap l) : RK kI w ao cap l := ⟨h.xc, h.all⟩
theorem RK.rc {w : World} {ao : Option Addr} {cap : Nat} {l : List Nat} (h : RK kI w ao cap l) : RC w ao cap l := ⟨h.xc, h.all⟩
theorem RK.alls {w : World} {ao : Option Addr} {cap : Nat} {l : List Nat} (h : RK kI w ao cap l) : All l := h.all
def abL (x : Nat × Nat) : List Value := (idA x.1).toList ++ ((idA x.2).toList)
def abA (x : Nat × Nat) : Array Value := (abL x).toArray
structure NM where
  id : Nat
  key : Nat
  ver : VM
structure NM.ok (x : NM) : Prop where
  id : x.id < top
  key : x.key < top
  ver : x.ver.ok
structure DM where
  to : Nat
  it : IM
structure DM.ok (x : DM) : Prop where
  to : x.to < top
  it : x.it.ok
structure OQ where
  kind : Int
  a : Nat
  b : Nat
  ver : VM
  io : Option Addr
  ic : Nat
  ids : List Nat
  mo : Option Addr
  mc : Nat
  its : List IM
structure OQ.ok (x : OQ) : Prop where
  kind : I64 x.kind
  a : x.a < top
  b : x.b < top
  ver : x.ver.ok
/-- The boxes of a book of either side. -/
def bkA (mb : Nat) : Array Value := #[.map (some mb)]
theorem bdBk (mb : Nat) (w : World) : (Instr.build 75 #[(0, .map (some mb))]).run Try.prog w = .ok (.agg (bkA mb)) w := by kernel_rfl
/-! ### The map of notes -/
def kvB (p : Nat × Nat) : Value := .agg (abA p)
def evB (v : VM) : Value := .agg (veA v)
def okB (p : Nat × Nat) : Prop := p.1 < top ∧ p.2 < top
/-- What is noted. -/
abbrev TB (w : World) (b : Nat) (L : List ((Nat × Nat) × VM)) : Prop := TMM kvB okB evB w b L
end Go.Proofs.Ytjahegiopigblaa
