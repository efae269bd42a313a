/- Calls over rows of identities: who is among some, likeness, copies. -/
import Derived.Test.YtjahegiopigblaaHI6
import Derived.Test.YtjahegiopigblaaHW6
namespace Go.Proofs.Ytjahegiopigblaa
open Go.RowKit
section
variable {P : Program} {o : Oper} {A : Act}
theorem run_addIi (t : TypeId) (x y : Operand) (t2 : TypeId) (ho : o.op = .binOp .add t x y t2) (a b r : Int) (hx : A.eval x = .int .i64 a) (hy : A.eval y = .int .i64 b) (hr : a + b = r) (h1 : -9223372036854775808 ≤ r) (h2 : r < 9223372036854775808) (w : World) : (execOp A.eval o).run P w = .ok (.value (.int .i64 r)) w := by
  subst hr
  refine run_binop .add t x y t2 ho _ _ _ hx hy (by simp [eqGuard]) ?_
  simp [go_sem]
  exact wrap_in _ h1 h2
theorem run_subIi (t : TypeId) (x y : Operand) (t2 : TypeId) (ho : o.op = .binOp .sub t x y t2) (a b r : Int) (hx : A.eval x = .int .i64 a) (hy : A.eval y = .int .i64 b) (hr : a - b = r) (h1 : -9223372036854775808 ≤ r) (h2 : r < 9223372036854775808) (w : World) : (execOp A.eval o).run P w = .ok (.value (.int .i64 r)) w := by
  subst hr
  refine run_binop .sub t x y t2 ho _ _ _ hx hy (by simp [eqGuard]) ?_
  simp [go_sem]
  exact wrap_in _ h1 h2
end
/-- All of some that are written out. -/
def Alls : List Nat → Prop
  | [] => True
  | x :: r => x < top ∧ Alls r
theorem all_of : ∀ l : List Nat, Alls l → All l
  | [], _ => fun _ h => by cases h
  | x :: r, h => fun y hy => by
    rcases List.mem_cons.1 hy with rfl | hy
    · exact h.1
    · exact all_of r h.2 y hy
/-- A row is no part of a block. -/
def NEi (ao : Option Addr) (l : List Nat) (g : Nat) : Prop := ∀ ad, ao = some ad → 0 < (fl l).length → ad.block ≠ g
section
variable {w w' : World} {ao : Option Addr} {cap : Nat} {l : List Nat} {g : Nat} {B : Nat}
theorem RC.ne (h : RC w ao cap l) (e : w.heap.size = g) : NEi ao l g := fun ad ha h0 => by
  have := h.lt ad ha h0
  omega
theorem RC.st {x : Obj} (h : RC w ao cap l) (S : Stored w w' g x) (hn : NEi ao l g) : RC w' ao cap l :=
  ⟨⟨h.xc.len, h.xc.fit, h.xc.bare, fun ad ha j v hv => (World.cell?_of_block (S.old _ (by rw [add_block]; exact hn ad ha (by have := (List.getElem?_eq_some_iff.1 hv).1; omega)))).trans (h.xc.cell ad ha j v hv), h.xc.one⟩, h.all⟩
theorem OI.ne (h : OI w B ao cap l) (e : w.heap.size = g) : NEi ao l g := h.rc.ne e
theorem OI.st {x : Obj} (h : OI w B ao cap l) (S : Stored w w' g x) (hn : NEi ao l g) (h0 : 0 < l.length ∨ ∀ ad, ao = some ad → ad.block ≠ g) : OI w' B ao cap l :=
  ⟨h.own.apart S fun ad ha => h0.elim (fun h0 => hn ad ha (by rw [fl_len]; omega)) fun h => h ad ha, h.all⟩
end
/-- A call that answers the order clockwise from a place. -/
def CloP (w : World) (s : Nat) (e : Ending) (w' : World) : Prop := ∃ c, e = .returned (.func (.func 70) #[] #[.pointer (some ⟨c, 0, none⟩)]) ∧ Gro w w' ∧ w'.heap[c]? = some (.cells (idA s) 23 (0, 0))
def cloE (s : Nat) : PostE := PostE.ex (fun v x => ∃ c, v = .func (.func 70) #[] #[.pointer (some ⟨c, 0, none⟩)] ∧ x.heap[c]? = some (.cells (idA s) 23 (0, 0))) (fun _ _ _ G ⟨c, h1, h2⟩ => ⟨c, h1, G.has h2⟩)
theorem fill_cloE (s : Nat) (v : Value) : (cloE s).fill v = v := rfl
theorem run_bd0 {o : Oper} {A : Act} (ho : o.op = .build 23 #[]) (w : World) : (execOp A.eval o).run Try.prog w = .ok (.value (.agg (idA 0))) w := by
  have h1 : (Instr.build 23 #[]).run Try.prog w = .ok (.agg (idA 0)) w := by kernel_rfl
  unfold execOp
  simp only [ho, List.map_toArray, List.map_nil, Sem.run_bind, h1, Result.andThen_ok, Sem.run_pure]
theorem idA_fiti (a b : Nat) : 0 + (idA a).size ≤ (idA b).size := by rw [idA_size, idA_size]; exact Nat.le_refl _
theorem idA_szi (a b : Nat) : (idA a).size = (idA b).size := (idA_size a).trans (idA_size b).symm
theorem bs1i (a : Nat) (w : World) : (Instr.buildSlice 24 1 #[(0, .agg (idA a))]).run Try.prog w = .ok (.slice (some ⟨w.heap.size, 0, none⟩) 1 1) (w.alloc (.cells (fl [a]).toArray 23)) := by kernel_rfl
end Go.Proofs.Ytjahegiopigblaa
