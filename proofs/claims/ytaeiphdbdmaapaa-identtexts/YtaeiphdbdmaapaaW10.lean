/- Walks. -/
import Derived.Test.YtaeiphdbdmaapaaBase
import Derived.Test.YtaeiphdbdmaapaaW8
import Derived.Test.YtaeiphdbdmaapaaW9
namespace Go.Proofs.Ytaeiphdbdmaapaa
open Go.RowKit

theorem Calls.val {P : Program} {f : FuncId} {args : Array Value} {w : World} {u v : Value} (h : Calls P f args w fun e w' => e = .returned u ∧ Gro w w') (e : u = v) : Calls P f args w fun e w' => e = .returned v ∧ Gro w w' := e ▸ h

theorem run_slice2 {o : Oper} {A : Act} (x y : Operand) (ho : o.op = .buildSlice 29 2 #[(0, x), (1, y)]) (hx : A.eval x = .agg (idA 3)) (hy : A.eval y = .agg (idA 5)) (w : World) :
    (execOp A.eval o).run Try.prog w = .ok (.value (.slice (some ⟨w.heap.size, 0, none⟩) 2 2)) (w.alloc (.cells (idA 3 ++ idA 5) 23)) := by
  have h1 : (Instr.buildSlice 29 2 #[(0, .agg (idA 3)), (1, .agg (idA 5))]).run Try.prog w = .ok (.slice (some ⟨w.heap.size, 0, none⟩) 2 2) (w.alloc (.cells (idA 3 ++ idA 5) 23)) := by kernel_rfl
  unfold execOp
  simp only [ho, List.map_toArray, List.map_cons, List.map_nil, hx, hy, Sem.run_bind, h1, Result.andThen_ok, Sem.run_pure]
theorem wpList_slice2 {ops : Array Oper} {rest : List Oper} {o : Oper} {a : Act} {w : World} {Q : Exit → Act → World → Prop} (dst : Nat) (hd : o.dst = some dst) (hw : Region.wanted o (yielded ops a.tmps) = true) (x y : Operand) (ho : o.op = .buildSlice 29 2 #[(0, x), (1, y)]) (hx : a.eval x = .agg (idA 3)) (hy : a.eval y = .agg (idA 5))
    (h : ∀ w' g, Gro w w' → w'.heap[g]? = some (.cells (idA 3 ++ idA 5) 23 (0, 0)) → wpList Try.prog ops Q rest (a.put (some dst) (.slice (some ⟨g, 0, none⟩) 2 2)) w') : wpList Try.prog ops Q (o :: rest) a w :=
  BigFrame.wpList_want hw fun _ hK => by
    unfold Oper.wp
    rw [run_slice2 x y ho hx hy, Oper.upon_value, hd]
    exact hK _ _ (h _ _ (gro_alloc _ _) (heap_alloc_new _ _))
theorem farN_35 : idV (farN 3 5) = idV 2 := congrArg idV (by decide +kernel)
theorem far_35 (w : World) : Calls Try.prog 14 #[idV 3, idV 5] w fun e w' => e = .returned (idV 2) ∧ Gro w w' := Calls.val (far_any 3 5 (by decide) (by decide) w) farN_35
theorem nearer_453 (w : World) : Calls Try.prog 18 #[idV 4, idV 5, idV 3] w fun e w' => e = .returned (.bool true) ∧ Gro w w' := Calls.bool (nearer_any 4 5 3 (by decide) (by decide) (by decide) w) (by decide +kernel)
theorem between_913 (w : World) : Calls Try.prog 22 #[idV 9, idV 1, idV 3] w fun e w' => e = .returned (.bool true) ∧ Gro w w' := Calls.bool (between_any 9 1 3 (by decide) (by decide) (by decide) w) (by decide +kernel)
theorem between_333 (w : World) : Calls Try.prog 22 #[idV 3, idV 3, idV 3] w fun e w' => e = .returned (.bool false) ∧ Gro w w' := Calls.bool (between_any 3 3 3 (by decide) (by decide) (by decide) w) (by decide +kernel)
theorem bestI_435 : (Value.int .i64 (bestI 4 [3, 5] [3, 5].length)) = .int .i64 1 := congrArg (Value.int .i64) (by decide +kernel)
theorem two_35 : ∀ i, i < [3, 5].length → 0 + i * 16 + 16 ≤ (idA 3 ++ idA 5).size ∧ (idA 3 ++ idA 5).extract (0 + i * 16) (0 + i * 16 + 16) = idA ([3, 5].getD i 0) := by
  intro i hi
  match i, hi with
  | 0, _ => exact ⟨by simp [idA_size], rfl⟩
  | 1, _ => exact ⟨by simp [idA_size], rfl⟩
theorem nearest_435 (w : World) (g : Nat) (hg : w.heap[g]? = some (.cells (idA 3 ++ idA 5) 23 (0, 0))) : Calls Try.prog 17 #[idV 4, .slice (some ⟨g, 0, none⟩) 2 2] w fun e w' => e = .returned (.int .i64 1) ∧ Gro w w' :=
  Calls.val (nearest_any 4 (by decide) [3, 5] (fun i hi => by
      match i, hi with
      | 0, _ => decide
      | 1, _ => decide) (by decide) g 0 2 (idA 3 ++ idA 5) 23 (0, 0) two_35 w hg) bestI_435
theorem printB_171 : Value.string (printB 171) = .string { data := #[48, 48, 48, 48, 48, 48, 48, 48, 48, 48, 48, 48, 48, 48, 48, 48, 48, 48, 48, 48, 48, 48, 48, 48, 48, 48, 48, 48, 48, 48, 97, 98] } := congrArg Value.string (by decide +kernel)
theorem print_171 (w : World) : Calls Try.prog 26 #[idV 171] w fun e w' => e = .returned (.string { data := #[48, 48, 48, 48, 48, 48, 48, 48, 48, 48, 48, 48, 48, 48, 48, 48, 48, 48, 48, 48, 48, 48, 48, 48, 48, 48, 48, 48, 48, 48, 97, 98] }) ∧ Gro w w' := Calls.val (print_any 171 w) printB_171
end Go.Proofs.Ytaeiphdbdmaapaa
