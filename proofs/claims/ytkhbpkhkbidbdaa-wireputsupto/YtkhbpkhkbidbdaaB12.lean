/- Wire: the chapter's examples. -/
import Derived.Test.YtkhbpkhkbidbdaaB11
namespace Go.Proofs.Ytkhbpkhkbidbdaa
open Go.RowKit

theorem run_b3 {o : Oper} {A : Act} (ho : o.op = .buildSlice 24 3 #[(0, .const (.int .u8 2)), (1, .const (.int .u8 0)), (2, .const (.int .u8 1))]) (w : World) :
    (execOp A.eval o).run Try.prog w = .ok (.value (.slice (some ⟨w.heap.size, 0, none⟩) 3 3)) (w.alloc (.cells #[.int .u8 2, .int .u8 0, .int .u8 1] 5)) := by
  have h1 : (Instr.buildSlice 24 3 #[(0, .int .u8 2), (1, .int .u8 0), (2, .int .u8 1)]).run Try.prog w = .ok (.slice (some ⟨w.heap.size, 0, none⟩) 3 3) (w.alloc (.cells #[.int .u8 2, .int .u8 0, .int .u8 1] 5)) := by kernel_rfl
  unfold execOp
  simp only [ho, List.map_toArray, List.map_cons, List.map_nil, Act.eval, Sem.run_bind, h1, Result.andThen_ok, Sem.run_pure]
theorem wpList_b3 {ops : Array Oper} {rest : List Oper} {o : Oper} {a : Act} {w : World} {Q : Exit → Act → World → Prop} (dst : Nat) (hd : o.dst = some dst) (hgd : o.guard = none) (ho : o.op = .buildSlice 24 3 #[(0, .const (.int .u8 2)), (1, .const (.int .u8 0)), (2, .const (.int .u8 1))])
    (h : ∀ w' g, Gro w w' → w.heap.size = g → NC w' .u8 (some ⟨g, 0, none⟩) 3 [2, 0, 1] → wpList Try.prog ops Q rest (a.put (some dst) (.slice (some ⟨g, 0, none⟩) 3 3)) w') : wpList Try.prog ops Q (o :: rest) a w :=
  wpList_plain hgd fun _ hK => by
    unfold Oper.wp
    rw [run_b3 ho, Oper.upon_value, hd]
    exact hK _ _ (h _ _ (gro_alloc _ _) rfl (OB.nc (e := 5) (B := 0) (OB.made (heap_alloc_new _ _) (Nat.zero_le _) (by decide) (by decide) rfl rfl (by decide))))

theorem run_b2 {o : Oper} {A : Act} (ho : o.op = .buildSlice 24 2 #[(0, .const (.int .u8 3)), (1, .const (.int .u8 1))]) (w : World) :
    (execOp A.eval o).run Try.prog w = .ok (.value (.slice (some ⟨w.heap.size, 0, none⟩) 2 2)) (w.alloc (.cells #[.int .u8 3, .int .u8 1] 5)) := by
  have h1 : (Instr.buildSlice 24 2 #[(0, .int .u8 3), (1, .int .u8 1)]).run Try.prog w = .ok (.slice (some ⟨w.heap.size, 0, none⟩) 2 2) (w.alloc (.cells #[.int .u8 3, .int .u8 1] 5)) := by kernel_rfl
  unfold execOp
  simp only [ho, List.map_toArray, List.map_cons, List.map_nil, Act.eval, Sem.run_bind, h1, Result.andThen_ok, Sem.run_pure]
theorem wpList_b2 {ops : Array Oper} {rest : List Oper} {o : Oper} {a : Act} {w : World} {Q : Exit → Act → World → Prop} (dst : Nat) (hd : o.dst = some dst) (hgd : o.guard = none) (ho : o.op = .buildSlice 24 2 #[(0, .const (.int .u8 3)), (1, .const (.int .u8 1))])
    (h : ∀ w' g, Gro w w' → w.heap.size = g → NC w' .u8 (some ⟨g, 0, none⟩) 2 [3, 1] → wpList Try.prog ops Q rest (a.put (some dst) (.slice (some ⟨g, 0, none⟩) 2 2)) w') : wpList Try.prog ops Q (o :: rest) a w :=
  wpList_plain hgd fun _ hK => by
    unfold Oper.wp
    rw [run_b2 ho, Oper.upon_value, hd]
    exact hK _ _ (h _ _ (gro_alloc _ _) rfl (OB.nc (e := 5) (B := 0) (OB.made (heap_alloc_new _ _) (Nat.zero_le _) (by decide) (by decide) rfl rfl (by decide))))

theorem run_b1 {o : Oper} {A : Act} (ho : o.op = .buildSlice 24 1 #[(0, .const (.int .u8 9))]) (w : World) :
    (execOp A.eval o).run Try.prog w = .ok (.value (.slice (some ⟨w.heap.size, 0, none⟩) 1 1)) (w.alloc (.cells #[.int .u8 9] 5)) := by
  have h1 : (Instr.buildSlice 24 1 #[(0, .int .u8 9)]).run Try.prog w = .ok (.slice (some ⟨w.heap.size, 0, none⟩) 1 1) (w.alloc (.cells #[.int .u8 9] 5)) := by kernel_rfl
  unfold execOp
  simp only [ho, List.map_toArray, List.map_cons, List.map_nil, Act.eval, Sem.run_bind, h1, Result.andThen_ok, Sem.run_pure]
theorem wpList_b1 {ops : Array Oper} {rest : List Oper} {o : Oper} {a : Act} {w : World} {Q : Exit → Act → World → Prop} (dst : Nat) (hd : o.dst = some dst) (hgd : o.guard = none) (ho : o.op = .buildSlice 24 1 #[(0, .const (.int .u8 9))])
    (h : ∀ w' g, Gro w w' → w.heap.size = g → NC w' .u8 (some ⟨g, 0, none⟩) 1 [9] → wpList Try.prog ops Q rest (a.put (some dst) (.slice (some ⟨g, 0, none⟩) 1 1)) w') : wpList Try.prog ops Q (o :: rest) a w :=
  wpList_plain hgd fun _ hK => by
    unfold Oper.wp
    rw [run_b1 ho, Oper.upon_value, hd]
    exact hK _ _ (h _ _ (gro_alloc _ _) rfl (OB.nc (e := 5) (B := 0) (OB.made (heap_alloc_new _ _) (Nat.zero_le _) (by decide) (by decide) rfl rfl (by decide))))

theorem run_u3 {o : Oper} {A : Act} (ho : o.op = .buildSlice 22 3 #[(0, .const (.int .u64 0)), (1, .const (.int .u64 1)), (2, .const (.int .u64 256))]) (w : World) :
    (execOp A.eval o).run Try.prog w = .ok (.value (.slice (some ⟨w.heap.size, 0, none⟩) 3 3)) (w.alloc (.cells #[.int .u64 0, .int .u64 1, .int .u64 256] 25)) := by
  have h1 : (Instr.buildSlice 22 3 #[(0, .int .u64 0), (1, .int .u64 1), (2, .int .u64 256)]).run Try.prog w = .ok (.slice (some ⟨w.heap.size, 0, none⟩) 3 3) (w.alloc (.cells #[.int .u64 0, .int .u64 1, .int .u64 256] 25)) := by kernel_rfl
  unfold execOp
  simp only [ho, List.map_toArray, List.map_cons, List.map_nil, Act.eval, Sem.run_bind, h1, Result.andThen_ok, Sem.run_pure]
theorem wpList_u3 {ops : Array Oper} {rest : List Oper} {o : Oper} {a : Act} {w : World} {Q : Exit → Act → World → Prop} (dst : Nat) (hd : o.dst = some dst) (hgd : o.guard = none) (ho : o.op = .buildSlice 22 3 #[(0, .const (.int .u64 0)), (1, .const (.int .u64 1)), (2, .const (.int .u64 256))])
    (h : ∀ w' g, Gro w w' → w.heap.size = g → NC w' .u64 (some ⟨g, 0, none⟩) 3 [0, 1, 256] → wpList Try.prog ops Q rest (a.put (some dst) (.slice (some ⟨g, 0, none⟩) 3 3)) w') : wpList Try.prog ops Q (o :: rest) a w :=
  wpList_plain hgd fun _ hK => by
    unfold Oper.wp
    rw [run_u3 ho, Oper.upon_value, hd]
    exact hK _ _ (h _ _ (gro_alloc _ _) rfl (OB.nc (e := 25) (B := 0) (OB.made (heap_alloc_new _ _) (Nat.zero_le _) (by decide) (by decide) rfl rfl (by decide))))

theorem ex1 : getE [2, 0, 1] 0 = (0, 0, 2) := by decide
theorem ex2 : getE [3, 1] 0 = (0, 0, 3) := by decide
theorem ex3 : getE [9] 0 = (0, 0, 2) := by decide
theorem ex4 : putN [0, 1, 256] = [0, 1, 1, 2, 1, 0] := by decide
set_option maxHeartbeats 1600000 in
theorem fixed_any (w : World) : Calls Try.prog 11 #[] w fun e w' => e = .returned (.bool true) ∧ Gro w w' := by
  have GG : Gro w w := Gro.refl w
  go_enter Try.func11, Try.ntmps11
  go_wp2_with (first | (go_at_call 14; first | (refine (getNum_any (some ⟨g1, 0, none⟩) 3 [2, 0, 1] _ K1 0 (by decide)).mono ?_; rintro e wN ⟨rfl, hwN⟩; replace hwN := hwN.symm; subst hwN; rw [ex1]; clear K1) | (refine (getNum_any (some ⟨g2, 0, none⟩) 2 [3, 1] _ K2 0 (by decide)).mono ?_; rintro e wN ⟨rfl, hwN⟩; replace hwN := hwN.symm; subst hwN; rw [ex2]; clear K2) | (refine (getNum_any (some ⟨g3, 0, none⟩) 1 [9] _ K3 0 (by decide)).mono ?_; rintro e wN ⟨rfl, hwN⟩; replace hwN := hwN.symm; subst hwN; rw [ex3]; clear K3)) | (go_at_call 12; refine (putNum_any (some ⟨g4, 0, none⟩) 3 [0, 1, 256] _ K4 (by decide)).mono ?_; rintro e wN ⟨ao5, cap5, L5, rfl, E5, HO5, B5⟩; have EL := E5.out.trans ex4; subst EL; have N5 := HO5.nc; replace GG := GG.trans B5; clear HO5 B5 E5 K4) | (with_reducible refine wpList_at ?_; first | (refine wpList_b3 11 rfl rfl rfl ?_; intro w1 g1 G1 e1 K1; replace GG := GG.trans G1; clear G1 e1; (try simp only [Act.put, List.setIfInBounds_toArray, List.set_cons_zero, List.set_cons_succ])) | (refine wpList_b2 17 rfl rfl rfl ?_; intro w2 g2 G2 e2 K2; replace GG := GG.trans G2; clear G2 e2; (try simp only [Act.put, List.setIfInBounds_toArray, List.set_cons_zero, List.set_cons_succ])) | (refine wpList_b1 23 rfl rfl rfl ?_; intro w3 g3 G3 e3 K3; replace GG := GG.trans G3; clear G3 e3; (try simp only [Act.put, List.setIfInBounds_toArray, List.set_cons_zero, List.set_cons_succ])) | (refine wpList_u3 28 rfl rfl rfl ?_; intro w4 g4 G4 e4 K4; replace GG := GG.trans G4; clear G4 e4; (try simp only [Act.put, List.setIfInBounds_toArray, List.set_cons_zero, List.set_cons_succ])) | (refine wpList_value_d 30 rfl rfl (.string (bas [0, 1, 1, 2, 1, 0])) (run_text_op bT 9 Try.underlying9 _ rfl rfl N5) ?_; (try simp only [Act.put, List.setIfInBounds_toArray, List.set_cons_zero, List.set_cons_succ])) | (refine wpList_value_d 31 rfl rfl (.bool true) (run_eqs_op _ _ _ rfl _ _ rfl rfl true (by decide) _) ?_; (try simp only [Act.put, List.setIfInBounds_toArray, List.set_cons_zero, List.set_cons_succ]))))
  go_ret
  exact ⟨rfl, GG⟩
end Go.Proofs.Ytkhbpkhkbidbdaa
