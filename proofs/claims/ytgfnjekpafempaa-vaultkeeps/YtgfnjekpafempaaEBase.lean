/- Facts on this program: the type of identities, their reading, comparing and indexing. -/
import Derived.Test.YtgfnjekpafempaaRows
import Derived.Test.YtgfnjekpafempaaENum
import Derived.Test.YtgfnjekpafempaaEOps
namespace Go.Proofs.Ytgfnjekpafempaa
open Go.RowKit
theorem size23 : (Try.prog.info? 52).map (·.size) = some 16 := by kernel_rfl
theorem size23' (n : Nat) : (Try.prog.info? 52).map (·.size) = some (idA n).size := by rw [idA_size]; exact size23
theorem zero23 (w : World) : (zeroValue 52).run Try.prog w = .ok (.agg (idA 0)) w := by rw [Try.zeroValue52]; rfl
theorem follows : Try.prog.follows .mixedOrders = true := by kernel_rfl
theorem part_id (n k : Nat) (hk : k < 16) (w : World) : (part 5 (idA n) k).run Try.prog w = .ok (.int .u8 (byt n k)) w := by
  have h := idA_get n k hk
  simp [part, go_sem, h]
/-- An identity, indexed. -/
theorem run_index_id (n k : Nat) (hk : k < 16) (w : World) : (Instr.index 52 (.agg (idA n)) (.int .i64 k)).run Try.prog w = .ok (.int .u8 (byt n k)) w := by
  have hs := run_underlying Try.underlying52 w
  have hp := part_id n k hk w
  simp [Instr.index, asIntOf, hs, hk, hp]
/-- Two identities, compared. -/
theorem run_eq_id (a b : Nat) (ha : a < top) (hb : b < top) (w : World) : (Op.equal 52 (.agg (idA a)) (.agg (idA b))).run Try.prog w = .ok (decide (a = b)) w := by
  unfold Op.equal
  have e : Op.maxDepth = (Op.maxDepth - 2) + 1 + 1 := by decide
  rw [e]
  refine run_equalIn_row _ 52 5 16 Try.underlying52 w (Try.sizeOf5 w) (idA a) (idA b) (fun i => .int .u8 (byt a i)) (fun i => .int .u8 (byt b i)) (fun i => (byt a i : Int) == byt b i)
    (fun i hi => part_id a i hi w) (fun i hi => part_id b i hi w) (fun i _ => run_equalIn_int w _ 5 .u8 .u8 _ _ Try.underlying5) _ ?_
  rw [decide_eq_true_iff]
  constructor
  · rintro rfl i _; simp
  · intro h
    exact eq_of_bytes ha hb fun i hi => by have := h i hi; simp at this; omega
theorem eqGuard_id (op : BinOp) (x y : Operand) (c d : Array Value) (w : World) : (eqGuard op 52 x y (.agg c) (.agg d)).run Try.prog w = .ok () w := by
  unfold eqGuard
  cases op <;> simp [go_sem]
theorem run_neq_id (a b : Nat) (ha : a < top) (hb : b < top) (w : World) : (binOp .neq 52 (.agg (idA a)) (.agg (idA b))).run Try.prog w = .ok (.bool (!decide (a = b))) w := by
  simp [binOp, run_eq_id a b ha hb w]
theorem extract_id (n : Nat) : (idA n).extract 0 (0 + 16) = idA n := by
  have : 0 + 16 = (idA n).size := (idA_size n).symm
  rw [this, Array.extract_size]
section
variable {ops : Array Oper} {o : Oper} {A : Act} {w : World}
theorem run_eqlop_id {op : BinOp} (x y : Operand) (t2 : TypeId) (ho : o.op = .binOp op 52 x y t2) (n m : Nat) (hx : A.eval x = .agg (idA n)) (hy : A.eval y = .agg (idA m)) (v : Value) (hv : ∀ w, (binOp op 52 (.agg (idA n)) (.agg (idA m))).run Try.prog w = .ok v w) (w : World) :
    (execOp A.eval o).run Try.prog w = .ok (.value v) w := by
  unfold execOp
  simp only [ho, hx, hy, Sem.run_bind, eqGuard_id, Result.andThen_ok, hv, Sem.run_pure]
end
end Go.Proofs.Ytgfnjekpafempaa
