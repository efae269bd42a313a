/- Wire: the document's own reading of a number. -/
import Derived.Test.YthmcnlmphikicabB7
namespace Go.Proofs.Ythmcnlmphikicab
open Go.RowKit

section
variable {P : Program} {o : Oper} {A : Act}
theorem wrap_u (r : Nat) (h : r < lim) : IntKind.u64.wrap (r : Int) = (r : Int) := by
  unfold lim at h
  simp [IntKind.wrap, IntKind.bits, IntKind.signed]
  omega
theorem run_mulU (t t2 : TypeId) (x y : Operand) (ho : o.op = .binOp .mul t x y t2) (a b : Nat) (hx : A.eval x = .int .u64 (a : Int)) (hy : A.eval y = .int .u64 (b : Int)) (r : Nat) (hr : a * b = r) (h : r < lim) (w : World) : (execOp A.eval o).run P w = .ok (.value (.int .u64 (r : Int))) w := by
  refine run_binop .mul t x y t2 ho _ _ _ hx hy (by simp [eqGuard]) ?_
  subst hr
  have := wrap_u _ h
  simp [binOp, Op.intArith]
  simpa using this
theorem run_addU (t t2 : TypeId) (x y : Operand) (ho : o.op = .binOp .add t x y t2) (a b : Nat) (hx : A.eval x = .int .u64 (a : Int)) (hy : A.eval y = .int .u64 (b : Int)) (r : Nat) (hr : a + b = r) (h : r < lim) (w : World) : (execOp A.eval o).run P w = .ok (.value (.int .u64 (r : Int))) w := by
  refine run_binop .add t x y t2 ho _ _ _ hx hy (by simp [eqGuard]) ?_
  subst hr
  have := wrap_u _ h
  simp [binOp, Op.intArith]
  simpa using this
end
end Go.Proofs.Ythmcnlmphikicab
