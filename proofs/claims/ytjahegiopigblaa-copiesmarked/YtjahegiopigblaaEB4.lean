/- Wire: a number behind a row. -/
import Derived.Test.YtjahegiopigblaaEB2
import Derived.Test.YtjahegiopigblaaEBase
namespace Go.Proofs.Ytjahegiopigblaa
open Go.RowKit
section
variable {P : Program} {o : Oper} {A : Act} {w : World}
theorem wrap_in (r : Int) (h1 : -9223372036854775808 ≤ r) (h2 : r < 9223372036854775808) : IntKind.i64.wrap r = r := by
  simp [IntKind.wrap, IntKind.bits, IntKind.signed]
  omega
theorem run_shr64 (t t2 : TypeId) (x y : Operand) (ho : o.op = .binOp .shr t x y t2) (n m : Nat) (ky : IntKind) (hx : A.eval x = .int .u64 (n : Int)) (hy : A.eval y = .int ky (m : Int)) (hm : m ≤ 64) (r : Nat) (hr : n / 2 ^ m = r) (w : World) : (execOp A.eval o).run P w = .ok (.value (.int .u64 (r : Int))) w := by
  refine run_binop .shr t x y t2 ho _ _ _ hx hy (by simp [eqGuard]) ?_
  subst hr
  have h1 : ¬ ((m : Int) < 0) := by omega
  have h2 : min m IntKind.u64.bits = m := by
    have : IntKind.u64.bits = 64 := rfl
    omega
  simp [binOp]
end
theorem OB.one {w : World} {g : Nat} {e : TypeId} {k : IntKind} {z : Nat} {B : Nat} (hg : w.heap[g]? = some (.cells #[.int k (z : Int)] e (0, 0))) (hB : B ≤ g) (hz : (z : Int) ≤ k.max) : OB w e k B (some ⟨g, 0, none⟩) 1 [z] :=
  OB.made hg hB (Nat.le_refl _) (by decide) rfl rfl (fun x hx => by simp at hx; subst hx; exact hz)
end Go.Proofs.Ytjahegiopigblaa
