/- Wire: a number behind a row. -/
import Derived.Test.YtfabgonoonanfaaB2
import Derived.Test.YtfabgonoonanfaaBase
namespace Go.Proofs.Ytfabgonoonanfaa
open Go.RowKit

theorem wpList_stop {P : Program} {ops : Array Oper} {rest : List Oper} {o : Oper} {a : Act} {w : World} {Q : Exit → Act → World → Prop} {s x : Operand} {t1 t2 : TypeId} (_ho : o.op = .call { callee := .builtin .append, args := #[s, x], argTypes := #[t1, t2] }) (h : Stop (wpList P ops Q (o :: rest) a w)) : wpList P ops Q (o :: rest) a w := h.out
section
variable {P : Program} {o : Oper} {A : Act} {w : World}
theorem wrap_in (r : Int) (h1 : -9223372036854775808 ≤ r) (h2 : r < 9223372036854775808) : IntKind.i64.wrap r = r := by
  simp [IntKind.wrap, IntKind.bits, IntKind.signed]
  omega
theorem run_add64 (x y : Operand) (t2 : TypeId) (ho : o.op = .binOp .add 3 x y t2) (a b r : Int) (hx : A.eval x = .int .i64 a) (hy : A.eval y = .int .i64 b) (hr : a + b = r) (h1 : -9223372036854775808 ≤ r) (h2 : r < 9223372036854775808) (w : World) : (execOp A.eval o).run P w = .ok (.value (.int .i64 r)) w := by
  refine run_binop .add 3 x y t2 ho _ _ _ hx hy (by simp [eqGuard]) ?_
  subst hr
  have := wrap_in _ h1 h2
  simp [binOp, Op.intArith, this]
theorem run_sub64 (x y : Operand) (t2 : TypeId) (ho : o.op = .binOp .sub 3 x y t2) (a b r : Int) (hx : A.eval x = .int .i64 a) (hy : A.eval y = .int .i64 b) (hr : a - b = r) (h1 : -9223372036854775808 ≤ r) (h2 : r < 9223372036854775808) (w : World) : (execOp A.eval o).run P w = .ok (.value (.int .i64 r)) w := by
  refine run_binop .sub 3 x y t2 ho _ _ _ hx hy (by simp [eqGuard]) ?_
  subst hr
  have := wrap_in _ h1 h2
  simp [binOp, Op.intArith, this]
theorem run_mul64 (x y : Operand) (t2 : TypeId) (ho : o.op = .binOp .mul 3 x y t2) (a b r : Int) (hx : A.eval x = .int .i64 a) (hy : A.eval y = .int .i64 b) (hr : a * b = r) (h1 : -9223372036854775808 ≤ r) (h2 : r < 9223372036854775808) (w : World) : (execOp A.eval o).run P w = .ok (.value (.int .i64 r)) w := by
  refine run_binop .mul 3 x y t2 ho _ _ _ hx hy (by simp [eqGuard]) ?_
  subst hr
  have := wrap_in _ h1 h2
  simp [binOp, Op.intArith, this]
theorem run_quo64 (x y : Operand) (t2 : TypeId) (ho : o.op = .binOp .quo 3 x y t2) (a b r : Int) (hx : A.eval x = .int .i64 a) (hy : A.eval y = .int .i64 b) (hb : b ≠ 0) (hr : a.tdiv b = r) (h1 : -9223372036854775808 ≤ r) (h2 : r < 9223372036854775808) (w : World) : (execOp A.eval o).run P w = .ok (.value (.int .i64 r)) w := by
  refine run_binop .quo 3 x y t2 ho _ _ _ hx hy (by simp [eqGuard]) ?_
  subst hr
  have := wrap_in _ h1 h2
  simp [binOp, Op.intDiv, hb, this]
theorem run_shr64 (t t2 : TypeId) (x y : Operand) (ho : o.op = .binOp .shr t x y t2) (n m : Nat) (ky : IntKind) (hx : A.eval x = .int .u64 (n : Int)) (hy : A.eval y = .int ky (m : Int)) (hm : m ≤ 64) (r : Nat) (hr : n / 2 ^ m = r) (w : World) : (execOp A.eval o).run P w = .ok (.value (.int .u64 (r : Int))) w := by
  refine run_binop .shr t x y t2 ho _ _ _ hx hy (by simp [eqGuard]) ?_
  subst hr
  have h1 : ¬ ((m : Int) < 0) := by omega
  have h2 : min m IntKind.u64.bits = m := by
    have : IntKind.u64.bits = 64 := rfl
    omega
  simp [binOp]
theorem run_lss64 (x y : Operand) (t2 : TypeId) (ho : o.op = .binOp .lss 3 x y t2) (a b : Int) (hx : A.eval x = .int .i64 a) (hy : A.eval y = .int .i64 b) (p : Bool) (hp : decide (a < b) = p) (w : World) : (execOp A.eval o).run P w = .ok (.value (.bool p)) w := by
  rw [run_lss_op 3 x y t2 ho .i64 a b hx hy w, hp]
end
theorem conv35 {o : Oper} {A : Act} (x : Operand) (ho : o.op = .convert 3 5 x) (n : Nat) (hn : n < 256) (hx : A.eval x = .int .i64 (n : Int)) (w : World) : (execOp A.eval o).run Try.prog w = .ok (.value (.int .u8 (n : Int))) w := by
  have h : IntKind.u8.wrap (n : Int) = (n : Int) := by
    simp [IntKind.wrap, IntKind.bits, IntKind.signed]
    omega
  unfold execOp
  simp only [ho, hx]
  simp [go_sem, h]
theorem OB.one {w : World} {g : Nat} {e : TypeId} {k : IntKind} {z : Nat} {B : Nat} (hg : w.heap[g]? = some (.cells #[.int k (z : Int)] e (0, 0))) (hB : B ≤ g) (hz : (z : Int) ≤ k.max) : OB w e k B (some ⟨g, 0, none⟩) 1 [z] :=
  OB.made hg hB (Nat.le_refl _) (by decide) rfl rfl (fun x hx => by simp at hx; subst hx; exact hz)
def AppP (w : World) (B : Nat) (l : List Nat) (e : Ending) (w' : World) : Prop := ∃ ao cap L, e = .returned (.slice ao (List.length L) cap) ∧ Shut (L = l) ∧ OB w' 5 .u8 B ao cap L ∧ Below B w w'
theorem quo_nb (b m : Nat) (h : (b + 7) / 8 = m) : ((b + 7 : Nat) : Int).tdiv 8 = (m : Int) := by
  subst h
  rw [Int.tdiv_eq_ediv_of_nonneg (by omega)]
  omega
end Go.Proofs.Ytfabgonoonanfaa
