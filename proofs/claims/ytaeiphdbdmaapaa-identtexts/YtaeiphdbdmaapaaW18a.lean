/- Operations on bytes. -/
import Derived.Test.YtaeiphdbdmaapaaW16
namespace Go.Proofs.Ytaeiphdbdmaapaa
open Go.RowKit

/-- A fact kept from the walk. -/
structure Shut (p : Prop) : Prop where
  out : p
theorem run_strAt {o : Oper} {A : Act} (x y : Operand) (ho : o.op = .index 9 x y) (s : ByteArray) (k : Nat) (hk : k < s.size) (hx : A.eval x = .string s) (hy : A.eval y = .int .i64 (k : Int)) (w : World) : (execOp A.eval o).run Try.prog w = .ok (.value (.int .u8 (bt s k : Int))) w := by
  have h : (Instr.index 9 (.string s) (.int .i64 (k : Int))).run Try.prog w = .ok (.int .u8 (bt s k : Int)) w := by
    have hs := run_underlying Try.underlying9 w
    have h2 : s[k]? = some (s[k]'hk) := by simp [hk]
    have h3 := bt_at s k hk
    simp [Instr.index, asIntOf, hs, h2]
    exact_mod_cast h3
  unfold execOp
  simp only [ho, hx, hy, Sem.run_bind, h, Result.andThen_ok, Sem.run_pure]
theorem wrap64 (c : Nat) (hc : c < 256) : IntKind.i64.wrap (c : Int) = c := by
  have h : ∀ c : Fin 256, IntKind.i64.wrap (c.val : Int) = c.val := by decide +kernel
  exact h ⟨c, hc⟩
theorem wrap8 (c : Nat) (hc : c < 256) : IntKind.u8.wrap (c : Int) = c := by
  have h : ∀ c : Fin 256, IntKind.u8.wrap (c.val : Int) = c.val := by decide +kernel
  exact h ⟨c, hc⟩
theorem run_conv53 {o : Oper} {A : Act} (x : Operand) (ho : o.op = .convert 5 3 x) (c : Nat) (hc : c < 256) (hx : A.eval x = .int .u8 (c : Int)) (w : World) : (execOp A.eval o).run Try.prog w = .ok (.value (.int .i64 (c : Int))) w := by
  have h := wrap64 c hc
  have h2 : (convert 5 3 (.int .u8 (c : Int))).run Try.prog w = .ok (.int .i64 (c : Int)) w := by
    simp [go_sem, h]
  unfold execOp
  simp only [ho, hx, Sem.run_bind, h2, Result.andThen_ok, Sem.run_pure]
theorem run_conv35 {o : Oper} {A : Act} (x : Operand) (ho : o.op = .convert 3 5 x) (c : Nat) (hc : c < 256) (hx : A.eval x = .int .i64 (c : Int)) (w : World) : (execOp A.eval o).run Try.prog w = .ok (.value (.int .u8 (c : Int))) w := by
  have h := wrap8 c hc
  have h2 : (convert 3 5 (.int .i64 (c : Int))).run Try.prog w = .ok (.int .u8 (c : Int)) w := by
    simp [go_sem, h]
  unfold execOp
  simp only [ho, hx, Sem.run_bind, h2, Result.andThen_ok, Sem.run_pure]
theorem run_subc {o : Oper} {A : Act} (x y : Operand) (t2 : TypeId) (ho : o.op = .binOp .sub 3 x y t2) (c m d : Nat) (hd : c = m + d) (hm : d < 256) (hx : A.eval x = .int .i64 (c : Int)) (hy : A.eval y = .int .i64 (m : Int)) (w : World) : (execOp A.eval o).run Try.prog w = .ok (.value (.int .i64 (d : Int))) w := by
  refine run_binop .sub 3 x y t2 ho _ _ _ hx hy (by simp [eqGuard]) ?_
  have e : (c : Int) - m = d := by omega
  have h := wrap64 d hm
  simp [go_sem, e, h]
theorem run_mul16 {o : Oper} {A : Act} (x y : Operand) (t2 : TypeId) (ho : o.op = .binOp .mul 5 x y t2) (X : Nat) (hX : X < 16) (hx : A.eval x = .int .u8 (X : Int)) (hy : A.eval y = .int .u8 16) (w : World) : (execOp A.eval o).run Try.prog w = .ok (.value (.int .u8 ((16 * X : Nat) : Int))) w := by
  have h := wrap8 (16 * X) (by omega)
  have e : (X : Int) * 16 = ((16 * X : Nat) : Int) := by omega
  refine run_binop .mul 5 x y t2 ho _ _ _ hx hy (by simp [eqGuard]) ?_
  generalize ((16 * X : Nat) : Int) = q at *
  simp [go_sem, e, h]
theorem run_add16 {o : Oper} {A : Act} (x y : Operand) (t2 : TypeId) (ho : o.op = .binOp .add 5 x y t2) (X d : Nat) (hX : X < 16) (hd : d < 16) (hx : A.eval x = .int .u8 ((16 * X : Nat) : Int)) (hy : A.eval y = .int .u8 (d : Int)) (w : World) : (execOp A.eval o).run Try.prog w = .ok (.value (.int .u8 ((16 * X + d : Nat) : Int))) w := by
  have h := wrap8 (16 * X + d) (by omega)
  have e : ((16 * X : Nat) : Int) + (d : Int) = ((16 * X + d : Nat) : Int) := by omega
  refine run_binop .add 5 x y t2 ho _ _ _ hx hy (by simp [eqGuard]) ?_
  generalize ((16 * X : Nat) : Int) = p at *
  generalize ((16 * X + d : Nat) : Int) = q at *
  simp [go_sem, e, h]

theorem run_strAt_c {o : Oper} {A : Act} (x y : Operand) (ho : o.op = .index 9 x y) (s : ByteArray) (k c : Nat) (hk : k < s.size) (hc : Hid (bt s k = c)) (hx : A.eval x = .string s) (hy : A.eval y = .int .i64 (k : Int)) (w : World) : (execOp A.eval o).run Try.prog w = .ok (.value (.int .u8 (c : Int))) w := by
  have := run_strAt x y ho s k hk hx hy w
  rw [hc.out] at this
  exact this
end Go.Proofs.Ytaeiphdbdmaapaa
