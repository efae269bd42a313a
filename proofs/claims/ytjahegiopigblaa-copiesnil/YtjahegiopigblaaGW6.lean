/- Walks. -/
import Derived.Test.YtjahegiopigblaaGBase
import Derived.Test.YtjahegiopigblaaGW5
namespace Go.Proofs.Ytjahegiopigblaa
open Go.RowKit
theorem Calls.boolW {P : Program} {f : FuncId} {args : Array Value} {w : World} {p q : Bool} (h : Calls P f args w fun e w' => e = .returned (.bool p) ∧ Gro w w') (e : p = q) : Calls P f args w fun e w' => e = .returned (.bool q) ∧ Gro w w' := e ▸ h
theorem idA_low (x : Nat) (hx : x < 256) : (idA 0).setIfInBounds 15 (.int .u8 (x : Int)) = idA x := by
  have h := set_low x 15 (by omega)
  have e1 : x % 256 ^ (15 - 15) = 0 := by simp [Nat.mod_one]
  have e2 : x % 256 ^ (16 - 15) = x := Nat.mod_eq_of_lt (by simpa using hx)
  have e3 : byt x 15 = x := by unfold byt; simp; omega
  rw [e1, e2, e3] at h
  exact h
theorem run_build_n {o : Oper} {A : Act} (x : Operand) (ho : o.op = .build 23 #[(15, x)]) (n : Nat) (hx : A.eval x = .int .u8 (n : Int)) (hn : n < 256) (w : World) : (execOp A.eval o).run Try.prog w = .ok (.value (.agg (idA n))) w := by
  have h1 : (Instr.build 23 #[(15, .int .u8 (n : Int))]).run Try.prog w = .ok (.agg ((idA 0).setIfInBounds 15 (.int .u8 (n : Int)))) w := by kernel_rfl
  unfold execOp
  simp only [ho, List.map_toArray, List.map_cons, List.map_nil, hx, Sem.run_bind, h1, Result.andThen_ok, Sem.run_pure, idA_low n hn]
end Go.Proofs.Ytjahegiopigblaa
