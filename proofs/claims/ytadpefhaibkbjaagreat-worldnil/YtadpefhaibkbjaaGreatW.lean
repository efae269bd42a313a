/- The law that a nil world does nothing, and that places that are none have nothing, run by the kernel: whatever the op, whatever the places. -/
import Derived.Test.YtadpefhaibkbjaaGreatD
namespace Go.Proofs.YtadpefhaibkbjaaGreat
open EX
set_option maxRecDepth 1000000
def LM : CallM := orM mc11 (memoB 9 (.bool true))
/-- The law's run at a heap without blocks answers true. -/
def RunsTrue (z0 z1 z2 z3 : Int) (ao : Option Addr) (len cap : Nat) (n0 n1 n2 n3 n4 n5 n6 n7 n8 n9 n10 n11 n12 n13 n14 n15 : Int) (a b : Int) : Prop := callK Tryz.prog (execK Tryz.prog LM 100000) 8 #[.agg #[.int .i64 z0, .int .i64 z1, .int .i64 z2, .int .i64 z3, .int .u8 n0, .int .u8 n1, .int .u8 n2, .int .u8 n3, .int .u8 n4, .int .u8 n5, .int .u8 n6, .int .u8 n7, .int .u8 n8, .int .u8 n9, .int .u8 n10, .int .u8 n11, .int .u8 n12, .int .u8 n13, .int .u8 n14, .int .u8 n15, .slice ao len cap], .int .i64 a, .int .i64 b] ⟨.leaf, 1⟩ (fun v _ n => match v with
      | .bool true => n
      | _ => False) True = True
theorem w_a0_a0 (z0 z1 z2 z3 : Int) (ao : Option Addr) (len cap : Nat) (n0 n1 n2 n3 n4 n5 n6 n7 n8 n9 n10 n11 n12 n13 n14 n15 : Int)   : callK Tryz.prog (execK Tryz.prog LM 100000) 8 #[.agg #[.int .i64 z0, .int .i64 z1, .int .i64 z2, .int .i64 z3, .int .u8 n0, .int .u8 n1, .int .u8 n2, .int .u8 n3, .int .u8 n4, .int .u8 n5, .int .u8 n6, .int .u8 n7, .int .u8 n8, .int .u8 n9, .int .u8 n10, .int .u8 n11, .int .u8 n12, .int .u8 n13, .int .u8 n14, .int .u8 n15, .slice ao len cap], .int .i64 (.ofNat 0), .int .i64 (.ofNat 0)] ⟨.leaf, 1⟩ (fun v _ n => match v with
      | .bool true => n
      | _ => False) True = True := by kernel_rfl
theorem w_a0_a1 (z0 z1 z2 z3 : Int) (ao : Option Addr) (len cap : Nat) (n0 n1 n2 n3 n4 n5 n6 n7 n8 n9 n10 n11 n12 n13 n14 n15 : Int)   : callK Tryz.prog (execK Tryz.prog LM 100000) 8 #[.agg #[.int .i64 z0, .int .i64 z1, .int .i64 z2, .int .i64 z3, .int .u8 n0, .int .u8 n1, .int .u8 n2, .int .u8 n3, .int .u8 n4, .int .u8 n5, .int .u8 n6, .int .u8 n7, .int .u8 n8, .int .u8 n9, .int .u8 n10, .int .u8 n11, .int .u8 n12, .int .u8 n13, .int .u8 n14, .int .u8 n15, .slice ao len cap], .int .i64 (.ofNat 0), .int .i64 (.ofNat 1)] ⟨.leaf, 1⟩ (fun v _ n => match v with
      | .bool true => n
      | _ => False) True = True := by kernel_rfl
theorem w_a0_p (z0 z1 z2 z3 : Int) (ao : Option Addr) (len cap : Nat) (n0 n1 n2 n3 n4 n5 n6 n7 n8 n9 n10 n11 n12 n13 n14 n15 : Int)  (y : Nat) : callK Tryz.prog (execK Tryz.prog LM 100000) 8 #[.agg #[.int .i64 z0, .int .i64 z1, .int .i64 z2, .int .i64 z3, .int .u8 n0, .int .u8 n1, .int .u8 n2, .int .u8 n3, .int .u8 n4, .int .u8 n5, .int .u8 n6, .int .u8 n7, .int .u8 n8, .int .u8 n9, .int .u8 n10, .int .u8 n11, .int .u8 n12, .int .u8 n13, .int .u8 n14, .int .u8 n15, .slice ao len cap], .int .i64 (.ofNat 0), .int .i64 (.ofNat (Nat.succ (Nat.succ y)))] ⟨.leaf, 1⟩ (fun v _ n => match v with
      | .bool true => n
      | _ => False) True = True := by kernel_rfl
theorem w_a0_m0 (z0 z1 z2 z3 : Int) (ao : Option Addr) (len cap : Nat) (n0 n1 n2 n3 n4 n5 n6 n7 n8 n9 n10 n11 n12 n13 n14 n15 : Int)   : callK Tryz.prog (execK Tryz.prog LM 100000) 8 #[.agg #[.int .i64 z0, .int .i64 z1, .int .i64 z2, .int .i64 z3, .int .u8 n0, .int .u8 n1, .int .u8 n2, .int .u8 n3, .int .u8 n4, .int .u8 n5, .int .u8 n6, .int .u8 n7, .int .u8 n8, .int .u8 n9, .int .u8 n10, .int .u8 n11, .int .u8 n12, .int .u8 n13, .int .u8 n14, .int .u8 n15, .slice ao len cap], .int .i64 (.ofNat 0), .int .i64 (.negSucc 0)] ⟨.leaf, 1⟩ (fun v _ n => match v with
      | .bool true => n
      | _ => False) True = True := by kernel_rfl
theorem w_a0_m (z0 z1 z2 z3 : Int) (ao : Option Addr) (len cap : Nat) (n0 n1 n2 n3 n4 n5 n6 n7 n8 n9 n10 n11 n12 n13 n14 n15 : Int)  (y : Nat) : callK Tryz.prog (execK Tryz.prog LM 100000) 8 #[.agg #[.int .i64 z0, .int .i64 z1, .int .i64 z2, .int .i64 z3, .int .u8 n0, .int .u8 n1, .int .u8 n2, .int .u8 n3, .int .u8 n4, .int .u8 n5, .int .u8 n6, .int .u8 n7, .int .u8 n8, .int .u8 n9, .int .u8 n10, .int .u8 n11, .int .u8 n12, .int .u8 n13, .int .u8 n14, .int .u8 n15, .slice ao len cap], .int .i64 (.ofNat 0), .int .i64 (.negSucc (Nat.succ y))] ⟨.leaf, 1⟩ (fun v _ n => match v with
      | .bool true => n
      | _ => False) True = True := by kernel_rfl
theorem w_a1_a0 (z0 z1 z2 z3 : Int) (ao : Option Addr) (len cap : Nat) (n0 n1 n2 n3 n4 n5 n6 n7 n8 n9 n10 n11 n12 n13 n14 n15 : Int)   : callK Tryz.prog (execK Tryz.prog LM 100000) 8 #[.agg #[.int .i64 z0, .int .i64 z1, .int .i64 z2, .int .i64 z3, .int .u8 n0, .int .u8 n1, .int .u8 n2, .int .u8 n3, .int .u8 n4, .int .u8 n5, .int .u8 n6, .int .u8 n7, .int .u8 n8, .int .u8 n9, .int .u8 n10, .int .u8 n11, .int .u8 n12, .int .u8 n13, .int .u8 n14, .int .u8 n15, .slice ao len cap], .int .i64 (.ofNat 1), .int .i64 (.ofNat 0)] ⟨.leaf, 1⟩ (fun v _ n => match v with
      | .bool true => n
      | _ => False) True = True := by kernel_rfl
theorem w_a1_a1 (z0 z1 z2 z3 : Int) (ao : Option Addr) (len cap : Nat) (n0 n1 n2 n3 n4 n5 n6 n7 n8 n9 n10 n11 n12 n13 n14 n15 : Int)   : callK Tryz.prog (execK Tryz.prog LM 100000) 8 #[.agg #[.int .i64 z0, .int .i64 z1, .int .i64 z2, .int .i64 z3, .int .u8 n0, .int .u8 n1, .int .u8 n2, .int .u8 n3, .int .u8 n4, .int .u8 n5, .int .u8 n6, .int .u8 n7, .int .u8 n8, .int .u8 n9, .int .u8 n10, .int .u8 n11, .int .u8 n12, .int .u8 n13, .int .u8 n14, .int .u8 n15, .slice ao len cap], .int .i64 (.ofNat 1), .int .i64 (.ofNat 1)] ⟨.leaf, 1⟩ (fun v _ n => match v with
      | .bool true => n
      | _ => False) True = True := by kernel_rfl
theorem w_a1_p (z0 z1 z2 z3 : Int) (ao : Option Addr) (len cap : Nat) (n0 n1 n2 n3 n4 n5 n6 n7 n8 n9 n10 n11 n12 n13 n14 n15 : Int)  (y : Nat) : callK Tryz.prog (execK Tryz.prog LM 100000) 8 #[.agg #[.int .i64 z0, .int .i64 z1, .int .i64 z2, .int .i64 z3, .int .u8 n0, .int .u8 n1, .int .u8 n2, .int .u8 n3, .int .u8 n4, .int .u8 n5, .int .u8 n6, .int .u8 n7, .int .u8 n8, .int .u8 n9, .int .u8 n10, .int .u8 n11, .int .u8 n12, .int .u8 n13, .int .u8 n14, .int .u8 n15, .slice ao len cap], .int .i64 (.ofNat 1), .int .i64 (.ofNat (Nat.succ (Nat.succ y)))] ⟨.leaf, 1⟩ (fun v _ n => match v with
      | .bool true => n
      | _ => False) True = True := by kernel_rfl
theorem w_a1_m0 (z0 z1 z2 z3 : Int) (ao : Option Addr) (len cap : Nat) (n0 n1 n2 n3 n4 n5 n6 n7 n8 n9 n10 n11 n12 n13 n14 n15 : Int)   : callK Tryz.prog (execK Tryz.prog LM 100000) 8 #[.agg #[.int .i64 z0, .int .i64 z1, .int .i64 z2, .int .i64 z3, .int .u8 n0, .int .u8 n1, .int .u8 n2, .int .u8 n3, .int .u8 n4, .int .u8 n5, .int .u8 n6, .int .u8 n7, .int .u8 n8, .int .u8 n9, .int .u8 n10, .int .u8 n11, .int .u8 n12, .int .u8 n13, .int .u8 n14, .int .u8 n15, .slice ao len cap], .int .i64 (.ofNat 1), .int .i64 (.negSucc 0)] ⟨.leaf, 1⟩ (fun v _ n => match v with
      | .bool true => n
      | _ => False) True = True := by kernel_rfl
theorem w_a1_m (z0 z1 z2 z3 : Int) (ao : Option Addr) (len cap : Nat) (n0 n1 n2 n3 n4 n5 n6 n7 n8 n9 n10 n11 n12 n13 n14 n15 : Int)  (y : Nat) : callK Tryz.prog (execK Tryz.prog LM 100000) 8 #[.agg #[.int .i64 z0, .int .i64 z1, .int .i64 z2, .int .i64 z3, .int .u8 n0, .int .u8 n1, .int .u8 n2, .int .u8 n3, .int .u8 n4, .int .u8 n5, .int .u8 n6, .int .u8 n7, .int .u8 n8, .int .u8 n9, .int .u8 n10, .int .u8 n11, .int .u8 n12, .int .u8 n13, .int .u8 n14, .int .u8 n15, .slice ao len cap], .int .i64 (.ofNat 1), .int .i64 (.negSucc (Nat.succ y))] ⟨.leaf, 1⟩ (fun v _ n => match v with
      | .bool true => n
      | _ => False) True = True := by kernel_rfl
theorem w_p_a0 (z0 z1 z2 z3 : Int) (ao : Option Addr) (len cap : Nat) (n0 n1 n2 n3 n4 n5 n6 n7 n8 n9 n10 n11 n12 n13 n14 n15 : Int) (x : Nat)  : callK Tryz.prog (execK Tryz.prog LM 100000) 8 #[.agg #[.int .i64 z0, .int .i64 z1, .int .i64 z2, .int .i64 z3, .int .u8 n0, .int .u8 n1, .int .u8 n2, .int .u8 n3, .int .u8 n4, .int .u8 n5, .int .u8 n6, .int .u8 n7, .int .u8 n8, .int .u8 n9, .int .u8 n10, .int .u8 n11, .int .u8 n12, .int .u8 n13, .int .u8 n14, .int .u8 n15, .slice ao len cap], .int .i64 (.ofNat (Nat.succ (Nat.succ x))), .int .i64 (.ofNat 0)] ⟨.leaf, 1⟩ (fun v _ n => match v with
      | .bool true => n
      | _ => False) True = True := by kernel_rfl
theorem w_p_a1 (z0 z1 z2 z3 : Int) (ao : Option Addr) (len cap : Nat) (n0 n1 n2 n3 n4 n5 n6 n7 n8 n9 n10 n11 n12 n13 n14 n15 : Int) (x : Nat)  : callK Tryz.prog (execK Tryz.prog LM 100000) 8 #[.agg #[.int .i64 z0, .int .i64 z1, .int .i64 z2, .int .i64 z3, .int .u8 n0, .int .u8 n1, .int .u8 n2, .int .u8 n3, .int .u8 n4, .int .u8 n5, .int .u8 n6, .int .u8 n7, .int .u8 n8, .int .u8 n9, .int .u8 n10, .int .u8 n11, .int .u8 n12, .int .u8 n13, .int .u8 n14, .int .u8 n15, .slice ao len cap], .int .i64 (.ofNat (Nat.succ (Nat.succ x))), .int .i64 (.ofNat 1)] ⟨.leaf, 1⟩ (fun v _ n => match v with
      | .bool true => n
      | _ => False) True = True := by kernel_rfl
theorem w_p_p (z0 z1 z2 z3 : Int) (ao : Option Addr) (len cap : Nat) (n0 n1 n2 n3 n4 n5 n6 n7 n8 n9 n10 n11 n12 n13 n14 n15 : Int) (x : Nat) (y : Nat) : callK Tryz.prog (execK Tryz.prog LM 100000) 8 #[.agg #[.int .i64 z0, .int .i64 z1, .int .i64 z2, .int .i64 z3, .int .u8 n0, .int .u8 n1, .int .u8 n2, .int .u8 n3, .int .u8 n4, .int .u8 n5, .int .u8 n6, .int .u8 n7, .int .u8 n8, .int .u8 n9, .int .u8 n10, .int .u8 n11, .int .u8 n12, .int .u8 n13, .int .u8 n14, .int .u8 n15, .slice ao len cap], .int .i64 (.ofNat (Nat.succ (Nat.succ x))), .int .i64 (.ofNat (Nat.succ (Nat.succ y)))] ⟨.leaf, 1⟩ (fun v _ n => match v with
      | .bool true => n
      | _ => False) True = True := by kernel_rfl
theorem w_p_m0 (z0 z1 z2 z3 : Int) (ao : Option Addr) (len cap : Nat) (n0 n1 n2 n3 n4 n5 n6 n7 n8 n9 n10 n11 n12 n13 n14 n15 : Int) (x : Nat)  : callK Tryz.prog (execK Tryz.prog LM 100000) 8 #[.agg #[.int .i64 z0, .int .i64 z1, .int .i64 z2, .int .i64 z3, .int .u8 n0, .int .u8 n1, .int .u8 n2, .int .u8 n3, .int .u8 n4, .int .u8 n5, .int .u8 n6, .int .u8 n7, .int .u8 n8, .int .u8 n9, .int .u8 n10, .int .u8 n11, .int .u8 n12, .int .u8 n13, .int .u8 n14, .int .u8 n15, .slice ao len cap], .int .i64 (.ofNat (Nat.succ (Nat.succ x))), .int .i64 (.negSucc 0)] ⟨.leaf, 1⟩ (fun v _ n => match v with
      | .bool true => n
      | _ => False) True = True := by kernel_rfl
theorem w_p_m (z0 z1 z2 z3 : Int) (ao : Option Addr) (len cap : Nat) (n0 n1 n2 n3 n4 n5 n6 n7 n8 n9 n10 n11 n12 n13 n14 n15 : Int) (x : Nat) (y : Nat) : callK Tryz.prog (execK Tryz.prog LM 100000) 8 #[.agg #[.int .i64 z0, .int .i64 z1, .int .i64 z2, .int .i64 z3, .int .u8 n0, .int .u8 n1, .int .u8 n2, .int .u8 n3, .int .u8 n4, .int .u8 n5, .int .u8 n6, .int .u8 n7, .int .u8 n8, .int .u8 n9, .int .u8 n10, .int .u8 n11, .int .u8 n12, .int .u8 n13, .int .u8 n14, .int .u8 n15, .slice ao len cap], .int .i64 (.ofNat (Nat.succ (Nat.succ x))), .int .i64 (.negSucc (Nat.succ y))] ⟨.leaf, 1⟩ (fun v _ n => match v with
      | .bool true => n
      | _ => False) True = True := by kernel_rfl
theorem w_m0_a0 (z0 z1 z2 z3 : Int) (ao : Option Addr) (len cap : Nat) (n0 n1 n2 n3 n4 n5 n6 n7 n8 n9 n10 n11 n12 n13 n14 n15 : Int)   : callK Tryz.prog (execK Tryz.prog LM 100000) 8 #[.agg #[.int .i64 z0, .int .i64 z1, .int .i64 z2, .int .i64 z3, .int .u8 n0, .int .u8 n1, .int .u8 n2, .int .u8 n3, .int .u8 n4, .int .u8 n5, .int .u8 n6, .int .u8 n7, .int .u8 n8, .int .u8 n9, .int .u8 n10, .int .u8 n11, .int .u8 n12, .int .u8 n13, .int .u8 n14, .int .u8 n15, .slice ao len cap], .int .i64 (.negSucc 0), .int .i64 (.ofNat 0)] ⟨.leaf, 1⟩ (fun v _ n => match v with
      | .bool true => n
      | _ => False) True = True := by kernel_rfl
theorem w_m0_a1 (z0 z1 z2 z3 : Int) (ao : Option Addr) (len cap : Nat) (n0 n1 n2 n3 n4 n5 n6 n7 n8 n9 n10 n11 n12 n13 n14 n15 : Int)   : callK Tryz.prog (execK Tryz.prog LM 100000) 8 #[.agg #[.int .i64 z0, .int .i64 z1, .int .i64 z2, .int .i64 z3, .int .u8 n0, .int .u8 n1, .int .u8 n2, .int .u8 n3, .int .u8 n4, .int .u8 n5, .int .u8 n6, .int .u8 n7, .int .u8 n8, .int .u8 n9, .int .u8 n10, .int .u8 n11, .int .u8 n12, .int .u8 n13, .int .u8 n14, .int .u8 n15, .slice ao len cap], .int .i64 (.negSucc 0), .int .i64 (.ofNat 1)] ⟨.leaf, 1⟩ (fun v _ n => match v with
      | .bool true => n
      | _ => False) True = True := by kernel_rfl
theorem w_m0_p (z0 z1 z2 z3 : Int) (ao : Option Addr) (len cap : Nat) (n0 n1 n2 n3 n4 n5 n6 n7 n8 n9 n10 n11 n12 n13 n14 n15 : Int)  (y : Nat) : callK Tryz.prog (execK Tryz.prog LM 100000) 8 #[.agg #[.int .i64 z0, .int .i64 z1, .int .i64 z2, .int .i64 z3, .int .u8 n0, .int .u8 n1, .int .u8 n2, .int .u8 n3, .int .u8 n4, .int .u8 n5, .int .u8 n6, .int .u8 n7, .int .u8 n8, .int .u8 n9, .int .u8 n10, .int .u8 n11, .int .u8 n12, .int .u8 n13, .int .u8 n14, .int .u8 n15, .slice ao len cap], .int .i64 (.negSucc 0), .int .i64 (.ofNat (Nat.succ (Nat.succ y)))] ⟨.leaf, 1⟩ (fun v _ n => match v with
      | .bool true => n
      | _ => False) True = True := by kernel_rfl
theorem w_m0_m0 (z0 z1 z2 z3 : Int) (ao : Option Addr) (len cap : Nat) (n0 n1 n2 n3 n4 n5 n6 n7 n8 n9 n10 n11 n12 n13 n14 n15 : Int)   : callK Tryz.prog (execK Tryz.prog LM 100000) 8 #[.agg #[.int .i64 z0, .int .i64 z1, .int .i64 z2, .int .i64 z3, .int .u8 n0, .int .u8 n1, .int .u8 n2, .int .u8 n3, .int .u8 n4, .int .u8 n5, .int .u8 n6, .int .u8 n7, .int .u8 n8, .int .u8 n9, .int .u8 n10, .int .u8 n11, .int .u8 n12, .int .u8 n13, .int .u8 n14, .int .u8 n15, .slice ao len cap], .int .i64 (.negSucc 0), .int .i64 (.negSucc 0)] ⟨.leaf, 1⟩ (fun v _ n => match v with
      | .bool true => n
      | _ => False) True = True := by kernel_rfl
theorem w_m0_m (z0 z1 z2 z3 : Int) (ao : Option Addr) (len cap : Nat) (n0 n1 n2 n3 n4 n5 n6 n7 n8 n9 n10 n11 n12 n13 n14 n15 : Int)  (y : Nat) : callK Tryz.prog (execK Tryz.prog LM 100000) 8 #[.agg #[.int .i64 z0, .int .i64 z1, .int .i64 z2, .int .i64 z3, .int .u8 n0, .int .u8 n1, .int .u8 n2, .int .u8 n3, .int .u8 n4, .int .u8 n5, .int .u8 n6, .int .u8 n7, .int .u8 n8, .int .u8 n9, .int .u8 n10, .int .u8 n11, .int .u8 n12, .int .u8 n13, .int .u8 n14, .int .u8 n15, .slice ao len cap], .int .i64 (.negSucc 0), .int .i64 (.negSucc (Nat.succ y))] ⟨.leaf, 1⟩ (fun v _ n => match v with
      | .bool true => n
      | _ => False) True = True := by kernel_rfl
theorem w_m_a0 (z0 z1 z2 z3 : Int) (ao : Option Addr) (len cap : Nat) (n0 n1 n2 n3 n4 n5 n6 n7 n8 n9 n10 n11 n12 n13 n14 n15 : Int) (x : Nat)  : callK Tryz.prog (execK Tryz.prog LM 100000) 8 #[.agg #[.int .i64 z0, .int .i64 z1, .int .i64 z2, .int .i64 z3, .int .u8 n0, .int .u8 n1, .int .u8 n2, .int .u8 n3, .int .u8 n4, .int .u8 n5, .int .u8 n6, .int .u8 n7, .int .u8 n8, .int .u8 n9, .int .u8 n10, .int .u8 n11, .int .u8 n12, .int .u8 n13, .int .u8 n14, .int .u8 n15, .slice ao len cap], .int .i64 (.negSucc (Nat.succ x)), .int .i64 (.ofNat 0)] ⟨.leaf, 1⟩ (fun v _ n => match v with
      | .bool true => n
      | _ => False) True = True := by kernel_rfl
theorem w_m_a1 (z0 z1 z2 z3 : Int) (ao : Option Addr) (len cap : Nat) (n0 n1 n2 n3 n4 n5 n6 n7 n8 n9 n10 n11 n12 n13 n14 n15 : Int) (x : Nat)  : callK Tryz.prog (execK Tryz.prog LM 100000) 8 #[.agg #[.int .i64 z0, .int .i64 z1, .int .i64 z2, .int .i64 z3, .int .u8 n0, .int .u8 n1, .int .u8 n2, .int .u8 n3, .int .u8 n4, .int .u8 n5, .int .u8 n6, .int .u8 n7, .int .u8 n8, .int .u8 n9, .int .u8 n10, .int .u8 n11, .int .u8 n12, .int .u8 n13, .int .u8 n14, .int .u8 n15, .slice ao len cap], .int .i64 (.negSucc (Nat.succ x)), .int .i64 (.ofNat 1)] ⟨.leaf, 1⟩ (fun v _ n => match v with
      | .bool true => n
      | _ => False) True = True := by kernel_rfl
theorem w_m_p (z0 z1 z2 z3 : Int) (ao : Option Addr) (len cap : Nat) (n0 n1 n2 n3 n4 n5 n6 n7 n8 n9 n10 n11 n12 n13 n14 n15 : Int) (x : Nat) (y : Nat) : callK Tryz.prog (execK Tryz.prog LM 100000) 8 #[.agg #[.int .i64 z0, .int .i64 z1, .int .i64 z2, .int .i64 z3, .int .u8 n0, .int .u8 n1, .int .u8 n2, .int .u8 n3, .int .u8 n4, .int .u8 n5, .int .u8 n6, .int .u8 n7, .int .u8 n8, .int .u8 n9, .int .u8 n10, .int .u8 n11, .int .u8 n12, .int .u8 n13, .int .u8 n14, .int .u8 n15, .slice ao len cap], .int .i64 (.negSucc (Nat.succ x)), .int .i64 (.ofNat (Nat.succ (Nat.succ y)))] ⟨.leaf, 1⟩ (fun v _ n => match v with
      | .bool true => n
      | _ => False) True = True := by kernel_rfl
theorem w_m_m0 (z0 z1 z2 z3 : Int) (ao : Option Addr) (len cap : Nat) (n0 n1 n2 n3 n4 n5 n6 n7 n8 n9 n10 n11 n12 n13 n14 n15 : Int) (x : Nat)  : callK Tryz.prog (execK Tryz.prog LM 100000) 8 #[.agg #[.int .i64 z0, .int .i64 z1, .int .i64 z2, .int .i64 z3, .int .u8 n0, .int .u8 n1, .int .u8 n2, .int .u8 n3, .int .u8 n4, .int .u8 n5, .int .u8 n6, .int .u8 n7, .int .u8 n8, .int .u8 n9, .int .u8 n10, .int .u8 n11, .int .u8 n12, .int .u8 n13, .int .u8 n14, .int .u8 n15, .slice ao len cap], .int .i64 (.negSucc (Nat.succ x)), .int .i64 (.negSucc 0)] ⟨.leaf, 1⟩ (fun v _ n => match v with
      | .bool true => n
      | _ => False) True = True := by kernel_rfl
theorem w_m_m (z0 z1 z2 z3 : Int) (ao : Option Addr) (len cap : Nat) (n0 n1 n2 n3 n4 n5 n6 n7 n8 n9 n10 n11 n12 n13 n14 n15 : Int) (x : Nat) (y : Nat) : callK Tryz.prog (execK Tryz.prog LM 100000) 8 #[.agg #[.int .i64 z0, .int .i64 z1, .int .i64 z2, .int .i64 z3, .int .u8 n0, .int .u8 n1, .int .u8 n2, .int .u8 n3, .int .u8 n4, .int .u8 n5, .int .u8 n6, .int .u8 n7, .int .u8 n8, .int .u8 n9, .int .u8 n10, .int .u8 n11, .int .u8 n12, .int .u8 n13, .int .u8 n14, .int .u8 n15, .slice ao len cap], .int .i64 (.negSucc (Nat.succ x)), .int .i64 (.negSucc (Nat.succ y))] ⟨.leaf, 1⟩ (fun v _ n => match v with
      | .bool true => n
      | _ => False) True = True := by kernel_rfl
theorem runs_true (z0 z1 z2 z3 : Int) (ao : Option Addr) (len cap : Nat) (n0 n1 n2 n3 n4 n5 n6 n7 n8 n9 n10 n11 n12 n13 n14 n15 : Int) : ∀ a b : Int, RunsTrue z0 z1 z2 z3 ao len cap n0 n1 n2 n3 n4 n5 n6 n7 n8 n9 n10 n11 n12 n13 n14 n15 a b
  | .ofNat 0, .ofNat 0 => w_a0_a0 z0 z1 z2 z3 ao len cap n0 n1 n2 n3 n4 n5 n6 n7 n8 n9 n10 n11 n12 n13 n14 n15  
  | .ofNat 0, .ofNat 1 => w_a0_a1 z0 z1 z2 z3 ao len cap n0 n1 n2 n3 n4 n5 n6 n7 n8 n9 n10 n11 n12 n13 n14 n15  
  | .ofNat 0, .ofNat (y + 2) => w_a0_p z0 z1 z2 z3 ao len cap n0 n1 n2 n3 n4 n5 n6 n7 n8 n9 n10 n11 n12 n13 n14 n15  y
  | .ofNat 0, .negSucc 0 => w_a0_m0 z0 z1 z2 z3 ao len cap n0 n1 n2 n3 n4 n5 n6 n7 n8 n9 n10 n11 n12 n13 n14 n15  
  | .ofNat 0, .negSucc (y + 1) => w_a0_m z0 z1 z2 z3 ao len cap n0 n1 n2 n3 n4 n5 n6 n7 n8 n9 n10 n11 n12 n13 n14 n15  y
  | .ofNat 1, .ofNat 0 => w_a1_a0 z0 z1 z2 z3 ao len cap n0 n1 n2 n3 n4 n5 n6 n7 n8 n9 n10 n11 n12 n13 n14 n15  
  | .ofNat 1, .ofNat 1 => w_a1_a1 z0 z1 z2 z3 ao len cap n0 n1 n2 n3 n4 n5 n6 n7 n8 n9 n10 n11 n12 n13 n14 n15  
  | .ofNat 1, .ofNat (y + 2) => w_a1_p z0 z1 z2 z3 ao len cap n0 n1 n2 n3 n4 n5 n6 n7 n8 n9 n10 n11 n12 n13 n14 n15  y
  | .ofNat 1, .negSucc 0 => w_a1_m0 z0 z1 z2 z3 ao len cap n0 n1 n2 n3 n4 n5 n6 n7 n8 n9 n10 n11 n12 n13 n14 n15  
  | .ofNat 1, .negSucc (y + 1) => w_a1_m z0 z1 z2 z3 ao len cap n0 n1 n2 n3 n4 n5 n6 n7 n8 n9 n10 n11 n12 n13 n14 n15  y
  | .ofNat (x + 2), .ofNat 0 => w_p_a0 z0 z1 z2 z3 ao len cap n0 n1 n2 n3 n4 n5 n6 n7 n8 n9 n10 n11 n12 n13 n14 n15 x 
  | .ofNat (x + 2), .ofNat 1 => w_p_a1 z0 z1 z2 z3 ao len cap n0 n1 n2 n3 n4 n5 n6 n7 n8 n9 n10 n11 n12 n13 n14 n15 x 
  | .ofNat (x + 2), .ofNat (y + 2) => w_p_p z0 z1 z2 z3 ao len cap n0 n1 n2 n3 n4 n5 n6 n7 n8 n9 n10 n11 n12 n13 n14 n15 x y
  | .ofNat (x + 2), .negSucc 0 => w_p_m0 z0 z1 z2 z3 ao len cap n0 n1 n2 n3 n4 n5 n6 n7 n8 n9 n10 n11 n12 n13 n14 n15 x 
  | .ofNat (x + 2), .negSucc (y + 1) => w_p_m z0 z1 z2 z3 ao len cap n0 n1 n2 n3 n4 n5 n6 n7 n8 n9 n10 n11 n12 n13 n14 n15 x y
  | .negSucc 0, .ofNat 0 => w_m0_a0 z0 z1 z2 z3 ao len cap n0 n1 n2 n3 n4 n5 n6 n7 n8 n9 n10 n11 n12 n13 n14 n15  
  | .negSucc 0, .ofNat 1 => w_m0_a1 z0 z1 z2 z3 ao len cap n0 n1 n2 n3 n4 n5 n6 n7 n8 n9 n10 n11 n12 n13 n14 n15  
  | .negSucc 0, .ofNat (y + 2) => w_m0_p z0 z1 z2 z3 ao len cap n0 n1 n2 n3 n4 n5 n6 n7 n8 n9 n10 n11 n12 n13 n14 n15  y
  | .negSucc 0, .negSucc 0 => w_m0_m0 z0 z1 z2 z3 ao len cap n0 n1 n2 n3 n4 n5 n6 n7 n8 n9 n10 n11 n12 n13 n14 n15  
  | .negSucc 0, .negSucc (y + 1) => w_m0_m z0 z1 z2 z3 ao len cap n0 n1 n2 n3 n4 n5 n6 n7 n8 n9 n10 n11 n12 n13 n14 n15  y
  | .negSucc (x + 1), .ofNat 0 => w_m_a0 z0 z1 z2 z3 ao len cap n0 n1 n2 n3 n4 n5 n6 n7 n8 n9 n10 n11 n12 n13 n14 n15 x 
  | .negSucc (x + 1), .ofNat 1 => w_m_a1 z0 z1 z2 z3 ao len cap n0 n1 n2 n3 n4 n5 n6 n7 n8 n9 n10 n11 n12 n13 n14 n15 x 
  | .negSucc (x + 1), .ofNat (y + 2) => w_m_p z0 z1 z2 z3 ao len cap n0 n1 n2 n3 n4 n5 n6 n7 n8 n9 n10 n11 n12 n13 n14 n15 x y
  | .negSucc (x + 1), .negSucc 0 => w_m_m0 z0 z1 z2 z3 ao len cap n0 n1 n2 n3 n4 n5 n6 n7 n8 n9 n10 n11 n12 n13 n14 n15 x 
  | .negSucc (x + 1), .negSucc (y + 1) => w_m_m z0 z1 z2 z3 ao len cap n0 n1 n2 n3 n4 n5 n6 n7 n8 n9 n10 n11 n12 n13 n14 n15 x y
end Go.Proofs.YtadpefhaibkbjaaGreat
