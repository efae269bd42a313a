/- The law that a nil node refuses all, run by the kernel: whatever the number, the bytes and the identity. -/
import Derived.Test.YtekhnmfmdkfidaaGreatR0
namespace Go.Proofs.YtekhnmfmdkfidaaGreat
open EX
set_option maxRecDepth 1000000
theorem nil_run (z : Int) (ao : Option Addr) (len cap : Nat) (n0 n1 n2 n3 n4 n5 n6 n7 n8 n9 n10 n11 n12 n13 n14 n15 : Int) :
    callK Tryz.prog (execK Tryz.prog 100000) 7 #[.int .i64 z, .slice ao len cap, .agg #[.int .u8 n0, .int .u8 n1, .int .u8 n2, .int .u8 n3, .int .u8 n4, .int .u8 n5, .int .u8 n6, .int .u8 n7, .int .u8 n8, .int .u8 n9, .int .u8 n10, .int .u8 n11, .int .u8 n12, .int .u8 n13, .int .u8 n14, .int .u8 n15]] ⟨.leaf, 1⟩ (fun v _ n => match v with
      | .bool true => n
      | _ => False) True = True := by kernel_rfl
end Go.Proofs.YtekhnmfmdkfidaaGreat
