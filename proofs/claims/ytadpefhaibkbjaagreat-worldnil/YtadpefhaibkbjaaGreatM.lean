/- What the runs say: two nodes that are linked and calm come to one state, whatever the world; the chapter's example answers true. -/
import Derived.Test.YtadpefhaibkbjaaGreatK1
import Derived.Test.YtadpefhaibkbjaaGreatK2
import Derived.Test.YtadpefhaibkbjaaGreatK3
import Derived.Test.YtadpefhaibkbjaaGreatK4
namespace Go.Proofs.YtadpefhaibkbjaaGreat
open EX
set_option maxRecDepth 1000000
theorem ej4 : CallEq Tryz.prog 254 ⟨[pv 700 0]⟩ h5 15010 (sv 30047 0 2 2) h6 15100 := callEq_of (call_sound zc follows (noM_ok) 100000) (fB_eq h5) (fB_eq h6) (of_eq_true j4)
theorem mj4_ok : MemoOK Tryz.prog mj4 := memoA_ok (fB_eq h5) (fB_eq h6) ej4
theorem ej5 : CallEq Tryz.prog 254 ⟨[pv 700 0]⟩ h5 16117 (sv 32261 0 2 2) h7 16207 := callEq_of (call_sound zc follows (noM_ok) 100000) (fB_eq h5) (fB_eq h7) (of_eq_true j5)
theorem mj5_ok : MemoOK Tryz.prog mj5 := memoA_ok (fB_eq h5) (fB_eq h7) ej5
theorem ej6 : CallEq Tryz.prog 254 ⟨[pv 1354 0]⟩ h8 18049 (sv 36125 0 2 2) h9 18139 := callEq_of (call_sound zc follows (noM_ok) 100000) (fB_eq h8) (fB_eq h9) (of_eq_true j6)
theorem mj6_ok : MemoOK Tryz.prog mj6 := memoA_ok (fB_eq h8) (fB_eq h9) ej6
theorem ej7 : CallEq Tryz.prog 254 ⟨[pv 1354 0]⟩ h8 19609 (sv 39245 0 2 2) h10 19699 := callEq_of (call_sound zc follows (noM_ok) 100000) (fB_eq h8) (fB_eq h10) (of_eq_true j7)
theorem mj7_ok : MemoOK Tryz.prog mj7 := memoA_ok (fB_eq h8) (fB_eq h10) ej7
theorem ec2 : CallEq Tryz.prog 14 ⟨[pv 178 0, .agg ⟨[iv .i64 3, iv .i64 0, iv .i64 1, iv .i64 0, iv .u8 0, iv .u8 0, iv .u8 0, iv .u8 0, iv .u8 0, iv .u8 0, iv .u8 0, iv .u8 0, iv .u8 0, iv .u8 0, iv .u8 0, iv .u8 0, iv .u8 0, iv .u8 0, iv .u8 0, iv .u8 0, .slice none 0 0]⟩]⟩ h2 795 (.bool true) h3 814 := callEq_of (call_sound zc follows (noM_ok) 100000) (fB_eq h2) (fB_eq h3) (of_eq_true c2)
theorem mc2_ok : MemoOK Tryz.prog mc2 := memoA_ok (fB_eq h2) (fB_eq h3) ec2
theorem ec0 : CallEq Tryz.prog 14 ⟨[pv 178 0, .agg ⟨[iv .i64 1, iv .i64 0, iv .i64 0, iv .i64 0, iv .u8 0, iv .u8 0, iv .u8 0, iv .u8 0, iv .u8 0, iv .u8 0, iv .u8 0, iv .u8 0, iv .u8 0, iv .u8 0, iv .u8 0, iv .u8 0, iv .u8 0, iv .u8 0, iv .u8 0, iv .u8 0, .slice none 0 0]⟩]⟩ h0 141 (.bool true) h1 467 := callEq_of (call_sound zc follows (noM_ok) 100000) (fB_eq h0) (fB_eq h1) (of_eq_true c0)
theorem mc0_ok : MemoOK Tryz.prog mc0 := memoA_ok (fB_eq h0) (fB_eq h1) ec0
theorem ec1 : CallEq Tryz.prog 14 ⟨[pv 178 0, .agg ⟨[iv .i64 1, iv .i64 1, iv .i64 0, iv .i64 0, iv .u8 0, iv .u8 0, iv .u8 0, iv .u8 0, iv .u8 0, iv .u8 0, iv .u8 0, iv .u8 0, iv .u8 0, iv .u8 0, iv .u8 0, iv .u8 0, iv .u8 0, iv .u8 0, iv .u8 0, iv .u8 0, .slice none 0 0]⟩]⟩ h1 468 (.bool true) h2 794 := callEq_of (call_sound zc follows (noM_ok) 100000) (fB_eq h1) (fB_eq h2) (of_eq_true c1)
theorem mc1_ok : MemoOK Tryz.prog mc1 := memoA_ok (fB_eq h1) (fB_eq h2) ec1
theorem ec9 : CallEq Tryz.prog 14 ⟨[pv 178 0, .agg ⟨[iv .i64 9, iv .i64 0, iv .i64 0, iv .i64 1, iv .u8 2, iv .u8 0, iv .u8 0, iv .u8 0, iv .u8 0, iv .u8 0, iv .u8 0, iv .u8 0, iv .u8 0, iv .u8 0, iv .u8 0, iv .u8 0, iv .u8 0, iv .u8 0, iv .u8 0, iv .u8 0, sv 276 0 1 1]⟩]⟩ h12 26830 (.bool true) h13 28384 := callEq_of (call_sound zc follows (noM_ok) 100000) (fB_eq h12) (fB_eq h13) (of_eq_true c9)
theorem mc9_ok : MemoOK Tryz.prog mc9 := memoA_ok (fB_eq h12) (fB_eq h13) ec9
theorem ec8 : CallEq Tryz.prog 14 ⟨[pv 178 0, .agg ⟨[iv .i64 11, iv .i64 0, iv .i64 0, iv .i64 1, iv .u8 0, iv .u8 0, iv .u8 0, iv .u8 0, iv .u8 0, iv .u8 0, iv .u8 0, iv .u8 0, iv .u8 0, iv .u8 0, iv .u8 0, iv .u8 0, iv .u8 0, iv .u8 0, iv .u8 0, iv .u8 0, .slice none 0 0]⟩]⟩ h4 14872 (.bool true) h11 26829 := callEq_of (call_sound zc follows (orM_ok mj4_ok (orM_ok mj5_ok (orM_ok mj6_ok (orM_ok mj7_ok (noM_ok))))) 100000) (fB_eq h4) (fB_eq h11) (of_eq_true c8)
theorem mc8_ok : MemoOK Tryz.prog mc8 := memoA_ok (fB_eq h4) (fB_eq h11) ec8
theorem ec10 : CallEq Tryz.prog 14 ⟨[pv 178 0, .agg ⟨[iv .i64 11, iv .i64 0, iv .i64 0, iv .i64 1, iv .u8 0, iv .u8 0, iv .u8 0, iv .u8 0, iv .u8 0, iv .u8 0, iv .u8 0, iv .u8 0, iv .u8 0, iv .u8 0, iv .u8 0, iv .u8 0, iv .u8 0, iv .u8 0, iv .u8 0, iv .u8 0, .slice none 0 0]⟩]⟩ h14 28385 (.bool true) h15 44525 := callEq_of (call_sound zc follows (noM_ok) 100000) (fB_eq h14) (fB_eq h15) (of_eq_true c10)
theorem mc10_ok : MemoOK Tryz.prog mc10 := memoA_ok (fB_eq h14) (fB_eq h15) ec10
theorem ec3 : CallEq Tryz.prog 14 ⟨[pv 178 0, .agg ⟨[iv .i64 11, iv .i64 0, iv .i64 0, iv .i64 2, iv .u8 0, iv .u8 0, iv .u8 0, iv .u8 0, iv .u8 0, iv .u8 0, iv .u8 0, iv .u8 0, iv .u8 0, iv .u8 0, iv .u8 0, iv .u8 0, iv .u8 0, iv .u8 0, iv .u8 0, iv .u8 0, .slice none 0 0]⟩]⟩ h3 815 (.bool true) h4 14871 := callEq_of (call_sound zc follows (noM_ok) 100000) (fB_eq h3) (fB_eq h4) (of_eq_true c3)
theorem mc3_ok : MemoOK Tryz.prog mc3 := memoA_ok (fB_eq h3) (fB_eq h4) ec3
theorem ec11 : CallEq Tryz.prog 31 ⟨[]⟩ [] 64 (pv 178 0) h15 44525 := callEq_of (call_sound zc follows (orM_ok mc0_ok (orM_ok mc1_ok (orM_ok mc2_ok (orM_ok mc3_ok (orM_ok mc8_ok (orM_ok mc9_ok (orM_ok mc10_ok (noM_ok)))))))) 100000) (fB_eq []) (fB_eq h15) (of_eq_true c11)
theorem mc11_ok : MemoOK Tryz.prog mc11 := memoA_ok (fB_eq []) (fB_eq h15) ec11
theorem ec12 : CallEq Tryz.prog 9 ⟨[]⟩ [] 64 (.bool true) [] 44671 := callEq_of (call_sound zc follows (orM_ok mc11_ok (noM_ok)) 100000) (fB_eq []) (fB_eq []) (of_eq_true c12)
theorem fixed_lone : Lone Tryz.prog 9 (.bool true) := lone_of rfl ec12
theorem fixed_ok : MemoOK Tryz.prog (memoB 9 (.bool true)) := memoB_ok rfl fixed_lone
end Go.Proofs.YtadpefhaibkbjaaGreat
