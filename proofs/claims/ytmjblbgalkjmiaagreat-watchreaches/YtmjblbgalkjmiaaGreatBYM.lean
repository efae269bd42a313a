/- What the runs say: the chapter's examples answer true, whatever the world. -/
import Derived.Test.YtmjblbgalkjmiaaGreatBYK1
import Derived.Test.YtmjblbgalkjmiaaGreatBYK2
import Derived.Test.YtmjblbgalkjmiaaGreatBYK3
import Derived.Test.YtmjblbgalkjmiaaGreatBYK4
namespace Go.Proofs.YtmjblbgalkjmiaaGreat
open EX
set_option maxRecDepth 1000000
theorem eyj5 : CallEq Tryz.prog 254 ⟨[pv 698 0]⟩ yh7 15007 (sv 30041 0 2 2) yh8 15097 := callEq_of (call_sound zc yfollows (noM_ok) 100000) (fB_eq yh7) (fB_eq yh8) (of_eq_true yj5)
theorem myj5_ok : MemoOK Tryz.prog myj5 := memoA_ok (fB_eq yh7) (fB_eq yh8) eyj5
theorem eyj6 : CallEq Tryz.prog 254 ⟨[pv 698 0]⟩ yh7 16114 (sv 32255 0 2 2) yh9 16204 := callEq_of (call_sound zc yfollows (noM_ok) 100000) (fB_eq yh7) (fB_eq yh9) (of_eq_true yj6)
theorem myj6_ok : MemoOK Tryz.prog myj6 := memoA_ok (fB_eq yh7) (fB_eq yh9) eyj6
theorem eyj7 : CallEq Tryz.prog 254 ⟨[pv 1352 0]⟩ yh10 18046 (sv 36119 0 2 2) yh11 18136 := callEq_of (call_sound zc yfollows (noM_ok) 100000) (fB_eq yh10) (fB_eq yh11) (of_eq_true yj7)
theorem myj7_ok : MemoOK Tryz.prog myj7 := memoA_ok (fB_eq yh10) (fB_eq yh11) eyj7
theorem eyj8 : CallEq Tryz.prog 254 ⟨[pv 1352 0]⟩ yh10 19606 (sv 39239 0 2 2) yh12 19696 := callEq_of (call_sound zc yfollows (noM_ok) 100000) (fB_eq yh10) (fB_eq yh12) (of_eq_true yj8)
theorem myj8_ok : MemoOK Tryz.prog myj8 := memoA_ok (fB_eq yh10) (fB_eq yh12) eyj8
theorem eyc2 : CallEq Tryz.prog 37 ⟨[pv 178 0, .agg ⟨[iv .i64 3, iv .i64 0, iv .i64 1, iv .i64 0, iv .u8 0, iv .u8 0, iv .u8 0, iv .u8 0, iv .u8 0, iv .u8 0, iv .u8 0, iv .u8 0, iv .u8 0, iv .u8 0, iv .u8 0, iv .u8 0, iv .u8 0, iv .u8 0, iv .u8 0, iv .u8 0, .slice none 0 0]⟩]⟩ yh2 794 (.bool true) yh3 813 := callEq_of (call_sound zc yfollows (noM_ok) 100000) (fB_eq yh2) (fB_eq yh3) (of_eq_true yc2)
theorem myc2_ok : MemoOK Tryz.prog myc2 := memoA_ok (fB_eq yh2) (fB_eq yh3) eyc2
theorem eyc11 : CallEq Tryz.prog 37 ⟨[pv 178 0, .agg ⟨[iv .i64 4, iv .i64 0, iv .i64 1, iv .i64 0, iv .u8 0, iv .u8 0, iv .u8 0, iv .u8 0, iv .u8 0, iv .u8 0, iv .u8 0, iv .u8 0, iv .u8 0, iv .u8 0, iv .u8 0, iv .u8 0, iv .u8 0, iv .u8 0, iv .u8 0, iv .u8 0, .slice none 0 0]⟩]⟩ yh13 27626 (.bool true) yh14 27645 := callEq_of (call_sound zc yfollows (noM_ok) 100000) (fB_eq yh13) (fB_eq yh14) (of_eq_true yc11)
theorem myc11_ok : MemoOK Tryz.prog myc11 := memoA_ok (fB_eq yh13) (fB_eq yh14) eyc11
theorem eyc0 : CallEq Tryz.prog 37 ⟨[pv 178 0, .agg ⟨[iv .i64 1, iv .i64 0, iv .i64 0, iv .i64 0, iv .u8 0, iv .u8 0, iv .u8 0, iv .u8 0, iv .u8 0, iv .u8 0, iv .u8 0, iv .u8 0, iv .u8 0, iv .u8 0, iv .u8 0, iv .u8 0, iv .u8 0, iv .u8 0, iv .u8 0, iv .u8 0, .slice none 0 0]⟩]⟩ yh0 140 (.bool true) yh1 466 := callEq_of (call_sound zc yfollows (noM_ok) 100000) (fB_eq yh0) (fB_eq yh1) (of_eq_true yc0)
theorem myc0_ok : MemoOK Tryz.prog myc0 := memoA_ok (fB_eq yh0) (fB_eq yh1) eyc0
theorem eyc1 : CallEq Tryz.prog 37 ⟨[pv 178 0, .agg ⟨[iv .i64 1, iv .i64 1, iv .i64 0, iv .i64 0, iv .u8 0, iv .u8 0, iv .u8 0, iv .u8 0, iv .u8 0, iv .u8 0, iv .u8 0, iv .u8 0, iv .u8 0, iv .u8 0, iv .u8 0, iv .u8 0, iv .u8 0, iv .u8 0, iv .u8 0, iv .u8 0, .slice none 0 0]⟩]⟩ yh1 467 (.bool true) yh2 793 := callEq_of (call_sound zc yfollows (noM_ok) 100000) (fB_eq yh1) (fB_eq yh2) (of_eq_true yc1)
theorem myc1_ok : MemoOK Tryz.prog myc1 := memoA_ok (fB_eq yh1) (fB_eq yh2) eyc1
theorem eyc12 : CallEq Tryz.prog 125 ⟨[pv 178 0]⟩ yh15 28079 (.tuple ⟨[]⟩) yh16 28809 := callEq_of (call_sound zc yfollows (noM_ok) 100000) (fB_eq yh15) (fB_eq yh16) (of_eq_true yc12)
theorem myc12_ok : MemoOK Tryz.prog myc12 := memoA_ok (fB_eq yh15) (fB_eq yh16) eyc12
theorem eyc13 : CallEq Tryz.prog 37 ⟨[pv 178 0, .agg ⟨[iv .i64 11, iv .i64 0, iv .i64 0, iv .i64 1, iv .u8 0, iv .u8 0, iv .u8 0, iv .u8 0, iv .u8 0, iv .u8 0, iv .u8 0, iv .u8 0, iv .u8 0, iv .u8 0, iv .u8 0, iv .u8 0, iv .u8 0, iv .u8 0, iv .u8 0, iv .u8 0, .slice none 0 0]⟩]⟩ yh14 28078 (.bool true) yh16 28809 := callEq_of (call_sound zc yfollows (orM_ok myc12_ok (noM_ok)) 100000) (fB_eq yh14) (fB_eq yh16) (of_eq_true yc13)
theorem myc13_ok : MemoOK Tryz.prog myc13 := memoA_ok (fB_eq yh14) (fB_eq yh16) eyc13
theorem eyc3 : CallEq Tryz.prog 125 ⟨[pv 178 0]⟩ yh4 815 (.tuple ⟨[]⟩) yh5 5083 := callEq_of (call_sound zc yfollows (noM_ok) 100000) (fB_eq yh4) (fB_eq yh5) (of_eq_true yc3)
theorem myc3_ok : MemoOK Tryz.prog myc3 := memoA_ok (fB_eq yh4) (fB_eq yh5) eyc3
theorem eyc4 : CallEq Tryz.prog 125 ⟨[pv 178 0]⟩ yh5 5083 (.tuple ⟨[]⟩) yh6 14870 := callEq_of (call_sound zc yfollows (noM_ok) 100000) (fB_eq yh5) (fB_eq yh6) (of_eq_true yc4)
theorem myc4_ok : MemoOK Tryz.prog myc4 := memoA_ok (fB_eq yh5) (fB_eq yh6) eyc4
theorem eyc9 : CallEq Tryz.prog 125 ⟨[pv 178 0]⟩ yh6 14870 (.tuple ⟨[]⟩) yh13 26826 := callEq_of (call_sound zc yfollows (orM_ok myj5_ok (orM_ok myj6_ok (orM_ok myj7_ok (orM_ok myj8_ok (noM_ok))))) 100000) (fB_eq yh6) (fB_eq yh13) (of_eq_true yc9)
theorem myc9_ok : MemoOK Tryz.prog myc9 := memoA_ok (fB_eq yh6) (fB_eq yh13) eyc9
theorem eyc10 : CallEq Tryz.prog 37 ⟨[pv 178 0, .agg ⟨[iv .i64 11, iv .i64 0, iv .i64 0, iv .i64 3, iv .u8 0, iv .u8 0, iv .u8 0, iv .u8 0, iv .u8 0, iv .u8 0, iv .u8 0, iv .u8 0, iv .u8 0, iv .u8 0, iv .u8 0, iv .u8 0, iv .u8 0, iv .u8 0, iv .u8 0, iv .u8 0, .slice none 0 0]⟩]⟩ yh3 814 (.bool true) yh13 26826 := callEq_of (call_sound zc yfollows (orM_ok myc3_ok (orM_ok myc4_ok (orM_ok myc9_ok (noM_ok)))) 100000) (fB_eq yh3) (fB_eq yh13) (of_eq_true yc10)
theorem myc10_ok : MemoOK Tryz.prog myc10 := memoA_ok (fB_eq yh3) (fB_eq yh13) eyc10
theorem eyc14 : CallEq Tryz.prog 11 ⟨[]⟩ [] 64 (.bool true) [] 29278 := callEq_of (call_sound zc yfollows (orM_ok myc0_ok (orM_ok myc1_ok (orM_ok myc2_ok (orM_ok myc10_ok (orM_ok myc11_ok (orM_ok myc13_ok (noM_ok))))))) 100000) (fB_eq []) (fB_eq []) (of_eq_true yc14)
theorem fixed_lone : Lone Tryz.prog 11 (.bool true) := lone_of rfl eyc14
end Go.Proofs.YtmjblbgalkjmiaaGreat
