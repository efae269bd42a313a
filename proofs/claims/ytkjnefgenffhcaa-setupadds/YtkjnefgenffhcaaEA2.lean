/- Laws of earlier stages, turned to this program (A2). -/
import Derived.Test.YtkjnefgenffhcaaEA1
namespace Go.Proofs.Ytkjnefgenffhcaa
open Go.RowKit
set_option maxRecDepth 100000 in
set_option maxHeartbeats 4000000 in
theorem kind_1 (x0 : Int) (x1 : Int) (x2 : Int) (x3 : Int) (x4 : Nat → Nat) (w : World) : Calls Try.prog 105 #[.agg (c131 x0 x1 x2 x3 x4)] w fun e w' => e = .returned (.int .i64 1) ∧ Gro w w' := by
  refine s_enter Try.func105 rfl Try.ntmps105 [.agg (c131 x0 x1 x2 x3 x4)] [.agg (c131 x0 x1 x2 x3 x4), undef, undef] rfl ?_
  have GG := Gro.refl w
  refine wp_seq ?_
  refine wp_region_lit ?_
  refine s_box 1 rfl rfl 131 _ rfl _ rfl (c131 x0 x1 x2 x3 x4) rfl ?_
  intro w1 g1 G eg1 kg1
  have bg1 := size_base GG eg1
  replace GG := GG.trans G
  clear G eg1
  simp only [z0, z1]
  refine s_val 2 rfl rfl (.int .i64 0) (rfl) ?_
  simp only [z0, z1]
  refine wpList_nil ?_
  refine then_n ?_
  refine wp_seq ?_
  refine wp_region_lit ?_
  refine s_val 2 rfl rfl (.int .i64 1) (rfl) ?_
  simp only [z0, z1]
  refine wpList_nil ?_
  refine then_n ?_
  refine wp_ret ?_
  refine bodyPost_ret (results_tmp Try.results105 _ _ _) rfl ?_
  exact ⟨rfl, GG⟩
set_option maxRecDepth 100000 in
set_option maxHeartbeats 4000000 in
theorem kind_2 (x0 : Int) (x1 : Int) (x2 : Int) (x3 : Int) (x4 : Int) (x5 : Sl) (w : World) : Calls Try.prog 106 #[.agg (c133 x0 x1 x2 x3 x4 x5)] w fun e w' => e = .returned (.int .i64 2) ∧ Gro w w' := by
  refine s_enter Try.func106 rfl Try.ntmps106 [.agg (c133 x0 x1 x2 x3 x4 x5)] [.agg (c133 x0 x1 x2 x3 x4 x5), undef, undef] rfl ?_
  have GG := Gro.refl w
  refine wp_seq ?_
  refine wp_region_lit ?_
  refine s_box 1 rfl rfl 133 _ rfl _ rfl (c133 x0 x1 x2 x3 x4 x5) rfl ?_
  intro w1 g1 G eg1 kg1
  have bg1 := size_base GG eg1
  replace GG := GG.trans G
  clear G eg1
  simp only [z0, z1]
  refine s_val 2 rfl rfl (.int .i64 0) (rfl) ?_
  simp only [z0, z1]
  refine wpList_nil ?_
  refine then_n ?_
  refine wp_seq ?_
  refine wp_region_lit ?_
  refine s_val 2 rfl rfl (.int .i64 2) (rfl) ?_
  simp only [z0, z1]
  refine wpList_nil ?_
  refine then_n ?_
  refine wp_ret ?_
  refine bodyPost_ret (results_tmp Try.results106 _ _ _) rfl ?_
  exact ⟨rfl, GG⟩
set_option maxRecDepth 100000 in
set_option maxHeartbeats 4000000 in
theorem kind_3 (x0 : Int) (x1 : Int) (x2 : Int) (x3 : Int) (x4 : Int) (w : World) : Calls Try.prog 107 #[.agg (c135 x0 x1 x2 x3 x4)] w fun e w' => e = .returned (.int .i64 3) ∧ Gro w w' := by
  refine s_enter Try.func107 rfl Try.ntmps107 [.agg (c135 x0 x1 x2 x3 x4)] [.agg (c135 x0 x1 x2 x3 x4), undef, undef] rfl ?_
  have GG := Gro.refl w
  refine wp_seq ?_
  refine wp_region_lit ?_
  refine s_box 1 rfl rfl 135 _ rfl _ rfl (c135 x0 x1 x2 x3 x4) rfl ?_
  intro w1 g1 G eg1 kg1
  have bg1 := size_base GG eg1
  replace GG := GG.trans G
  clear G eg1
  simp only [z0, z1]
  refine s_val 2 rfl rfl (.int .i64 0) (rfl) ?_
  simp only [z0, z1]
  refine wpList_nil ?_
  refine then_n ?_
  refine wp_seq ?_
  refine wp_region_lit ?_
  refine s_val 2 rfl rfl (.int .i64 3) (rfl) ?_
  simp only [z0, z1]
  refine wpList_nil ?_
  refine then_n ?_
  refine wp_ret ?_
  refine bodyPost_ret (results_tmp Try.results107 _ _ _) rfl ?_
  exact ⟨rfl, GG⟩
set_option maxRecDepth 100000 in
set_option maxHeartbeats 4000000 in
theorem kind_4 (x0 : Nat → Nat) (x1 : Int) (x2 : Nat → Nat) (x3 : Nat → Nat) (x4 : Sl) (w : World) : Calls Try.prog 103 #[.agg (c88 x0 x1 x2 x3 x4)] w fun e w' => e = .returned (.int .i64 4) ∧ Gro w w' := by
  refine s_enter Try.func103 rfl Try.ntmps103 [.agg (c88 x0 x1 x2 x3 x4)] [.agg (c88 x0 x1 x2 x3 x4), undef, undef] rfl ?_
  have GG := Gro.refl w
  refine wp_seq ?_
  refine wp_region_lit ?_
  refine s_box 1 rfl rfl 88 _ rfl _ rfl (c88 x0 x1 x2 x3 x4) rfl ?_
  intro w1 g1 G eg1 kg1
  have bg1 := size_base GG eg1
  replace GG := GG.trans G
  clear G eg1
  simp only [z0, z1]
  refine s_val 2 rfl rfl (.int .i64 0) (rfl) ?_
  simp only [z0, z1]
  refine wpList_nil ?_
  refine then_n ?_
  refine wp_seq ?_
  refine wp_region_lit ?_
  refine s_val 2 rfl rfl (.int .i64 4) (rfl) ?_
  simp only [z0, z1]
  refine wpList_nil ?_
  refine then_n ?_
  refine wp_ret ?_
  refine bodyPost_ret (results_tmp Try.results103 _ _ _) rfl ?_
  exact ⟨rfl, GG⟩
set_option maxRecDepth 100000 in
set_option maxHeartbeats 4000000 in
theorem kind_5 (x0 : Nat → Nat) (x1 : Int) (w : World) : Calls Try.prog 104 #[.agg (c126 x0 x1)] w fun e w' => e = .returned (.int .i64 5) ∧ Gro w w' := by
  refine s_enter Try.func104 rfl Try.ntmps104 [.agg (c126 x0 x1)] [.agg (c126 x0 x1), undef, undef] rfl ?_
  have GG := Gro.refl w
  refine wp_seq ?_
  refine wp_region_lit ?_
  refine s_box 1 rfl rfl 126 _ rfl _ rfl (c126 x0 x1) rfl ?_
  intro w1 g1 G eg1 kg1
  have bg1 := size_base GG eg1
  replace GG := GG.trans G
  clear G eg1
  simp only [z0, z1]
  refine s_val 2 rfl rfl (.int .i64 0) (rfl) ?_
  simp only [z0, z1]
  refine wpList_nil ?_
  refine then_n ?_
  refine wp_seq ?_
  refine wp_region_lit ?_
  refine s_val 2 rfl rfl (.int .i64 5) (rfl) ?_
  simp only [z0, z1]
  refine wpList_nil ?_
  refine then_n ?_
  refine wp_ret ?_
  refine bodyPost_ret (results_tmp Try.results104 _ _ _) rfl ?_
  exact ⟨rfl, GG⟩
set_option maxRecDepth 100000 in
set_option maxHeartbeats 4000000 in
theorem kind_6 (x0 : Nat → Nat) (x1 : Int) (x2 : Bool) (w : World) : Calls Try.prog 108 #[.agg (c137 x0 x1 x2)] w fun e w' => e = .returned (.int .i64 6) ∧ Gro w w' := by
  refine s_enter Try.func108 rfl Try.ntmps108 [.agg (c137 x0 x1 x2)] [.agg (c137 x0 x1 x2), undef, undef] rfl ?_
  have GG := Gro.refl w
  refine wp_seq ?_
  refine wp_region_lit ?_
  refine s_box 1 rfl rfl 137 _ rfl _ rfl (c137 x0 x1 x2) rfl ?_
  intro w1 g1 G eg1 kg1
  have bg1 := size_base GG eg1
  replace GG := GG.trans G
  clear G eg1
  simp only [z0, z1]
  refine s_val 2 rfl rfl (.int .i64 0) (rfl) ?_
  simp only [z0, z1]
  refine wpList_nil ?_
  refine then_n ?_
  refine wp_seq ?_
  refine wp_region_lit ?_
  refine s_val 2 rfl rfl (.int .i64 6) (rfl) ?_
  simp only [z0, z1]
  refine wpList_nil ?_
  refine then_n ?_
  refine wp_ret ?_
  refine bodyPost_ret (results_tmp Try.results108 _ _ _) rfl ?_
  exact ⟨rfl, GG⟩
set_option maxRecDepth 100000 in
set_option maxHeartbeats 4000000 in
theorem kind_7 (x0 : Nat → Nat) (x1 : Int) (x2 : Bool) (x3 : Sl) (w : World) : Calls Try.prog 109 #[.agg (c139 x0 x1 x2 x3)] w fun e w' => e = .returned (.int .i64 7) ∧ Gro w w' := by
  refine s_enter Try.func109 rfl Try.ntmps109 [.agg (c139 x0 x1 x2 x3)] [.agg (c139 x0 x1 x2 x3), undef, undef] rfl ?_
  have GG := Gro.refl w
  refine wp_seq ?_
  refine wp_region_lit ?_
  refine s_box 1 rfl rfl 139 _ rfl _ rfl (c139 x0 x1 x2 x3) rfl ?_
  intro w1 g1 G eg1 kg1
  have bg1 := size_base GG eg1
  replace GG := GG.trans G
  clear G eg1
  simp only [z0, z1]
  refine s_val 2 rfl rfl (.int .i64 0) (rfl) ?_
  simp only [z0, z1]
  refine wpList_nil ?_
  refine then_n ?_
  refine wp_seq ?_
  refine wp_region_lit ?_
  refine s_val 2 rfl rfl (.int .i64 7) (rfl) ?_
  simp only [z0, z1]
  refine wpList_nil ?_
  refine then_n ?_
  refine wp_ret ?_
  refine bodyPost_ret (results_tmp Try.results109 _ _ _) rfl ?_
  exact ⟨rfl, GG⟩
set_option maxRecDepth 100000 in
set_option maxHeartbeats 4000000 in
theorem kind_8 (x0 : Nat → Nat) (x1 : Nat → Nat) (x2 : Int) (x3 : Nat → Nat) (x4 : Int) (x5 : Bool) (x6 : Sl) (w : World) : Calls Try.prog 110 #[.agg (c141 x0 x1 x2 x3 x4 x5 x6)] w fun e w' => e = .returned (.int .i64 8) ∧ Gro w w' := by
  refine s_enter Try.func110 rfl Try.ntmps110 [.agg (c141 x0 x1 x2 x3 x4 x5 x6)] [.agg (c141 x0 x1 x2 x3 x4 x5 x6), undef, undef] rfl ?_
  have GG := Gro.refl w
  refine wp_seq ?_
  refine wp_region_lit ?_
  refine s_box 1 rfl rfl 141 _ rfl _ rfl (c141 x0 x1 x2 x3 x4 x5 x6) rfl ?_
  intro w1 g1 G eg1 kg1
  have bg1 := size_base GG eg1
  replace GG := GG.trans G
  clear G eg1
  simp only [z0, z1]
  refine s_val 2 rfl rfl (.int .i64 0) (rfl) ?_
  simp only [z0, z1]
  refine wpList_nil ?_
  refine then_n ?_
  refine wp_seq ?_
  refine wp_region_lit ?_
  refine s_val 2 rfl rfl (.int .i64 8) (rfl) ?_
  simp only [z0, z1]
  refine wpList_nil ?_
  refine then_n ?_
  refine wp_ret ?_
  refine bodyPost_ret (results_tmp Try.results110 _ _ _) rfl ?_
  exact ⟨rfl, GG⟩
set_option maxRecDepth 100000 in
set_option maxHeartbeats 4000000 in
theorem kind_9 (x0 : Nat → Nat) (x1 : Int) (w : World) : Calls Try.prog 111 #[.agg (c143 x0 x1)] w fun e w' => e = .returned (.int .i64 9) ∧ Gro w w' := by
  refine s_enter Try.func111 rfl Try.ntmps111 [.agg (c143 x0 x1)] [.agg (c143 x0 x1), undef, undef] rfl ?_
  have GG := Gro.refl w
  refine wp_seq ?_
  refine wp_region_lit ?_
  refine s_box 1 rfl rfl 143 _ rfl _ rfl (c143 x0 x1) rfl ?_
  intro w1 g1 G eg1 kg1
  have bg1 := size_base GG eg1
  replace GG := GG.trans G
  clear G eg1
  simp only [z0, z1]
  refine s_val 2 rfl rfl (.int .i64 0) (rfl) ?_
  simp only [z0, z1]
  refine wpList_nil ?_
  refine then_n ?_
  refine wp_seq ?_
  refine wp_region_lit ?_
  refine s_val 2 rfl rfl (.int .i64 9) (rfl) ?_
  simp only [z0, z1]
  refine wpList_nil ?_
  refine then_n ?_
  refine wp_ret ?_
  refine bodyPost_ret (results_tmp Try.results111 _ _ _) rfl ?_
  exact ⟨rfl, GG⟩
set_option maxRecDepth 100000 in
set_option maxHeartbeats 4000000 in
theorem kind_10 (x0 : Nat → Nat) (x1 : Nat → Nat) (x2 : Int) (x3 : Int) (x4 : Int) (x5 : Nat → Nat) (x6 : Int) (x7 : Nat → Nat) (x8 : Sl) (x9 : Sl) (w : World) : Calls Try.prog 112 #[.agg (c145 x0 x1 x2 x3 x4 x5 x6 x7 x8 x9)] w fun e w' => e = .returned (.int .i64 10) ∧ Gro w w' := by
  refine s_enter Try.func112 rfl Try.ntmps112 [.agg (c145 x0 x1 x2 x3 x4 x5 x6 x7 x8 x9)] [.agg (c145 x0 x1 x2 x3 x4 x5 x6 x7 x8 x9), undef, undef] rfl ?_
  have GG := Gro.refl w
  refine wp_seq ?_
  refine wp_region_lit ?_
  refine s_box 1 rfl rfl 145 _ rfl _ rfl (c145 x0 x1 x2 x3 x4 x5 x6 x7 x8 x9) rfl ?_
  intro w1 g1 G eg1 kg1
  have bg1 := size_base GG eg1
  replace GG := GG.trans G
  clear G eg1
  simp only [z0, z1]
  refine s_val 2 rfl rfl (.int .i64 0) (rfl) ?_
  simp only [z0, z1]
  refine wpList_nil ?_
  refine then_n ?_
  refine wp_seq ?_
  refine wp_region_lit ?_
  refine s_val 2 rfl rfl (.int .i64 10) (rfl) ?_
  simp only [z0, z1]
  refine wpList_nil ?_
  refine then_n ?_
  refine wp_ret ?_
  refine bodyPost_ret (results_tmp Try.results112 _ _ _) rfl ?_
  exact ⟨rfl, GG⟩
set_option maxRecDepth 100000 in
set_option maxHeartbeats 4000000 in
theorem kind_11 (x0 : Nat → Nat) (x1 : Int) (x2 : Bool) (x3 : Nat → Nat) (x4 : Int) (x5 : Nat → Nat) (x6 : Sl) (w : World) : Calls Try.prog 113 #[.agg (c147 x0 x1 x2 x3 x4 x5 x6)] w fun e w' => e = .returned (.int .i64 11) ∧ Gro w w' := by
  refine s_enter Try.func113 rfl Try.ntmps113 [.agg (c147 x0 x1 x2 x3 x4 x5 x6)] [.agg (c147 x0 x1 x2 x3 x4 x5 x6), undef, undef] rfl ?_
  have GG := Gro.refl w
  refine wp_seq ?_
  refine wp_region_lit ?_
  refine s_box 1 rfl rfl 147 _ rfl _ rfl (c147 x0 x1 x2 x3 x4 x5 x6) rfl ?_
  intro w1 g1 G eg1 kg1
  have bg1 := size_base GG eg1
  replace GG := GG.trans G
  clear G eg1
  simp only [z0, z1]
  refine s_val 2 rfl rfl (.int .i64 0) (rfl) ?_
  simp only [z0, z1]
  refine wpList_nil ?_
  refine then_n ?_
  refine wp_seq ?_
  refine wp_region_lit ?_
  refine s_val 2 rfl rfl (.int .i64 11) (rfl) ?_
  simp only [z0, z1]
  refine wpList_nil ?_
  refine then_n ?_
  refine wp_ret ?_
  refine bodyPost_ret (results_tmp Try.results113 _ _ _) rfl ?_
  exact ⟨rfl, GG⟩
set_option maxRecDepth 100000 in
set_option maxHeartbeats 4000000 in
theorem kind_12 (x0 : Nat → Nat) (x1 : Int) (x2 : Bool) (x3 : Nat → Nat) (x4 : Int) (x5 : Nat → Nat) (w : World) : Calls Try.prog 114 #[.agg (c149 x0 x1 x2 x3 x4 x5)] w fun e w' => e = .returned (.int .i64 12) ∧ Gro w w' := by
  refine s_enter Try.func114 rfl Try.ntmps114 [.agg (c149 x0 x1 x2 x3 x4 x5)] [.agg (c149 x0 x1 x2 x3 x4 x5), undef, undef] rfl ?_
  have GG := Gro.refl w
  refine wp_seq ?_
  refine wp_region_lit ?_
  refine s_box 1 rfl rfl 149 _ rfl _ rfl (c149 x0 x1 x2 x3 x4 x5) rfl ?_
  intro w1 g1 G eg1 kg1
  have bg1 := size_base GG eg1
  replace GG := GG.trans G
  clear G eg1
  simp only [z0, z1]
  refine s_val 2 rfl rfl (.int .i64 0) (rfl) ?_
  simp only [z0, z1]
  refine wpList_nil ?_
  refine then_n ?_
  refine wp_seq ?_
  refine wp_region_lit ?_
  refine s_val 2 rfl rfl (.int .i64 12) (rfl) ?_
  simp only [z0, z1]
  refine wpList_nil ?_
  refine then_n ?_
  refine wp_ret ?_
  refine bodyPost_ret (results_tmp Try.results114 _ _ _) rfl ?_
  exact ⟨rfl, GG⟩
theorem kind_any (k : Nat) (h1 : 1 ≤ k) (h2 : k ≤ 12) (f : Fr) : KindOK (bodyV k f) (k : Int) := by
  rcases is12 h1 h2 with rfl | rfl | rfl | rfl | rfl | rfl | rfl | rfl | rfl | rfl | rfl | rfl
  · exact ⟨fun w => ⟨105, [.agg (c131 f.fi f.fn f.ti f.tn f.a)], by kernel_rfl, kind_1 f.fi f.fn f.ti f.tn f.a w⟩⟩
  · exact ⟨fun w => ⟨106, [.agg (c133 f.fi f.fn f.ti f.tn f.n f.tx)], by kernel_rfl, kind_2 f.fi f.fn f.ti f.tn f.n f.tx w⟩⟩
  · exact ⟨fun w => ⟨107, [.agg (c135 f.fi f.fn f.ti f.tn f.n)], by kernel_rfl, kind_3 f.fi f.fn f.ti f.tn f.n w⟩⟩
  · exact ⟨fun w => ⟨103, [.agg (c88 f.pw f.pn f.a f.b f.tr)], by kernel_rfl, kind_4 f.pw f.pn f.a f.b f.tr w⟩⟩
  · exact ⟨fun w => ⟨104, [.agg (c126 f.pw f.pn)], by kernel_rfl, kind_5 f.pw f.pn w⟩⟩
  · exact ⟨fun w => ⟨108, [.agg (c137 f.pw f.pn f.toA)], by kernel_rfl, kind_6 f.pw f.pn f.toA w⟩⟩
  · exact ⟨fun w => ⟨109, [.agg (c139 f.pw f.pn f.toA f.ids)], by kernel_rfl, kind_7 f.pw f.pn f.toA f.ids w⟩⟩
  · exact ⟨fun w => ⟨110, [.agg (c141 f.a f.b f.op f.pw f.pn f.toA f.tr)], by kernel_rfl, kind_8 f.a f.b f.op f.pw f.pn f.toA f.tr w⟩⟩
  · exact ⟨fun w => ⟨111, [.agg (c143 f.a f.n)], by kernel_rfl, kind_9 f.a f.n w⟩⟩
  · exact ⟨fun w => ⟨112, [.agg (c145 f.a f.b f.n f.op f.ttl f.key f.vn f.vw f.val f.tx)], by kernel_rfl, kind_10 f.a f.b f.n f.op f.ttl f.key f.vn f.vw f.val f.tx w⟩⟩
  · exact ⟨fun w => ⟨113, [.agg (c147 f.pw f.pn f.toA f.key f.vn f.vw f.val)], by kernel_rfl, kind_11 f.pw f.pn f.toA f.key f.vn f.vw f.val w⟩⟩
  · exact ⟨fun w => ⟨114, [.agg (c149 f.pw f.pn f.toA f.key f.vn f.vw)], by kernel_rfl, kind_12 f.pw f.pn f.toA f.key f.vn f.vw w⟩⟩
theorem FrW.kind {w : World} {f : Fr} {d : FD} (h : FrW w f d) (k : Int) : FrW w { f with kind := k } d := ⟨h.tr, h.ids, h.val, h.tx, h.oids, h.oval, h.otx⟩
def bareD (k : Nat) (d : FD) : FD :=
  ⟨if k = 4 ∨ k = 8 then d.tr else [], if k = 7 then d.ids else [], if k = 10 ∨ k = 11 then d.val else [], if k = 2 ∨ k = 10 then d.tx else []⟩
theorem xc_nil (w : World) (sz : Nat) : XC w sz Sl.nil.ao Sl.nil.cap Sl.nil.n [] := XC.nil w sz
theorem FrW.bare {w : World} {f : Fr} {d : FD} (h : FrW w f d) (k : Nat) (h1 : 1 ≤ k) (h2 : k ≤ 12) : FrW w (bare k f) (bareD k d) := by
  rcases is12 h1 h2 with rfl | rfl | rfl | rfl | rfl | rfl | rfl | rfl | rfl | rfl | rfl | rfl <;>
    refine ⟨?_, ?_, ?_, ?_, ?_, ?_, ?_⟩ <;>
    first
    | exact h.tr | exact h.ids | exact h.val | exact h.tx | exact h.oids | exact h.oval | exact h.otx
    | exact xc_nil w _ | (intro x hx; cases hx)
structure Small (n b : Nat) : Prop where
  out : n * b ≤ 140737488355328
theorem small_nil (b : Nat) : Small Sl.nil.n b := ⟨by show 0 * b ≤ _; omega⟩
/-- Rows that may be copied. -/
structure FrS (f : Fr) : Prop where
  tr : Small f.tr.n 8
  ids : Small f.ids.n 16
  val : Small f.val.n 1
  tx : Small f.tx.n 1
theorem FrS.bare {f : Fr} (h : FrS f) (k : Nat) (h1 : 1 ≤ k) (h2 : k ≤ 12) : FrS (bare k f) := by
  rcases is12 h1 h2 with rfl | rfl | rfl | rfl | rfl | rfl | rfl | rfl | rfl | rfl | rfl | rfl <;>
    refine ⟨?_, ?_, ?_, ?_⟩ <;>
    first
    | exact h.tr | exact h.ids | exact h.val | exact h.tx | exact small_nil _
def AP (w : World) (g : Fr) (d : FD) (v : Fr → Value) (e : Ending) (w' : World) : Prop := ∃ s1 s2 s3 s4 : Sl, e = .returned (v { g with tr := s1, ids := s2, val := s3, tx := s4 }) ∧ FrO w' w.heap.size { g with tr := s1, ids := s2, val := s3, tx := s4 } d ∧ Gro w w'
theorem FrO.apart {w w' : World} {B g : Nat} {f : Fr} {d : FD} {x : Obj} (h : FrO w B f d) (S : Stored w w' g x) (hg : g < B) : FrO w' B f d :=
  ⟨h.tr.apart S (fun ad ha => by have := h.tr.ge ad ha; omega), h.ids.apart S (fun ad ha => by have := h.ids.ge ad ha; omega), h.val.apart S (fun ad ha => by have := h.val.ge ad ha; omega), h.tx.apart S (fun ad ha => by have := h.tx.ge ad ha; omega), h.oids, h.oval, h.otx⟩
set_option maxRecDepth 100000 in
set_option maxHeartbeats 4000000 in
theorem plain_gen (b : Value) (g : Fr) (dd : FD) (k : Int) (w : World) (Hf : ∀ w, Calls Try.prog 56 #[b] w fun e w' => e = .returned (.tuple #[.agg (c64 g.kind g.pw g.pn g.toA g.a g.b g.n g.fi g.fn g.ti g.tn g.tr g.ids g.key g.vn g.vw g.val g.op g.ttl g.tx), .bool true]) ∧ Gro w w') (HK : KindOK b k) (HW : FrW w g dd) (HS : FrS { g with kind := k }) : Calls Try.prog 44 #[b] w (AP w { g with kind := k } dd fun f => .agg (frA f)) := by
  refine s_enter Try.func44 rfl Try.ntmps44 [b] [b, undef, undef, undef, undef, undef, undef, undef, undef, undef, undef, undef, undef, undef, undef, undef, undef, undef] rfl ?_
  have GG := Gro.refl w
  refine wp_seq ?_
  refine wp_region_lit ?_
  refine s_alloc 2 rfl rfl 64 rfl _ zv64 _ rfl ?_
  intro w1 g1 G eg1 kg1
  have bg1 := size_base GG eg1
  replace GG := GG.trans G
  clear G eg1
  simp only [z0, z1]
  refine wpList_nil ?_
  refine then_n ?_
  refine wp_seq ?_
  refine wp_region_lit ?_
  refine s_val 6 rfl rfl (b) (rfl) ?_
  simp only [z0, z1]
  refine s_callv 7 rfl rfl _ 56 Try.call56 rfl rfl _ rfl [b] rfl (Hf _) ?_
  intro w2 G
  replace kg1 := G.has kg1
  replace GG := GG.trans G
  clear G
  simp only [z0, z1]
  refine s_val 5 rfl rfl (.tuple #[.agg (c64 g.kind g.pw g.pn g.toA g.a g.b g.n g.fi g.fn g.ti g.tn g.tr g.ids g.key g.vn g.vw g.val g.op g.ttl g.tx), .bool true]) (rfl) ?_
  simp only [z0, z1]
  refine s_val 8 rfl rfl (.agg (c64 g.kind g.pw g.pn g.toA g.a g.b g.n g.fi g.fn g.ti g.tn g.tr g.ids g.key g.vn g.vw g.val g.op g.ttl g.tx)) (rfl) ?_
  simp only [z0, z1]
  refine s_val 9 rfl rfl (.bool true) (rfl) ?_
  simp only [z0, z1]
  refine s_alloc 3 rfl rfl 64 rfl _ zv64 _ rfl ?_
  intro w3 g2 G eg2 kg2
  have bg2 := size_base GG eg2
  have dg1g2 := lt_new kg1 eg2
  replace kg1 := G.has kg1
  replace GG := GG.trans G
  clear G eg2
  simp only [z0, z1]
  refine s_store rfl rfl 64 _ _ rfl g2 0 rfl (.agg (c64 g.kind g.pw g.pn g.toA g.a g.b g.n g.fi g.fn g.ti g.tn g.tr g.ids g.key g.vn g.vw g.val g.op g.ttl g.tx)) rfl 64 _ kg2 (c64 g.kind g.pw g.pn g.toA g.a g.b g.n g.fi g.fn g.ti g.tn g.tr g.ids g.key g.vn g.vw g.val g.op g.ttl g.tx) rfl (by kernel_rfl) (Nat.le_of_ble_eq_true rfl) (by kernel_rfl) (c64 g.kind g.pw g.pn g.toA g.a g.b g.n g.fi g.fn g.ti g.tn g.tr g.ids g.key g.vn g.vw g.val g.op g.ttl g.tx) (by kernel_rfl) ?_
  intro w5 S
  replace kg1 := S.has (by omega) kg1
  replace GG := GG.store S bg2
  replace kg2 := S.new
  clear S
  refine s_val 4 rfl rfl (.bool true) (rfl) ?_
  simp only [z0, z1]
  refine wpList_nil ?_
  refine then_n ?_
  refine wp_seq ?_
  refine wp_seq ?_
  refine wp_region_lit ?_
  refine s_val 10 rfl rfl (.bool true) (rfl) ?_
  simp only [z0, z1]
  refine s_val 11 rfl rfl (.bool false) (run_nt _ _ rfl true rfl) ?_
  simp only [z0, z1]
  refine wpList_nil ?_
  refine then_n ?_
  refine wp_cond_false rfl ?_
  refine wp_skip ?_
  refine then_n ?_
  refine wp_seq ?_
  refine wp_region_lit ?_
  refine s_val 13 rfl rfl (b) (rfl) ?_
  simp only [z0, z1]
  refine s_invokeK 14 rfl rfl _ rfl (b) rfl k HK ?_
  intro w6 G
  replace kg1 := G.has kg1
  replace kg2 := G.has kg2
  replace GG := GG.trans G
  clear G
  simp only [z0, z1]
  refine s_val 15 rfl rfl (.pointer (some ⟨g2, 0, none⟩)) (run_fld 64 _ 0 rfl _ _ rfl _ (by kernel_rfl)) ?_
  simp only [z0, z1]
  refine s_store rfl rfl 3 _ _ rfl g2 0 rfl (.int .i64 k) rfl 64 _ kg2 #[.int .i64 k] rfl (by kernel_rfl) (Nat.le_of_ble_eq_true rfl) (by kernel_rfl) (c64 k g.pw g.pn g.toA g.a g.b g.n g.fi g.fn g.ti g.tn g.tr g.ids g.key g.vn g.vw g.val g.op g.ttl g.tx) (by kernel_rfl) ?_
  intro w8 S
  replace kg1 := S.has (by omega) kg1
  replace GG := GG.store S bg2
  replace kg2 := S.new
  clear S
  refine wpList_nil ?_
  refine then_n ?_
  refine wp_seq ?_
  refine wp_region_lit ?_
  refine s_val 16 rfl rfl (.agg (c64 k g.pw g.pn g.toA g.a g.b g.n g.fi g.fn g.ti g.tn g.tr g.ids g.key g.vn g.vw g.val g.op g.ttl g.tx)) (run_lda 64 _ rfl g2 0 95 rfl 64 _ kg2 _ Try.underlying64 rfl si64 (Nat.le_of_ble_eq_true rfl) _ (by kernel_rfl)) ?_
  simp only [z0, z1]
  have dag1 := lt_of_heap kg1
  have dag2 := lt_of_heap kg2
  have qa := GG.size
  refine s_callx 17 rfl rfl _ 57 Try.call57 rfl rfl _ rfl [.agg (c64 k g.pw g.pn g.toA g.a g.b g.n g.fi g.fn g.ti g.tn g.tr g.ids g.key g.vn g.vw g.val g.op g.ttl g.tx)] rfl (apart_any { g with kind := k } dd _ ((HW.kind k).gro GG) HS.tr.out HS.ids.out HS.val.out HS.tx.out) (fun _ _ ⟨_, _, _, _, he, _⟩ => ⟨_, he⟩) ?_
  rintro v w9 ⟨s1, s2, s3, s4, he, HO, G⟩
  cases he
  replace kg1 := G.has kg1
  replace kg2 := G.has kg2
  replace GG := GG.trans G
  clear G
  simp only [z0, z1]
  refine s_store rfl rfl 64 _ _ rfl g1 0 rfl (.agg (c64 k g.pw g.pn g.toA g.a g.b g.n g.fi g.fn g.ti g.tn s1 s2 g.key g.vn g.vw s3 g.op g.ttl s4)) rfl 64 _ kg1 (c64 k g.pw g.pn g.toA g.a g.b g.n g.fi g.fn g.ti g.tn s1 s2 g.key g.vn g.vw s3 g.op g.ttl s4) rfl (by kernel_rfl) (Nat.le_of_ble_eq_true rfl) (by kernel_rfl) (c64 k g.pw g.pn g.toA g.a g.b g.n g.fi g.fn g.ti g.tn s1 s2 g.key g.vn g.vw s3 g.op g.ttl s4) (by kernel_rfl) ?_
  intro w11 S
  replace kg2 := S.has (by omega) kg2
  replace HO := HO.apart S (by omega)
  replace GG := GG.store S bg1
  replace kg1 := S.new
  clear S
  refine wpList_nil ?_
  refine then_n ?_
  refine wp_ret ?_
  refine bodyPost_ret (results_cell_row Try.results44 _ _ g1 64 _ (0, 0) _ rfl kg1 Try.underlying64 rfl (by kernel_rfl)) rfl ?_
  exact ⟨s1, s2, s3, s4, rfl, HO.mono qa, GG⟩
theorem plain_any (k : Nat) (h1 : 1 ≤ k) (h2 : k ≤ 12) (f : Fr) (d : FD) (w : World) (HW : FrW w f d) (HS : FrS f) : Calls Try.prog 44 #[bodyV k f] w (AP w { bare k f with kind := (k : Int) } (bareD k d) fun f => .agg (frA f)) := by
  have h := HS.bare k h1 h2
  exact plain_gen (bodyV k f) (bare k f) (bareD k d) k w (fields_any k h1 h2 f) (kind_any k h1 h2 f) (HW.bare k h1 h2) ⟨h.tr, h.ids, h.val, h.tx⟩
set_option maxRecDepth 100000 in
set_option maxHeartbeats 4000000 in
theorem of_any (k : Nat) (h1 : 1 ≤ k) (h2 : k ≤ 12) (f : Fr) (hk : f.kind = (k : Int)) (dd : FD) (w : World) (HW : FrW w f dd) (HS : FrS f) : Calls Try.prog 48 #[.agg (frA f)] w (AP w f dd fun f => .tuple #[bodyV k f, .bool true]) := by
  show Calls Try.prog 48 #[.agg (c64 f.kind f.pw f.pn f.toA f.a f.b f.n f.fi f.fn f.ti f.tn f.tr f.ids f.key f.vn f.vw f.val f.op f.ttl f.tx)] w _
  refine s_enter Try.func48 rfl Try.ntmps48 [.agg (c64 f.kind f.pw f.pn f.toA f.a f.b f.n f.fi f.fn f.ti f.tn f.tr f.ids f.key f.vn f.vw f.val f.op f.ttl f.tx)] [.agg (c64 f.kind f.pw f.pn f.toA f.a f.b f.n f.fi f.fn f.ti f.tn f.tr f.ids f.key f.vn f.vw f.val f.op f.ttl f.tx), undef, undef, undef, undef, undef, undef, undef, undef, undef, undef] rfl ?_
  have GG := Gro.refl w
  refine wp_seq ?_
  refine wp_region_lit ?_
  refine s_box 1 rfl rfl 64 _ rfl _ rfl (c64 f.kind f.pw f.pn f.toA f.a f.b f.n f.fi f.fn f.ti f.tn f.tr f.ids f.key f.vn f.vw f.val f.op f.ttl f.tx) rfl ?_
  intro w1 g1 G eg1 kg1
  have bg1 := size_base GG eg1
  replace GG := GG.trans G
  clear G eg1
  simp only [z0, z1]
  refine s_val 2 rfl rfl (.nilIface) (rfl) ?_
  simp only [z0, z1]
  refine s_val 3 rfl rfl (.bool false) (rfl) ?_
  simp only [z0, z1]
  refine wpList_nil ?_
  refine then_n ?_
  refine wp_seq ?_
  refine wp_region_lit ?_
  refine s_val 5 rfl rfl (.agg (c64 f.kind f.pw f.pn f.toA f.a f.b f.n f.fi f.fn f.ti f.tn f.tr f.ids f.key f.vn f.vw f.val f.op f.ttl f.tx)) (run_lda 64 _ rfl g1 0 95 rfl 64 _ kg1 _ Try.underlying64 rfl si64 (Nat.le_of_ble_eq_true rfl) _ (by kernel_rfl)) ?_
  simp only [z0, z1]
  have dag1 := lt_of_heap kg1
  have qa := GG.size
  refine s_callx 6 rfl rfl _ 57 Try.call57 rfl rfl _ rfl [.agg (c64 f.kind f.pw f.pn f.toA f.a f.b f.n f.fi f.fn f.ti f.tn f.tr f.ids f.key f.vn f.vw f.val f.op f.ttl f.tx)] rfl (apart_any f dd _ (HW.gro GG) HS.tr.out HS.ids.out HS.val.out HS.tx.out) (fun _ _ ⟨_, _, _, _, he, _⟩ => ⟨_, he⟩) ?_
  rintro v w2 ⟨s1, s2, s3, s4, he, HO, G⟩
  cases he
  replace kg1 := G.has kg1
  replace GG := GG.trans G
  clear G
  simp only [z0, z1]
  obtain ⟨tb, vb, hb⟩ := bodyV_if k h1 h2 { f with tr := s1, ids := s2, val := s3, tx := s4 }
  have HBd := fun w => body_any k h1 h2 { f with tr := s1, ids := s2, val := s3, tx := s4 } hk w
  simp only [hb] at HBd
  refine s_callv 7 rfl rfl _ 63 Try.call63 rfl rfl _ rfl [.agg (c64 f.kind f.pw f.pn f.toA f.a f.b f.n f.fi f.fn f.ti f.tn s1 s2 f.key f.vn f.vw s3 f.op f.ttl s4)] rfl (HBd _) ?_
  intro w3 G
  replace kg1 := G.has kg1
  replace HO := HO.gro G
  replace GG := GG.trans G
  clear G
  simp only [z0, z1]
  clear HBd
  refine s_val 4 rfl rfl (.iface tb (vb)) (rfl) ?_
  simp only [z0, z1]
  refine wpList_nil ?_
  refine then_n ?_
  refine wp_seq ?_
  refine wp_region_exA (A := ?A) 4 [(0, 8), (1, 9), (2, 10), (3, 2)] [.val (.iface tb (vb)), .val (.iface tb (vb)), .val (.bool true), .val (.iface tb (vb))] follows (by kernel_rfl) rfl ?hA (opsA_cons ?o0 (opsA_cons ?o1 (opsA_cons ?o2 (opsA_cons ?o3 opsA_nil)))) ?rest
  case hA =>
    intro ptrs
    simp only [full, foldSlots, filledE, postE, List.foldl_cons, List.foldl_nil, List.getD_cons_zero, List.getD_cons_succ, fill_val, List.set_cons_zero, List.set_cons_succ]
    exact rfl
  case o0 => exact fun _ _ _ _ => opE_move (v := .iface tb (vb)) _ rfl rfl rfl
  case o1 => exact fun _ _ _ _ => opE_move (v := .iface tb (vb)) _ rfl rfl rfl
  case o2 => exact fun _ _ hw _ => opE_value (v := .bool true) rfl (run_binop .neq 102 _ _ _ rfl _ _ _ rfl rfl (by kernel_rfl) (by kernel_rfl))
  case o3 => exact fun _ _ _ _ => opE_assign (v := .iface tb (vb)) _ rfl rfl rfl
  intro ptrs w4 GD hxE
  simp only [List.drop_succ_cons, List.drop_zero]
  replace kg1 := GD.has kg1
  replace HO := HO.gro ((Gro.refl _).drew.trans GD)
  replace GG := GG.drew.trans GD
  clear GD
  refine s_val 3 rfl rfl (.bool true) (rfl) ?_
  simp only [z0, z1]
  refine wpList_nil ?_
  refine then_n ?_
  refine wp_ret ?_
  refine bodyPost_ret (results_tmp2 Try.results48 _ _ _) rfl ?_
  exact ⟨s1, s2, s3, s4, by show Ending.returned (.tuple #[.iface tb vb, .bool true]) = .returned (.tuple #[bodyV k { f with tr := s1, ids := s2, val := s3, tx := s4 }, .bool true]); rw [hb], HO.mono qa, GG⟩
set_option maxRecDepth 100000 in
set_option maxHeartbeats 4000000 in
theorem of_not (f : Fr) (hk : ¬ (1 ≤ f.kind ∧ f.kind ≤ 12)) (dd : FD) (w : World) (HW : FrW w f dd) (HS : FrS f) : Calls Try.prog 48 #[.agg (frA f)] w fun e w' => e = .returned (.tuple #[.nilIface, .bool false]) ∧ Gro w w' := by
  show Calls Try.prog 48 #[.agg (c64 f.kind f.pw f.pn f.toA f.a f.b f.n f.fi f.fn f.ti f.tn f.tr f.ids f.key f.vn f.vw f.val f.op f.ttl f.tx)] w _
  refine s_enter Try.func48 rfl Try.ntmps48 [.agg (c64 f.kind f.pw f.pn f.toA f.a f.b f.n f.fi f.fn f.ti f.tn f.tr f.ids f.key f.vn f.vw f.val f.op f.ttl f.tx)] [.agg (c64 f.kind f.pw f.pn f.toA f.a f.b f.n f.fi f.fn f.ti f.tn f.tr f.ids f.key f.vn f.vw f.val f.op f.ttl f.tx), undef, undef, undef, undef, undef, undef, undef, undef, undef, undef] rfl ?_
  have GG := Gro.refl w
  refine wp_seq ?_
  refine wp_region_lit ?_
  refine s_box 1 rfl rfl 64 _ rfl _ rfl (c64 f.kind f.pw f.pn f.toA f.a f.b f.n f.fi f.fn f.ti f.tn f.tr f.ids f.key f.vn f.vw f.val f.op f.ttl f.tx) rfl ?_
  intro w1 g1 G eg1 kg1
  have bg1 := size_base GG eg1
  replace GG := GG.trans G
  clear G eg1
  simp only [z0, z1]
  refine s_val 2 rfl rfl (.nilIface) (rfl) ?_
  simp only [z0, z1]
  refine s_val 3 rfl rfl (.bool false) (rfl) ?_
  simp only [z0, z1]
  refine wpList_nil ?_
  refine then_n ?_
  refine wp_seq ?_
  refine wp_region_lit ?_
  refine s_val 5 rfl rfl (.agg (c64 f.kind f.pw f.pn f.toA f.a f.b f.n f.fi f.fn f.ti f.tn f.tr f.ids f.key f.vn f.vw f.val f.op f.ttl f.tx)) (run_lda 64 _ rfl g1 0 95 rfl 64 _ kg1 _ Try.underlying64 rfl si64 (Nat.le_of_ble_eq_true rfl) _ (by kernel_rfl)) ?_
  simp only [z0, z1]
  have dag1 := lt_of_heap kg1
  have qa := GG.size
  refine s_callx 6 rfl rfl _ 57 Try.call57 rfl rfl _ rfl [.agg (c64 f.kind f.pw f.pn f.toA f.a f.b f.n f.fi f.fn f.ti f.tn f.tr f.ids f.key f.vn f.vw f.val f.op f.ttl f.tx)] rfl (apart_any f dd _ (HW.gro GG) HS.tr.out HS.ids.out HS.val.out HS.tx.out) (fun _ _ ⟨_, _, _, _, he, _⟩ => ⟨_, he⟩) ?_
  rintro v w2 ⟨s1, s2, s3, s4, he, HO, G⟩
  cases he
  replace kg1 := G.has kg1
  replace GG := GG.trans G
  clear G
  simp only [z0, z1]
  refine s_callv 7 rfl rfl _ 63 Try.call63 rfl rfl _ rfl [.agg (c64 f.kind f.pw f.pn f.toA f.a f.b f.n f.fi f.fn f.ti f.tn s1 s2 f.key f.vn f.vw s3 f.op f.ttl s4)] rfl ((body_not { f with tr := s1, ids := s2, val := s3, tx := s4 } hk _)) ?_
  intro w3 G
  replace kg1 := G.has kg1
  replace HO := HO.gro G
  replace GG := GG.trans G
  clear G
  simp only [z0, z1]
  refine s_val 4 rfl rfl (.nilIface) (rfl) ?_
  simp only [z0, z1]
  refine wpList_nil ?_
  refine then_n ?_
  refine wp_seq ?_
  refine wp_region_exA (A := ?A) 4 [(0, 8), (1, 9), (2, 10), (3, 2)] [.val (.nilIface), .val (.nilIface), .val (.bool false), .val (.nilIface)] follows (by kernel_rfl) rfl ?hA (opsA_cons ?o0 (opsA_cons ?o1 (opsA_cons ?o2 (opsA_cons ?o3 opsA_nil)))) ?rest
  case hA =>
    intro ptrs
    simp only [full, foldSlots, filledE, postE, List.foldl_cons, List.foldl_nil, List.getD_cons_zero, List.getD_cons_succ, fill_val, List.set_cons_zero, List.set_cons_succ]
    exact rfl
  case o0 => exact fun _ _ _ _ => opE_move (v := .nilIface) _ rfl rfl rfl
  case o1 => exact fun _ _ _ _ => opE_move (v := .nilIface) _ rfl rfl rfl
  case o2 => exact fun _ _ hw _ => opE_value (v := .bool false) rfl (run_binop .neq 102 _ _ _ rfl _ _ _ rfl rfl (by kernel_rfl) (by kernel_rfl))
  case o3 => exact fun _ _ _ _ => opE_assign (v := .nilIface) _ rfl rfl rfl
  intro ptrs w4 GD hxE
  simp only [List.drop_succ_cons, List.drop_zero]
  replace kg1 := GD.has kg1
  replace HO := HO.gro ((Gro.refl _).drew.trans GD)
  replace GG := GG.drew.trans GD
  clear GD
  refine s_val 3 rfl rfl (.bool false) (rfl) ?_
  simp only [z0, z1]
  refine wpList_nil ?_
  refine then_n ?_
  refine wp_ret ?_
  refine bodyPost_ret (results_tmp2 Try.results48 _ _ _) rfl ?_
  exact ⟨rfl, GG⟩
structure GroR (rb : Nat) (w w' : World) : Prop where
  os : w'.os = w.os
  tape : w'.tape = w.tape
  output : w'.output = w.output
  size : w.heap.size ≤ w'.heap.size
  old : ∀ k, k < w.heap.size → k ≠ rb → w'.heap[k]? = w.heap[k]?
theorem GroR.refl (rb : Nat) (w : World) : GroR rb w w := ⟨rfl, rfl, rfl, Nat.le_refl _, fun _ _ _ => rfl⟩
theorem GroR.trans {rb : Nat} {a b c : World} (h : GroR rb a b) (k : GroR rb b c) : GroR rb a c :=
  ⟨k.os.trans h.os, k.tape.trans h.tape, k.output.trans h.output, Nat.le_trans h.size k.size, fun i hi hn => (k.old i (Nat.lt_of_lt_of_le hi h.size) hn).trans (h.old i hi hn)⟩
theorem GroR.has {rb k : Nat} {a b : World} {x : Obj} (h : GroR rb a b) (hk : a.heap[k]? = some x) (hn : k ≠ rb) : b.heap[k]? = some x := by
  rw [h.old k (lt_of_heap hk) hn]; exact hk
def thenR {α β : Type} (r : Except Nat (α × Nat)) (f : α → Nat → Except Nat (β × Nat)) : Except Nat (β × Nat) :=
  match r with
  | .error e => .error e
  | .ok (a, q) => f a q
/-- How a reader reads what was laid. -/
structure Lay {α : Type} (R : List Nat → Nat → Except Nat (α × Nat)) (E : List Nat) (a : α) : Prop where
  ok : ∀ pre post, R (pre ++ (E ++ post)) pre.length = .ok (a, pre.length + E.length)
  cut : ∀ pre c, c < E.length → R (pre ++ E.take c) pre.length = .error 3
theorem Lay.bind {α β : Type} {R : List Nat → Nat → Except Nat (α × Nat)} {F : α → List Nat → Nat → Except Nat (β × Nat)} {E E2 : List Nat} {a : α} {b : β} (h : Lay R E a) (k : Lay (F a) E2 b) : Lay (fun l i => thenR (R l i) fun x q => F x l q) (E ++ E2) b := by
  refine ⟨fun pre post => ?_, fun pre c hc => ?_⟩
  · have h1 := h.ok pre (E2 ++ post)
    have h2 := k.ok (pre ++ E) post
    show thenR (R (pre ++ ((E ++ E2) ++ post)) pre.length) _ = _
    rw [List.append_assoc E, h1]
    show F a (pre ++ (E ++ (E2 ++ post))) (pre.length + E.length) = _
    rw [List.append_assoc, List.length_append] at h2
    rw [h2, List.length_append, Nat.add_assoc]
  · show thenR (R (pre ++ (E ++ E2).take c) pre.length) _ = _
    by_cases hlt : c < E.length
    · rw [List.take_append_of_le_length (Nat.le_of_lt hlt), h.cut pre c hlt]
      rfl
    · have e : (E ++ E2).take c = E ++ E2.take (c - E.length) := by
        rw [List.take_append, List.take_of_length_le (by omega)]
      rw [e, h.ok pre _]
      show F a (pre ++ (E ++ E2.take (c - E.length))) (pre.length + E.length) = _
      have h2 := k.cut (pre ++ E) (c - E.length) (by rw [List.length_append] at hc; omega)
      rw [List.append_assoc, List.length_append] at h2
      exact h2
theorem Lay.pure {β : Type} (b : β) : Lay (fun _ q => .ok (b, q)) [] b := ⟨fun _ _ => rfl, fun _ _ h => by cases h⟩
theorem Lay.map {α β : Type} {R : List Nat → Nat → Except Nat (α × Nat)} {E : List Nat} {a : α} (h : Lay R E a) (g : α → β) : Lay (fun l i => thenR (R l i) fun x q => .ok (g x, q)) E (g a) := by
  have := h.bind (F := fun x _ q => .ok (g x, q)) (Lay.pure (g a))
  rwa [List.append_nil] at this
structure FrR (f : Fr) : Prop where
  pw : okI f.pw
  a : okI f.a
  b : okI f.b
  key : okI f.key
  vw : okI f.vw
  pn : f.pn < 9223372036854775808
  n : f.n < 9223372036854775808
  fi : f.fi < 9223372036854775808
  fn : f.fn < 9223372036854775808
  ti : f.ti < 9223372036854775808
  tn : f.tn < 9223372036854775808
  vn : f.vn < 9223372036854775808
  op : f.op < 9223372036854775808
  ttl : f.ttl < 9223372036854775808
/-- Two frames that are one, their rows apart. -/
structure EqF (f g : Fr) : Prop where
  pw : idL f.pw = idL g.pw
  pn : f.pn = g.pn
  toA : f.toA = g.toA
  a : idL f.a = idL g.a
  b : idL f.b = idL g.b
  n : f.n = g.n
  fi : f.fi = g.fi
  fn : f.fn = g.fn
  ti : f.ti = g.ti
  tn : f.tn = g.tn
  key : idL f.key = idL g.key
  vn : f.vn = g.vn
  vw : idL f.vw = idL g.vw
  op : f.op = g.op
  ttl : f.ttl = g.ttl
structure NZ {β : Type} (r : Except Nat β) : Prop where
  out : ∀ x, r = .error x → x ≠ 0
theorem NZ.ok {β : Type} (b : β) : NZ (.ok b : Except Nat β) := ⟨fun _ h => by cases h⟩
theorem NZ.bind {α β : Type} {r : Except Nat (α × Nat)} {f : α → Nat → Except Nat (β × Nat)} (h : NZ r) (hf : ∀ a q, NZ (f a q)) : NZ (thenR r f) := by
  cases r with
  | error e => exact ⟨fun x hx => by cases hx; exact h.out _ rfl⟩
  | ok p => exact hf p.1 p.2
section
open Go.ChangeShapes Go.WideShapes Go.ChangeAt Go.RowKit
theorem cellsI_len : ∀ {l : List (List Nat)}, ok16 l → (cellsIa l).length = l.length * 16
  | [], _ => rfl
  | x :: l, h => by
    have h1 := (h x List.mem_cons_self).1
    have h2 := cellsI_len (l := l) fun y hy => h y (List.mem_cons_of_mem _ hy)
    unfold cellsIa at *
    rw [List.flatMap_cons, List.length_append, h2, List.length_cons, bL, List.length_map, h1]
    omega
theorem ck2 : Try.prog.cellsOf 2 = 1 := by kernel_rfl
theorem ck3 : Try.prog.cellsOf 3 = 1 := by kernel_rfl
theorem ck4 : Try.prog.cellsOf 4 = 1 := by kernel_rfl
theorem ck25 : Try.prog.cellsOf 31 = 17 := by kernel_rfl
theorem ck27 : Try.prog.cellsOf 56 = 2 := by kernel_rfl
theorem ck28 : Try.prog.cellsOf 32 = 1 := by kernel_rfl
theorem ck29 : Try.prog.cellsOf 57 = 1 := by kernel_rfl
theorem ck31 : Try.prog.cellsOf 59 = 17 := by kernel_rfl
theorem ck32 : Try.prog.cellsOf 60 = 1 := by kernel_rfl
theorem ck34 : Try.prog.cellsOf 62 = 34 := by kernel_rfl
theorem ck36 : Try.prog.cellsOf 64 = 95 := by kernel_rfl
theorem bk3 : Try.prog.bytesOf 3 = 8 := by kernel_rfl
theorem bk23 : Try.prog.bytesOf 24 = 16 := by kernel_rfl
theorem subSeg (cs : List Value) (off size o m : Nat) (h : o + m ≤ size) : (((cs.drop off).take size).drop o).take m = (cs.drop (off + o)).take m := by
  rw [List.drop_take, List.take_take, List.drop_drop]
  congr 1
  omega
theorem nextSeg {cs l : List Value} {off n b : Nat} (h : (cs.drop off).take n = l) (hb : off + n = b) : cs.drop off = l ++ cs.drop b := by
  rw [← h, ← hb, ← List.drop_drop, List.take_append_drop]
theorem idA_list (n : Nat) : (idA n).toList = bL (idL (byt n)) := by
  simp [idA, bL, idL, List.ofFn_succ]
theorem byt_ok (n : Nat) : okI (byt n) := fun i => byt_lt n i
end
section
open Go.ChangeShapes Go.WideShapes Go.ChangeAt Go.RowKit
variable {H : Type} {enc : TypeId × Value → H} {w : World} {base : Nat} {spare : Nat → Bool} {held : Bool}
theorem int_seg {t : TypeId} {fuel : Nat} {l : List Value} {x : DataW H × List MemPlace} (hu : Try.prog.underlying t = some (.int .i64)) (h : DataW.trod enc Try.prog w base spare held fuel t l = some x) : ∃ z : Int, l = [.int .i64 z] ∧ z < 9223372036854775808 := by
  obtain ⟨z, e, _, wf⟩ := DataW.trod_int hu h
  refine ⟨z, e, ?_⟩
  have e1 : IntKind.i64.min = -9223372036854775808 := rfl
  have e2 : IntKind.i64.max = 9223372036854775807 := rfl
  simp [Lit.wf, e1, e2] at wf
  omega
theorem id_seg {fuel : Nat} {l : List Value} {x : DataW H × List MemPlace} (h : DataW.trod enc Try.prog w base spare held fuel 24 l = some x) : ∃ y : Nat → Nat, l = bL (idL y) ∧ okI y := by
  obtain ⟨n, _, e⟩ := id_of_trod h
  exact ⟨byt n, by rw [e, idA_list], byt_ok n⟩
end
theorem EqF.trans {f g h : Fr} (a : EqF f g) (b : EqF g h) : EqF f h := ⟨a.pw.trans b.pw, a.pn.trans b.pn, a.toA.trans b.toA, a.a.trans b.a, a.b.trans b.b, a.n.trans b.n, a.fi.trans b.fi, a.fn.trans b.fn, a.ti.trans b.ti, a.tn.trans b.tn, a.key.trans b.key, a.vn.trans b.vn, a.vw.trans b.vw, a.op.trans b.op, a.ttl.trans b.ttl⟩
theorem OX.ty {w : World} {e : TypeId} {sz B : Nat} {ao : Option Addr} {cap n : Nat} {cs : List Value} (h : OX w e sz B ao cap n cs) {ad : Addr} (ha : ao = some ad) : ∃ cur, w.heap[ad.block]? = some (.cells cur e (0, 0)) := by
  rcases h.own.2 with ⟨h1, _⟩ | ⟨g, c', cur, h1, _, h2, _⟩
  · injection h1 with e1 e2 e3
    rw [ha] at e1
    cases e1
  · injection h1 with e1 e2 e3
    rw [ha] at e1
    injection e1 with e1
    subst e1
    exact ⟨cur, h2⟩
section
open Go.ChangeShapes Go.WideShapes Go.ChangeAt Go.RowKit
variable {H : Type} {enc : TypeId × Value → H} {w : World} {base : Nat} {spare : Nat → Bool} {held : Bool}
theorem tr_seg8 {fuel : Nat} {cs : List Value} {x : DataW H × List MemPlace} (h : DataW.trod enc Try.prog w base spare held fuel 32 cs = some x) :
    ∃ (s : Sl) (l : List Int), cs = [.slice s.ao s.n s.cap] ∧ XC w 1 s.ao s.cap s.n (l.map (Value.int .i64 ·)) ∧ ∀ m, (∀ y ∈ x.1.weights Try.prog 32, y ≤ m) → l.length * 8 ≤ m := by
  rcases open_ints Try.underlying32 Try.underlying3 ck3 h with ⟨hcs, hx⟩ | ⟨a, len, cap, zs, hcs, _, hl, hm, hz, hx, hcell, hwz⟩
  · exact ⟨Sl.nil, [], hcs, XC.nil _ _, fun m _ => by simp⟩
  · have hle : len ≤ zs.length := by rw [hz]; split <;> omega
    have hlen : (zs.take len).length = len := by simp; omega
    refine ⟨⟨some a, len, cap⟩, zs.take len, hcs, ⟨by simp; omega, hl, fun h => by (cases h), fun ad ha j v hv => ?_, fun v hv => ?_⟩, fun m hm2 => ?_⟩
    · cases ha
      rw [List.getElem?_map] at hv
      have hj : j < len := by
        cases hq : decide (j < len)
        · rw [List.getElem?_eq_none (by have := of_decide_eq_false hq; omega)] at hv
          cases hv
        · exact of_decide_eq_true hq
      rw [List.getElem?_take, if_pos hj, List.getElem?_eq_getElem (by omega)] at hv
      rw [hcell j (by omega), List.getD_eq_getElem?_getD, List.getElem?_eq_getElem (by omega)]
      simpa using hv
    · obtain ⟨z, _, rfl⟩ := List.mem_map.1 hv
      rfl
    · have := hm2 (((lits .i64 (zs.take len)).length + (lits .i64 (zs.drop len)).length) * Try.prog.bytesOf 3) (by
        rw [hx, DataW.weights, Try.underlying32]
        exact List.mem_cons_self)
      rw [bk3] at this
      have h2 : (lits (H := H) .i64 (zs.take len)).length = len := by simp [lits]; omega
      rw [h2] at this
      rw [hlen]
      omega
theorem row_seg8 {fuel : Nat} {cs : List Value} {x : DataW H × List MemPlace} (h : DataW.trod enc Try.prog w base spare held fuel 60 cs = some x) :
    ∃ (s : Sl) (l : List Nat), cs = [.slice s.ao s.n s.cap] ∧ XC w 1 s.ao s.cap s.n (bL l) ∧ (∀ y ∈ l, y < 256) ∧ ∀ m, (∀ y ∈ x.1.weights Try.prog 60, y ≤ m) → l.length ≤ m := by
  obtain ⟨ao, cap, l, e, nc, _, ha⟩ := open_row bT cells5 rfl h
  refine ⟨⟨ao, l.length, cap⟩, l, e, nc.xc, nc.lt256, fun m hm => ?_⟩
  rcases ha with ⟨_, rfl⟩ | ⟨el, sp, hd, hl⟩
  · simp
  · have := hm ((el.length + sp.length) * Try.prog.bytesOf 5) (by
      rw [hd, DataW.weights, Try.underlying60]
      exact List.mem_cons_self)
    rw [bytes5] at this
    omega
theorem ids_seg8 {fuel : Nat} {cs : List Value} {x : DataW H × List MemPlace} (h : DataW.trod enc Try.prog w base spare held fuel 57 cs = some x) :
    ∃ (s : Sl) (l : List (List Nat)), cs = [.slice s.ao s.n s.cap] ∧ XC w 16 s.ao s.cap s.n (cellsIa l) ∧ ok16 l ∧ ∀ m, (∀ y ∈ x.1.weights Try.prog 57, y ≤ m) → l.length * 16 ≤ m := by
  rcases DataW.trod_slice Try.underlying57 h with ⟨hcs, hx⟩ | ⟨a, len, cap, elems, rest, n, _, hcs, hx, _, hl, _, hel, hei, _, _⟩
  · exact ⟨Sl.nil, [], hcs, XC.nil _ _, fun x hx => by (cases hx), fun m _ => by simp⟩
  · rw [cells24] at hei
    have each : ∀ i, ∃ y : Nat → Nat, i < len → okI y ∧ ∀ r, r < 16 → w.cell? (a.add (i * 16 + r)) = (bL (idL y))[r]? := by
      intro i
      by_cases hi : i < len
      · have h1 := hei i hi
        rw [List.getElem?_eq_getElem (by omega)] at h1
        cases hc : w.cells? base (a.add (i * 16)) 16 with
        | none => rw [hc] at h1; cases h1
        | some cs2 =>
          rw [hc] at h1
          obtain ⟨y, e, hy⟩ := id_seg (show DataW.trod enc Try.prog w base spare held n 24 cs2 = some elems[i] from h1)
          refine ⟨y, fun _ => ⟨hy, fun r hr => ?_⟩⟩
          have := (World.cells?_some hc).2.2 r hr
          rw [add_add, e] at this
          exact this
      · exact ⟨fun _ => 0, fun h => absurd h hi⟩
    obtain ⟨F, hF⟩ := Classical.axiomOfChoice each
    have hlen : ((List.range len).map fun i => idL (F i)).length = len := by simp
    have hok : ok16 ((List.range len).map fun i => idL (F i)) := fun x hx => by
      obtain ⟨i, hi, rfl⟩ := List.mem_map.1 hx
      exact ⟨idL_len _, idL_lt (hF i (List.mem_range.1 hi)).1⟩
    refine ⟨⟨some a, len, cap⟩, (List.range len).map fun i => idL (F i), hcs, ⟨?_, hl, fun h => by (cases h), fun ad ha j v hv => ?_, fun v hv => ?_⟩, hok, fun m hm => ?_⟩
    · rw [cellsI_len hok, hlen]
    · cases ha
      have hj : j < len * 16 := by
        have := (List.getElem?_eq_some_iff.1 hv).1
        rwa [cellsI_len hok, hlen] at this
      have h3 := cellsI_at _ (j / 16) hok (by rw [hlen]; omega)
      have h4 : ((List.range len).map fun i => idL (F i)).getD (j / 16) [] = idL (F (j / 16)) := by
        simp [List.getD_eq_getElem?_getD, show j / 16 < len by omega]
      rw [h4] at h3
      have h5 := (hF (j / 16) (by omega)).2 (j % 16) (Nat.mod_lt _ (by decide))
      rw [← h3, List.getElem?_take, if_pos (Nat.mod_lt _ (by decide)), List.getElem?_drop, show j / 16 * 16 + j % 16 = j by omega, hv] at h5
      exact h5
    · obtain ⟨x, _, hx2⟩ := List.mem_flatMap.1 hv
      obtain ⟨r, _, rfl⟩ := List.mem_map.1 hx2
      rfl
    · have hd2 : x.1 = .slice (elems.map (·.1)) (rest.map (·.1)) := congrArg Prod.fst hx
      have := hm ((elems.length + rest.length) * Try.prog.bytesOf 24) (by
        rw [hd2, DataW.weights, Try.underlying57]
        simp)
      rw [bk23] at this
      rw [hlen]
      omega
set_option maxRecDepth 100000 in
theorem fr_of_trod8 {fuel : Nat} {cs : List Value} {x : DataW H × List MemPlace} (h : DataW.trod enc Try.prog w base spare held fuel 64 cs = some x) :
    ∃ (f : Fr) (d : FD), cs = (frA f).toList ∧ FrW w f d ∧ FrR f ∧ ∀ m, (∀ y ∈ x.1.weights Try.prog 64, y ≤ m) → d.tr.length * 8 ≤ m ∧ d.ids.length * 16 ≤ m ∧ d.val.length ≤ m ∧ d.tx.length ≤ m := by
  obtain ⟨xs, n, _, hx, hl, hxl, hf⟩ := DataW.trod_struct Try.underlying64 h
  have hxl : xs.length = 14 := hxl
  rw [ck36] at hl
  obtain ⟨x0, hx0⟩ : ∃ y, xs[0]? = some y := ⟨_, List.getElem?_eq_getElem (by omega)⟩
  have g0 : DataW.trod enc Try.prog w base spare held n 3 ((cs.drop 0).take (Try.prog.cellsOf 3)) = some x0 := by rw [← hx0]; exact hf 0 _ rfl
  rw [ck3] at g0
  obtain ⟨x1, hx1⟩ : ∃ y, xs[1]? = some y := ⟨_, List.getElem?_eq_getElem (by omega)⟩
  have g1 : DataW.trod enc Try.prog w base spare held n 31 ((cs.drop 1).take (Try.prog.cellsOf 31)) = some x1 := by rw [← hx1]; exact hf 1 _ rfl
  rw [ck25] at g1
  obtain ⟨x2, hx2⟩ : ∃ y, xs[2]? = some y := ⟨_, List.getElem?_eq_getElem (by omega)⟩
  have g2 : DataW.trod enc Try.prog w base spare held n 4 ((cs.drop 18).take (Try.prog.cellsOf 4)) = some x2 := by rw [← hx2]; exact hf 2 _ rfl
  rw [ck4] at g2
  obtain ⟨x3, hx3⟩ : ∃ y, xs[3]? = some y := ⟨_, List.getElem?_eq_getElem (by omega)⟩
  have g3 : DataW.trod enc Try.prog w base spare held n 24 ((cs.drop 19).take (Try.prog.cellsOf 24)) = some x3 := by rw [← hx3]; exact hf 3 _ rfl
  rw [cells24] at g3
  obtain ⟨x4, hx4⟩ : ∃ y, xs[4]? = some y := ⟨_, List.getElem?_eq_getElem (by omega)⟩
  have g4 : DataW.trod enc Try.prog w base spare held n 24 ((cs.drop 35).take (Try.prog.cellsOf 24)) = some x4 := by rw [← hx4]; exact hf 4 _ rfl
  rw [cells24] at g4
  obtain ⟨x5, hx5⟩ : ∃ y, xs[5]? = some y := ⟨_, List.getElem?_eq_getElem (by omega)⟩
  have g5 : DataW.trod enc Try.prog w base spare held n 2 ((cs.drop 51).take (Try.prog.cellsOf 2)) = some x5 := by rw [← hx5]; exact hf 5 _ rfl
  rw [ck2] at g5
  obtain ⟨x6, hx6⟩ : ∃ y, xs[6]? = some y := ⟨_, List.getElem?_eq_getElem (by omega)⟩
  have g6 : DataW.trod enc Try.prog w base spare held n 56 ((cs.drop 52).take (Try.prog.cellsOf 56)) = some x6 := by rw [← hx6]; exact hf 6 _ rfl
  rw [ck27] at g6
  obtain ⟨x7, hx7⟩ : ∃ y, xs[7]? = some y := ⟨_, List.getElem?_eq_getElem (by omega)⟩
  have g7 : DataW.trod enc Try.prog w base spare held n 56 ((cs.drop 54).take (Try.prog.cellsOf 56)) = some x7 := by rw [← hx7]; exact hf 7 _ rfl
  rw [ck27] at g7
  obtain ⟨x8, hx8⟩ : ∃ y, xs[8]? = some y := ⟨_, List.getElem?_eq_getElem (by omega)⟩
  have g8 : DataW.trod enc Try.prog w base spare held n 32 ((cs.drop 56).take (Try.prog.cellsOf 32)) = some x8 := by rw [← hx8]; exact hf 8 _ rfl
  rw [ck28] at g8
  obtain ⟨x9, hx9⟩ : ∃ y, xs[9]? = some y := ⟨_, List.getElem?_eq_getElem (by omega)⟩
  have g9 : DataW.trod enc Try.prog w base spare held n 57 ((cs.drop 57).take (Try.prog.cellsOf 57)) = some x9 := by rw [← hx9]; exact hf 9 _ rfl
  rw [ck29] at g9
  obtain ⟨x10, hx10⟩ : ∃ y, xs[10]? = some y := ⟨_, List.getElem?_eq_getElem (by omega)⟩
  have g10 : DataW.trod enc Try.prog w base spare held n 62 ((cs.drop 58).take (Try.prog.cellsOf 62)) = some x10 := by rw [← hx10]; exact hf 10 _ rfl
  rw [ck34] at g10
  obtain ⟨x11, hx11⟩ : ∃ y, xs[11]? = some y := ⟨_, List.getElem?_eq_getElem (by omega)⟩
  have g11 : DataW.trod enc Try.prog w base spare held n 3 ((cs.drop 92).take (Try.prog.cellsOf 3)) = some x11 := by rw [← hx11]; exact hf 11 _ rfl
  rw [ck3] at g11
  obtain ⟨x12, hx12⟩ : ∃ y, xs[12]? = some y := ⟨_, List.getElem?_eq_getElem (by omega)⟩
  have g12 : DataW.trod enc Try.prog w base spare held n 3 ((cs.drop 93).take (Try.prog.cellsOf 3)) = some x12 := by rw [← hx12]; exact hf 12 _ rfl
  rw [ck3] at g12
  obtain ⟨x13, hx13⟩ : ∃ y, xs[13]? = some y := ⟨_, List.getElem?_eq_getElem (by omega)⟩
  have g13 : DataW.trod enc Try.prog w base spare held n 60 ((cs.drop 94).take (Try.prog.cellsOf 60)) = some x13 := by rw [← hx13]; exact hf 13 _ rfl
  rw [ck32] at g13
  obtain ⟨zkind, qkind, bkind⟩ := int_seg Try.underlying3 g0
  obtain ⟨xs1_, n1_, _, _, _, hxl1_, hf1_⟩ := DataW.trod_struct Try.underlying31 g1
  have hxl1_ : xs1_.length = 2 := hxl1_
  obtain ⟨x1_0, hx1_0⟩ : ∃ y, xs1_[0]? = some y := ⟨_, List.getElem?_eq_getElem (by omega)⟩
  have g1_0 : DataW.trod enc Try.prog w base spare held n1_ 24 ((((cs.drop 1).take 17).drop 0).take (Try.prog.cellsOf 24)) = some x1_0 := by rw [← hx1_0]; exact hf1_ 0 _ rfl
  rw [cells24, subSeg _ _ _ _ _ (by decide)] at g1_0
  obtain ⟨x1_1, hx1_1⟩ : ∃ y, xs1_[1]? = some y := ⟨_, List.getElem?_eq_getElem (by omega)⟩
  have g1_1 : DataW.trod enc Try.prog w base spare held n1_ 2 ((((cs.drop 1).take 17).drop 16).take (Try.prog.cellsOf 2)) = some x1_1 := by rw [← hx1_1]; exact hf1_ 1 _ rfl
  rw [ck2, subSeg _ _ _ _ _ (by decide)] at g1_1
  obtain ⟨zpw, qpw, bpw⟩ := id_seg g1_0
  obtain ⟨zpn, qpn, bpn⟩ := int_seg Try.underlying2 g1_1
  obtain ⟨ztoA, qtoA, _⟩ := DataW.trod_bool Try.underlying4 g2
  obtain ⟨za, qa, ba⟩ := id_seg g3
  obtain ⟨zb, qb, bb⟩ := id_seg g4
  obtain ⟨zn, qn, bn⟩ := int_seg Try.underlying2 g5
  obtain ⟨xs6_, n6_, _, _, _, hxl6_, hf6_⟩ := DataW.trod_struct Try.underlying56 g6
  have hxl6_ : xs6_.length = 2 := hxl6_
  obtain ⟨x6_0, hx6_0⟩ : ∃ y, xs6_[0]? = some y := ⟨_, List.getElem?_eq_getElem (by omega)⟩
  have g6_0 : DataW.trod enc Try.prog w base spare held n6_ 2 ((((cs.drop 52).take 2).drop 0).take (Try.prog.cellsOf 2)) = some x6_0 := by rw [← hx6_0]; exact hf6_ 0 _ rfl
  rw [ck2, subSeg _ _ _ _ _ (by decide)] at g6_0
  obtain ⟨x6_1, hx6_1⟩ : ∃ y, xs6_[1]? = some y := ⟨_, List.getElem?_eq_getElem (by omega)⟩
  have g6_1 : DataW.trod enc Try.prog w base spare held n6_ 2 ((((cs.drop 52).take 2).drop 1).take (Try.prog.cellsOf 2)) = some x6_1 := by rw [← hx6_1]; exact hf6_ 1 _ rfl
  rw [ck2, subSeg _ _ _ _ _ (by decide)] at g6_1
  obtain ⟨zfi, qfi, bfi⟩ := int_seg Try.underlying2 g6_0
  obtain ⟨zfn, qfn, bfn⟩ := int_seg Try.underlying2 g6_1
  obtain ⟨xs7_, n7_, _, _, _, hxl7_, hf7_⟩ := DataW.trod_struct Try.underlying56 g7
  have hxl7_ : xs7_.length = 2 := hxl7_
  obtain ⟨x7_0, hx7_0⟩ : ∃ y, xs7_[0]? = some y := ⟨_, List.getElem?_eq_getElem (by omega)⟩
  have g7_0 : DataW.trod enc Try.prog w base spare held n7_ 2 ((((cs.drop 54).take 2).drop 0).take (Try.prog.cellsOf 2)) = some x7_0 := by rw [← hx7_0]; exact hf7_ 0 _ rfl
  rw [ck2, subSeg _ _ _ _ _ (by decide)] at g7_0
  obtain ⟨x7_1, hx7_1⟩ : ∃ y, xs7_[1]? = some y := ⟨_, List.getElem?_eq_getElem (by omega)⟩
  have g7_1 : DataW.trod enc Try.prog w base spare held n7_ 2 ((((cs.drop 54).take 2).drop 1).take (Try.prog.cellsOf 2)) = some x7_1 := by rw [← hx7_1]; exact hf7_ 1 _ rfl
  rw [ck2, subSeg _ _ _ _ _ (by decide)] at g7_1
  obtain ⟨zti, qti, bti⟩ := int_seg Try.underlying2 g7_0
  obtain ⟨ztn, qtn, btn⟩ := int_seg Try.underlying2 g7_1
  obtain ⟨str, ltr, qtr, xtr, wtr⟩ := tr_seg8 g8
  obtain ⟨sids, lids, qids, xids, oids, wids⟩ := ids_seg8 g9
  obtain ⟨xs10_, n10_, _, hx10s, _, hxl10_, hf10_⟩ := DataW.trod_struct Try.underlying62 g10
  have hxl10_ : xs10_.length = 3 := hxl10_
  obtain ⟨x10_0, hx10_0⟩ : ∃ y, xs10_[0]? = some y := ⟨_, List.getElem?_eq_getElem (by omega)⟩
  have g10_0 : DataW.trod enc Try.prog w base spare held n10_ 24 ((((cs.drop 58).take 34).drop 0).take (Try.prog.cellsOf 24)) = some x10_0 := by rw [← hx10_0]; exact hf10_ 0 _ rfl
  rw [cells24, subSeg _ _ _ _ _ (by decide)] at g10_0
  obtain ⟨x10_1, hx10_1⟩ : ∃ y, xs10_[1]? = some y := ⟨_, List.getElem?_eq_getElem (by omega)⟩
  have g10_1 : DataW.trod enc Try.prog w base spare held n10_ 59 ((((cs.drop 58).take 34).drop 16).take (Try.prog.cellsOf 59)) = some x10_1 := by rw [← hx10_1]; exact hf10_ 1 _ rfl
  rw [ck31, subSeg _ _ _ _ _ (by decide)] at g10_1
  obtain ⟨x10_2, hx10_2⟩ : ∃ y, xs10_[2]? = some y := ⟨_, List.getElem?_eq_getElem (by omega)⟩
  have g10_2 : DataW.trod enc Try.prog w base spare held n10_ 60 ((((cs.drop 58).take 34).drop 33).take (Try.prog.cellsOf 60)) = some x10_2 := by rw [← hx10_2]; exact hf10_ 2 _ rfl
  rw [ck32, subSeg _ _ _ _ _ (by decide)] at g10_2
  obtain ⟨zkey, qkey, bkey⟩ := id_seg g10_0
  obtain ⟨xs10_1_, n10_1_, _, _, _, hxl10_1_, hf10_1_⟩ := DataW.trod_struct Try.underlying59 g10_1
  have hxl10_1_ : xs10_1_.length = 2 := hxl10_1_
  obtain ⟨x10_1_0, hx10_1_0⟩ : ∃ y, xs10_1_[0]? = some y := ⟨_, List.getElem?_eq_getElem (by omega)⟩
  have g10_1_0 : DataW.trod enc Try.prog w base spare held n10_1_ 2 ((((cs.drop (58 + 16)).take 17).drop 0).take (Try.prog.cellsOf 2)) = some x10_1_0 := by rw [← hx10_1_0]; exact hf10_1_ 0 _ rfl
  rw [ck2, subSeg _ _ _ _ _ (by decide)] at g10_1_0
  obtain ⟨x10_1_1, hx10_1_1⟩ : ∃ y, xs10_1_[1]? = some y := ⟨_, List.getElem?_eq_getElem (by omega)⟩
  have g10_1_1 : DataW.trod enc Try.prog w base spare held n10_1_ 24 ((((cs.drop (58 + 16)).take 17).drop 1).take (Try.prog.cellsOf 24)) = some x10_1_1 := by rw [← hx10_1_1]; exact hf10_1_ 1 _ rfl
  rw [cells24, subSeg _ _ _ _ _ (by decide)] at g10_1_1
  obtain ⟨zvn, qvn, bvn⟩ := int_seg Try.underlying2 g10_1_0
  obtain ⟨zvw, qvw, bvw⟩ := id_seg g10_1_1
  obtain ⟨sval, lval, qval, xval, oval, wval⟩ := row_seg8 g10_2
  obtain ⟨zop, qop, bop⟩ := int_seg Try.underlying3 g11
  obtain ⟨zttl, qttl, bttl⟩ := int_seg Try.underlying3 g12
  obtain ⟨stx, ltx, qtx, xtx, otx, wtx⟩ := row_seg8 g13
  refine ⟨⟨zkind, zpw, zpn, ztoA, za, zb, zn, zfi, zfn, zti, ztn, str, sids, zkey, zvn, zvw, sval, zop, zttl, stx⟩, ⟨ltr, lids, lval, ltx⟩, ?_, ⟨xtr, xids, xval, xtx, oids, oval, otx⟩, ⟨bpw, ba, bb, bkey, bvw, bpn, bn, bfi, bfn, bti, btn, bvn, bop, bttl⟩, fun m hm => ⟨wtr m fun y hy => hm y ?_, wids m fun y hy => hm y ?_, wval m fun y hy => hm y ?_, wtx m fun y hy => hm y ?_⟩⟩
  · have e0 : cs = cs.drop 0 := rfl
    have s_kind : cs.drop 0 = [.int .i64 zkind] ++ cs.drop 1 := nextSeg qkind rfl
    have s_pw : cs.drop 1 = bL (idL zpw) ++ cs.drop 17 := nextSeg qpw rfl
    have s_pn : cs.drop 17 = [.int .i64 zpn] ++ cs.drop 18 := nextSeg qpn rfl
    have s_toA : cs.drop 18 = [.bool ztoA] ++ cs.drop 19 := nextSeg qtoA rfl
    have s_a : cs.drop 19 = bL (idL za) ++ cs.drop 35 := nextSeg qa rfl
    have s_b : cs.drop 35 = bL (idL zb) ++ cs.drop 51 := nextSeg qb rfl
    have s_n : cs.drop 51 = [.int .i64 zn] ++ cs.drop 52 := nextSeg qn rfl
    have s_fi : cs.drop 52 = [.int .i64 zfi] ++ cs.drop 53 := nextSeg qfi rfl
    have s_fn : cs.drop 53 = [.int .i64 zfn] ++ cs.drop 54 := nextSeg qfn rfl
    have s_ti : cs.drop 54 = [.int .i64 zti] ++ cs.drop 55 := nextSeg qti rfl
    have s_tn : cs.drop 55 = [.int .i64 ztn] ++ cs.drop 56 := nextSeg qtn rfl
    have s_tr : cs.drop 56 = [.slice str.ao str.n str.cap] ++ cs.drop 57 := nextSeg qtr rfl
    have s_ids : cs.drop 57 = [.slice sids.ao sids.n sids.cap] ++ cs.drop 58 := nextSeg qids rfl
    have s_key : cs.drop 58 = bL (idL zkey) ++ cs.drop 74 := nextSeg qkey rfl
    have s_vn : cs.drop 74 = [.int .i64 zvn] ++ cs.drop 75 := nextSeg qvn rfl
    have s_vw : cs.drop 75 = bL (idL zvw) ++ cs.drop 91 := nextSeg qvw rfl
    have s_val : cs.drop 91 = [.slice sval.ao sval.n sval.cap] ++ cs.drop 92 := nextSeg qval rfl
    have s_op : cs.drop 92 = [.int .i64 zop] ++ cs.drop 93 := nextSeg qop rfl
    have s_ttl : cs.drop 93 = [.int .i64 zttl] ++ cs.drop 94 := nextSeg qttl rfl
    have s_tx : cs.drop 94 = [.slice stx.ao stx.n stx.cap] ++ cs.drop 95 := nextSeg qtx rfl
    have s_end : cs.drop 95 = [] := List.drop_of_length_le (by omega)
    rw [e0, s_kind, s_pw, s_pn, s_toA, s_a, s_b, s_n, s_fi, s_fn, s_ti, s_tn, s_tr, s_ids, s_key, s_vn, s_vw, s_val, s_op, s_ttl, s_tx, s_end]
    rfl
  · rw [hx]
    show _ ∈ DataW.weights Try.prog 64 (.agg (xs.map (·.1)))
    rw [DataW.weights, Try.underlying64]
    exact DataW.weights_mem_each (j := 8) (t := 32) (d := x8.1) rfl (by rw [List.getElem?_map, hx8]; rfl) _ hy
  · rw [hx]
    show _ ∈ DataW.weights Try.prog 64 (.agg (xs.map (·.1)))
    rw [DataW.weights, Try.underlying64]
    exact DataW.weights_mem_each (j := 9) (t := 57) (d := x9.1) rfl (by rw [List.getElem?_map, hx9]; rfl) _ hy
  · rw [hx]
    show _ ∈ DataW.weights Try.prog 64 (.agg (xs.map (·.1)))
    rw [DataW.weights, Try.underlying64]
    refine DataW.weights_mem_each (j := 10) (t := 62) (d := x10.1) rfl (by rw [List.getElem?_map, hx10]; rfl) _ ?_
    rw [hx10s]
    show _ ∈ DataW.weights Try.prog 62 (.agg (xs10_.map (·.1)))
    rw [DataW.weights, Try.underlying62]
    exact DataW.weights_mem_each (j := 2) (t := 60) (d := x10_2.1) rfl (by rw [List.getElem?_map, hx10_2]; rfl) _ hy
  · rw [hx]
    show _ ∈ DataW.weights Try.prog 64 (.agg (xs.map (·.1)))
    rw [DataW.weights, Try.underlying64]
    exact DataW.weights_mem_each (j := 13) (t := 60) (d := x13.1) rfl (by rw [List.getElem?_map, hx13]; rfl) _ hy
end
end Go.Proofs.Ytkjnefgenffhcaa
