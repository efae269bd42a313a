/- Laws of earlier stages, turned to this program (A2). -/
import Derived.Test.YtkjnefgenffhcaaDA1
namespace Go.Proofs.Ytkjnefgenffhcaa
open Go.RowKit
set_option maxRecDepth 100000 in
set_option maxHeartbeats 4000000 in
theorem kind_1 (x0 : Int) (x1 : Int) (x2 : Int) (x3 : Int) (x4 : Nat → Nat) (w : World) : Calls Try.prog 105 #[.agg (c131 x0 x1 x2 x3 x4)] w fun e w' => e = .returned (.int .i64 1) ∧ Gro w w' := by
  refine s_enter Try.func105 rfl Try.ntmps105 [.agg (c131 x0 x1 x2 x3 x4)] [.agg (c131 x0 x1 x2 x3 x4), undef, undef] rfl ?_
  have GG := Gro.refl w
  refine wp_seq ?_
  refine wp_region_lit ?_
  refine s_box 1 rfl rfl 131 _ rfl _ rfl (c131 x0 x1 x2 x3 x4) rfl ?_
  intro w1 g1 G eg1 kg1
  have bg1 := size_base GG eg1
  replace GG := GG.trans G
  clear G eg1
  simp only [z0, z1]
  refine s_val 2 rfl rfl (.int .i64 0) (rfl) ?_
  simp only [z0, z1]
  refine wpList_nil ?_
  refine then_n ?_
  refine wp_seq ?_
  refine wp_region_lit ?_
  refine s_val 2 rfl rfl (.int .i64 1) (rfl) ?_
  simp only [z0, z1]
  refine wpList_nil ?_
  refine then_n ?_
  refine wp_ret ?_
  refine bodyPost_ret (results_tmp Try.results105 _ _ _) rfl ?_
  exact ⟨rfl, GG⟩
set_option maxRecDepth 100000 in
set_option maxHeartbeats 4000000 in
theorem kind_2 (x0 : Int) (x1 : Int) (x2 : Int) (x3 : Int) (x4 : Int) (x5 : Sl) (w : World) : Calls Try.prog 106 #[.agg (c133 x0 x1 x2 x3 x4 x5)] w fun e w' => e = .returned (.int .i64 2) ∧ Gro w w' := by
  refine s_enter Try.func106 rfl Try.ntmps106 [.agg (c133 x0 x1 x2 x3 x4 x5)] [.agg (c133 x0 x1 x2 x3 x4 x5), undef, undef] rfl ?_
  have GG := Gro.refl w
  refine wp_seq ?_
  refine wp_region_lit ?_
  refine s_box 1 rfl rfl 133 _ rfl _ rfl (c133 x0 x1 x2 x3 x4 x5) rfl ?_
  intro w1 g1 G eg1 kg1
  have bg1 := size_base GG eg1
  replace GG := GG.trans G
  clear G eg1
  simp only [z0, z1]
  refine s_val 2 rfl rfl (.int .i64 0) (rfl) ?_
  simp only [z0, z1]
  refine wpList_nil ?_
  refine then_n ?_
  refine wp_seq ?_
  refine wp_region_lit ?_
  refine s_val 2 rfl rfl (.int .i64 2) (rfl) ?_
  simp only [z0, z1]
  refine wpList_nil ?_
  refine then_n ?_
  refine wp_ret ?_
  refine bodyPost_ret (results_tmp Try.results106 _ _ _) rfl ?_
  exact ⟨rfl, GG⟩
set_option maxRecDepth 100000 in
set_option maxHeartbeats 4000000 in
theorem kind_3 (x0 : Int) (x1 : Int) (x2 : Int) (x3 : Int) (x4 : Int) (w : World) : Calls Try.prog 107 #[.agg (c135 x0 x1 x2 x3 x4)] w fun e w' => e = .returned (.int .i64 3) ∧ Gro w w' := by
  refine s_enter Try.func107 rfl Try.ntmps107 [.agg (c135 x0 x1 x2 x3 x4)] [.agg (c135 x0 x1 x2 x3 x4), undef, undef] rfl ?_
  have GG := Gro.refl w
  refine wp_seq ?_
  refine wp_region_lit ?_
  refine s_box 1 rfl rfl 135 _ rfl _ rfl (c135 x0 x1 x2 x3 x4) rfl ?_
  intro w1 g1 G eg1 kg1
  have bg1 := size_base GG eg1
  replace GG := GG.trans G
  clear G eg1
  simp only [z0, z1]
  refine s_val 2 rfl rfl (.int .i64 0) (rfl) ?_
  simp only [z0, z1]
  refine wpList_nil ?_
  refine then_n ?_
  refine wp_seq ?_
  refine wp_region_lit ?_
  refine s_val 2 rfl rfl (.int .i64 3) (rfl) ?_
  simp only [z0, z1]
  refine wpList_nil ?_
  refine then_n ?_
  refine wp_ret ?_
  refine bodyPost_ret (results_tmp Try.results107 _ _ _) rfl ?_
  exact ⟨rfl, GG⟩
set_option maxRecDepth 100000 in
set_option maxHeartbeats 4000000 in
theorem kind_4 (x0 : Nat → Nat) (x1 : Int) (x2 : Nat → Nat) (x3 : Nat → Nat) (x4 : Sl) (w : World) : Calls Try.prog 103 #[.agg (c88 x0 x1 x2 x3 x4)] w fun e w' => e = .returned (.int .i64 4) ∧ Gro w w' := by
  refine s_enter Try.func103 rfl Try.ntmps103 [.agg (c88 x0 x1 x2 x3 x4)] [.agg (c88 x0 x1 x2 x3 x4), undef, undef] rfl ?_
  have GG := Gro.refl w
  refine wp_seq ?_
  refine wp_region_lit ?_
  refine s_box 1 rfl rfl 88 _ rfl _ rfl (c88 x0 x1 x2 x3 x4) rfl ?_
  intro w1 g1 G eg1 kg1
  have bg1 := size_base GG eg1
  replace GG := GG.trans G
  clear G eg1
  simp only [z0, z1]
  refine s_val 2 rfl rfl (.int .i64 0) (rfl) ?_
  simp only [z0, z1]
  refine wpList_nil ?_
  refine then_n ?_
  refine wp_seq ?_
  refine wp_region_lit ?_
  refine s_val 2 rfl rfl (.int .i64 4) (rfl) ?_
  simp only [z0, z1]
  refine wpList_nil ?_
  refine then_n ?_
  refine wp_ret ?_
  refine bodyPost_ret (results_tmp Try.results103 _ _ _) rfl ?_
  exact ⟨rfl, GG⟩
set_option maxRecDepth 100000 in
set_option maxHeartbeats 4000000 in
theorem kind_5 (x0 : Nat → Nat) (x1 : Int) (w : World) : Calls Try.prog 104 #[.agg (c126 x0 x1)] w fun e w' => e = .returned (.int .i64 5) ∧ Gro w w' := by
  refine s_enter Try.func104 rfl Try.ntmps104 [.agg (c126 x0 x1)] [.agg (c126 x0 x1), undef, undef] rfl ?_
  have GG := Gro.refl w
  refine wp_seq ?_
  refine wp_region_lit ?_
  refine s_box 1 rfl rfl 126 _ rfl _ rfl (c126 x0 x1) rfl ?_
  intro w1 g1 G eg1 kg1
  have bg1 := size_base GG eg1
  replace GG := GG.trans G
  clear G eg1
  simp only [z0, z1]
  refine s_val 2 rfl rfl (.int .i64 0) (rfl) ?_
  simp only [z0, z1]
  refine wpList_nil ?_
  refine then_n ?_
  refine wp_seq ?_
  refine wp_region_lit ?_
  refine s_val 2 rfl rfl (.int .i64 5) (rfl) ?_
  simp only [z0, z1]
  refine wpList_nil ?_
  refine then_n ?_
  refine wp_ret ?_
  refine bodyPost_ret (results_tmp Try.results104 _ _ _) rfl ?_
  exact ⟨rfl, GG⟩
set_option maxRecDepth 100000 in
set_option maxHeartbeats 4000000 in
theorem kind_6 (x0 : Nat → Nat) (x1 : Int) (x2 : Bool) (w : World) : Calls Try.prog 108 #[.agg (c137 x0 x1 x2)] w fun e w' => e = .returned (.int .i64 6) ∧ Gro w w' := by
  refine s_enter Try.func108 rfl Try.ntmps108 [.agg (c137 x0 x1 x2)] [.agg (c137 x0 x1 x2), undef, undef] rfl ?_
  have GG := Gro.refl w
  refine wp_seq ?_
  refine wp_region_lit ?_
  refine s_box 1 rfl rfl 137 _ rfl _ rfl (c137 x0 x1 x2) rfl ?_
  intro w1 g1 G eg1 kg1
  have bg1 := size_base GG eg1
  replace GG := GG.trans G
  clear G eg1
  simp only [z0, z1]
  refine s_val 2 rfl rfl (.int .i64 0) (rfl) ?_
  simp only [z0, z1]
  refine wpList_nil ?_
  refine then_n ?_
  refine wp_seq ?_
  refine wp_region_lit ?_
  refine s_val 2 rfl rfl (.int .i64 6) (rfl) ?_
  simp only [z0, z1]
  refine wpList_nil ?_
  refine then_n ?_
  refine wp_ret ?_
  refine bodyPost_ret (results_tmp Try.results108 _ _ _) rfl ?_
  exact ⟨rfl, GG⟩
set_option maxRecDepth 100000 in
set_option maxHeartbeats 4000000 in
theorem kind_7 (x0 : Nat → Nat) (x1 : Int) (x2 : Bool) (x3 : Sl) (w : World) : Calls Try.prog 109 #[.agg (c139 x0 x1 x2 x3)] w fun e w' => e = .returned (.int .i64 7) ∧ Gro w w' := by
  refine s_enter Try.func109 rfl Try.ntmps109 [.agg (c139 x0 x1 x2 x3)] [.agg (c139 x0 x1 x2 x3), undef, undef] rfl ?_
  have GG := Gro.refl w
  refine wp_seq ?_
  refine wp_region_lit ?_
  refine s_box 1 rfl rfl 139 _ rfl _ rfl (c139 x0 x1 x2 x3) rfl ?_
  intro w1 g1 G eg1 kg1
  have bg1 := size_base GG eg1
  replace GG := GG.trans G
  clear G eg1
  simp only [z0, z1]
  refine s_val 2 rfl rfl (.int .i64 0) (rfl) ?_
  simp only [z0, z1]
  refine wpList_nil ?_
  refine then_n ?_
  refine wp_seq ?_
  refine wp_region_lit ?_
  refine s_val 2 rfl rfl (.int .i64 7) (rfl) ?_
  simp only [z0, z1]
  refine wpList_nil ?_
  refine then_n ?_
  refine wp_ret ?_
  refine bodyPost_ret (results_tmp Try.results109 _ _ _) rfl ?_
  exact ⟨rfl, GG⟩
set_option maxRecDepth 100000 in
set_option maxHeartbeats 4000000 in
theorem kind_8 (x0 : Nat → Nat) (x1 : Nat → Nat) (x2 : Int) (x3 : Nat → Nat) (x4 : Int) (x5 : Bool) (x6 : Sl) (w : World) : Calls Try.prog 110 #[.agg (c141 x0 x1 x2 x3 x4 x5 x6)] w fun e w' => e = .returned (.int .i64 8) ∧ Gro w w' := by
  refine s_enter Try.func110 rfl Try.ntmps110 [.agg (c141 x0 x1 x2 x3 x4 x5 x6)] [.agg (c141 x0 x1 x2 x3 x4 x5 x6), undef, undef] rfl ?_
  have GG := Gro.refl w
  refine wp_seq ?_
  refine wp_region_lit ?_
  refine s_box 1 rfl rfl 141 _ rfl _ rfl (c141 x0 x1 x2 x3 x4 x5 x6) rfl ?_
  intro w1 g1 G eg1 kg1
  have bg1 := size_base GG eg1
  replace GG := GG.trans G
  clear G eg1
  simp only [z0, z1]
  refine s_val 2 rfl rfl (.int .i64 0) (rfl) ?_
  simp only [z0, z1]
  refine wpList_nil ?_
  refine then_n ?_
  refine wp_seq ?_
  refine wp_region_lit ?_
  refine s_val 2 rfl rfl (.int .i64 8) (rfl) ?_
  simp only [z0, z1]
  refine wpList_nil ?_
  refine then_n ?_
  refine wp_ret ?_
  refine bodyPost_ret (results_tmp Try.results110 _ _ _) rfl ?_
  exact ⟨rfl, GG⟩
set_option maxRecDepth 100000 in
set_option maxHeartbeats 4000000 in
theorem kind_9 (x0 : Nat → Nat) (x1 : Int) (w : World) : Calls Try.prog 111 #[.agg (c143 x0 x1)] w fun e w' => e = .returned (.int .i64 9) ∧ Gro w w' := by
  refine s_enter Try.func111 rfl Try.ntmps111 [.agg (c143 x0 x1)] [.agg (c143 x0 x1), undef, undef] rfl ?_
  have GG := Gro.refl w
  refine wp_seq ?_
  refine wp_region_lit ?_
  refine s_box 1 rfl rfl 143 _ rfl _ rfl (c143 x0 x1) rfl ?_
  intro w1 g1 G eg1 kg1
  have bg1 := size_base GG eg1
  replace GG := GG.trans G
  clear G eg1
  simp only [z0, z1]
  refine s_val 2 rfl rfl (.int .i64 0) (rfl) ?_
  simp only [z0, z1]
  refine wpList_nil ?_
  refine then_n ?_
  refine wp_seq ?_
  refine wp_region_lit ?_
  refine s_val 2 rfl rfl (.int .i64 9) (rfl) ?_
  simp only [z0, z1]
  refine wpList_nil ?_
  refine then_n ?_
  refine wp_ret ?_
  refine bodyPost_ret (results_tmp Try.results111 _ _ _) rfl ?_
  exact ⟨rfl, GG⟩
set_option maxRecDepth 100000 in
set_option maxHeartbeats 4000000 in
theorem kind_10 (x0 : Nat → Nat) (x1 : Nat → Nat) (x2 : Int) (x3 : Int) (x4 : Int) (x5 : Nat → Nat) (x6 : Int) (x7 : Nat → Nat) (x8 : Sl) (x9 : Sl) (w : World) : Calls Try.prog 112 #[.agg (c145 x0 x1 x2 x3 x4 x5 x6 x7 x8 x9)] w fun e w' => e = .returned (.int .i64 10) ∧ Gro w w' := by
  refine s_enter Try.func112 rfl Try.ntmps112 [.agg (c145 x0 x1 x2 x3 x4 x5 x6 x7 x8 x9)] [.agg (c145 x0 x1 x2 x3 x4 x5 x6 x7 x8 x9), undef, undef] rfl ?_
  have GG := Gro.refl w
  refine wp_seq ?_
  refine wp_region_lit ?_
  refine s_box 1 rfl rfl 145 _ rfl _ rfl (c145 x0 x1 x2 x3 x4 x5 x6 x7 x8 x9) rfl ?_
  intro w1 g1 G eg1 kg1
  have bg1 := size_base GG eg1
  replace GG := GG.trans G
  clear G eg1
  simp only [z0, z1]
  refine s_val 2 rfl rfl (.int .i64 0) (rfl) ?_
  simp only [z0, z1]
  refine wpList_nil ?_
  refine then_n ?_
  refine wp_seq ?_
  refine wp_region_lit ?_
  refine s_val 2 rfl rfl (.int .i64 10) (rfl) ?_
  simp only [z0, z1]
  refine wpList_nil ?_
  refine then_n ?_
  refine wp_ret ?_
  refine bodyPost_ret (results_tmp Try.results112 _ _ _) rfl ?_
  exact ⟨rfl, GG⟩
set_option maxRecDepth 100000 in
set_option maxHeartbeats 4000000 in
theorem kind_11 (x0 : Nat → Nat) (x1 : Int) (x2 : Bool) (x3 : Nat → Nat) (x4 : Int) (x5 : Nat → Nat) (x6 : Sl) (w : World) : Calls Try.prog 113 #[.agg (c147 x0 x1 x2 x3 x4 x5 x6)] w fun e w' => e = .returned (.int .i64 11) ∧ Gro w w' := by
  refine s_enter Try.func113 rfl Try.ntmps113 [.agg (c147 x0 x1 x2 x3 x4 x5 x6)] [.agg (c147 x0 x1 x2 x3 x4 x5 x6), undef, undef] rfl ?_
  have GG := Gro.refl w
  refine wp_seq ?_
  refine wp_region_lit ?_
  refine s_box 1 rfl rfl 147 _ rfl _ rfl (c147 x0 x1 x2 x3 x4 x5 x6) rfl ?_
  intro w1 g1 G eg1 kg1
  have bg1 := size_base GG eg1
  replace GG := GG.trans G
  clear G eg1
  simp only [z0, z1]
  refine s_val 2 rfl rfl (.int .i64 0) (rfl) ?_
  simp only [z0, z1]
  refine wpList_nil ?_
  refine then_n ?_
  refine wp_seq ?_
  refine wp_region_lit ?_
  refine s_val 2 rfl rfl (.int .i64 11) (rfl) ?_
  simp only [z0, z1]
  refine wpList_nil ?_
  refine then_n ?_
  refine wp_ret ?_
  refine bodyPost_ret (results_tmp Try.results113 _ _ _) rfl ?_
  exact ⟨rfl, GG⟩
set_option maxRecDepth 100000 in
set_option maxHeartbeats 4000000 in
theorem kind_12 (x0 : Nat → Nat) (x1 : Int) (x2 : Bool) (x3 : Nat → Nat) (x4 : Int) (x5 : Nat → Nat) (w : World) : Calls Try.prog 114 #[.agg (c149 x0 x1 x2 x3 x4 x5)] w fun e w' => e = .returned (.int .i64 12) ∧ Gro w w' := by
  refine s_enter Try.func114 rfl Try.ntmps114 [.agg (c149 x0 x1 x2 x3 x4 x5)] [.agg (c149 x0 x1 x2 x3 x4 x5), undef, undef] rfl ?_
  have GG := Gro.refl w
  refine wp_seq ?_
  refine wp_region_lit ?_
  refine s_box 1 rfl rfl 149 _ rfl _ rfl (c149 x0 x1 x2 x3 x4 x5) rfl ?_
  intro w1 g1 G eg1 kg1
  have bg1 := size_base GG eg1
  replace GG := GG.trans G
  clear G eg1
  simp only [z0, z1]
  refine s_val 2 rfl rfl (.int .i64 0) (rfl) ?_
  simp only [z0, z1]
  refine wpList_nil ?_
  refine then_n ?_
  refine wp_seq ?_
  refine wp_region_lit ?_
  refine s_val 2 rfl rfl (.int .i64 12) (rfl) ?_
  simp only [z0, z1]
  refine wpList_nil ?_
  refine then_n ?_
  refine wp_ret ?_
  refine bodyPost_ret (results_tmp Try.results114 _ _ _) rfl ?_
  exact ⟨rfl, GG⟩
theorem kind_any (k : Nat) (h1 : 1 ≤ k) (h2 : k ≤ 12) (f : Fr) : KindOK (bodyV k f) (k : Int) := by
  rcases is12 h1 h2 with rfl | rfl | rfl | rfl | rfl | rfl | rfl | rfl | rfl | rfl | rfl | rfl
  · exact ⟨fun w => ⟨105, [.agg (c131 f.fi f.fn f.ti f.tn f.a)], by kernel_rfl, kind_1 f.fi f.fn f.ti f.tn f.a w⟩⟩
  · exact ⟨fun w => ⟨106, [.agg (c133 f.fi f.fn f.ti f.tn f.n f.tx)], by kernel_rfl, kind_2 f.fi f.fn f.ti f.tn f.n f.tx w⟩⟩
  · exact ⟨fun w => ⟨107, [.agg (c135 f.fi f.fn f.ti f.tn f.n)], by kernel_rfl, kind_3 f.fi f.fn f.ti f.tn f.n w⟩⟩
  · exact ⟨fun w => ⟨103, [.agg (c88 f.pw f.pn f.a f.b f.tr)], by kernel_rfl, kind_4 f.pw f.pn f.a f.b f.tr w⟩⟩
  · exact ⟨fun w => ⟨104, [.agg (c126 f.pw f.pn)], by kernel_rfl, kind_5 f.pw f.pn w⟩⟩
  · exact ⟨fun w => ⟨108, [.agg (c137 f.pw f.pn f.toA)], by kernel_rfl, kind_6 f.pw f.pn f.toA w⟩⟩
  · exact ⟨fun w => ⟨109, [.agg (c139 f.pw f.pn f.toA f.ids)], by kernel_rfl, kind_7 f.pw f.pn f.toA f.ids w⟩⟩
  · exact ⟨fun w => ⟨110, [.agg (c141 f.a f.b f.op f.pw f.pn f.toA f.tr)], by kernel_rfl, kind_8 f.a f.b f.op f.pw f.pn f.toA f.tr w⟩⟩
  · exact ⟨fun w => ⟨111, [.agg (c143 f.a f.n)], by kernel_rfl, kind_9 f.a f.n w⟩⟩
  · exact ⟨fun w => ⟨112, [.agg (c145 f.a f.b f.n f.op f.ttl f.key f.vn f.vw f.val f.tx)], by kernel_rfl, kind_10 f.a f.b f.n f.op f.ttl f.key f.vn f.vw f.val f.tx w⟩⟩
  · exact ⟨fun w => ⟨113, [.agg (c147 f.pw f.pn f.toA f.key f.vn f.vw f.val)], by kernel_rfl, kind_11 f.pw f.pn f.toA f.key f.vn f.vw f.val w⟩⟩
  · exact ⟨fun w => ⟨114, [.agg (c149 f.pw f.pn f.toA f.key f.vn f.vw)], by kernel_rfl, kind_12 f.pw f.pn f.toA f.key f.vn f.vw w⟩⟩
theorem FrW.kind {w : World} {f : Fr} {d : FD} (h : FrW w f d) (k : Int) : FrW w { f with kind := k } d := ⟨h.tr, h.ids, h.val, h.tx, h.oids, h.oval, h.otx⟩
def bareD (k : Nat) (d : FD) : FD :=
  ⟨if k = 4 ∨ k = 8 then d.tr else [], if k = 7 then d.ids else [], if k = 10 ∨ k = 11 then d.val else [], if k = 2 ∨ k = 10 then d.tx else []⟩
theorem xc_nil (w : World) (sz : Nat) : XC w sz Sl.nil.ao Sl.nil.cap Sl.nil.n [] := XC.nil w sz
theorem FrW.bare {w : World} {f : Fr} {d : FD} (h : FrW w f d) (k : Nat) (h1 : 1 ≤ k) (h2 : k ≤ 12) : FrW w (bare k f) (bareD k d) := by
  rcases is12 h1 h2 with rfl | rfl | rfl | rfl | rfl | rfl | rfl | rfl | rfl | rfl | rfl | rfl <;>
    refine ⟨?_, ?_, ?_, ?_, ?_, ?_, ?_⟩ <;>
    first
    | exact h.tr | exact h.ids | exact h.val | exact h.tx | exact h.oids | exact h.oval | exact h.otx
    | exact xc_nil w _ | (intro x hx; cases hx)
structure Small (n b : Nat) : Prop where
  out : n * b ≤ 140737488355328
theorem small_nil (b : Nat) : Small Sl.nil.n b := ⟨by show 0 * b ≤ _; omega⟩
/-- Rows that may be copied. -/
structure FrS (f : Fr) : Prop where
  tr : Small f.tr.n 8
  ids : Small f.ids.n 16
  val : Small f.val.n 1
  tx : Small f.tx.n 1
theorem FrS.bare {f : Fr} (h : FrS f) (k : Nat) (h1 : 1 ≤ k) (h2 : k ≤ 12) : FrS (bare k f) := by
  rcases is12 h1 h2 with rfl | rfl | rfl | rfl | rfl | rfl | rfl | rfl | rfl | rfl | rfl | rfl <;>
    refine ⟨?_, ?_, ?_, ?_⟩ <;>
    first
    | exact h.tr | exact h.ids | exact h.val | exact h.tx | exact small_nil _
def AP (w : World) (g : Fr) (d : FD) (v : Fr → Value) (e : Ending) (w' : World) : Prop := ∃ s1 s2 s3 s4 : Sl, e = .returned (v { g with tr := s1, ids := s2, val := s3, tx := s4 }) ∧ FrO w' w.heap.size { g with tr := s1, ids := s2, val := s3, tx := s4 } d ∧ Gro w w'
theorem FrO.apart {w w' : World} {B g : Nat} {f : Fr} {d : FD} {x : Obj} (h : FrO w B f d) (S : Stored w w' g x) (hg : g < B) : FrO w' B f d :=
  ⟨h.tr.apart S (fun ad ha => by have := h.tr.ge ad ha; omega), h.ids.apart S (fun ad ha => by have := h.ids.ge ad ha; omega), h.val.apart S (fun ad ha => by have := h.val.ge ad ha; omega), h.tx.apart S (fun ad ha => by have := h.tx.ge ad ha; omega), h.oids, h.oval, h.otx⟩
set_option maxRecDepth 100000 in
set_option maxHeartbeats 4000000 in
theorem plain_gen (b : Value) (g : Fr) (dd : FD) (k : Int) (w : World) (Hf : ∀ w, Calls Try.prog 56 #[b] w fun e w' => e = .returned (.tuple #[.agg (c64 g.kind g.pw g.pn g.toA g.a g.b g.n g.fi g.fn g.ti g.tn g.tr g.ids g.key g.vn g.vw g.val g.op g.ttl g.tx), .bool true]) ∧ Gro w w') (HK : KindOK b k) (HW : FrW w g dd) (HS : FrS { g with kind := k }) : Calls Try.prog 44 #[b] w (AP w { g with kind := k } dd fun f => .agg (frA f)) := by
  refine s_enter Try.func44 rfl Try.ntmps44 [b] [b, undef, undef, undef, undef, undef, undef, undef, undef, undef, undef, undef, undef, undef, undef, undef, undef, undef] rfl ?_
  have GG := Gro.refl w
  refine wp_seq ?_
  refine wp_region_lit ?_
  refine s_alloc 2 rfl rfl 64 rfl _ zv64 _ rfl ?_
  intro w1 g1 G eg1 kg1
  have bg1 := size_base GG eg1
  replace GG := GG.trans G
  clear G eg1
  simp only [z0, z1]
  refine wpList_nil ?_
  refine then_n ?_
  refine wp_seq ?_
  refine wp_region_lit ?_
  refine s_val 6 rfl rfl (b) (rfl) ?_
  simp only [z0, z1]
  refine s_callv 7 rfl rfl _ 56 Try.call56 rfl rfl _ rfl [b] rfl (Hf _) ?_
  intro w2 G
  replace kg1 := G.has kg1
  replace GG := GG.trans G
  clear G
  simp only [z0, z1]
  refine s_val 5 rfl rfl (.tuple #[.agg (c64 g.kind g.pw g.pn g.toA g.a g.b g.n g.fi g.fn g.ti g.tn g.tr g.ids g.key g.vn g.vw g.val g.op g.ttl g.tx), .bool true]) (rfl) ?_
  simp only [z0, z1]
  refine s_val 8 rfl rfl (.agg (c64 g.kind g.pw g.pn g.toA g.a g.b g.n g.fi g.fn g.ti g.tn g.tr g.ids g.key g.vn g.vw g.val g.op g.ttl g.tx)) (rfl) ?_
  simp only [z0, z1]
  refine s_val 9 rfl rfl (.bool true) (rfl) ?_
  simp only [z0, z1]
  refine s_alloc 3 rfl rfl 64 rfl _ zv64 _ rfl ?_
  intro w3 g2 G eg2 kg2
  have bg2 := size_base GG eg2
  have dg1g2 := lt_new kg1 eg2
  replace kg1 := G.has kg1
  replace GG := GG.trans G
  clear G eg2
  simp only [z0, z1]
  refine s_store rfl rfl 64 _ _ rfl g2 0 rfl (.agg (c64 g.kind g.pw g.pn g.toA g.a g.b g.n g.fi g.fn g.ti g.tn g.tr g.ids g.key g.vn g.vw g.val g.op g.ttl g.tx)) rfl 64 _ kg2 (c64 g.kind g.pw g.pn g.toA g.a g.b g.n g.fi g.fn g.ti g.tn g.tr g.ids g.key g.vn g.vw g.val g.op g.ttl g.tx) rfl (by kernel_rfl) (Nat.le_of_ble_eq_true rfl) (by kernel_rfl) (c64 g.kind g.pw g.pn g.toA g.a g.b g.n g.fi g.fn g.ti g.tn g.tr g.ids g.key g.vn g.vw g.val g.op g.ttl g.tx) (by kernel_rfl) ?_
  intro w5 S
  replace kg1 := S.has (by omega) kg1
  replace GG := GG.store S bg2
  replace kg2 := S.new
  clear S
  refine s_val 4 rfl rfl (.bool true) (rfl) ?_
  simp only [z0, z1]
  refine wpList_nil ?_
  refine then_n ?_
  refine wp_seq ?_
  refine wp_seq ?_
  refine wp_region_lit ?_
  refine s_val 10 rfl rfl (.bool true) (rfl) ?_
  simp only [z0, z1]
  refine s_val 11 rfl rfl (.bool false) (run_nt _ _ rfl true rfl) ?_
  simp only [z0, z1]
  refine wpList_nil ?_
  refine then_n ?_
  refine wp_cond_false rfl ?_
  refine wp_skip ?_
  refine then_n ?_
  refine wp_seq ?_
  refine wp_region_lit ?_
  refine s_val 13 rfl rfl (b) (rfl) ?_
  simp only [z0, z1]
  refine s_invokeK 14 rfl rfl _ rfl (b) rfl k HK ?_
  intro w6 G
  replace kg1 := G.has kg1
  replace kg2 := G.has kg2
  replace GG := GG.trans G
  clear G
  simp only [z0, z1]
  refine s_val 15 rfl rfl (.pointer (some ⟨g2, 0, none⟩)) (run_fld 64 _ 0 rfl _ _ rfl _ (by kernel_rfl)) ?_
  simp only [z0, z1]
  refine s_store rfl rfl 3 _ _ rfl g2 0 rfl (.int .i64 k) rfl 64 _ kg2 #[.int .i64 k] rfl (by kernel_rfl) (Nat.le_of_ble_eq_true rfl) (by kernel_rfl) (c64 k g.pw g.pn g.toA g.a g.b g.n g.fi g.fn g.ti g.tn g.tr g.ids g.key g.vn g.vw g.val g.op g.ttl g.tx) (by kernel_rfl) ?_
  intro w8 S
  replace kg1 := S.has (by omega) kg1
  replace GG := GG.store S bg2
  replace kg2 := S.new
  clear S
  refine wpList_nil ?_
  refine then_n ?_
  refine wp_seq ?_
  refine wp_region_lit ?_
  refine s_val 16 rfl rfl (.agg (c64 k g.pw g.pn g.toA g.a g.b g.n g.fi g.fn g.ti g.tn g.tr g.ids g.key g.vn g.vw g.val g.op g.ttl g.tx)) (run_lda 64 _ rfl g2 0 95 rfl 64 _ kg2 _ Try.underlying64 rfl si64 (Nat.le_of_ble_eq_true rfl) _ (by kernel_rfl)) ?_
  simp only [z0, z1]
  have dag1 := lt_of_heap kg1
  have dag2 := lt_of_heap kg2
  have qa := GG.size
  refine s_callx 17 rfl rfl _ 57 Try.call57 rfl rfl _ rfl [.agg (c64 k g.pw g.pn g.toA g.a g.b g.n g.fi g.fn g.ti g.tn g.tr g.ids g.key g.vn g.vw g.val g.op g.ttl g.tx)] rfl (apart_any { g with kind := k } dd _ ((HW.kind k).gro GG) HS.tr.out HS.ids.out HS.val.out HS.tx.out) (fun _ _ ⟨_, _, _, _, he, _⟩ => ⟨_, he⟩) ?_
  rintro v w9 ⟨s1, s2, s3, s4, he, HO, G⟩
  cases he
  replace kg1 := G.has kg1
  replace kg2 := G.has kg2
  replace GG := GG.trans G
  clear G
  simp only [z0, z1]
  refine s_store rfl rfl 64 _ _ rfl g1 0 rfl (.agg (c64 k g.pw g.pn g.toA g.a g.b g.n g.fi g.fn g.ti g.tn s1 s2 g.key g.vn g.vw s3 g.op g.ttl s4)) rfl 64 _ kg1 (c64 k g.pw g.pn g.toA g.a g.b g.n g.fi g.fn g.ti g.tn s1 s2 g.key g.vn g.vw s3 g.op g.ttl s4) rfl (by kernel_rfl) (Nat.le_of_ble_eq_true rfl) (by kernel_rfl) (c64 k g.pw g.pn g.toA g.a g.b g.n g.fi g.fn g.ti g.tn s1 s2 g.key g.vn g.vw s3 g.op g.ttl s4) (by kernel_rfl) ?_
  intro w11 S
  replace kg2 := S.has (by omega) kg2
  replace HO := HO.apart S (by omega)
  replace GG := GG.store S bg1
  replace kg1 := S.new
  clear S
  refine wpList_nil ?_
  refine then_n ?_
  refine wp_ret ?_
  refine bodyPost_ret (results_cell_row Try.results44 _ _ g1 64 _ (0, 0) _ rfl kg1 Try.underlying64 rfl (by kernel_rfl)) rfl ?_
  exact ⟨s1, s2, s3, s4, rfl, HO.mono qa, GG⟩
theorem plain_any (k : Nat) (h1 : 1 ≤ k) (h2 : k ≤ 12) (f : Fr) (d : FD) (w : World) (HW : FrW w f d) (HS : FrS f) : Calls Try.prog 44 #[bodyV k f] w (AP w { bare k f with kind := (k : Int) } (bareD k d) fun f => .agg (frA f)) := by
  have h := HS.bare k h1 h2
  exact plain_gen (bodyV k f) (bare k f) (bareD k d) k w (fields_any k h1 h2 f) (kind_any k h1 h2 f) (HW.bare k h1 h2) ⟨h.tr, h.ids, h.val, h.tx⟩
set_option maxRecDepth 100000 in
set_option maxHeartbeats 4000000 in
theorem of_any (k : Nat) (h1 : 1 ≤ k) (h2 : k ≤ 12) (f : Fr) (hk : f.kind = (k : Int)) (dd : FD) (w : World) (HW : FrW w f dd) (HS : FrS f) : Calls Try.prog 48 #[.agg (frA f)] w (AP w f dd fun f => .tuple #[bodyV k f, .bool true]) := by
  show Calls Try.prog 48 #[.agg (c64 f.kind f.pw f.pn f.toA f.a f.b f.n f.fi f.fn f.ti f.tn f.tr f.ids f.key f.vn f.vw f.val f.op f.ttl f.tx)] w _
  refine s_enter Try.func48 rfl Try.ntmps48 [.agg (c64 f.kind f.pw f.pn f.toA f.a f.b f.n f.fi f.fn f.ti f.tn f.tr f.ids f.key f.vn f.vw f.val f.op f.ttl f.tx)] [.agg (c64 f.kind f.pw f.pn f.toA f.a f.b f.n f.fi f.fn f.ti f.tn f.tr f.ids f.key f.vn f.vw f.val f.op f.ttl f.tx), undef, undef, undef, undef, undef, undef, undef, undef, undef, undef] rfl ?_
  have GG := Gro.refl w
  refine wp_seq ?_
  refine wp_region_lit ?_
  refine s_box 1 rfl rfl 64 _ rfl _ rfl (c64 f.kind f.pw f.pn f.toA f.a f.b f.n f.fi f.fn f.ti f.tn f.tr f.ids f.key f.vn f.vw f.val f.op f.ttl f.tx) rfl ?_
  intro w1 g1 G eg1 kg1
  have bg1 := size_base GG eg1
  replace GG := GG.trans G
  clear G eg1
  simp only [z0, z1]
  refine s_val 2 rfl rfl (.nilIface) (rfl) ?_
  simp only [z0, z1]
  refine s_val 3 rfl rfl (.bool false) (rfl) ?_
  simp only [z0, z1]
  refine wpList_nil ?_
  refine then_n ?_
  refine wp_seq ?_
  refine wp_region_lit ?_
  refine s_val 5 rfl rfl (.agg (c64 f.kind f.pw f.pn f.toA f.a f.b f.n f.fi f.fn f.ti f.tn f.tr f.ids f.key f.vn f.vw f.val f.op f.ttl f.tx)) (run_lda 64 _ rfl g1 0 95 rfl 64 _ kg1 _ Try.underlying64 rfl si64 (Nat.le_of_ble_eq_true rfl) _ (by kernel_rfl)) ?_
  simp only [z0, z1]
  have dag1 := lt_of_heap kg1
  have qa := GG.size
  refine s_callx 6 rfl rfl _ 57 Try.call57 rfl rfl _ rfl [.agg (c64 f.kind f.pw f.pn f.toA f.a f.b f.n f.fi f.fn f.ti f.tn f.tr f.ids f.key f.vn f.vw f.val f.op f.ttl f.tx)] rfl (apart_any f dd _ (HW.gro GG) HS.tr.out HS.ids.out HS.val.out HS.tx.out) (fun _ _ ⟨_, _, _, _, he, _⟩ => ⟨_, he⟩) ?_
  rintro v w2 ⟨s1, s2, s3, s4, he, HO, G⟩
  cases he
  replace kg1 := G.has kg1
  replace GG := GG.trans G
  clear G
  simp only [z0, z1]
  obtain ⟨tb, vb, hb⟩ := bodyV_if k h1 h2 { f with tr := s1, ids := s2, val := s3, tx := s4 }
  have HBd := fun w => body_any k h1 h2 { f with tr := s1, ids := s2, val := s3, tx := s4 } hk w
  simp only [hb] at HBd
  refine s_callv 7 rfl rfl _ 63 Try.call63 rfl rfl _ rfl [.agg (c64 f.kind f.pw f.pn f.toA f.a f.b f.n f.fi f.fn f.ti f.tn s1 s2 f.key f.vn f.vw s3 f.op f.ttl s4)] rfl (HBd _) ?_
  intro w3 G
  replace kg1 := G.has kg1
  replace HO := HO.gro G
  replace GG := GG.trans G
  clear G
  simp only [z0, z1]
  clear HBd
  refine s_val 4 rfl rfl (.iface tb (vb)) (rfl) ?_
  simp only [z0, z1]
  refine wpList_nil ?_
  refine then_n ?_
  refine wp_seq ?_
  refine wp_region_exA (A := ?A) 4 [(0, 8), (1, 9), (2, 10), (3, 2)] [.val (.iface tb (vb)), .val (.iface tb (vb)), .val (.bool true), .val (.iface tb (vb))] follows (by kernel_rfl) rfl ?hA (opsA_cons ?o0 (opsA_cons ?o1 (opsA_cons ?o2 (opsA_cons ?o3 opsA_nil)))) ?rest
  case hA =>
    intro ptrs
    simp only [full, foldSlots, filledE, postE, List.foldl_cons, List.foldl_nil, List.getD_cons_zero, List.getD_cons_succ, fill_val, List.set_cons_zero, List.set_cons_succ]
    exact rfl
  case o0 => exact fun _ _ _ _ => opE_move (v := .iface tb (vb)) _ rfl rfl rfl
  case o1 => exact fun _ _ _ _ => opE_move (v := .iface tb (vb)) _ rfl rfl rfl
  case o2 => exact fun _ _ hw _ => opE_value (v := .bool true) rfl (run_binop .neq 102 _ _ _ rfl _ _ _ rfl rfl (by kernel_rfl) (by kernel_rfl))
  case o3 => exact fun _ _ _ _ => opE_assign (v := .iface tb (vb)) _ rfl rfl rfl
  intro ptrs w4 GD hxE
  simp only [List.drop_succ_cons, List.drop_zero]
  replace kg1 := GD.has kg1
  replace HO := HO.gro ((Gro.refl _).drew.trans GD)
  replace GG := GG.drew.trans GD
  clear GD
  refine s_val 3 rfl rfl (.bool true) (rfl) ?_
  simp only [z0, z1]
  refine wpList_nil ?_
  refine then_n ?_
  refine wp_ret ?_
  refine bodyPost_ret (results_tmp2 Try.results48 _ _ _) rfl ?_
  exact ⟨s1, s2, s3, s4, by show Ending.returned (.tuple #[.iface tb vb, .bool true]) = .returned (.tuple #[bodyV k { f with tr := s1, ids := s2, val := s3, tx := s4 }, .bool true]); rw [hb], HO.mono qa, GG⟩
set_option maxRecDepth 100000 in
set_option maxHeartbeats 4000000 in
theorem of_not (f : Fr) (hk : ¬ (1 ≤ f.kind ∧ f.kind ≤ 12)) (dd : FD) (w : World) (HW : FrW w f dd) (HS : FrS f) : Calls Try.prog 48 #[.agg (frA f)] w fun e w' => e = .returned (.tuple #[.nilIface, .bool false]) ∧ Gro w w' := by
  show Calls Try.prog 48 #[.agg (c64 f.kind f.pw f.pn f.toA f.a f.b f.n f.fi f.fn f.ti f.tn f.tr f.ids f.key f.vn f.vw f.val f.op f.ttl f.tx)] w _
  refine s_enter Try.func48 rfl Try.ntmps48 [.agg (c64 f.kind f.pw f.pn f.toA f.a f.b f.n f.fi f.fn f.ti f.tn f.tr f.ids f.key f.vn f.vw f.val f.op f.ttl f.tx)] [.agg (c64 f.kind f.pw f.pn f.toA f.a f.b f.n f.fi f.fn f.ti f.tn f.tr f.ids f.key f.vn f.vw f.val f.op f.ttl f.tx), undef, undef, undef, undef, undef, undef, undef, undef, undef, undef] rfl ?_
  have GG := Gro.refl w
  refine wp_seq ?_
  refine wp_region_lit ?_
  refine s_box 1 rfl rfl 64 _ rfl _ rfl (c64 f.kind f.pw f.pn f.toA f.a f.b f.n f.fi f.fn f.ti f.tn f.tr f.ids f.key f.vn f.vw f.val f.op f.ttl f.tx) rfl ?_
  intro w1 g1 G eg1 kg1
  have bg1 := size_base GG eg1
  replace GG := GG.trans G
  clear G eg1
  simp only [z0, z1]
  refine s_val 2 rfl rfl (.nilIface) (rfl) ?_
  simp only [z0, z1]
  refine s_val 3 rfl rfl (.bool false) (rfl) ?_
  simp only [z0, z1]
  refine wpList_nil ?_
  refine then_n ?_
  refine wp_seq ?_
  refine wp_region_lit ?_
  refine s_val 5 rfl rfl (.agg (c64 f.kind f.pw f.pn f.toA f.a f.b f.n f.fi f.fn f.ti f.tn f.tr f.ids f.key f.vn f.vw f.val f.op f.ttl f.tx)) (run_lda 64 _ rfl g1 0 95 rfl 64 _ kg1 _ Try.underlying64 rfl si64 (Nat.le_of_ble_eq_true rfl) _ (by kernel_rfl)) ?_
  simp only [z0, z1]
  have dag1 := lt_of_heap kg1
  have qa := GG.size
  refine s_callx 6 rfl rfl _ 57 Try.call57 rfl rfl _ rfl [.agg (c64 f.kind f.pw f.pn f.toA f.a f.b f.n f.fi f.fn f.ti f.tn f.tr f.ids f.key f.vn f.vw f.val f.op f.ttl f.tx)] rfl (apart_any f dd _ (HW.gro GG) HS.tr.out HS.ids.out HS.val.out HS.tx.out) (fun _ _ ⟨_, _, _, _, he, _⟩ => ⟨_, he⟩) ?_
  rintro v w2 ⟨s1, s2, s3, s4, he, HO, G⟩
  cases he
  replace kg1 := G.has kg1
  replace GG := GG.trans G
  clear G
  simp only [z0, z1]
  refine s_callv 7 rfl rfl _ 63 Try.call63 rfl rfl _ rfl [.agg (c64 f.kind f.pw f.pn f.toA f.a f.b f.n f.fi f.fn f.ti f.tn s1 s2 f.key f.vn f.vw s3 f.op f.ttl s4)] rfl ((body_not { f with tr := s1, ids := s2, val := s3, tx := s4 } hk _)) ?_
  intro w3 G
  replace kg1 := G.has kg1
  replace HO := HO.gro G
  replace GG := GG.trans G
  clear G
  simp only [z0, z1]
  refine s_val 4 rfl rfl (.nilIface) (rfl) ?_
  simp only [z0, z1]
  refine wpList_nil ?_
  refine then_n ?_
  refine wp_seq ?_
  refine wp_region_exA (A := ?A) 4 [(0, 8), (1, 9), (2, 10), (3, 2)] [.val (.nilIface), .val (.nilIface), .val (.bool false), .val (.nilIface)] follows (by kernel_rfl) rfl ?hA (opsA_cons ?o0 (opsA_cons ?o1 (opsA_cons ?o2 (opsA_cons ?o3 opsA_nil)))) ?rest
  case hA =>
    intro ptrs
    simp only [full, foldSlots, filledE, postE, List.foldl_cons, List.foldl_nil, List.getD_cons_zero, List.getD_cons_succ, fill_val, List.set_cons_zero, List.set_cons_succ]
    exact rfl
  case o0 => exact fun _ _ _ _ => opE_move (v := .nilIface) _ rfl rfl rfl
  case o1 => exact fun _ _ _ _ => opE_move (v := .nilIface) _ rfl rfl rfl
  case o2 => exact fun _ _ hw _ => opE_value (v := .bool false) rfl (run_binop .neq 102 _ _ _ rfl _ _ _ rfl rfl (by kernel_rfl) (by kernel_rfl))
  case o3 => exact fun _ _ _ _ => opE_assign (v := .nilIface) _ rfl rfl rfl
  intro ptrs w4 GD hxE
  simp only [List.drop_succ_cons, List.drop_zero]
  replace kg1 := GD.has kg1
  replace HO := HO.gro ((Gro.refl _).drew.trans GD)
  replace GG := GG.drew.trans GD
  clear GD
  refine s_val 3 rfl rfl (.bool false) (rfl) ?_
  simp only [z0, z1]
  refine wpList_nil ?_
  refine then_n ?_
  refine wp_ret ?_
  refine bodyPost_ret (results_tmp2 Try.results48 _ _ _) rfl ?_
  exact ⟨rfl, GG⟩
def sameB (f g : Fr) (df dg : FD) : Bool := (decide (idL f.pw = idL g.pw) && decide (f.pn = g.pn)) && (decide (f.toA = g.toA) && (decide (idL f.a = idL g.a) && (decide (idL f.b = idL g.b) && (decide (f.n = g.n) && ((decide (f.fi = g.fi) && decide (f.fn = g.fn)) && ((decide (f.ti = g.ti) && decide (f.tn = g.tn)) && (decide (f.op = g.op) && (decide (f.ttl = g.ttl) && (decide (df.tr = dg.tr) && (decide (df.ids = dg.ids) && (decide (df.tx = dg.tx) && (decide (idL f.key = idL g.key) && ((decide (f.vn = g.vn) && decide (idL f.vw = idL g.vw)) && decide (df.val = dg.val))))))))))))))
structure GroR (rb : Nat) (w w' : World) : Prop where
  os : w'.os = w.os
  tape : w'.tape = w.tape
  output : w'.output = w.output
  size : w.heap.size ≤ w'.heap.size
  old : ∀ k, k < w.heap.size → k ≠ rb → w'.heap[k]? = w.heap[k]?
theorem GroR.refl (rb : Nat) (w : World) : GroR rb w w := ⟨rfl, rfl, rfl, Nat.le_refl _, fun _ _ _ => rfl⟩
theorem GroR.trans {rb : Nat} {a b c : World} (h : GroR rb a b) (k : GroR rb b c) : GroR rb a c :=
  ⟨k.os.trans h.os, k.tape.trans h.tape, k.output.trans h.output, Nat.le_trans h.size k.size, fun i hi hn => (k.old i (Nat.lt_of_lt_of_le hi h.size) hn).trans (h.old i hi hn)⟩
theorem GroR.has {rb k : Nat} {a b : World} {x : Obj} (h : GroR rb a b) (hk : a.heap[k]? = some x) (hn : k ≠ rb) : b.heap[k]? = some x := by
  rw [h.old k (lt_of_heap hk) hn]; exact hk
def thenR {α β : Type} (r : Except Nat (α × Nat)) (f : α → Nat → Except Nat (β × Nat)) : Except Nat (β × Nat) :=
  match r with
  | .error e => .error e
  | .ok (a, q) => f a q
/-- How a reader reads what was laid. -/
structure Lay {α : Type} (R : List Nat → Nat → Except Nat (α × Nat)) (E : List Nat) (a : α) : Prop where
  ok : ∀ pre post, R (pre ++ (E ++ post)) pre.length = .ok (a, pre.length + E.length)
  cut : ∀ pre c, c < E.length → R (pre ++ E.take c) pre.length = .error 3
theorem Lay.bind {α β : Type} {R : List Nat → Nat → Except Nat (α × Nat)} {F : α → List Nat → Nat → Except Nat (β × Nat)} {E E2 : List Nat} {a : α} {b : β} (h : Lay R E a) (k : Lay (F a) E2 b) : Lay (fun l i => thenR (R l i) fun x q => F x l q) (E ++ E2) b := by
  refine ⟨fun pre post => ?_, fun pre c hc => ?_⟩
  · have h1 := h.ok pre (E2 ++ post)
    have h2 := k.ok (pre ++ E) post
    show thenR (R (pre ++ ((E ++ E2) ++ post)) pre.length) _ = _
    rw [List.append_assoc E, h1]
    show F a (pre ++ (E ++ (E2 ++ post))) (pre.length + E.length) = _
    rw [List.append_assoc, List.length_append] at h2
    rw [h2, List.length_append, Nat.add_assoc]
  · show thenR (R (pre ++ (E ++ E2).take c) pre.length) _ = _
    by_cases hlt : c < E.length
    · rw [List.take_append_of_le_length (Nat.le_of_lt hlt), h.cut pre c hlt]
      rfl
    · have e : (E ++ E2).take c = E ++ E2.take (c - E.length) := by
        rw [List.take_append, List.take_of_length_le (by omega)]
      rw [e, h.ok pre _]
      show F a (pre ++ (E ++ E2.take (c - E.length))) (pre.length + E.length) = _
      have h2 := k.cut (pre ++ E) (c - E.length) (by rw [List.length_append] at hc; omega)
      rw [List.append_assoc, List.length_append] at h2
      exact h2
theorem Lay.pure {β : Type} (b : β) : Lay (fun _ q => .ok (b, q)) [] b := ⟨fun _ _ => rfl, fun _ _ h => by cases h⟩
theorem Lay.map {α β : Type} {R : List Nat → Nat → Except Nat (α × Nat)} {E : List Nat} {a : α} (h : Lay R E a) (g : α → β) : Lay (fun l i => thenR (R l i) fun x q => .ok (g x, q)) E (g a) := by
  have := h.bind (F := fun x _ q => .ok (g x, q)) (Lay.pure (g a))
  rwa [List.append_nil] at this
structure FrR (f : Fr) : Prop where
  pw : okI f.pw
  a : okI f.a
  b : okI f.b
  key : okI f.key
  vw : okI f.vw
  pn : f.pn < 9223372036854775808
  n : f.n < 9223372036854775808
  fi : f.fi < 9223372036854775808
  fn : f.fn < 9223372036854775808
  ti : f.ti < 9223372036854775808
  tn : f.tn < 9223372036854775808
  vn : f.vn < 9223372036854775808
  op : f.op < 9223372036854775808
  ttl : f.ttl < 9223372036854775808
def Lens (d : FD) : Prop := d.tr.length ≤ 140737488355000 ∧ d.ids.length ≤ 140737488355000
/-- Two frames that are one, their rows apart. -/
structure EqF (f g : Fr) : Prop where
  pw : idL f.pw = idL g.pw
  pn : f.pn = g.pn
  toA : f.toA = g.toA
  a : idL f.a = idL g.a
  b : idL f.b = idL g.b
  n : f.n = g.n
  fi : f.fi = g.fi
  fn : f.fn = g.fn
  ti : f.ti = g.ti
  tn : f.tn = g.tn
  key : idL f.key = idL g.key
  vn : f.vn = g.vn
  vw : idL f.vw = idL g.vw
  op : f.op = g.op
  ttl : f.ttl = g.ttl
structure NZ {β : Type} (r : Except Nat β) : Prop where
  out : ∀ x, r = .error x → x ≠ 0
theorem NZ.ok {β : Type} (b : β) : NZ (.ok b : Except Nat β) := ⟨fun _ h => by cases h⟩
theorem NZ.bind {α β : Type} {r : Except Nat (α × Nat)} {f : α → Nat → Except Nat (β × Nat)} (h : NZ r) (hf : ∀ a q, NZ (f a q)) : NZ (thenR r f) := by
  cases r with
  | error e => exact ⟨fun x hx => by cases hx; exact h.out _ rfl⟩
  | ok p => exact hf p.1 p.2
section
open Go.ChangeShapes Go.WideShapes Go.ChangeAt Go.RowKit
theorem cellsI_len : ∀ {l : List (List Nat)}, ok16 l → (cellsIa l).length = l.length * 16
  | [], _ => rfl
  | x :: l, h => by
    have h1 := (h x List.mem_cons_self).1
    have h2 := cellsI_len (l := l) fun y hy => h y (List.mem_cons_of_mem _ hy)
    unfold cellsIa at *
    rw [List.flatMap_cons, List.length_append, h2, List.length_cons, bL, List.length_map, h1]
    omega
theorem ck2 : Try.prog.cellsOf 2 = 1 := by kernel_rfl
theorem ck3 : Try.prog.cellsOf 3 = 1 := by kernel_rfl
theorem ck4 : Try.prog.cellsOf 4 = 1 := by kernel_rfl
theorem ck25 : Try.prog.cellsOf 31 = 17 := by kernel_rfl
theorem ck27 : Try.prog.cellsOf 56 = 2 := by kernel_rfl
theorem ck28 : Try.prog.cellsOf 32 = 1 := by kernel_rfl
theorem ck29 : Try.prog.cellsOf 57 = 1 := by kernel_rfl
theorem ck31 : Try.prog.cellsOf 59 = 17 := by kernel_rfl
theorem ck32 : Try.prog.cellsOf 60 = 1 := by kernel_rfl
theorem ck34 : Try.prog.cellsOf 62 = 34 := by kernel_rfl
theorem ck36 : Try.prog.cellsOf 64 = 95 := by kernel_rfl
theorem bk3 : Try.prog.bytesOf 3 = 8 := by kernel_rfl
theorem bk23 : Try.prog.bytesOf 24 = 16 := by kernel_rfl
theorem subSeg (cs : List Value) (off size o m : Nat) (h : o + m ≤ size) : (((cs.drop off).take size).drop o).take m = (cs.drop (off + o)).take m := by
  rw [List.drop_take, List.take_take, List.drop_drop]
  congr 1
  omega
theorem nextSeg {cs l : List Value} {off n b : Nat} (h : (cs.drop off).take n = l) (hb : off + n = b) : cs.drop off = l ++ cs.drop b := by
  rw [← h, ← hb, ← List.drop_drop, List.take_append_drop]
theorem idA_list (n : Nat) : (idA n).toList = bL (idL (byt n)) := by
  simp [idA, bL, idL, List.ofFn_succ]
theorem byt_ok (n : Nat) : okI (byt n) := fun i => byt_lt n i
end
section
open Go.ChangeShapes Go.WideShapes Go.ChangeAt Go.RowKit
variable {H : Type} {enc : TypeId × Value → H} {w : World} {base : Nat} {spare : Nat → Bool} {held : Bool}
theorem int_seg {t : TypeId} {fuel : Nat} {l : List Value} {x : DataW H × List MemPlace} (hu : Try.prog.underlying t = some (.int .i64)) (h : DataW.trod enc Try.prog w base spare held fuel t l = some x) : ∃ z : Int, l = [.int .i64 z] ∧ z < 9223372036854775808 := by
  obtain ⟨z, e, _, wf⟩ := DataW.trod_int hu h
  refine ⟨z, e, ?_⟩
  have e1 : IntKind.i64.min = -9223372036854775808 := rfl
  have e2 : IntKind.i64.max = 9223372036854775807 := rfl
  simp [Lit.wf, e1, e2] at wf
  omega
theorem id_seg {fuel : Nat} {l : List Value} {x : DataW H × List MemPlace} (h : DataW.trod enc Try.prog w base spare held fuel 24 l = some x) : ∃ y : Nat → Nat, l = bL (idL y) ∧ okI y := by
  obtain ⟨n, _, e⟩ := id_of_trod h
  exact ⟨byt n, by rw [e, idA_list], byt_ok n⟩
end
theorem EqF.trans {f g h : Fr} (a : EqF f g) (b : EqF g h) : EqF f h := ⟨a.pw.trans b.pw, a.pn.trans b.pn, a.toA.trans b.toA, a.a.trans b.a, a.b.trans b.b, a.n.trans b.n, a.fi.trans b.fi, a.fn.trans b.fn, a.ti.trans b.ti, a.tn.trans b.tn, a.key.trans b.key, a.vn.trans b.vn, a.vw.trans b.vw, a.op.trans b.op, a.ttl.trans b.ttl⟩
theorem OX.ty {w : World} {e : TypeId} {sz B : Nat} {ao : Option Addr} {cap n : Nat} {cs : List Value} (h : OX w e sz B ao cap n cs) {ad : Addr} (ha : ao = some ad) : ∃ cur, w.heap[ad.block]? = some (.cells cur e (0, 0)) := by
  rcases h.own.2 with ⟨h1, _⟩ | ⟨g, c', cur, h1, _, h2, _⟩
  · injection h1 with e1 e2 e3
    rw [ha] at e1
    cases e1
  · injection h1 with e1 e2 e3
    rw [ha] at e1
    injection e1 with e1
    subst e1
    exact ⟨cur, h2⟩
theorem bas_dec {a b : List Nat} (h : ∀ x ∈ a, x < 256) (h' : ∀ x ∈ b, x < 256) : decide (bas a = bas b) = decide (a = b) := decide_eq_decide.mpr ⟨bas_inj h h', fun e => by rw [e]⟩
theorem take_next {α : Type} (l m : List α) (z : α) (j : Nat) (h : l.take j = m.take j) (h1 : j < l.length) (h2 : j < m.length) (e : l.getD j z = m.getD j z) : l.take (j + 1) = m.take (j + 1) := by
  rw [List.getD_eq_getElem?_getD, List.getD_eq_getElem?_getD, List.getElem?_eq_getElem h1, List.getElem?_eq_getElem h2] at e
  rw [List.take_add_one, List.take_add_one, h, List.getElem?_eq_getElem h1, List.getElem?_eq_getElem h2]
  have e : l[j] = m[j] := e
  rw [e]
def sameK (f g : Fr) (df dg : FD) : Bool := decide (f.kind = g.kind) && sameB f g df dg
def itemB (f g : Fr) (df dg : FD) : Bool := decide (idL f.key = idL g.key) && ((decide (f.vn = g.vn) && decide (idL f.vw = idL g.vw)) && decide (df.val = dg.val))
theorem same_ltr {f g : Fr} {df dg : FD} (h : ¬ df.tr = dg.tr) : false = sameK f g df dg := by
  simp [sameK, sameB, h]
theorem same_lids {f g : Fr} {df dg : FD} (h : ¬ df.ids = dg.ids) : false = sameK f g df dg := by
  simp [sameK, sameB, h]
set_option maxRecDepth 100000 in
set_option maxHeartbeats 4000000 in
theorem sameItem_d (f g : Fr) (df dg : FD) (w : World) (HF : FrW w f df) (HG : FrW w g dg) : Calls Try.prog 39 #[.agg (c62 f.key f.vn f.vw f.val), .agg (c62 g.key g.vn g.vw g.val)] w fun e w' => e = .returned (.bool (itemB f g df dg)) ∧ Gro w w' := by
  refine s_enter Try.func39 rfl Try.ntmps39 [.agg (c62 f.key f.vn f.vw f.val), .agg (c62 g.key g.vn g.vw g.val)] [.agg (c62 f.key f.vn f.vw f.val), .agg (c62 g.key g.vn g.vw g.val), undef, undef, undef, undef, undef, undef, undef, undef, undef, undef, undef, undef, undef, undef, undef, undef, undef, undef, undef, undef, undef, undef, undef, undef] rfl ?_
  have GG := Gro.refl w
  have lfv := xc_len1 HF.val
  have lgv := xc_len1 HG.val
  have lft := xc_len1 HF.tr
  have lgt := xc_len1 HG.tr
  have lfx := xc_len1 HF.tx
  have lgx := xc_len1 HG.tx
  refine wp_seq ?_
  refine wp_region_lit ?_
  refine s_box 2 rfl rfl 62 _ rfl _ rfl (c62 f.key f.vn f.vw f.val) rfl ?_
  intro w1 g1 G eg1 kg1
  have bg1 := size_base GG eg1
  replace GG := GG.trans G
  clear G eg1
  refine nr ?_; intro U h; simp only [z0, z1] at h; subst h
  refine s_box 3 rfl rfl 62 _ rfl _ rfl (c62 g.key g.vn g.vw g.val) rfl ?_
  intro w2 g2 G eg2 kg2
  have bg2 := size_base GG eg2
  have dg1g2 := lt_new kg1 eg2
  replace kg1 := G.has kg1
  replace GG := GG.trans G
  clear G eg2
  refine nr ?_; intro U h; simp only [z0, z1] at h; subst h
  refine s_val 4 rfl rfl (.bool false) (rfl) ?_
  refine nr ?_; intro U h; simp only [z0, z1] at h; subst h
  refine wpList_nil ?_
  refine then_n ?_
  refine wp_seq ?_
  refine wp_region_opq ?_
  intro OPS hY
  have y5 := hY 5 10 rfl
  have y12 := hY 12 17 rfl
  clear hY
  refine s_val 5 rfl rfl (.pointer (some ⟨g1, 0, none⟩)) (run_fld 62 _ 0 rfl _ _ rfl _ (by kernel_rfl)) ?_
  refine nr ?_; intro U h; simp only [z0, z1] at h; subst h
  refine s_val 6 rfl rfl (.agg (c24 f.key)) (run_lda 24 _ rfl g1 0 16 rfl 62 _ kg1 _ Try.underlying24 rfl si24 (Nat.le_of_ble_eq_true rfl) _ (by kernel_rfl)) ?_
  refine nr ?_; intro U h; simp only [z0, z1] at h; subst h
  refine s_val 7 rfl rfl (.pointer (some ⟨g2, 0, none⟩)) (run_fld 62 _ 0 rfl _ _ rfl _ (by kernel_rfl)) ?_
  refine nr ?_; intro U h; simp only [z0, z1] at h; subst h
  refine s_val 8 rfl rfl (.agg (c24 g.key)) (run_lda 24 _ rfl g2 0 16 rfl 62 _ kg2 _ Try.underlying24 rfl si24 (Nat.le_of_ble_eq_true rfl) _ (by kernel_rfl)) ?_
  refine nr ?_; intro U h; simp only [z0, z1] at h; subst h
  obtain ⟨p1, hp1⟩ : ∃ p, decide (idL f.key = idL g.key) = p := ⟨_, rfl⟩
  refine s_val 9 rfl rfl (.bool p1) (run_cmpAa .eql 24 _ _ _ rfl _ _ rfl rfl (by kernel_rfl) _ ((eq23 f.key g.key _).trans (by rw [hp1]))) ?_
  refine nr ?_; intro U h; simp only [z0, z1] at h; subst h
  cases p1
  · refine s_val _ rfl rfl (.bool false) rfl ?_
    refine nr ?_; intro U h; simp only [z0, z1] at h; subst h
    iterate 5 (refine s_skipY _ rfl rfl y5 rfl ?_; refine nr ?_; intro U h; simp only [z0, z1] at h; subst h)
    refine s_val _ rfl rfl (.bool false) rfl ?_
    refine nr ?_; intro U h; simp only [z0, z1] at h; subst h
    refine s_val _ rfl rfl (.bool false) rfl ?_
    refine nr ?_; intro U h; simp only [z0, z1] at h; subst h
    iterate 7 (refine s_skipY _ rfl rfl y12 rfl ?_; refine nr ?_; intro U h; simp only [z0, z1] at h; subst h)
    refine s_val _ rfl rfl (.bool false) rfl ?_
    refine nr ?_; intro U h; simp only [z0, z1] at h; subst h
    refine s_val _ rfl rfl (.bool false) rfl ?_
    refine nr ?_; intro U h; simp only [z0, z1] at h; subst h
    refine wpList_nil ?_
    refine then_n ?_
    refine wp_ret ?_
    refine bodyPost_ret (results_tmp Try.results39 _ _ _) rfl ?_
    have hb9 : false = itemB f g df dg := by simp only [itemB, hp1, Bool.false_and]
    exact ⟨congrArg (fun b => Ending.returned (.bool b)) hb9, GG⟩
  refine s_val 10 rfl rfl (.bool true) (rfl) ?_
  refine nr ?_; intro U h; simp only [z0, z1] at h; subst h
  refine s_gvalY 11 rfl rfl y5 rfl (.pointer (some ⟨g1, 16, none⟩)) (run_fld 62 _ 1 rfl _ _ rfl _ (by kernel_rfl)) ?_
  refine nr ?_; intro U h; simp only [z0, z1] at h; subst h
  refine s_gvalY 12 rfl rfl y5 rfl (.agg (c59 f.vn f.vw)) (run_lda 59 _ rfl g1 16 17 rfl 62 _ kg1 _ Try.underlying59 rfl si59 (Nat.le_of_ble_eq_true rfl) _ (by kernel_rfl)) ?_
  refine nr ?_; intro U h; simp only [z0, z1] at h; subst h
  refine s_gvalY 13 rfl rfl y5 rfl (.pointer (some ⟨g2, 16, none⟩)) (run_fld 62 _ 1 rfl _ _ rfl _ (by kernel_rfl)) ?_
  refine nr ?_; intro U h; simp only [z0, z1] at h; subst h
  refine s_gvalY 14 rfl rfl y5 rfl (.agg (c59 g.vn g.vw)) (run_lda 59 _ rfl g2 16 17 rfl 62 _ kg2 _ Try.underlying59 rfl si59 (Nat.le_of_ble_eq_true rfl) _ (by kernel_rfl)) ?_
  refine nr ?_; intro U h; simp only [z0, z1] at h; subst h
  obtain ⟨p2, hp2⟩ : ∃ p, (decide (f.vn = g.vn) && decide (idL f.vw = idL g.vw)) = p := ⟨_, rfl⟩
  refine s_gvalY 15 rfl rfl y5 rfl (.bool p2) (run_cmpAa .eql 59 _ _ _ rfl _ _ rfl rfl (by kernel_rfl) _ ((eq31 f.vn g.vn f.vw g.vw _).trans (by rw [hp2]))) ?_
  refine nr ?_; intro U h; simp only [z0, z1] at h; subst h
  cases p2
  · refine s_val _ rfl rfl (.bool false) rfl ?_
    refine nr ?_; intro U h; simp only [z0, z1] at h; subst h
    refine s_val _ rfl rfl (.bool false) rfl ?_
    refine nr ?_; intro U h; simp only [z0, z1] at h; subst h
    iterate 7 (refine s_skipY _ rfl rfl y12 rfl ?_; refine nr ?_; intro U h; simp only [z0, z1] at h; subst h)
    refine s_val _ rfl rfl (.bool false) rfl ?_
    refine nr ?_; intro U h; simp only [z0, z1] at h; subst h
    refine s_val _ rfl rfl (.bool false) rfl ?_
    refine nr ?_; intro U h; simp only [z0, z1] at h; subst h
    refine wpList_nil ?_
    refine then_n ?_
    refine wp_ret ?_
    refine bodyPost_ret (results_tmp Try.results39 _ _ _) rfl ?_
    have hb9 : false = itemB f g df dg := by simp only [itemB, hp1, hp2, Bool.and_false, Bool.false_and]
    exact ⟨congrArg (fun b => Ending.returned (.bool b)) hb9, GG⟩
  refine s_val 16 rfl rfl (.bool true) (rfl) ?_
  refine nr ?_; intro U h; simp only [z0, z1] at h; subst h
  refine s_val 17 rfl rfl (.bool true) (rfl) ?_
  refine nr ?_; intro U h; simp only [z0, z1] at h; subst h
  refine s_gvalY 18 rfl rfl y12 rfl (.pointer (some ⟨g1, 33, none⟩)) (run_fld 62 _ 2 rfl _ _ rfl _ (by kernel_rfl)) ?_
  refine nr ?_; intro U h; simp only [z0, z1] at h; subst h
  refine s_gvalY 19 rfl rfl y12 rfl (.slice f.val.ao f.val.n f.val.cap) (run_ldc 60 _ rfl g1 33 rfl 62 _ kg1 (na60 _) _ rfl) ?_
  refine nr ?_; intro U h; simp only [z0, z1] at h; subst h
  refine s_gvalY 20 rfl rfl y12 rfl (.string (bas df.val)) (run_text_op bT 9 Try.underlying9 _ rfl (l := df.val) (by rw [← lfv]; rfl) (xc_nc (HF.gro GG).val HF.oval)) ?_
  refine nr ?_; intro U h; simp only [z0, z1] at h; subst h
  refine s_gvalY 21 rfl rfl y12 rfl (.pointer (some ⟨g2, 33, none⟩)) (run_fld 62 _ 2 rfl _ _ rfl _ (by kernel_rfl)) ?_
  refine nr ?_; intro U h; simp only [z0, z1] at h; subst h
  refine s_gvalY 22 rfl rfl y12 rfl (.slice g.val.ao g.val.n g.val.cap) (run_ldc 60 _ rfl g2 33 rfl 62 _ kg2 (na60 _) _ rfl) ?_
  refine nr ?_; intro U h; simp only [z0, z1] at h; subst h
  refine s_gvalY 23 rfl rfl y12 rfl (.string (bas dg.val)) (run_text_op bT 9 Try.underlying9 _ rfl (l := dg.val) (by rw [← lgv]; rfl) (xc_nc (HG.gro GG).val HG.oval)) ?_
  refine nr ?_; intro U h; simp only [z0, z1] at h; subst h
  obtain ⟨p3, hp3⟩ : ∃ p, decide (df.val = dg.val) = p := ⟨_, rfl⟩
  refine s_gvalY 24 rfl rfl y12 rfl (.bool p3) (run_eqs_op _ _ _ rfl _ _ rfl rfl p3 ((bas_dec HF.oval HG.oval).trans hp3) _) ?_
  refine nr ?_; intro U h; simp only [z0, z1] at h; subst h
  cases p3
  · refine s_val _ rfl rfl (.bool false) rfl ?_
    refine nr ?_; intro U h; simp only [z0, z1] at h; subst h
    refine s_val _ rfl rfl (.bool false) rfl ?_
    refine nr ?_; intro U h; simp only [z0, z1] at h; subst h
    refine wpList_nil ?_
    refine then_n ?_
    refine wp_ret ?_
    refine bodyPost_ret (results_tmp Try.results39 _ _ _) rfl ?_
    have hb9 : false = itemB f g df dg := by simp only [itemB, hp1, hp2, hp3, Bool.and_false]
    exact ⟨congrArg (fun b => Ending.returned (.bool b)) hb9, GG⟩
  refine s_val 25 rfl rfl (.bool true) (rfl) ?_
  refine nr ?_; intro U h; simp only [z0, z1] at h; subst h
  refine s_val 4 rfl rfl (.bool true) (rfl) ?_
  refine nr ?_; intro U h; simp only [z0, z1] at h; subst h
  refine wpList_nil ?_
  refine then_n ?_
  refine wp_ret ?_
  refine bodyPost_ret (results_tmp Try.results39 _ _ _) rfl ?_
  have hb9 : true = itemB f g df dg := by simp only [itemB, hp1, hp2, hp3, Bool.and_true]
  exact ⟨congrArg (fun b => Ending.returned (.bool b)) hb9, GG⟩
set_option maxRecDepth 100000 in
set_option maxHeartbeats 4000000 in
theorem same_d (f g : Fr) (df dg : FD) (w : World) (HF : FrW w f df) (HG : FrW w g dg) (hl : Lens df) : Calls Try.prog 18 #[.agg (c64 f.kind f.pw f.pn f.toA f.a f.b f.n f.fi f.fn f.ti f.tn f.tr f.ids f.key f.vn f.vw f.val f.op f.ttl f.tx), .agg (c64 g.kind g.pw g.pn g.toA g.a g.b g.n g.fi g.fn g.ti g.tn g.tr g.ids g.key g.vn g.vw g.val g.op g.ttl g.tx)] w fun e w' => e = .returned (.bool (sameK f g df dg)) ∧ Gro w w' := by
  refine s_enter Try.func18 rfl Try.ntmps18 [.agg (c64 f.kind f.pw f.pn f.toA f.a f.b f.n f.fi f.fn f.ti f.tn f.tr f.ids f.key f.vn f.vw f.val f.op f.ttl f.tx), .agg (c64 g.kind g.pw g.pn g.toA g.a g.b g.n g.fi g.fn g.ti g.tn g.tr g.ids g.key g.vn g.vw g.val g.op g.ttl g.tx)] [.agg (c64 f.kind f.pw f.pn f.toA f.a f.b f.n f.fi f.fn f.ti f.tn f.tr f.ids f.key f.vn f.vw f.val f.op f.ttl f.tx), .agg (c64 g.kind g.pw g.pn g.toA g.a g.b g.n g.fi g.fn g.ti g.tn g.tr g.ids g.key g.vn g.vw g.val g.op g.ttl g.tx), undef, undef, undef, undef, undef, undef, undef, undef, undef, undef, undef, undef, undef, undef, undef, undef, undef, undef, undef, undef, undef, undef, undef, undef, undef, undef, undef, undef, undef, undef, undef, undef, undef, undef, undef, undef, undef, undef, undef, undef, undef, undef, undef, undef, undef, undef, undef, undef, undef, undef, undef, undef, undef, undef, undef, undef, undef, undef, undef, undef, undef, undef, undef, undef, undef, undef, undef, undef, undef, undef, undef, undef, undef, undef, undef, undef, undef, undef, undef, undef, undef, undef, undef, undef, undef, undef, undef, undef, undef, undef, undef, undef, undef, undef, undef, undef, undef, undef, undef, undef, undef, undef, undef, undef, undef, undef, undef, undef, undef, undef, undef, undef, undef, undef, undef, undef, undef, undef, undef, undef, undef, undef, undef, undef, undef, undef, undef, undef, undef, undef, undef, undef, undef, undef, undef, undef, undef, undef, undef, undef, undef] rfl ?_
  have GG := Gro.refl w
  have lfv := xc_len1 HF.val
  have lgv := xc_len1 HG.val
  have lft := xc_len1 HF.tr
  have lgt := xc_len1 HG.tr
  have lfx := xc_len1 HF.tx
  have lgx := xc_len1 HG.tx
  have HFt : XC w 1 f.tr.ao f.tr.cap df.tr.length (df.tr.map (Value.int .i64 ·)) := by rw [← lft]; exact HF.tr
  have HGt : XC w 1 g.tr.ao g.tr.cap dg.tr.length (dg.tr.map (Value.int .i64 ·)) := by rw [← lgt]; exact HG.tr
  have lfi := HF.idn
  have lgi := HG.idn
  have hl1 := hl.1
  have hl2 := hl.2
  refine wp_seq ?_
  refine wp_region_lit ?_
  refine s_box 2 rfl rfl 64 _ rfl _ rfl (c64 f.kind f.pw f.pn f.toA f.a f.b f.n f.fi f.fn f.ti f.tn f.tr f.ids f.key f.vn f.vw f.val f.op f.ttl f.tx) rfl ?_
  intro w1 g1 G eg1 kg1
  have bg1 := size_base GG eg1
  replace GG := GG.trans G
  clear G eg1
  refine nr ?_; intro U h; simp only [z0, z1] at h; subst h
  refine s_box 3 rfl rfl 64 _ rfl _ rfl (c64 g.kind g.pw g.pn g.toA g.a g.b g.n g.fi g.fn g.ti g.tn g.tr g.ids g.key g.vn g.vw g.val g.op g.ttl g.tx) rfl ?_
  intro w2 g2 G eg2 kg2
  have bg2 := size_base GG eg2
  have dg1g2 := lt_new kg1 eg2
  replace kg1 := G.has kg1
  replace GG := GG.trans G
  clear G eg2
  refine nr ?_; intro U h; simp only [z0, z1] at h; subst h
  refine s_val 4 rfl rfl (.bool false) (rfl) ?_
  refine nr ?_; intro U h; simp only [z0, z1] at h; subst h
  refine wpList_nil ?_
  refine then_n ?_
  refine wp_seq ?_
  refine wp_seq ?_
  refine wp_region_opq ?_
  intro OPS hY
  have y7 := hY 7 14 rfl
  clear hY
  refine s_val 7 rfl rfl (.pointer (some ⟨g1, 56, none⟩)) (run_fld 64 _ 8 rfl _ _ rfl _ (by kernel_rfl)) ?_
  refine nr ?_; intro U h; simp only [z0, z1] at h; subst h
  refine s_val 8 rfl rfl (.slice f.tr.ao f.tr.n f.tr.cap) (run_ldc 32 _ rfl g1 56 rfl 64 _ kg1 (na32 _) _ rfl) ?_
  refine nr ?_; intro U h; simp only [z0, z1] at h; subst h
  refine s_val 9 rfl rfl (.int .i64 ((f.tr.n : Nat) : Int)) (run_len Try.underlying32 _ rfl _ _ _ rfl _) ?_
  refine nr ?_; intro U h; simp only [z0, z1] at h; subst h
  refine s_val 10 rfl rfl (.pointer (some ⟨g2, 56, none⟩)) (run_fld 64 _ 8 rfl _ _ rfl _ (by kernel_rfl)) ?_
  refine nr ?_; intro U h; simp only [z0, z1] at h; subst h
  refine s_val 11 rfl rfl (.slice g.tr.ao g.tr.n g.tr.cap) (run_ldc 32 _ rfl g2 56 rfl 64 _ kg2 (na32 _) _ rfl) ?_
  refine nr ?_; intro U h; simp only [z0, z1] at h; subst h
  refine s_val 12 rfl rfl (.int .i64 ((g.tr.n : Nat) : Int)) (run_len Try.underlying32 _ rfl _ _ _ rfl _) ?_
  refine nr ?_; intro U h; simp only [z0, z1] at h; subst h
  obtain ⟨p1, hp1⟩ : ∃ p, (!decide (((f.tr.n : Nat) : Int) = ((g.tr.n : Nat) : Int))) = p := ⟨_, rfl⟩
  refine s_val 13 rfl rfl (.bool p1) (run_neq_k 3 .i64 _ _ _ rfl Try.underlying3 ((f.tr.n : Nat) : Int) ((g.tr.n : Nat) : Int) rfl rfl p1 (by rw [← hp1, Bool.not_not]) _) ?_
  refine nr ?_; intro U h; simp only [z0, z1] at h; subst h
  cases p1
  · have hlt : f.tr.n = g.tr.n := by simp at hp1; omega
    refine s_val _ rfl rfl (.bool false) rfl ?_
    refine nr ?_; intro U h; simp only [z0, z1] at h; subst h
    refine s_gvalY 15 rfl rfl y7 rfl (.pointer (some ⟨g1, 57, none⟩)) (run_fld 64 _ 9 rfl _ _ rfl _ (by kernel_rfl)) ?_
    refine nr ?_; intro U h; simp only [z0, z1] at h; subst h
    refine s_gvalY 16 rfl rfl y7 rfl (.slice f.ids.ao f.ids.n f.ids.cap) (run_ldc 57 _ rfl g1 57 rfl 64 _ kg1 (na57a _) _ rfl) ?_
    refine nr ?_; intro U h; simp only [z0, z1] at h; subst h
    refine s_gvalY 17 rfl rfl y7 rfl (.int .i64 ((f.ids.n : Nat) : Int)) (run_len Try.underlying57 _ rfl _ _ _ rfl _) ?_
    refine nr ?_; intro U h; simp only [z0, z1] at h; subst h
    refine s_gvalY 18 rfl rfl y7 rfl (.pointer (some ⟨g2, 57, none⟩)) (run_fld 64 _ 9 rfl _ _ rfl _ (by kernel_rfl)) ?_
    refine nr ?_; intro U h; simp only [z0, z1] at h; subst h
    refine s_gvalY 19 rfl rfl y7 rfl (.slice g.ids.ao g.ids.n g.ids.cap) (run_ldc 57 _ rfl g2 57 rfl 64 _ kg2 (na57a _) _ rfl) ?_
    refine nr ?_; intro U h; simp only [z0, z1] at h; subst h
    refine s_gvalY 20 rfl rfl y7 rfl (.int .i64 ((g.ids.n : Nat) : Int)) (run_len Try.underlying57 _ rfl _ _ _ rfl _) ?_
    refine nr ?_; intro U h; simp only [z0, z1] at h; subst h
    obtain ⟨p2, hp2⟩ : ∃ p, (!decide (((f.ids.n : Nat) : Int) = ((g.ids.n : Nat) : Int))) = p := ⟨_, rfl⟩
    refine s_gvalY 21 rfl rfl y7 rfl (.bool p2) (run_neq_k 3 .i64 _ _ _ rfl Try.underlying3 ((f.ids.n : Nat) : Int) ((g.ids.n : Nat) : Int) rfl rfl p2 (by rw [← hp2, Bool.not_not]) _) ?_
    refine nr ?_; intro U h; simp only [z0, z1] at h; subst h
    cases p2
    · have hli : f.ids.n = g.ids.n := by simp at hp2; omega
      refine s_val _ rfl rfl (.bool false) rfl ?_
      refine nr ?_; intro U h; simp only [z0, z1] at h; subst h
      refine wpList_nil ?_
      refine then_n ?_
      refine wp_cond_false rfl ?_
      refine wp_skip ?_
      refine then_n ?_
      refine wp_seq ?_
      refine wp_seq ?_
      refine wp_region_lit ?_
      refine s_val 5 rfl rfl (.int .i64 0) (rfl) ?_
      refine nr ?_; intro U h; simp only [z0, z1] at h; subst h
      refine wpList_nil ?_
      refine then_n ?_
      refine wp_block ?_
      refine wp_loopN (fun mz az wv => ∃ (j : Nat) (us1 : Nat → Value), mz = df.tr.length - j ∧ az = ⟨[.agg (c64 f.kind f.pw f.pn f.toA f.a f.b f.n f.fi f.fn f.ti f.tn f.tr f.ids f.key f.vn f.vw f.val f.op f.ttl f.tx), .agg (c64 g.kind g.pw g.pn g.toA g.a g.b g.n g.fi g.fn g.ti g.tn g.tr g.ids g.key g.vn g.vw g.val g.op g.ttl g.tx), .pointer (some ⟨g1, 0, none⟩), .pointer (some ⟨g2, 0, none⟩), us1 0, .int .i64 ((j : Nat) : Int), undef, .pointer (some ⟨g1, 56, none⟩), .slice f.tr.ao f.tr.n f.tr.cap, .int .i64 ((f.tr.n : Nat) : Int), .pointer (some ⟨g2, 56, none⟩), .slice g.tr.ao g.tr.n g.tr.cap, .int .i64 ((g.tr.n : Nat) : Int), .bool false, .bool false, .pointer (some ⟨g1, 57, none⟩), .slice f.ids.ao f.ids.n f.ids.cap, .int .i64 ((f.ids.n : Nat) : Int), .pointer (some ⟨g2, 57, none⟩), .slice g.ids.ao g.ids.n g.ids.cap, .int .i64 ((g.ids.n : Nat) : Int), .bool false, .bool false, us1 1, us1 2, us1 3, us1 4, us1 5, us1 6, us1 7, us1 8, us1 9, us1 10, us1 11, us1 12, us1 13, us1 14, us1 15, us1 16, us1 17, us1 18, undef, undef, undef, undef, undef, undef, undef, undef, undef, undef, undef, undef, undef, undef, undef, undef, undef, undef, undef, undef, undef, undef, undef, undef, undef, undef, undef, undef, undef, undef, undef, undef, undef, undef, undef, undef, undef, undef, undef, undef, undef, undef, undef, undef, undef, undef, undef, undef, undef, undef, undef, undef, undef, undef, undef, undef, undef, undef, undef, undef, undef, undef, undef, undef, undef, undef, undef, undef, undef, undef, undef, undef, undef, undef, undef, undef, undef, undef, undef, undef, undef, undef, undef, undef, undef, undef, undef, undef, undef, undef, undef, undef, undef, undef, undef, undef, undef, undef, undef, undef, undef, undef].toArray, []⟩ ∧ j ≤ df.tr.length ∧ df.tr.take j = dg.tr.take j ∧ Gro w wv ∧ wv.heap[g1]? = some (.cells (c64 f.kind f.pw f.pn f.toA f.a f.b f.n f.fi f.fn f.ti f.tn f.tr f.ids f.key f.vn f.vw f.val f.op f.ttl f.tx) 64 (0, 0)) ∧ wv.heap[g2]? = some (.cells (c64 g.kind g.pw g.pn g.toA g.a g.b g.n g.fi g.fn g.ti g.tn g.tr g.ids g.key g.vn g.vw g.val g.op g.ttl g.tx) 64 (0, 0))) ?_ _ ⟨0, (fun kz => ([.bool false, undef, undef, undef, undef, undef, undef, undef, undef, undef, undef, undef, undef, undef, undef, undef, undef, undef, undef] : List Value).getD kz undef), rfl, rfl, Nat.zero_le _, rfl, GG, kg1, kg2⟩
      clear kg1 kg2 GG
      rintro mz az wv ⟨j, us1, rfl, rfl, hj, ht, GG, kg1, kg2⟩
      refine wp_seq ?_
      refine wp_seq ?_
      refine wp_region_lit ?_
      refine s_val 23 rfl rfl (.int .i64 ((j : Nat) : Int)) (rfl) ?_
      refine nr ?_; intro U h; simp only [z0, z1] at h; subst h
      refine s_val 24 rfl rfl (.pointer (some ⟨g1, 56, none⟩)) (run_fld 64 _ 8 rfl _ _ rfl _ (by kernel_rfl)) ?_
      refine nr ?_; intro U h; simp only [z0, z1] at h; subst h
      refine s_val 25 rfl rfl (.slice f.tr.ao f.tr.n f.tr.cap) (run_ldc 32 _ rfl g1 56 rfl 64 _ kg1 (na32 _) _ rfl) ?_
      refine nr ?_; intro U h; simp only [z0, z1] at h; subst h
      refine s_val 26 rfl rfl (.int .i64 ((f.tr.n : Nat) : Int)) (run_len Try.underlying32 _ rfl _ _ _ rfl _) ?_
      refine nr ?_; intro U h; simp only [z0, z1] at h; subst h
      obtain ⟨p3, hp3⟩ : ∃ p, decide (((j : Nat) : Int) < ((f.tr.n : Nat) : Int)) = p := ⟨_, rfl⟩
      refine s_val 27 rfl rfl (.bool p3) (run_lssT 3 _ _ _ rfl ((j : Nat) : Int) ((f.tr.n : Nat) : Int) rfl rfl p3 hp3 _) ?_
      refine nr ?_; intro U h; simp only [z0, z1] at h; subst h
      cases p3
      · have htt : df.tr = dg.tr := by have := of_decide_eq_false hp3; rwa [List.take_of_length_le (by omega), List.take_of_length_le (by omega)] at ht
        refine wpList_nil ?_
        refine then_n ?_
        refine wp_cond_false rfl ?_
        refine wp_exit ?_
        refine then_x ?_
        refine then_x ?_
        refine blk_x ?_
        refine then_n ?_
        refine wp_seq ?_
        refine wp_seq ?_
        refine wp_region_lit ?_
        refine s_val 6 rfl rfl (.int .i64 0) (rfl) ?_
        refine nr ?_; intro U h; simp only [z0, z1] at h; subst h
        refine wpList_nil ?_
        refine then_n ?_
        refine wp_block ?_
        refine wp_loopN (fun mz az wv => ∃ (i : Nat) (us2 : Nat → Value), mz = df.ids.length - i ∧ az = ⟨[.agg (c64 f.kind f.pw f.pn f.toA f.a f.b f.n f.fi f.fn f.ti f.tn f.tr f.ids f.key f.vn f.vw f.val f.op f.ttl f.tx), .agg (c64 g.kind g.pw g.pn g.toA g.a g.b g.n g.fi g.fn g.ti g.tn g.tr g.ids g.key g.vn g.vw g.val g.op g.ttl g.tx), .pointer (some ⟨g1, 0, none⟩), .pointer (some ⟨g2, 0, none⟩), us2 0, .int .i64 ((j : Nat) : Int), .int .i64 ((i : Nat) : Int), .pointer (some ⟨g1, 56, none⟩), .slice f.tr.ao f.tr.n f.tr.cap, .int .i64 ((f.tr.n : Nat) : Int), .pointer (some ⟨g2, 56, none⟩), .slice g.tr.ao g.tr.n g.tr.cap, .int .i64 ((g.tr.n : Nat) : Int), .bool false, .bool false, .pointer (some ⟨g1, 57, none⟩), .slice f.ids.ao f.ids.n f.ids.cap, .int .i64 ((f.ids.n : Nat) : Int), .pointer (some ⟨g2, 57, none⟩), .slice g.ids.ao g.ids.n g.ids.cap, .int .i64 ((g.ids.n : Nat) : Int), .bool false, .bool false, .int .i64 ((j : Nat) : Int), .pointer (some ⟨g1, 56, none⟩), .slice f.tr.ao f.tr.n f.tr.cap, .int .i64 ((f.tr.n : Nat) : Int), .bool false, us1 6, us1 7, us1 8, us1 9, us1 10, us1 11, us1 12, us1 13, us1 14, us1 15, us1 16, us1 17, us1 18, us2 1, us2 2, us2 3, us2 4, us2 5, us2 6, us2 7, us2 8, us2 9, us2 10, us2 11, us2 12, us2 13, us2 14, us2 15, us2 16, us2 17, us2 18, undef, undef, undef, undef, undef, undef, undef, undef, undef, undef, undef, undef, undef, undef, undef, undef, undef, undef, undef, undef, undef, undef, undef, undef, undef, undef, undef, undef, undef, undef, undef, undef, undef, undef, undef, undef, undef, undef, undef, undef, undef, undef, undef, undef, undef, undef, undef, undef, undef, undef, undef, undef, undef, undef, undef, undef, undef, undef, undef, undef, undef, undef, undef, undef, undef, undef, undef, undef, undef, undef, undef, undef, undef, undef, undef, undef, undef, undef, undef, undef, undef, undef, undef, undef].toArray, []⟩ ∧ i ≤ df.ids.length ∧ df.ids.take i = dg.ids.take i ∧ Gro w wv ∧ wv.heap[g1]? = some (.cells (c64 f.kind f.pw f.pn f.toA f.a f.b f.n f.fi f.fn f.ti f.tn f.tr f.ids f.key f.vn f.vw f.val f.op f.ttl f.tx) 64 (0, 0)) ∧ wv.heap[g2]? = some (.cells (c64 g.kind g.pw g.pn g.toA g.a g.b g.n g.fi g.fn g.ti g.tn g.tr g.ids g.key g.vn g.vw g.val g.op g.ttl g.tx) 64 (0, 0))) ?_ _ ⟨0, (fun kz => ([us1 0, undef, undef, undef, undef, undef, undef, undef, undef, undef, undef, undef, undef, undef, undef, undef, undef, undef, undef] : List Value).getD kz undef), rfl, rfl, Nat.zero_le _, rfl, GG, kg1, kg2⟩
        clear kg1 kg2 GG
        rintro mz az wv ⟨i, us2, rfl, rfl, hi, hu, GG, kg1, kg2⟩
        refine wp_seq ?_
        refine wp_seq ?_
        refine wp_region_lit ?_
        refine s_val 41 rfl rfl (.int .i64 ((i : Nat) : Int)) (rfl) ?_
        refine nr ?_; intro U h; simp only [z0, z1] at h; subst h
        refine s_val 42 rfl rfl (.pointer (some ⟨g1, 57, none⟩)) (run_fld 64 _ 9 rfl _ _ rfl _ (by kernel_rfl)) ?_
        refine nr ?_; intro U h; simp only [z0, z1] at h; subst h
        refine s_val 43 rfl rfl (.slice f.ids.ao f.ids.n f.ids.cap) (run_ldc 57 _ rfl g1 57 rfl 64 _ kg1 (na57a _) _ rfl) ?_
        refine nr ?_; intro U h; simp only [z0, z1] at h; subst h
        refine s_val 44 rfl rfl (.int .i64 ((f.ids.n : Nat) : Int)) (run_len Try.underlying57 _ rfl _ _ _ rfl _) ?_
        refine nr ?_; intro U h; simp only [z0, z1] at h; subst h
        obtain ⟨p4, hp4⟩ : ∃ p, decide (((i : Nat) : Int) < ((f.ids.n : Nat) : Int)) = p := ⟨_, rfl⟩
        refine s_val 45 rfl rfl (.bool p4) (run_lssT 3 _ _ _ rfl ((i : Nat) : Int) ((f.ids.n : Nat) : Int) rfl rfl p4 hp4 _) ?_
        refine nr ?_; intro U h; simp only [z0, z1] at h; subst h
        cases p4
        · have huu : df.ids = dg.ids := by have := of_decide_eq_false hp4; rwa [List.take_of_length_le (by omega), List.take_of_length_le (by omega)] at hu
          refine wpList_nil ?_
          refine then_n ?_
          refine wp_cond_false rfl ?_
          refine wp_exit ?_
          refine then_x ?_
          refine then_x ?_
          refine blk_x ?_
          refine then_n ?_
          refine wp_seq ?_
          refine wp_region_opq ?_
          simp only [List.append]
          intro OPS hY
          have y5 := hY 5 64 rfl
          have y12 := hY 12 71 rfl
          have y19 := hY 19 78 rfl
          have y26 := hY 26 85 rfl
          have y33 := hY 33 92 rfl
          have y40 := hY 40 99 rfl
          have y47 := hY 47 106 rfl
          have y54 := hY 54 113 rfl
          have y61 := hY 61 120 rfl
          have y68 := hY 68 127 rfl
          have y75 := hY 75 134 rfl
          clear hY
          refine s_val 59 rfl rfl (.pointer (some ⟨g1, 0, none⟩)) (run_fld 64 _ 0 rfl _ _ rfl _ (by kernel_rfl)) ?_
          refine nr ?_; intro U h; simp only [z0, z1] at h; subst h
          refine s_val 60 rfl rfl (.int .i64 f.kind) (run_ldc 3 _ rfl g1 0 rfl 64 _ kg1 (na3 _) _ rfl) ?_
          refine nr ?_; intro U h; simp only [z0, z1] at h; subst h
          refine s_val 61 rfl rfl (.pointer (some ⟨g2, 0, none⟩)) (run_fld 64 _ 0 rfl _ _ rfl _ (by kernel_rfl)) ?_
          refine nr ?_; intro U h; simp only [z0, z1] at h; subst h
          refine s_val 62 rfl rfl (.int .i64 g.kind) (run_ldc 3 _ rfl g2 0 rfl 64 _ kg2 (na3 _) _ rfl) ?_
          refine nr ?_; intro U h; simp only [z0, z1] at h; subst h
          obtain ⟨p5, hp5⟩ : ∃ p, decide (f.kind = g.kind) = p := ⟨_, rfl⟩
          refine s_val 63 rfl rfl (.bool p5) (run_eq_k 3 .i64 _ _ _ rfl Try.underlying3 f.kind g.kind rfl rfl p5 hp5 _) ?_
          refine nr ?_; intro U h; simp only [z0, z1] at h; subst h
          cases p5
          · refine s_val _ rfl rfl (.bool false) rfl ?_
            refine nr ?_; intro U h; simp only [z0, z1] at h; subst h
            iterate 5 (refine s_skipY _ rfl rfl y5 rfl ?_; refine nr ?_; intro U h; simp only [z0, z1] at h; subst h)
            refine s_val _ rfl rfl (.bool false) rfl ?_
            refine nr ?_; intro U h; simp only [z0, z1] at h; subst h
            refine s_val _ rfl rfl (.bool false) rfl ?_
            refine nr ?_; intro U h; simp only [z0, z1] at h; subst h
            iterate 5 (refine s_skipY _ rfl rfl y12 rfl ?_; refine nr ?_; intro U h; simp only [z0, z1] at h; subst h)
            refine s_val _ rfl rfl (.bool false) rfl ?_
            refine nr ?_; intro U h; simp only [z0, z1] at h; subst h
            refine s_val _ rfl rfl (.bool false) rfl ?_
            refine nr ?_; intro U h; simp only [z0, z1] at h; subst h
            iterate 5 (refine s_skipY _ rfl rfl y19 rfl ?_; refine nr ?_; intro U h; simp only [z0, z1] at h; subst h)
            refine s_val _ rfl rfl (.bool false) rfl ?_
            refine nr ?_; intro U h; simp only [z0, z1] at h; subst h
            refine s_val _ rfl rfl (.bool false) rfl ?_
            refine nr ?_; intro U h; simp only [z0, z1] at h; subst h
            iterate 5 (refine s_skipY _ rfl rfl y26 rfl ?_; refine nr ?_; intro U h; simp only [z0, z1] at h; subst h)
            refine s_val _ rfl rfl (.bool false) rfl ?_
            refine nr ?_; intro U h; simp only [z0, z1] at h; subst h
            refine s_val _ rfl rfl (.bool false) rfl ?_
            refine nr ?_; intro U h; simp only [z0, z1] at h; subst h
            iterate 5 (refine s_skipY _ rfl rfl y33 rfl ?_; refine nr ?_; intro U h; simp only [z0, z1] at h; subst h)
            refine s_val _ rfl rfl (.bool false) rfl ?_
            refine nr ?_; intro U h; simp only [z0, z1] at h; subst h
            refine s_val _ rfl rfl (.bool false) rfl ?_
            refine nr ?_; intro U h; simp only [z0, z1] at h; subst h
            iterate 5 (refine s_skipY _ rfl rfl y40 rfl ?_; refine nr ?_; intro U h; simp only [z0, z1] at h; subst h)
            refine s_val _ rfl rfl (.bool false) rfl ?_
            refine nr ?_; intro U h; simp only [z0, z1] at h; subst h
            refine s_val _ rfl rfl (.bool false) rfl ?_
            refine nr ?_; intro U h; simp only [z0, z1] at h; subst h
            iterate 5 (refine s_skipY _ rfl rfl y47 rfl ?_; refine nr ?_; intro U h; simp only [z0, z1] at h; subst h)
            refine s_val _ rfl rfl (.bool false) rfl ?_
            refine nr ?_; intro U h; simp only [z0, z1] at h; subst h
            refine s_val _ rfl rfl (.bool false) rfl ?_
            refine nr ?_; intro U h; simp only [z0, z1] at h; subst h
            iterate 5 (refine s_skipY _ rfl rfl y54 rfl ?_; refine nr ?_; intro U h; simp only [z0, z1] at h; subst h)
            refine s_val _ rfl rfl (.bool false) rfl ?_
            refine nr ?_; intro U h; simp only [z0, z1] at h; subst h
            refine s_val _ rfl rfl (.bool false) rfl ?_
            refine nr ?_; intro U h; simp only [z0, z1] at h; subst h
            iterate 5 (refine s_skipY _ rfl rfl y61 rfl ?_; refine nr ?_; intro U h; simp only [z0, z1] at h; subst h)
            refine s_val _ rfl rfl (.bool false) rfl ?_
            refine nr ?_; intro U h; simp only [z0, z1] at h; subst h
            refine s_val _ rfl rfl (.bool false) rfl ?_
            refine nr ?_; intro U h; simp only [z0, z1] at h; subst h
            iterate 5 (refine s_skipY _ rfl rfl y68 rfl ?_; refine nr ?_; intro U h; simp only [z0, z1] at h; subst h)
            refine s_val _ rfl rfl (.bool false) rfl ?_
            refine nr ?_; intro U h; simp only [z0, z1] at h; subst h
            refine s_val _ rfl rfl (.bool false) rfl ?_
            refine nr ?_; intro U h; simp only [z0, z1] at h; subst h
            iterate 7 (refine s_skipY _ rfl rfl y75 rfl ?_; refine nr ?_; intro U h; simp only [z0, z1] at h; subst h)
            refine s_val _ rfl rfl (.bool false) rfl ?_
            refine nr ?_; intro U h; simp only [z0, z1] at h; subst h
            refine s_val _ rfl rfl (.bool false) rfl ?_
            refine nr ?_; intro U h; simp only [z0, z1] at h; subst h
            refine wpList_nil ?_
            refine then_n ?_
            refine wp_ret ?_
            refine bodyPost_ret (results_tmp Try.results18 _ _ _) rfl ?_
            first | exact ⟨congrArg (fun b => Ending.returned (.bool b)) (same_ltr hne), GG⟩ | exact ⟨congrArg (fun b => Ending.returned (.bool b)) (same_lids hne), GG⟩ | exact ⟨by simp only [sameK, sameB] at *; simp [*], GG⟩
          refine s_val 64 rfl rfl (.bool true) (rfl) ?_
          refine nr ?_; intro U h; simp only [z0, z1] at h; subst h
          refine s_gvalY 65 rfl rfl y5 rfl (.pointer (some ⟨g1, 1, none⟩)) (run_fld 64 _ 1 rfl _ _ rfl _ (by kernel_rfl)) ?_
          refine nr ?_; intro U h; simp only [z0, z1] at h; subst h
          refine s_gvalY 66 rfl rfl y5 rfl (.agg (c31 f.pw f.pn)) (run_lda 31 _ rfl g1 1 17 rfl 64 _ kg1 _ Try.underlying31 rfl si31a (Nat.le_of_ble_eq_true rfl) _ (by kernel_rfl)) ?_
          refine nr ?_; intro U h; simp only [z0, z1] at h; subst h
          refine s_gvalY 67 rfl rfl y5 rfl (.pointer (some ⟨g2, 1, none⟩)) (run_fld 64 _ 1 rfl _ _ rfl _ (by kernel_rfl)) ?_
          refine nr ?_; intro U h; simp only [z0, z1] at h; subst h
          refine s_gvalY 68 rfl rfl y5 rfl (.agg (c31 g.pw g.pn)) (run_lda 31 _ rfl g2 1 17 rfl 64 _ kg2 _ Try.underlying31 rfl si31a (Nat.le_of_ble_eq_true rfl) _ (by kernel_rfl)) ?_
          refine nr ?_; intro U h; simp only [z0, z1] at h; subst h
          obtain ⟨p6, hp6⟩ : ∃ p, (decide (idL f.pw = idL g.pw) && decide (f.pn = g.pn)) = p := ⟨_, rfl⟩
          refine s_gvalY 69 rfl rfl y5 rfl (.bool p6) (run_cmpAa .eql 31 _ _ _ rfl _ _ rfl rfl (by kernel_rfl) _ ((eq25 f.pw g.pw f.pn g.pn _).trans (by rw [hp6]))) ?_
          refine nr ?_; intro U h; simp only [z0, z1] at h; subst h
          cases p6
          · refine s_val _ rfl rfl (.bool false) rfl ?_
            refine nr ?_; intro U h; simp only [z0, z1] at h; subst h
            refine s_val _ rfl rfl (.bool false) rfl ?_
            refine nr ?_; intro U h; simp only [z0, z1] at h; subst h
            iterate 5 (refine s_skipY _ rfl rfl y12 rfl ?_; refine nr ?_; intro U h; simp only [z0, z1] at h; subst h)
            refine s_val _ rfl rfl (.bool false) rfl ?_
            refine nr ?_; intro U h; simp only [z0, z1] at h; subst h
            refine s_val _ rfl rfl (.bool false) rfl ?_
            refine nr ?_; intro U h; simp only [z0, z1] at h; subst h
            iterate 5 (refine s_skipY _ rfl rfl y19 rfl ?_; refine nr ?_; intro U h; simp only [z0, z1] at h; subst h)
            refine s_val _ rfl rfl (.bool false) rfl ?_
            refine nr ?_; intro U h; simp only [z0, z1] at h; subst h
            refine s_val _ rfl rfl (.bool false) rfl ?_
            refine nr ?_; intro U h; simp only [z0, z1] at h; subst h
            iterate 5 (refine s_skipY _ rfl rfl y26 rfl ?_; refine nr ?_; intro U h; simp only [z0, z1] at h; subst h)
            refine s_val _ rfl rfl (.bool false) rfl ?_
            refine nr ?_; intro U h; simp only [z0, z1] at h; subst h
            refine s_val _ rfl rfl (.bool false) rfl ?_
            refine nr ?_; intro U h; simp only [z0, z1] at h; subst h
            iterate 5 (refine s_skipY _ rfl rfl y33 rfl ?_; refine nr ?_; intro U h; simp only [z0, z1] at h; subst h)
            refine s_val _ rfl rfl (.bool false) rfl ?_
            refine nr ?_; intro U h; simp only [z0, z1] at h; subst h
            refine s_val _ rfl rfl (.bool false) rfl ?_
            refine nr ?_; intro U h; simp only [z0, z1] at h; subst h
            iterate 5 (refine s_skipY _ rfl rfl y40 rfl ?_; refine nr ?_; intro U h; simp only [z0, z1] at h; subst h)
            refine s_val _ rfl rfl (.bool false) rfl ?_
            refine nr ?_; intro U h; simp only [z0, z1] at h; subst h
            refine s_val _ rfl rfl (.bool false) rfl ?_
            refine nr ?_; intro U h; simp only [z0, z1] at h; subst h
            iterate 5 (refine s_skipY _ rfl rfl y47 rfl ?_; refine nr ?_; intro U h; simp only [z0, z1] at h; subst h)
            refine s_val _ rfl rfl (.bool false) rfl ?_
            refine nr ?_; intro U h; simp only [z0, z1] at h; subst h
            refine s_val _ rfl rfl (.bool false) rfl ?_
            refine nr ?_; intro U h; simp only [z0, z1] at h; subst h
            iterate 5 (refine s_skipY _ rfl rfl y54 rfl ?_; refine nr ?_; intro U h; simp only [z0, z1] at h; subst h)
            refine s_val _ rfl rfl (.bool false) rfl ?_
            refine nr ?_; intro U h; simp only [z0, z1] at h; subst h
            refine s_val _ rfl rfl (.bool false) rfl ?_
            refine nr ?_; intro U h; simp only [z0, z1] at h; subst h
            iterate 5 (refine s_skipY _ rfl rfl y61 rfl ?_; refine nr ?_; intro U h; simp only [z0, z1] at h; subst h)
            refine s_val _ rfl rfl (.bool false) rfl ?_
            refine nr ?_; intro U h; simp only [z0, z1] at h; subst h
            refine s_val _ rfl rfl (.bool false) rfl ?_
            refine nr ?_; intro U h; simp only [z0, z1] at h; subst h
            iterate 5 (refine s_skipY _ rfl rfl y68 rfl ?_; refine nr ?_; intro U h; simp only [z0, z1] at h; subst h)
            refine s_val _ rfl rfl (.bool false) rfl ?_
            refine nr ?_; intro U h; simp only [z0, z1] at h; subst h
            refine s_val _ rfl rfl (.bool false) rfl ?_
            refine nr ?_; intro U h; simp only [z0, z1] at h; subst h
            iterate 7 (refine s_skipY _ rfl rfl y75 rfl ?_; refine nr ?_; intro U h; simp only [z0, z1] at h; subst h)
            refine s_val _ rfl rfl (.bool false) rfl ?_
            refine nr ?_; intro U h; simp only [z0, z1] at h; subst h
            refine s_val _ rfl rfl (.bool false) rfl ?_
            refine nr ?_; intro U h; simp only [z0, z1] at h; subst h
            refine wpList_nil ?_
            refine then_n ?_
            refine wp_ret ?_
            refine bodyPost_ret (results_tmp Try.results18 _ _ _) rfl ?_
            first | exact ⟨congrArg (fun b => Ending.returned (.bool b)) (same_ltr hne), GG⟩ | exact ⟨congrArg (fun b => Ending.returned (.bool b)) (same_lids hne), GG⟩ | exact ⟨by simp only [sameK, sameB] at *; simp [*], GG⟩
          refine s_val 70 rfl rfl (.bool true) (rfl) ?_
          refine nr ?_; intro U h; simp only [z0, z1] at h; subst h
          refine s_val 71 rfl rfl (.bool true) (rfl) ?_
          refine nr ?_; intro U h; simp only [z0, z1] at h; subst h
          refine s_gvalY 72 rfl rfl y12 rfl (.pointer (some ⟨g1, 18, none⟩)) (run_fld 64 _ 2 rfl _ _ rfl _ (by kernel_rfl)) ?_
          refine nr ?_; intro U h; simp only [z0, z1] at h; subst h
          refine s_gvalY 73 rfl rfl y12 rfl (.bool f.toA) (run_ldc 4 _ rfl g1 18 rfl 64 _ kg1 (na4 _) _ rfl) ?_
          refine nr ?_; intro U h; simp only [z0, z1] at h; subst h
          refine s_gvalY 74 rfl rfl y12 rfl (.pointer (some ⟨g2, 18, none⟩)) (run_fld 64 _ 2 rfl _ _ rfl _ (by kernel_rfl)) ?_
          refine nr ?_; intro U h; simp only [z0, z1] at h; subst h
          refine s_gvalY 75 rfl rfl y12 rfl (.bool g.toA) (run_ldc 4 _ rfl g2 18 rfl 64 _ kg2 (na4 _) _ rfl) ?_
          refine nr ?_; intro U h; simp only [z0, z1] at h; subst h
          obtain ⟨p7, hp7⟩ : ∃ p, decide (f.toA = g.toA) = p := ⟨_, rfl⟩
          refine s_gvalY 76 rfl rfl y12 rfl (.bool p7) (run_eqB 4 _ _ _ rfl f.toA g.toA rfl rfl Try.underlying4 p7 hp7 _) ?_
          refine nr ?_; intro U h; simp only [z0, z1] at h; subst h
          cases p7
          · refine s_val _ rfl rfl (.bool false) rfl ?_
            refine nr ?_; intro U h; simp only [z0, z1] at h; subst h
            refine s_val _ rfl rfl (.bool false) rfl ?_
            refine nr ?_; intro U h; simp only [z0, z1] at h; subst h
            iterate 5 (refine s_skipY _ rfl rfl y19 rfl ?_; refine nr ?_; intro U h; simp only [z0, z1] at h; subst h)
            refine s_val _ rfl rfl (.bool false) rfl ?_
            refine nr ?_; intro U h; simp only [z0, z1] at h; subst h
            refine s_val _ rfl rfl (.bool false) rfl ?_
            refine nr ?_; intro U h; simp only [z0, z1] at h; subst h
            iterate 5 (refine s_skipY _ rfl rfl y26 rfl ?_; refine nr ?_; intro U h; simp only [z0, z1] at h; subst h)
            refine s_val _ rfl rfl (.bool false) rfl ?_
            refine nr ?_; intro U h; simp only [z0, z1] at h; subst h
            refine s_val _ rfl rfl (.bool false) rfl ?_
            refine nr ?_; intro U h; simp only [z0, z1] at h; subst h
            iterate 5 (refine s_skipY _ rfl rfl y33 rfl ?_; refine nr ?_; intro U h; simp only [z0, z1] at h; subst h)
            refine s_val _ rfl rfl (.bool false) rfl ?_
            refine nr ?_; intro U h; simp only [z0, z1] at h; subst h
            refine s_val _ rfl rfl (.bool false) rfl ?_
            refine nr ?_; intro U h; simp only [z0, z1] at h; subst h
            iterate 5 (refine s_skipY _ rfl rfl y40 rfl ?_; refine nr ?_; intro U h; simp only [z0, z1] at h; subst h)
            refine s_val _ rfl rfl (.bool false) rfl ?_
            refine nr ?_; intro U h; simp only [z0, z1] at h; subst h
            refine s_val _ rfl rfl (.bool false) rfl ?_
            refine nr ?_; intro U h; simp only [z0, z1] at h; subst h
            iterate 5 (refine s_skipY _ rfl rfl y47 rfl ?_; refine nr ?_; intro U h; simp only [z0, z1] at h; subst h)
            refine s_val _ rfl rfl (.bool false) rfl ?_
            refine nr ?_; intro U h; simp only [z0, z1] at h; subst h
            refine s_val _ rfl rfl (.bool false) rfl ?_
            refine nr ?_; intro U h; simp only [z0, z1] at h; subst h
            iterate 5 (refine s_skipY _ rfl rfl y54 rfl ?_; refine nr ?_; intro U h; simp only [z0, z1] at h; subst h)
            refine s_val _ rfl rfl (.bool false) rfl ?_
            refine nr ?_; intro U h; simp only [z0, z1] at h; subst h
            refine s_val _ rfl rfl (.bool false) rfl ?_
            refine nr ?_; intro U h; simp only [z0, z1] at h; subst h
            iterate 5 (refine s_skipY _ rfl rfl y61 rfl ?_; refine nr ?_; intro U h; simp only [z0, z1] at h; subst h)
            refine s_val _ rfl rfl (.bool false) rfl ?_
            refine nr ?_; intro U h; simp only [z0, z1] at h; subst h
            refine s_val _ rfl rfl (.bool false) rfl ?_
            refine nr ?_; intro U h; simp only [z0, z1] at h; subst h
            iterate 5 (refine s_skipY _ rfl rfl y68 rfl ?_; refine nr ?_; intro U h; simp only [z0, z1] at h; subst h)
            refine s_val _ rfl rfl (.bool false) rfl ?_
            refine nr ?_; intro U h; simp only [z0, z1] at h; subst h
            refine s_val _ rfl rfl (.bool false) rfl ?_
            refine nr ?_; intro U h; simp only [z0, z1] at h; subst h
            iterate 7 (refine s_skipY _ rfl rfl y75 rfl ?_; refine nr ?_; intro U h; simp only [z0, z1] at h; subst h)
            refine s_val _ rfl rfl (.bool false) rfl ?_
            refine nr ?_; intro U h; simp only [z0, z1] at h; subst h
            refine s_val _ rfl rfl (.bool false) rfl ?_
            refine nr ?_; intro U h; simp only [z0, z1] at h; subst h
            refine wpList_nil ?_
            refine then_n ?_
            refine wp_ret ?_
            refine bodyPost_ret (results_tmp Try.results18 _ _ _) rfl ?_
            first | exact ⟨congrArg (fun b => Ending.returned (.bool b)) (same_ltr hne), GG⟩ | exact ⟨congrArg (fun b => Ending.returned (.bool b)) (same_lids hne), GG⟩ | exact ⟨by simp only [sameK, sameB] at *; simp [*], GG⟩
          refine s_val 77 rfl rfl (.bool true) (rfl) ?_
          refine nr ?_; intro U h; simp only [z0, z1] at h; subst h
          refine s_val 78 rfl rfl (.bool true) (rfl) ?_
          refine nr ?_; intro U h; simp only [z0, z1] at h; subst h
          refine s_gvalY 79 rfl rfl y19 rfl (.pointer (some ⟨g1, 19, none⟩)) (run_fld 64 _ 3 rfl _ _ rfl _ (by kernel_rfl)) ?_
          refine nr ?_; intro U h; simp only [z0, z1] at h; subst h
          refine s_gvalY 80 rfl rfl y19 rfl (.agg (c24 f.a)) (run_lda 24 _ rfl g1 19 16 rfl 64 _ kg1 _ Try.underlying24 rfl si24 (Nat.le_of_ble_eq_true rfl) _ (by kernel_rfl)) ?_
          refine nr ?_; intro U h; simp only [z0, z1] at h; subst h
          refine s_gvalY 81 rfl rfl y19 rfl (.pointer (some ⟨g2, 19, none⟩)) (run_fld 64 _ 3 rfl _ _ rfl _ (by kernel_rfl)) ?_
          refine nr ?_; intro U h; simp only [z0, z1] at h; subst h
          refine s_gvalY 82 rfl rfl y19 rfl (.agg (c24 g.a)) (run_lda 24 _ rfl g2 19 16 rfl 64 _ kg2 _ Try.underlying24 rfl si24 (Nat.le_of_ble_eq_true rfl) _ (by kernel_rfl)) ?_
          refine nr ?_; intro U h; simp only [z0, z1] at h; subst h
          obtain ⟨p8, hp8⟩ : ∃ p, decide (idL f.a = idL g.a) = p := ⟨_, rfl⟩
          refine s_gvalY 83 rfl rfl y19 rfl (.bool p8) (run_cmpAa .eql 24 _ _ _ rfl _ _ rfl rfl (by kernel_rfl) _ ((eq23 f.a g.a _).trans (by rw [hp8]))) ?_
          refine nr ?_; intro U h; simp only [z0, z1] at h; subst h
          cases p8
          · refine s_val _ rfl rfl (.bool false) rfl ?_
            refine nr ?_; intro U h; simp only [z0, z1] at h; subst h
            refine s_val _ rfl rfl (.bool false) rfl ?_
            refine nr ?_; intro U h; simp only [z0, z1] at h; subst h
            iterate 5 (refine s_skipY _ rfl rfl y26 rfl ?_; refine nr ?_; intro U h; simp only [z0, z1] at h; subst h)
            refine s_val _ rfl rfl (.bool false) rfl ?_
            refine nr ?_; intro U h; simp only [z0, z1] at h; subst h
            refine s_val _ rfl rfl (.bool false) rfl ?_
            refine nr ?_; intro U h; simp only [z0, z1] at h; subst h
            iterate 5 (refine s_skipY _ rfl rfl y33 rfl ?_; refine nr ?_; intro U h; simp only [z0, z1] at h; subst h)
            refine s_val _ rfl rfl (.bool false) rfl ?_
            refine nr ?_; intro U h; simp only [z0, z1] at h; subst h
            refine s_val _ rfl rfl (.bool false) rfl ?_
            refine nr ?_; intro U h; simp only [z0, z1] at h; subst h
            iterate 5 (refine s_skipY _ rfl rfl y40 rfl ?_; refine nr ?_; intro U h; simp only [z0, z1] at h; subst h)
            refine s_val _ rfl rfl (.bool false) rfl ?_
            refine nr ?_; intro U h; simp only [z0, z1] at h; subst h
            refine s_val _ rfl rfl (.bool false) rfl ?_
            refine nr ?_; intro U h; simp only [z0, z1] at h; subst h
            iterate 5 (refine s_skipY _ rfl rfl y47 rfl ?_; refine nr ?_; intro U h; simp only [z0, z1] at h; subst h)
            refine s_val _ rfl rfl (.bool false) rfl ?_
            refine nr ?_; intro U h; simp only [z0, z1] at h; subst h
            refine s_val _ rfl rfl (.bool false) rfl ?_
            refine nr ?_; intro U h; simp only [z0, z1] at h; subst h
            iterate 5 (refine s_skipY _ rfl rfl y54 rfl ?_; refine nr ?_; intro U h; simp only [z0, z1] at h; subst h)
            refine s_val _ rfl rfl (.bool false) rfl ?_
            refine nr ?_; intro U h; simp only [z0, z1] at h; subst h
            refine s_val _ rfl rfl (.bool false) rfl ?_
            refine nr ?_; intro U h; simp only [z0, z1] at h; subst h
            iterate 5 (refine s_skipY _ rfl rfl y61 rfl ?_; refine nr ?_; intro U h; simp only [z0, z1] at h; subst h)
            refine s_val _ rfl rfl (.bool false) rfl ?_
            refine nr ?_; intro U h; simp only [z0, z1] at h; subst h
            refine s_val _ rfl rfl (.bool false) rfl ?_
            refine nr ?_; intro U h; simp only [z0, z1] at h; subst h
            iterate 5 (refine s_skipY _ rfl rfl y68 rfl ?_; refine nr ?_; intro U h; simp only [z0, z1] at h; subst h)
            refine s_val _ rfl rfl (.bool false) rfl ?_
            refine nr ?_; intro U h; simp only [z0, z1] at h; subst h
            refine s_val _ rfl rfl (.bool false) rfl ?_
            refine nr ?_; intro U h; simp only [z0, z1] at h; subst h
            iterate 7 (refine s_skipY _ rfl rfl y75 rfl ?_; refine nr ?_; intro U h; simp only [z0, z1] at h; subst h)
            refine s_val _ rfl rfl (.bool false) rfl ?_
            refine nr ?_; intro U h; simp only [z0, z1] at h; subst h
            refine s_val _ rfl rfl (.bool false) rfl ?_
            refine nr ?_; intro U h; simp only [z0, z1] at h; subst h
            refine wpList_nil ?_
            refine then_n ?_
            refine wp_ret ?_
            refine bodyPost_ret (results_tmp Try.results18 _ _ _) rfl ?_
            first | exact ⟨congrArg (fun b => Ending.returned (.bool b)) (same_ltr hne), GG⟩ | exact ⟨congrArg (fun b => Ending.returned (.bool b)) (same_lids hne), GG⟩ | exact ⟨by simp only [sameK, sameB] at *; simp [*], GG⟩
          refine s_val 84 rfl rfl (.bool true) (rfl) ?_
          refine nr ?_; intro U h; simp only [z0, z1] at h; subst h
          refine s_val 85 rfl rfl (.bool true) (rfl) ?_
          refine nr ?_; intro U h; simp only [z0, z1] at h; subst h
          refine s_gvalY 86 rfl rfl y26 rfl (.pointer (some ⟨g1, 35, none⟩)) (run_fld 64 _ 4 rfl _ _ rfl _ (by kernel_rfl)) ?_
          refine nr ?_; intro U h; simp only [z0, z1] at h; subst h
          refine s_gvalY 87 rfl rfl y26 rfl (.agg (c24 f.b)) (run_lda 24 _ rfl g1 35 16 rfl 64 _ kg1 _ Try.underlying24 rfl si24 (Nat.le_of_ble_eq_true rfl) _ (by kernel_rfl)) ?_
          refine nr ?_; intro U h; simp only [z0, z1] at h; subst h
          refine s_gvalY 88 rfl rfl y26 rfl (.pointer (some ⟨g2, 35, none⟩)) (run_fld 64 _ 4 rfl _ _ rfl _ (by kernel_rfl)) ?_
          refine nr ?_; intro U h; simp only [z0, z1] at h; subst h
          refine s_gvalY 89 rfl rfl y26 rfl (.agg (c24 g.b)) (run_lda 24 _ rfl g2 35 16 rfl 64 _ kg2 _ Try.underlying24 rfl si24 (Nat.le_of_ble_eq_true rfl) _ (by kernel_rfl)) ?_
          refine nr ?_; intro U h; simp only [z0, z1] at h; subst h
          obtain ⟨p9, hp9⟩ : ∃ p, decide (idL f.b = idL g.b) = p := ⟨_, rfl⟩
          refine s_gvalY 90 rfl rfl y26 rfl (.bool p9) (run_cmpAa .eql 24 _ _ _ rfl _ _ rfl rfl (by kernel_rfl) _ ((eq23 f.b g.b _).trans (by rw [hp9]))) ?_
          refine nr ?_; intro U h; simp only [z0, z1] at h; subst h
          cases p9
          · refine s_val _ rfl rfl (.bool false) rfl ?_
            refine nr ?_; intro U h; simp only [z0, z1] at h; subst h
            refine s_val _ rfl rfl (.bool false) rfl ?_
            refine nr ?_; intro U h; simp only [z0, z1] at h; subst h
            iterate 5 (refine s_skipY _ rfl rfl y33 rfl ?_; refine nr ?_; intro U h; simp only [z0, z1] at h; subst h)
            refine s_val _ rfl rfl (.bool false) rfl ?_
            refine nr ?_; intro U h; simp only [z0, z1] at h; subst h
            refine s_val _ rfl rfl (.bool false) rfl ?_
            refine nr ?_; intro U h; simp only [z0, z1] at h; subst h
            iterate 5 (refine s_skipY _ rfl rfl y40 rfl ?_; refine nr ?_; intro U h; simp only [z0, z1] at h; subst h)
            refine s_val _ rfl rfl (.bool false) rfl ?_
            refine nr ?_; intro U h; simp only [z0, z1] at h; subst h
            refine s_val _ rfl rfl (.bool false) rfl ?_
            refine nr ?_; intro U h; simp only [z0, z1] at h; subst h
            iterate 5 (refine s_skipY _ rfl rfl y47 rfl ?_; refine nr ?_; intro U h; simp only [z0, z1] at h; subst h)
            refine s_val _ rfl rfl (.bool false) rfl ?_
            refine nr ?_; intro U h; simp only [z0, z1] at h; subst h
            refine s_val _ rfl rfl (.bool false) rfl ?_
            refine nr ?_; intro U h; simp only [z0, z1] at h; subst h
            iterate 5 (refine s_skipY _ rfl rfl y54 rfl ?_; refine nr ?_; intro U h; simp only [z0, z1] at h; subst h)
            refine s_val _ rfl rfl (.bool false) rfl ?_
            refine nr ?_; intro U h; simp only [z0, z1] at h; subst h
            refine s_val _ rfl rfl (.bool false) rfl ?_
            refine nr ?_; intro U h; simp only [z0, z1] at h; subst h
            iterate 5 (refine s_skipY _ rfl rfl y61 rfl ?_; refine nr ?_; intro U h; simp only [z0, z1] at h; subst h)
            refine s_val _ rfl rfl (.bool false) rfl ?_
            refine nr ?_; intro U h; simp only [z0, z1] at h; subst h
            refine s_val _ rfl rfl (.bool false) rfl ?_
            refine nr ?_; intro U h; simp only [z0, z1] at h; subst h
            iterate 5 (refine s_skipY _ rfl rfl y68 rfl ?_; refine nr ?_; intro U h; simp only [z0, z1] at h; subst h)
            refine s_val _ rfl rfl (.bool false) rfl ?_
            refine nr ?_; intro U h; simp only [z0, z1] at h; subst h
            refine s_val _ rfl rfl (.bool false) rfl ?_
            refine nr ?_; intro U h; simp only [z0, z1] at h; subst h
            iterate 7 (refine s_skipY _ rfl rfl y75 rfl ?_; refine nr ?_; intro U h; simp only [z0, z1] at h; subst h)
            refine s_val _ rfl rfl (.bool false) rfl ?_
            refine nr ?_; intro U h; simp only [z0, z1] at h; subst h
            refine s_val _ rfl rfl (.bool false) rfl ?_
            refine nr ?_; intro U h; simp only [z0, z1] at h; subst h
            refine wpList_nil ?_
            refine then_n ?_
            refine wp_ret ?_
            refine bodyPost_ret (results_tmp Try.results18 _ _ _) rfl ?_
            first | exact ⟨congrArg (fun b => Ending.returned (.bool b)) (same_ltr hne), GG⟩ | exact ⟨congrArg (fun b => Ending.returned (.bool b)) (same_lids hne), GG⟩ | exact ⟨by simp only [sameK, sameB] at *; simp [*], GG⟩
          refine s_val 91 rfl rfl (.bool true) (rfl) ?_
          refine nr ?_; intro U h; simp only [z0, z1] at h; subst h
          refine s_val 92 rfl rfl (.bool true) (rfl) ?_
          refine nr ?_; intro U h; simp only [z0, z1] at h; subst h
          refine s_gvalY 93 rfl rfl y33 rfl (.pointer (some ⟨g1, 51, none⟩)) (run_fld 64 _ 5 rfl _ _ rfl _ (by kernel_rfl)) ?_
          refine nr ?_; intro U h; simp only [z0, z1] at h; subst h
          refine s_gvalY 94 rfl rfl y33 rfl (.int .i64 f.n) (run_ldc 2 _ rfl g1 51 rfl 64 _ kg1 (na2a _) _ rfl) ?_
          refine nr ?_; intro U h; simp only [z0, z1] at h; subst h
          refine s_gvalY 95 rfl rfl y33 rfl (.pointer (some ⟨g2, 51, none⟩)) (run_fld 64 _ 5 rfl _ _ rfl _ (by kernel_rfl)) ?_
          refine nr ?_; intro U h; simp only [z0, z1] at h; subst h
          refine s_gvalY 96 rfl rfl y33 rfl (.int .i64 g.n) (run_ldc 2 _ rfl g2 51 rfl 64 _ kg2 (na2a _) _ rfl) ?_
          refine nr ?_; intro U h; simp only [z0, z1] at h; subst h
          obtain ⟨p10, hp10⟩ : ∃ p, decide (f.n = g.n) = p := ⟨_, rfl⟩
          refine s_gvalY 97 rfl rfl y33 rfl (.bool p10) (run_eq_k 2 .i64 _ _ _ rfl Try.underlying2 f.n g.n rfl rfl p10 hp10 _) ?_
          refine nr ?_; intro U h; simp only [z0, z1] at h; subst h
          cases p10
          · refine s_val _ rfl rfl (.bool false) rfl ?_
            refine nr ?_; intro U h; simp only [z0, z1] at h; subst h
            refine s_val _ rfl rfl (.bool false) rfl ?_
            refine nr ?_; intro U h; simp only [z0, z1] at h; subst h
            iterate 5 (refine s_skipY _ rfl rfl y40 rfl ?_; refine nr ?_; intro U h; simp only [z0, z1] at h; subst h)
            refine s_val _ rfl rfl (.bool false) rfl ?_
            refine nr ?_; intro U h; simp only [z0, z1] at h; subst h
            refine s_val _ rfl rfl (.bool false) rfl ?_
            refine nr ?_; intro U h; simp only [z0, z1] at h; subst h
            iterate 5 (refine s_skipY _ rfl rfl y47 rfl ?_; refine nr ?_; intro U h; simp only [z0, z1] at h; subst h)
            refine s_val _ rfl rfl (.bool false) rfl ?_
            refine nr ?_; intro U h; simp only [z0, z1] at h; subst h
            refine s_val _ rfl rfl (.bool false) rfl ?_
            refine nr ?_; intro U h; simp only [z0, z1] at h; subst h
            iterate 5 (refine s_skipY _ rfl rfl y54 rfl ?_; refine nr ?_; intro U h; simp only [z0, z1] at h; subst h)
            refine s_val _ rfl rfl (.bool false) rfl ?_
            refine nr ?_; intro U h; simp only [z0, z1] at h; subst h
            refine s_val _ rfl rfl (.bool false) rfl ?_
            refine nr ?_; intro U h; simp only [z0, z1] at h; subst h
            iterate 5 (refine s_skipY _ rfl rfl y61 rfl ?_; refine nr ?_; intro U h; simp only [z0, z1] at h; subst h)
            refine s_val _ rfl rfl (.bool false) rfl ?_
            refine nr ?_; intro U h; simp only [z0, z1] at h; subst h
            refine s_val _ rfl rfl (.bool false) rfl ?_
            refine nr ?_; intro U h; simp only [z0, z1] at h; subst h
            iterate 5 (refine s_skipY _ rfl rfl y68 rfl ?_; refine nr ?_; intro U h; simp only [z0, z1] at h; subst h)
            refine s_val _ rfl rfl (.bool false) rfl ?_
            refine nr ?_; intro U h; simp only [z0, z1] at h; subst h
            refine s_val _ rfl rfl (.bool false) rfl ?_
            refine nr ?_; intro U h; simp only [z0, z1] at h; subst h
            iterate 7 (refine s_skipY _ rfl rfl y75 rfl ?_; refine nr ?_; intro U h; simp only [z0, z1] at h; subst h)
            refine s_val _ rfl rfl (.bool false) rfl ?_
            refine nr ?_; intro U h; simp only [z0, z1] at h; subst h
            refine s_val _ rfl rfl (.bool false) rfl ?_
            refine nr ?_; intro U h; simp only [z0, z1] at h; subst h
            refine wpList_nil ?_
            refine then_n ?_
            refine wp_ret ?_
            refine bodyPost_ret (results_tmp Try.results18 _ _ _) rfl ?_
            first | exact ⟨congrArg (fun b => Ending.returned (.bool b)) (same_ltr hne), GG⟩ | exact ⟨congrArg (fun b => Ending.returned (.bool b)) (same_lids hne), GG⟩ | exact ⟨by simp only [sameK, sameB] at *; simp [*], GG⟩
          refine s_val 98 rfl rfl (.bool true) (rfl) ?_
          refine nr ?_; intro U h; simp only [z0, z1] at h; subst h
          refine s_val 99 rfl rfl (.bool true) (rfl) ?_
          refine nr ?_; intro U h; simp only [z0, z1] at h; subst h
          refine s_gvalY 100 rfl rfl y40 rfl (.pointer (some ⟨g1, 52, none⟩)) (run_fld 64 _ 6 rfl _ _ rfl _ (by kernel_rfl)) ?_
          refine nr ?_; intro U h; simp only [z0, z1] at h; subst h
          refine s_gvalY 101 rfl rfl y40 rfl (.agg (c56 f.fi f.fn)) (run_lda 56 _ rfl g1 52 2 rfl 64 _ kg1 _ Try.underlying56 rfl si56 (Nat.le_of_ble_eq_true rfl) _ (by kernel_rfl)) ?_
          refine nr ?_; intro U h; simp only [z0, z1] at h; subst h
          refine s_gvalY 102 rfl rfl y40 rfl (.pointer (some ⟨g2, 52, none⟩)) (run_fld 64 _ 6 rfl _ _ rfl _ (by kernel_rfl)) ?_
          refine nr ?_; intro U h; simp only [z0, z1] at h; subst h
          refine s_gvalY 103 rfl rfl y40 rfl (.agg (c56 g.fi g.fn)) (run_lda 56 _ rfl g2 52 2 rfl 64 _ kg2 _ Try.underlying56 rfl si56 (Nat.le_of_ble_eq_true rfl) _ (by kernel_rfl)) ?_
          refine nr ?_; intro U h; simp only [z0, z1] at h; subst h
          obtain ⟨p11, hp11⟩ : ∃ p, (decide (f.fi = g.fi) && decide (f.fn = g.fn)) = p := ⟨_, rfl⟩
          refine s_gvalY 104 rfl rfl y40 rfl (.bool p11) (run_cmpAa .eql 56 _ _ _ rfl _ _ rfl rfl (by kernel_rfl) _ ((eq27 f.fi g.fi f.fn g.fn _).trans (by rw [hp11]))) ?_
          refine nr ?_; intro U h; simp only [z0, z1] at h; subst h
          cases p11
          · refine s_val _ rfl rfl (.bool false) rfl ?_
            refine nr ?_; intro U h; simp only [z0, z1] at h; subst h
            refine s_val _ rfl rfl (.bool false) rfl ?_
            refine nr ?_; intro U h; simp only [z0, z1] at h; subst h
            iterate 5 (refine s_skipY _ rfl rfl y47 rfl ?_; refine nr ?_; intro U h; simp only [z0, z1] at h; subst h)
            refine s_val _ rfl rfl (.bool false) rfl ?_
            refine nr ?_; intro U h; simp only [z0, z1] at h; subst h
            refine s_val _ rfl rfl (.bool false) rfl ?_
            refine nr ?_; intro U h; simp only [z0, z1] at h; subst h
            iterate 5 (refine s_skipY _ rfl rfl y54 rfl ?_; refine nr ?_; intro U h; simp only [z0, z1] at h; subst h)
            refine s_val _ rfl rfl (.bool false) rfl ?_
            refine nr ?_; intro U h; simp only [z0, z1] at h; subst h
            refine s_val _ rfl rfl (.bool false) rfl ?_
            refine nr ?_; intro U h; simp only [z0, z1] at h; subst h
            iterate 5 (refine s_skipY _ rfl rfl y61 rfl ?_; refine nr ?_; intro U h; simp only [z0, z1] at h; subst h)
            refine s_val _ rfl rfl (.bool false) rfl ?_
            refine nr ?_; intro U h; simp only [z0, z1] at h; subst h
            refine s_val _ rfl rfl (.bool false) rfl ?_
            refine nr ?_; intro U h; simp only [z0, z1] at h; subst h
            iterate 5 (refine s_skipY _ rfl rfl y68 rfl ?_; refine nr ?_; intro U h; simp only [z0, z1] at h; subst h)
            refine s_val _ rfl rfl (.bool false) rfl ?_
            refine nr ?_; intro U h; simp only [z0, z1] at h; subst h
            refine s_val _ rfl rfl (.bool false) rfl ?_
            refine nr ?_; intro U h; simp only [z0, z1] at h; subst h
            iterate 7 (refine s_skipY _ rfl rfl y75 rfl ?_; refine nr ?_; intro U h; simp only [z0, z1] at h; subst h)
            refine s_val _ rfl rfl (.bool false) rfl ?_
            refine nr ?_; intro U h; simp only [z0, z1] at h; subst h
            refine s_val _ rfl rfl (.bool false) rfl ?_
            refine nr ?_; intro U h; simp only [z0, z1] at h; subst h
            refine wpList_nil ?_
            refine then_n ?_
            refine wp_ret ?_
            refine bodyPost_ret (results_tmp Try.results18 _ _ _) rfl ?_
            first | exact ⟨congrArg (fun b => Ending.returned (.bool b)) (same_ltr hne), GG⟩ | exact ⟨congrArg (fun b => Ending.returned (.bool b)) (same_lids hne), GG⟩ | exact ⟨by simp only [sameK, sameB] at *; simp [*], GG⟩
          refine s_val 105 rfl rfl (.bool true) (rfl) ?_
          refine nr ?_; intro U h; simp only [z0, z1] at h; subst h
          refine s_val 106 rfl rfl (.bool true) (rfl) ?_
          refine nr ?_; intro U h; simp only [z0, z1] at h; subst h
          refine s_gvalY 107 rfl rfl y47 rfl (.pointer (some ⟨g1, 54, none⟩)) (run_fld 64 _ 7 rfl _ _ rfl _ (by kernel_rfl)) ?_
          refine nr ?_; intro U h; simp only [z0, z1] at h; subst h
          refine s_gvalY 108 rfl rfl y47 rfl (.agg (c56 f.ti f.tn)) (run_lda 56 _ rfl g1 54 2 rfl 64 _ kg1 _ Try.underlying56 rfl si56 (Nat.le_of_ble_eq_true rfl) _ (by kernel_rfl)) ?_
          refine nr ?_; intro U h; simp only [z0, z1] at h; subst h
          refine s_gvalY 109 rfl rfl y47 rfl (.pointer (some ⟨g2, 54, none⟩)) (run_fld 64 _ 7 rfl _ _ rfl _ (by kernel_rfl)) ?_
          refine nr ?_; intro U h; simp only [z0, z1] at h; subst h
          refine s_gvalY 110 rfl rfl y47 rfl (.agg (c56 g.ti g.tn)) (run_lda 56 _ rfl g2 54 2 rfl 64 _ kg2 _ Try.underlying56 rfl si56 (Nat.le_of_ble_eq_true rfl) _ (by kernel_rfl)) ?_
          refine nr ?_; intro U h; simp only [z0, z1] at h; subst h
          obtain ⟨p12, hp12⟩ : ∃ p, (decide (f.ti = g.ti) && decide (f.tn = g.tn)) = p := ⟨_, rfl⟩
          refine s_gvalY 111 rfl rfl y47 rfl (.bool p12) (run_cmpAa .eql 56 _ _ _ rfl _ _ rfl rfl (by kernel_rfl) _ ((eq27 f.ti g.ti f.tn g.tn _).trans (by rw [hp12]))) ?_
          refine nr ?_; intro U h; simp only [z0, z1] at h; subst h
          cases p12
          · refine s_val _ rfl rfl (.bool false) rfl ?_
            refine nr ?_; intro U h; simp only [z0, z1] at h; subst h
            refine s_val _ rfl rfl (.bool false) rfl ?_
            refine nr ?_; intro U h; simp only [z0, z1] at h; subst h
            iterate 5 (refine s_skipY _ rfl rfl y54 rfl ?_; refine nr ?_; intro U h; simp only [z0, z1] at h; subst h)
            refine s_val _ rfl rfl (.bool false) rfl ?_
            refine nr ?_; intro U h; simp only [z0, z1] at h; subst h
            refine s_val _ rfl rfl (.bool false) rfl ?_
            refine nr ?_; intro U h; simp only [z0, z1] at h; subst h
            iterate 5 (refine s_skipY _ rfl rfl y61 rfl ?_; refine nr ?_; intro U h; simp only [z0, z1] at h; subst h)
            refine s_val _ rfl rfl (.bool false) rfl ?_
            refine nr ?_; intro U h; simp only [z0, z1] at h; subst h
            refine s_val _ rfl rfl (.bool false) rfl ?_
            refine nr ?_; intro U h; simp only [z0, z1] at h; subst h
            iterate 5 (refine s_skipY _ rfl rfl y68 rfl ?_; refine nr ?_; intro U h; simp only [z0, z1] at h; subst h)
            refine s_val _ rfl rfl (.bool false) rfl ?_
            refine nr ?_; intro U h; simp only [z0, z1] at h; subst h
            refine s_val _ rfl rfl (.bool false) rfl ?_
            refine nr ?_; intro U h; simp only [z0, z1] at h; subst h
            iterate 7 (refine s_skipY _ rfl rfl y75 rfl ?_; refine nr ?_; intro U h; simp only [z0, z1] at h; subst h)
            refine s_val _ rfl rfl (.bool false) rfl ?_
            refine nr ?_; intro U h; simp only [z0, z1] at h; subst h
            refine s_val _ rfl rfl (.bool false) rfl ?_
            refine nr ?_; intro U h; simp only [z0, z1] at h; subst h
            refine wpList_nil ?_
            refine then_n ?_
            refine wp_ret ?_
            refine bodyPost_ret (results_tmp Try.results18 _ _ _) rfl ?_
            first | exact ⟨congrArg (fun b => Ending.returned (.bool b)) (same_ltr hne), GG⟩ | exact ⟨congrArg (fun b => Ending.returned (.bool b)) (same_lids hne), GG⟩ | exact ⟨by simp only [sameK, sameB] at *; simp [*], GG⟩
          refine s_val 112 rfl rfl (.bool true) (rfl) ?_
          refine nr ?_; intro U h; simp only [z0, z1] at h; subst h
          refine s_val 113 rfl rfl (.bool true) (rfl) ?_
          refine nr ?_; intro U h; simp only [z0, z1] at h; subst h
          refine s_gvalY 114 rfl rfl y54 rfl (.pointer (some ⟨g1, 58, none⟩)) (run_fld 64 _ 10 rfl _ _ rfl _ (by kernel_rfl)) ?_
          refine nr ?_; intro U h; simp only [z0, z1] at h; subst h
          refine s_gvalY 115 rfl rfl y54 rfl (.agg (c62 f.key f.vn f.vw f.val)) (run_lda 62 _ rfl g1 58 34 rfl 64 _ kg1 _ Try.underlying62 rfl si62 (Nat.le_of_ble_eq_true rfl) _ (by kernel_rfl)) ?_
          refine nr ?_; intro U h; simp only [z0, z1] at h; subst h
          refine s_gvalY 116 rfl rfl y54 rfl (.pointer (some ⟨g2, 58, none⟩)) (run_fld 64 _ 10 rfl _ _ rfl _ (by kernel_rfl)) ?_
          refine nr ?_; intro U h; simp only [z0, z1] at h; subst h
          refine s_gvalY 117 rfl rfl y54 rfl (.agg (c62 g.key g.vn g.vw g.val)) (run_lda 62 _ rfl g2 58 34 rfl 64 _ kg2 _ Try.underlying62 rfl si62 (Nat.le_of_ble_eq_true rfl) _ (by kernel_rfl)) ?_
          refine nr ?_; intro U h; simp only [z0, z1] at h; subst h
          obtain ⟨p13, hp13⟩ : ∃ p, itemB f g df dg = p := ⟨_, rfl⟩
          have HC := sameItem_d f g df dg wv (HF.gro GG) (HG.gro GG)
          rw [hp13] at HC
          refine s_gcallvY 118 rfl rfl y54 rfl _ 39 Try.call39 rfl rfl _ rfl [.agg (c62 f.key f.vn f.vw f.val), .agg (c62 g.key g.vn g.vw g.val)] rfl (HC) ?_
          intro w3 G
          replace kg1 := G.has kg1
          replace kg2 := G.has kg2
          replace GG := GG.trans G
          clear G
          refine nr ?_; intro U h; simp only [z0, z1] at h; subst h
          clear HC
          cases p13
          · refine s_val _ rfl rfl (.bool false) rfl ?_
            refine nr ?_; intro U h; simp only [z0, z1] at h; subst h
            refine s_val _ rfl rfl (.bool false) rfl ?_
            refine nr ?_; intro U h; simp only [z0, z1] at h; subst h
            iterate 5 (refine s_skipY _ rfl rfl y61 rfl ?_; refine nr ?_; intro U h; simp only [z0, z1] at h; subst h)
            refine s_val _ rfl rfl (.bool false) rfl ?_
            refine nr ?_; intro U h; simp only [z0, z1] at h; subst h
            refine s_val _ rfl rfl (.bool false) rfl ?_
            refine nr ?_; intro U h; simp only [z0, z1] at h; subst h
            iterate 5 (refine s_skipY _ rfl rfl y68 rfl ?_; refine nr ?_; intro U h; simp only [z0, z1] at h; subst h)
            refine s_val _ rfl rfl (.bool false) rfl ?_
            refine nr ?_; intro U h; simp only [z0, z1] at h; subst h
            refine s_val _ rfl rfl (.bool false) rfl ?_
            refine nr ?_; intro U h; simp only [z0, z1] at h; subst h
            iterate 7 (refine s_skipY _ rfl rfl y75 rfl ?_; refine nr ?_; intro U h; simp only [z0, z1] at h; subst h)
            refine s_val _ rfl rfl (.bool false) rfl ?_
            refine nr ?_; intro U h; simp only [z0, z1] at h; subst h
            refine s_val _ rfl rfl (.bool false) rfl ?_
            refine nr ?_; intro U h; simp only [z0, z1] at h; subst h
            refine wpList_nil ?_
            refine then_n ?_
            refine wp_ret ?_
            refine bodyPost_ret (results_tmp Try.results18 _ _ _) rfl ?_
            first | exact ⟨congrArg (fun b => Ending.returned (.bool b)) (same_ltr hne), GG⟩ | exact ⟨congrArg (fun b => Ending.returned (.bool b)) (same_lids hne), GG⟩ | exact ⟨by simp only [sameK, sameB, itemB] at *; simp [*], GG⟩
          refine s_val 119 rfl rfl (.bool true) (rfl) ?_
          refine nr ?_; intro U h; simp only [z0, z1] at h; subst h
          refine s_val 120 rfl rfl (.bool true) (rfl) ?_
          refine nr ?_; intro U h; simp only [z0, z1] at h; subst h
          refine s_gvalY 121 rfl rfl y61 rfl (.pointer (some ⟨g1, 92, none⟩)) (run_fld 64 _ 11 rfl _ _ rfl _ (by kernel_rfl)) ?_
          refine nr ?_; intro U h; simp only [z0, z1] at h; subst h
          refine s_gvalY 122 rfl rfl y61 rfl (.int .i64 f.op) (run_ldc 3 _ rfl g1 92 rfl 64 _ kg1 (na3 _) _ rfl) ?_
          refine nr ?_; intro U h; simp only [z0, z1] at h; subst h
          refine s_gvalY 123 rfl rfl y61 rfl (.pointer (some ⟨g2, 92, none⟩)) (run_fld 64 _ 11 rfl _ _ rfl _ (by kernel_rfl)) ?_
          refine nr ?_; intro U h; simp only [z0, z1] at h; subst h
          refine s_gvalY 124 rfl rfl y61 rfl (.int .i64 g.op) (run_ldc 3 _ rfl g2 92 rfl 64 _ kg2 (na3 _) _ rfl) ?_
          refine nr ?_; intro U h; simp only [z0, z1] at h; subst h
          obtain ⟨p14, hp14⟩ : ∃ p, decide (f.op = g.op) = p := ⟨_, rfl⟩
          refine s_gvalY 125 rfl rfl y61 rfl (.bool p14) (run_eq_k 3 .i64 _ _ _ rfl Try.underlying3 f.op g.op rfl rfl p14 hp14 _) ?_
          refine nr ?_; intro U h; simp only [z0, z1] at h; subst h
          cases p14
          · refine s_val _ rfl rfl (.bool false) rfl ?_
            refine nr ?_; intro U h; simp only [z0, z1] at h; subst h
            refine s_val _ rfl rfl (.bool false) rfl ?_
            refine nr ?_; intro U h; simp only [z0, z1] at h; subst h
            iterate 5 (refine s_skipY _ rfl rfl y68 rfl ?_; refine nr ?_; intro U h; simp only [z0, z1] at h; subst h)
            refine s_val _ rfl rfl (.bool false) rfl ?_
            refine nr ?_; intro U h; simp only [z0, z1] at h; subst h
            refine s_val _ rfl rfl (.bool false) rfl ?_
            refine nr ?_; intro U h; simp only [z0, z1] at h; subst h
            iterate 7 (refine s_skipY _ rfl rfl y75 rfl ?_; refine nr ?_; intro U h; simp only [z0, z1] at h; subst h)
            refine s_val _ rfl rfl (.bool false) rfl ?_
            refine nr ?_; intro U h; simp only [z0, z1] at h; subst h
            refine s_val _ rfl rfl (.bool false) rfl ?_
            refine nr ?_; intro U h; simp only [z0, z1] at h; subst h
            refine wpList_nil ?_
            refine then_n ?_
            refine wp_ret ?_
            refine bodyPost_ret (results_tmp Try.results18 _ _ _) rfl ?_
            first | exact ⟨congrArg (fun b => Ending.returned (.bool b)) (same_ltr hne), GG⟩ | exact ⟨congrArg (fun b => Ending.returned (.bool b)) (same_lids hne), GG⟩ | exact ⟨by simp only [sameK, sameB, itemB] at *; simp [*], GG⟩
          refine s_val 126 rfl rfl (.bool true) (rfl) ?_
          refine nr ?_; intro U h; simp only [z0, z1] at h; subst h
          refine s_val 127 rfl rfl (.bool true) (rfl) ?_
          refine nr ?_; intro U h; simp only [z0, z1] at h; subst h
          refine s_gvalY 128 rfl rfl y68 rfl (.pointer (some ⟨g1, 93, none⟩)) (run_fld 64 _ 12 rfl _ _ rfl _ (by kernel_rfl)) ?_
          refine nr ?_; intro U h; simp only [z0, z1] at h; subst h
          refine s_gvalY 129 rfl rfl y68 rfl (.int .i64 f.ttl) (run_ldc 3 _ rfl g1 93 rfl 64 _ kg1 (na3 _) _ rfl) ?_
          refine nr ?_; intro U h; simp only [z0, z1] at h; subst h
          refine s_gvalY 130 rfl rfl y68 rfl (.pointer (some ⟨g2, 93, none⟩)) (run_fld 64 _ 12 rfl _ _ rfl _ (by kernel_rfl)) ?_
          refine nr ?_; intro U h; simp only [z0, z1] at h; subst h
          refine s_gvalY 131 rfl rfl y68 rfl (.int .i64 g.ttl) (run_ldc 3 _ rfl g2 93 rfl 64 _ kg2 (na3 _) _ rfl) ?_
          refine nr ?_; intro U h; simp only [z0, z1] at h; subst h
          obtain ⟨p15, hp15⟩ : ∃ p, decide (f.ttl = g.ttl) = p := ⟨_, rfl⟩
          refine s_gvalY 132 rfl rfl y68 rfl (.bool p15) (run_eq_k 3 .i64 _ _ _ rfl Try.underlying3 f.ttl g.ttl rfl rfl p15 hp15 _) ?_
          refine nr ?_; intro U h; simp only [z0, z1] at h; subst h
          cases p15
          · refine s_val _ rfl rfl (.bool false) rfl ?_
            refine nr ?_; intro U h; simp only [z0, z1] at h; subst h
            refine s_val _ rfl rfl (.bool false) rfl ?_
            refine nr ?_; intro U h; simp only [z0, z1] at h; subst h
            iterate 7 (refine s_skipY _ rfl rfl y75 rfl ?_; refine nr ?_; intro U h; simp only [z0, z1] at h; subst h)
            refine s_val _ rfl rfl (.bool false) rfl ?_
            refine nr ?_; intro U h; simp only [z0, z1] at h; subst h
            refine s_val _ rfl rfl (.bool false) rfl ?_
            refine nr ?_; intro U h; simp only [z0, z1] at h; subst h
            refine wpList_nil ?_
            refine then_n ?_
            refine wp_ret ?_
            refine bodyPost_ret (results_tmp Try.results18 _ _ _) rfl ?_
            first | exact ⟨congrArg (fun b => Ending.returned (.bool b)) (same_ltr hne), GG⟩ | exact ⟨congrArg (fun b => Ending.returned (.bool b)) (same_lids hne), GG⟩ | exact ⟨by simp only [sameK, sameB, itemB] at *; simp [*], GG⟩
          refine s_val 133 rfl rfl (.bool true) (rfl) ?_
          refine nr ?_; intro U h; simp only [z0, z1] at h; subst h
          refine s_val 134 rfl rfl (.bool true) (rfl) ?_
          refine nr ?_; intro U h; simp only [z0, z1] at h; subst h
          refine s_gvalY 135 rfl rfl y75 rfl (.pointer (some ⟨g1, 94, none⟩)) (run_fld 64 _ 13 rfl _ _ rfl _ (by kernel_rfl)) ?_
          refine nr ?_; intro U h; simp only [z0, z1] at h; subst h
          refine s_gvalY 136 rfl rfl y75 rfl (.slice f.tx.ao f.tx.n f.tx.cap) (run_ldc 60 _ rfl g1 94 rfl 64 _ kg1 (na60 _) _ rfl) ?_
          refine nr ?_; intro U h; simp only [z0, z1] at h; subst h
          refine s_gvalY 137 rfl rfl y75 rfl (.string (bas df.tx)) (run_text_op bT 9 Try.underlying9 _ rfl (l := df.tx) (by rw [← lfx]; rfl) (xc_nc (HF.gro GG).tx HF.otx)) ?_
          refine nr ?_; intro U h; simp only [z0, z1] at h; subst h
          refine s_gvalY 138 rfl rfl y75 rfl (.pointer (some ⟨g2, 94, none⟩)) (run_fld 64 _ 13 rfl _ _ rfl _ (by kernel_rfl)) ?_
          refine nr ?_; intro U h; simp only [z0, z1] at h; subst h
          refine s_gvalY 139 rfl rfl y75 rfl (.slice g.tx.ao g.tx.n g.tx.cap) (run_ldc 60 _ rfl g2 94 rfl 64 _ kg2 (na60 _) _ rfl) ?_
          refine nr ?_; intro U h; simp only [z0, z1] at h; subst h
          refine s_gvalY 140 rfl rfl y75 rfl (.string (bas dg.tx)) (run_text_op bT 9 Try.underlying9 _ rfl (l := dg.tx) (by rw [← lgx]; rfl) (xc_nc (HG.gro GG).tx HG.otx)) ?_
          refine nr ?_; intro U h; simp only [z0, z1] at h; subst h
          obtain ⟨p16, hp16⟩ : ∃ p, decide (df.tx = dg.tx) = p := ⟨_, rfl⟩
          refine s_gvalY 141 rfl rfl y75 rfl (.bool p16) (run_eqs_op _ _ _ rfl _ _ rfl rfl p16 ((bas_dec HF.otx HG.otx).trans hp16) _) ?_
          refine nr ?_; intro U h; simp only [z0, z1] at h; subst h
          cases p16
          · refine s_val _ rfl rfl (.bool false) rfl ?_
            refine nr ?_; intro U h; simp only [z0, z1] at h; subst h
            refine s_val _ rfl rfl (.bool false) rfl ?_
            refine nr ?_; intro U h; simp only [z0, z1] at h; subst h
            refine wpList_nil ?_
            refine then_n ?_
            refine wp_ret ?_
            refine bodyPost_ret (results_tmp Try.results18 _ _ _) rfl ?_
            first | exact ⟨congrArg (fun b => Ending.returned (.bool b)) (same_ltr hne), GG⟩ | exact ⟨congrArg (fun b => Ending.returned (.bool b)) (same_lids hne), GG⟩ | exact ⟨by simp only [sameK, sameB, itemB] at *; simp [*], GG⟩
          refine s_val 142 rfl rfl (.bool true) (rfl) ?_
          refine nr ?_; intro U h; simp only [z0, z1] at h; subst h
          refine s_val 4 rfl rfl (.bool true) (rfl) ?_
          refine nr ?_; intro U h; simp only [z0, z1] at h; subst h
          refine wpList_nil ?_
          refine then_n ?_
          refine wp_ret ?_
          refine bodyPost_ret (results_tmp Try.results18 _ _ _) rfl ?_
          first | exact ⟨congrArg (fun b => Ending.returned (.bool b)) (same_ltr hne), GG⟩ | exact ⟨congrArg (fun b => Ending.returned (.bool b)) (same_lids hne), GG⟩ | exact ⟨by simp only [sameK, sameB, itemB] at *; simp [*], GG⟩
        have hin : i < df.ids.length := by have := of_decide_eq_true hp4; omega
        obtain ⟨ad, hao⟩ := HF.ids.some (by omega)
        obtain ⟨bd, hbo⟩ := HG.ids.some (by omega)
        have hc1 := cellsI_at df.ids i HF.oids hin
        have hc2 := (HF.oids _ (getD_mem df.ids [] i hin)).1
        have E1c : (((cellsIa df.ids).drop (i * 16)).take 16).toArray = c24 (idF (df.ids.getD i [])) := by rw [hc1, ← bA_c23 hc2]; rfl
        have hc3 := cellsI_at dg.ids i HG.oids (by omega)
        have hc4 := (HG.oids _ (getD_mem dg.ids [] i (by omega))).1
        have E2c : (((cellsIa dg.ids).drop (i * 16)).take 16).toArray = c24 (idF (dg.ids.getD i [])) := by rw [hc3, ← bA_c23 hc4]; rfl
        refine wpList_nil ?_
        refine then_n ?_
        refine wp_cond_true rfl ?_
        refine wp_skip ?_
        refine then_n ?_
        refine wp_seq ?_
        refine wp_block ?_
        refine wp_seq ?_
        refine wp_region_exA (A := ?Ax1) 10 [(0, 48), (1, 49), (2, 50), (3, 51), (4, 52), (5, 53), (6, 54), (7, 55), (8, 56), (9, 57)] [.val (.pointer (some ⟨g1, 57, none⟩)), .val (.slice f.ids.ao f.ids.n f.ids.cap), .val (.int .i64 ((i : Nat) : Int)), .val (.pointer (some (ad.add (i * 16)))), .val (.agg (c24 (idF (df.ids.getD i [])))), .val (.pointer (some ⟨g2, 57, none⟩)), .val (.slice g.ids.ao g.ids.n g.ids.cap), .val (.int .i64 ((i : Nat) : Int)), .val (.pointer (some (bd.add (i * 16)))), .val (.agg (c24 (idF (dg.ids.getD i []))))] follows (by kernel_rfl) rfl ?hAx1 (opsA_cons ?o0x1 (opsA_cons ?o1x1 (opsA_cons ?o2x1 (opsA_cons ?o3x1 (opsA_cons ?o4x1 (opsA_cons ?o5x1 (opsA_cons ?o6x1 (opsA_cons ?o7x1 (opsA_cons ?o8x1 (opsA_cons ?o9x1 opsA_nil)))))))))) ?restx1
        case hAx1 =>
          intro ptrs
          simp only [full, foldSlots, filledE, postE, List.foldl_cons, List.foldl_nil, List.getD_cons_zero, List.getD_cons_succ, fill_val, List.set_cons_zero, List.set_cons_succ]
          exact rfl
        case o0x1 => exact fun _ _ hw _ => opE_value (v := .pointer (some ⟨g1, 57, none⟩)) rfl (run_fld 64 _ 9 rfl _ _ rfl _ (by kernel_rfl))
        case o1x1 => exact fun _ _ hw _ => opE_value (v := .slice f.ids.ao f.ids.n f.ids.cap) rfl (run_ldc 57 _ rfl g1 57 rfl 64 _ (hw.has kg1) (na57a _) _ rfl)
        case o2x1 => exact fun _ _ _ _ => opE_move (v := .int .i64 ((i : Nat) : Int)) _ rfl rfl rfl
        case o3x1 => exact fun _ _ hw _ => opE_value (v := .pointer (some (ad.add (i * 16)))) rfl (run_idxX iT29 _ _ rfl ad f.ids.n f.ids.cap i (by exact congrArg (fun a => Value.slice a f.ids.n f.ids.cap) hao) rfl (by omega) _)
        case o4x1 => exact fun _ _ hw _ => opE_value (v := .agg (c24 (idF (df.ids.getD i [])))) rfl (run_ldXv iT29 _ Try.underlying24 rfl _ rfl ad i rfl _ (by rw [← hao]; exact HF.ids.gro (GG.drew.trans hw)) (by omega) _ E1c)
        case o5x1 => exact fun _ _ hw _ => opE_value (v := .pointer (some ⟨g2, 57, none⟩)) rfl (run_fld 64 _ 9 rfl _ _ rfl _ (by kernel_rfl))
        case o6x1 => exact fun _ _ hw _ => opE_value (v := .slice g.ids.ao g.ids.n g.ids.cap) rfl (run_ldc 57 _ rfl g2 57 rfl 64 _ (hw.has kg2) (na57a _) _ rfl)
        case o7x1 => exact fun _ _ _ _ => opE_move (v := .int .i64 ((i : Nat) : Int)) _ rfl rfl rfl
        case o8x1 => exact fun _ _ hw _ => opE_value (v := .pointer (some (bd.add (i * 16)))) rfl (run_idxX iT29 _ _ rfl bd g.ids.n g.ids.cap i (by exact congrArg (fun a => Value.slice a g.ids.n g.ids.cap) hbo) rfl (by omega) _)
        case o9x1 => exact fun _ _ hw _ => opE_value (v := .agg (c24 (idF (dg.ids.getD i [])))) rfl (run_ldXv iT29 _ Try.underlying24 rfl _ rfl bd i rfl _ (by rw [← hbo]; exact HG.ids.gro (GG.drew.trans hw)) (by omega) _ E2c)
        intro ptrs w3 GD hxE
        simp only [List.drop_succ_cons, List.drop_zero]
        replace kg1 := GD.has kg1
        replace kg2 := GD.has kg2
        replace GG := GG.drew.trans GD
        clear GD
        obtain ⟨p5, hp5⟩ : ∃ p, (!decide (df.ids.getD i [] = dg.ids.getD i [])) = p := ⟨_, rfl⟩
        refine s_val 58 rfl rfl (.bool p5) (run_cmpAa .neq 24 _ _ _ rfl _ _ rfl rfl (by kernel_rfl) _ ((ne23 _ _ _).trans (by rw [idL_idF (HF.oids _ (getD_mem df.ids [] i hin)).1, idL_idF (HG.oids _ (getD_mem dg.ids [] i (by omega))).1, hp5]))) ?_
        refine nr ?_; intro U h; simp only [z0, z1] at h; subst h
        cases p5
        · refine wpList_nil ?_
          refine then_n ?_
          refine wp_cond_false rfl ?_
          refine wp_skip ?_
          refine blk_n ?_
          refine then_n ?_
          refine wp_region_lit ?_
          refine s_val 46 rfl rfl (.int .i64 ((i : Nat) : Int)) (rfl) ?_
          refine nr ?_; intro U h; simp only [z0, z1] at h; subst h
          refine s_val 47 rfl rfl (.int .i64 ((i + 1 : Nat) : Int)) (run_add64 _ _ _ rfl ((i : Nat) : Int) 1 _ rfl rfl (by omega) (by omega) (by omega) _) ?_
          refine nr ?_; intro U h; simp only [z0, z1] at h; subst h
          refine s_val 6 rfl rfl (.int .i64 ((i + 1 : Nat) : Int)) (rfl) ?_
          refine nr ?_; intro U h; simp only [z0, z1] at h; subst h
          refine wpList_nil ?_
          refine then_n ?_
          exact ⟨_, (by omega : df.ids.length - (i + 1) < df.ids.length - i), i + 1, (fun kz => ([us2 0, .int .i64 ((i : Nat) : Int), .pointer (some ⟨g1, 57, none⟩), .slice f.ids.ao f.ids.n f.ids.cap, .int .i64 ((f.ids.n : Nat) : Int), .bool true, .int .i64 ((i : Nat) : Int), .int .i64 ((i + 1 : Nat) : Int), .pointer (some ⟨g1, 57, none⟩), .slice f.ids.ao f.ids.n f.ids.cap, .int .i64 ((i : Nat) : Int), .pointer (some (ad.add (i * 16))), .agg (c24 (idF (df.ids.getD i []))), .pointer (some ⟨g2, 57, none⟩), .slice g.ids.ao g.ids.n g.ids.cap, .int .i64 ((i : Nat) : Int), .pointer (some (bd.add (i * 16))), .agg (c24 (idF (dg.ids.getD i []))), .bool false] : List Value).getD kz undef), rfl, rfl, hin, take_next _ _ [] i hu hin (by omega) (by simpa using hp5), GG, kg1, kg2⟩
        have hne : ¬ df.ids = dg.ids := fun e => by rw [e] at hp5; simp at hp5
        refine wpList_nil ?_
        refine then_n ?_
        refine wp_cond_true rfl ?_
        refine wp_seq ?_
        refine wp_region_lit ?_
        refine s_val 4 rfl rfl (.bool false) (rfl) ?_
        refine nr ?_; intro U h; simp only [z0, z1] at h; subst h
        refine wpList_nil ?_
        refine then_n ?_
        refine wp_ret ?_
        refine blk_r ?_
        refine then_r ?_
        refine then_r ?_
        refine blk_r ?_
        refine then_r ?_
        refine bodyPost_ret (results_tmp Try.results18 _ _ _) rfl ?_
        first | exact ⟨congrArg (fun b => Ending.returned (.bool b)) (same_ltr hne), GG⟩ | exact ⟨congrArg (fun b => Ending.returned (.bool b)) (same_lids hne), GG⟩ | exact ⟨by simp only [sameK, sameB, itemB] at *; simp [htt, huu, *], GG⟩
      have hjn : j < df.tr.length := by have := of_decide_eq_true hp3; omega
      obtain ⟨ad, hao, clA⟩ := xc_at1 (HFt.gro GG) hjn
      obtain ⟨bd, hbo, clB⟩ := xc_at1 (HGt.gro GG) (show j < dg.tr.length by omega)
      refine wpList_nil ?_
      refine then_n ?_
      refine wp_cond_true rfl ?_
      refine wp_skip ?_
      refine then_n ?_
      refine wp_seq ?_
      refine wp_block ?_
      refine wp_seq ?_
      refine wp_region_exA (A := ?Ax2) 10 [(0, 30), (1, 31), (2, 32), (3, 33), (4, 34), (5, 35), (6, 36), (7, 37), (8, 38), (9, 39)] [.val (.pointer (some ⟨g1, 56, none⟩)), .val (.slice f.tr.ao f.tr.n f.tr.cap), .val (.int .i64 ((j : Nat) : Int)), .val (.pointer (some (ad.add j))), .val (.int .i64 (df.tr.getD j 0)), .val (.pointer (some ⟨g2, 56, none⟩)), .val (.slice g.tr.ao g.tr.n g.tr.cap), .val (.int .i64 ((j : Nat) : Int)), .val (.pointer (some (bd.add j))), .val (.int .i64 (dg.tr.getD j 0))] follows (by kernel_rfl) rfl ?hAx2 (opsA_cons ?o0x2 (opsA_cons ?o1x2 (opsA_cons ?o2x2 (opsA_cons ?o3x2 (opsA_cons ?o4x2 (opsA_cons ?o5x2 (opsA_cons ?o6x2 (opsA_cons ?o7x2 (opsA_cons ?o8x2 (opsA_cons ?o9x2 opsA_nil)))))))))) ?restx2
      case hAx2 =>
        intro ptrs
        simp only [full, foldSlots, filledE, postE, List.foldl_cons, List.foldl_nil, List.getD_cons_zero, List.getD_cons_succ, fill_val, List.set_cons_zero, List.set_cons_succ]
        exact rfl
      case o0x2 => exact fun _ _ hw _ => opE_value (v := .pointer (some ⟨g1, 56, none⟩)) rfl (run_fld 64 _ 8 rfl _ _ rfl _ (by kernel_rfl))
      case o1x2 => exact fun _ _ hw _ => opE_value (v := .slice f.tr.ao f.tr.n f.tr.cap) rfl (run_ldc 32 _ rfl g1 56 rfl 64 _ (hw.has kg1) (na32 _) _ rfl)
      case o2x2 => exact fun _ _ _ _ => opE_move (v := .int .i64 ((j : Nat) : Int)) _ rfl rfl rfl
      case o3x2 => exact fun _ _ hw _ => opE_value (v := .pointer (some (ad.add j))) rfl (run_idx1 iT28 _ _ rfl ad f.tr.n f.tr.cap j (by exact congrArg (fun a => Value.slice a f.tr.n f.tr.cap) hao) rfl (by omega) _)
      case o4x2 => exact fun _ _ hw _ => opE_value (v := .int .i64 (df.tr.getD j 0)) rfl (run_ldc1 3 (na3 _) _ rfl (ad.add j) rfl _ (cell_gro hw clA))
      case o5x2 => exact fun _ _ hw _ => opE_value (v := .pointer (some ⟨g2, 56, none⟩)) rfl (run_fld 64 _ 8 rfl _ _ rfl _ (by kernel_rfl))
      case o6x2 => exact fun _ _ hw _ => opE_value (v := .slice g.tr.ao g.tr.n g.tr.cap) rfl (run_ldc 32 _ rfl g2 56 rfl 64 _ (hw.has kg2) (na32 _) _ rfl)
      case o7x2 => exact fun _ _ _ _ => opE_move (v := .int .i64 ((j : Nat) : Int)) _ rfl rfl rfl
      case o8x2 => exact fun _ _ hw _ => opE_value (v := .pointer (some (bd.add j))) rfl (run_idx1 iT28 _ _ rfl bd g.tr.n g.tr.cap j (by exact congrArg (fun a => Value.slice a g.tr.n g.tr.cap) hbo) rfl (by omega) _)
      case o9x2 => exact fun _ _ hw _ => opE_value (v := .int .i64 (dg.tr.getD j 0)) rfl (run_ldc1 3 (na3 _) _ rfl (bd.add j) rfl _ (cell_gro hw clB))
      intro ptrs w3 GD hxE
      simp only [List.drop_succ_cons, List.drop_zero]
      replace kg1 := GD.has kg1
      replace kg2 := GD.has kg2
      replace GG := GG.drew.trans GD
      clear GD
      obtain ⟨p4, hp4⟩ : ∃ p, (!decide (df.tr.getD j 0 = dg.tr.getD j 0)) = p := ⟨_, rfl⟩
      refine s_val 40 rfl rfl (.bool p4) (run_neq_k 3 .i64 _ _ _ rfl Try.underlying3 (df.tr.getD j 0) (dg.tr.getD j 0) rfl rfl p4 (by rw [← hp4, Bool.not_not]) _) ?_
      refine nr ?_; intro U h; simp only [z0, z1] at h; subst h
      cases p4
      · refine wpList_nil ?_
        refine then_n ?_
        refine wp_cond_false rfl ?_
        refine wp_skip ?_
        refine blk_n ?_
        refine then_n ?_
        refine wp_region_lit ?_
        refine s_val 28 rfl rfl (.int .i64 ((j : Nat) : Int)) (rfl) ?_
        refine nr ?_; intro U h; simp only [z0, z1] at h; subst h
        refine s_val 29 rfl rfl (.int .i64 ((j + 1 : Nat) : Int)) (run_add64 _ _ _ rfl ((j : Nat) : Int) 1 _ rfl rfl (by omega) (by omega) (by omega) _) ?_
        refine nr ?_; intro U h; simp only [z0, z1] at h; subst h
        refine s_val 5 rfl rfl (.int .i64 ((j + 1 : Nat) : Int)) (rfl) ?_
        refine nr ?_; intro U h; simp only [z0, z1] at h; subst h
        refine wpList_nil ?_
        refine then_n ?_
        exact ⟨_, (by omega : df.tr.length - (j + 1) < df.tr.length - j), j + 1, (fun kz => ([us1 0, .int .i64 ((j : Nat) : Int), .pointer (some ⟨g1, 56, none⟩), .slice f.tr.ao f.tr.n f.tr.cap, .int .i64 ((f.tr.n : Nat) : Int), .bool true, .int .i64 ((j : Nat) : Int), .int .i64 ((j + 1 : Nat) : Int), .pointer (some ⟨g1, 56, none⟩), .slice f.tr.ao f.tr.n f.tr.cap, .int .i64 ((j : Nat) : Int), .pointer (some (ad.add j)), .int .i64 (df.tr.getD j 0), .pointer (some ⟨g2, 56, none⟩), .slice g.tr.ao g.tr.n g.tr.cap, .int .i64 ((j : Nat) : Int), .pointer (some (bd.add j)), .int .i64 (dg.tr.getD j 0), .bool false] : List Value).getD kz undef), rfl, rfl, hjn, take_next _ _ 0 j ht hjn (by omega) (by simpa using hp4), GG, kg1, kg2⟩
      have hne : ¬ df.tr = dg.tr := fun e => by rw [e] at hp4; simp at hp4
      refine wpList_nil ?_
      refine then_n ?_
      refine wp_cond_true rfl ?_
      refine wp_seq ?_
      refine wp_region_lit ?_
      refine s_val 4 rfl rfl (.bool false) (rfl) ?_
      refine nr ?_; intro U h; simp only [z0, z1] at h; subst h
      refine wpList_nil ?_
      refine then_n ?_
      refine wp_ret ?_
      refine blk_r ?_
      refine then_r ?_
      refine then_r ?_
      refine blk_r ?_
      refine then_r ?_
      refine bodyPost_ret (results_tmp Try.results18 _ _ _) rfl ?_
      first | exact ⟨congrArg (fun b => Ending.returned (.bool b)) (same_ltr hne), GG⟩ | exact ⟨congrArg (fun b => Ending.returned (.bool b)) (same_lids hne), GG⟩ | exact ⟨by simp only [sameK, sameB, itemB] at *; simp [htt, huu, *], GG⟩
    have hne : ¬ df.ids = dg.ids := fun e => by rw [e] at lfi; simp at hp2; omega
    refine s_val 22 rfl rfl (.bool true) (rfl) ?_
    refine nr ?_; intro U h; simp only [z0, z1] at h; subst h
    refine wpList_nil ?_
    refine then_n ?_
    refine wp_cond_true rfl ?_
    refine wp_seq ?_
    refine wp_region_lit ?_
    refine s_val 4 rfl rfl (.bool false) (rfl) ?_
    refine nr ?_; intro U h; simp only [z0, z1] at h; subst h
    refine wpList_nil ?_
    refine then_n ?_
    refine wp_ret ?_
    refine then_r ?_
    refine bodyPost_ret (results_tmp Try.results18 _ _ _) rfl ?_
    first | exact ⟨congrArg (fun b => Ending.returned (.bool b)) (same_ltr hne), GG⟩ | exact ⟨congrArg (fun b => Ending.returned (.bool b)) (same_lids hne), GG⟩ | exact ⟨by simp only [sameK, sameB, itemB] at *; simp [htt, huu, *], GG⟩
  have hne : ¬ df.tr = dg.tr := fun e => by rw [e] at lft; simp at hp1; omega
  refine s_val 14 rfl rfl (.bool true) (rfl) ?_
  refine nr ?_; intro U h; simp only [z0, z1] at h; subst h
  refine s_skipY 15 rfl rfl y7 rfl ?_
  refine nr ?_; intro U h; simp only [z0, z1] at h; subst h
  refine s_skipY 16 rfl rfl y7 rfl ?_
  refine nr ?_; intro U h; simp only [z0, z1] at h; subst h
  refine s_skipY 17 rfl rfl y7 rfl ?_
  refine nr ?_; intro U h; simp only [z0, z1] at h; subst h
  refine s_skipY 18 rfl rfl y7 rfl ?_
  refine nr ?_; intro U h; simp only [z0, z1] at h; subst h
  refine s_skipY 19 rfl rfl y7 rfl ?_
  refine nr ?_; intro U h; simp only [z0, z1] at h; subst h
  refine s_skipY 20 rfl rfl y7 rfl ?_
  refine nr ?_; intro U h; simp only [z0, z1] at h; subst h
  refine s_skipY 21 rfl rfl y7 rfl ?_
  refine nr ?_; intro U h; simp only [z0, z1] at h; subst h
  refine s_val 22 rfl rfl (.bool true) (rfl) ?_
  refine nr ?_; intro U h; simp only [z0, z1] at h; subst h
  refine wpList_nil ?_
  refine then_n ?_
  refine wp_cond_true rfl ?_
  refine wp_seq ?_
  refine wp_region_lit ?_
  refine s_val 4 rfl rfl (.bool false) (rfl) ?_
  refine nr ?_; intro U h; simp only [z0, z1] at h; subst h
  refine wpList_nil ?_
  refine then_n ?_
  refine wp_ret ?_
  refine then_r ?_
  refine bodyPost_ret (results_tmp Try.results18 _ _ _) rfl ?_
  first | exact ⟨congrArg (fun b => Ending.returned (.bool b)) (same_ltr hne), GG⟩ | exact ⟨congrArg (fun b => Ending.returned (.bool b)) (same_lids hne), GG⟩ | exact ⟨by simp only [sameK, sameB, itemB] at *; simp [htt, huu, *], GG⟩
set_option maxRecDepth 100000 in
set_option maxHeartbeats 4000000 in
theorem copy_d (f : Fr) (d : FD) (w : World) (HF : FrW w f d) (HS : FrS f) : Calls Try.prog 15 #[.agg (c64 f.kind f.pw f.pn f.toA f.a f.b f.n f.fi f.fn f.ti f.tn f.tr f.ids f.key f.vn f.vw f.val f.op f.ttl f.tx)] w fun e w' => ∃ s1 s2 s3 s4 : Sl, e = .returned (.agg (frA { f with tr := s1, ids := s2, val := s3, tx := s4 })) ∧ FrO w' w.heap.size { f with tr := s1, ids := s2, val := s3, tx := s4 } d ∧ Gro w w' := by
  refine s_enter Try.func15 rfl Try.ntmps15 [.agg (c64 f.kind f.pw f.pn f.toA f.a f.b f.n f.fi f.fn f.ti f.tn f.tr f.ids f.key f.vn f.vw f.val f.op f.ttl f.tx)] [.agg (c64 f.kind f.pw f.pn f.toA f.a f.b f.n f.fi f.fn f.ti f.tn f.tr f.ids f.key f.vn f.vw f.val f.op f.ttl f.tx), undef, undef, undef, undef, undef, undef, undef, undef, undef, undef, undef, undef, undef, undef, undef, undef, undef, undef, undef, undef, undef, undef, undef, undef, undef] rfl ?_
  have GG := Gro.refl w
  refine wp_seq ?_
  refine wp_region_lit ?_
  refine s_box 1 rfl rfl 64 _ rfl _ rfl (c64 f.kind f.pw f.pn f.toA f.a f.b f.n f.fi f.fn f.ti f.tn f.tr f.ids f.key f.vn f.vw f.val f.op f.ttl f.tx) rfl ?_
  intro w1 g1 G eg1 kg1
  have bg1 := size_base GG eg1
  replace GG := GG.trans G
  clear G eg1
  refine nr ?_; intro U h; simp only [z0, z1] at h; subst h
  refine s_alloc 2 rfl rfl 64 rfl _ zv64 _ rfl ?_
  intro w2 g2 G eg2 kg2
  have bg2 := size_base GG eg2
  have dg1g2 := lt_new kg1 eg2
  replace kg1 := G.has kg1
  replace GG := GG.trans G
  clear G eg2
  refine nr ?_; intro U h; simp only [z0, z1] at h; subst h
  refine wpList_nil ?_
  refine then_n ?_
  refine wp_seq ?_
  refine wp_region_lit ?_
  have zg1 := kg1
  have zg2 := kg2
  have zG := GG
  refine wpList_none 32 3 1 (fun _ => by kernel_rfl) 3 rfl rfl rfl ?_
  intro w3 gN G1 e1 HN
  simp only [Act.put, List.setIfInBounds_toArray, List.set_cons_zero, List.set_cons_succ]
  replace kg1 := G1.has kg1
  replace kg2 := G1.has kg2
  refine s_val 4 rfl rfl (.pointer (some ⟨g1, 56, none⟩)) (run_fld 64 _ 8 rfl _ _ rfl _ (by kernel_rfl)) ?_
  refine nr ?_; intro U h; simp only [z0, z1] at h; subst h
  refine s_val 5 rfl rfl (.slice f.tr.ao f.tr.n f.tr.cap) (run_ldc 32 _ rfl g1 56 rfl 64 _ kg1 (na32 _) _ rfl) ?_
  refine nr ?_; intro U h; simp only [z0, z1] at h; subst h
  refine wpList_appX iT28 6 rfl rfl _ _ rfl rfl HN rfl ((HF.tr.gro zG).gro G1) (by rw [Nat.zero_add]; exact HS.tr.out) (by decide) (by rw [← e1]; exact G1.size) ?_
  intro sl_tr cl_tr w4 H_tr B2
  rw [Nat.zero_add] at H_tr ⊢
  rw [List.nil_append] at H_tr
  simp only [Act.put, List.setIfInBounds_toArray, List.set_cons_zero, List.set_cons_succ]
  have G : Gro _ _ := below_trans G1 (B2.mono (by rw [← e1]; exact Nat.le_refl _))
  replace kg1 := G.has zg1
  replace kg2 := G.has zg2
  replace GG := zG.trans G
  replace H_tr := H_tr.mono (by rw [← e1]; exact zG.size)
  clear G zG HN e1 G1 B2 zg1 zg2 
  refine s_val 7 rfl rfl (.pointer (some ⟨g1, 56, none⟩)) (run_fld 64 _ 8 rfl _ _ rfl _ (by kernel_rfl)) ?_
  refine nr ?_; intro U h; simp only [z0, z1] at h; subst h
  refine s_store rfl rfl 32 _ _ rfl g1 56 rfl (.slice sl_tr f.tr.n cl_tr) rfl 64 _ kg1 #[.slice sl_tr f.tr.n cl_tr] rfl (by kernel_rfl) (Nat.le_of_ble_eq_true rfl) (by kernel_rfl) (c64 f.kind f.pw f.pn f.toA f.a f.b f.n f.fi f.fn f.ti f.tn ⟨sl_tr, f.tr.n, cl_tr⟩ f.ids f.key f.vn f.vw f.val f.op f.ttl f.tx) (by kernel_rfl) ?_
  intro w6 St
  replace kg2 := St.has (by omega) kg2
  replace H_tr := H_tr.apart St (fun ad ha => by obtain ⟨cur, hc9⟩ := H_tr.ty ha; exact ne_type hc9 kg1 (by decide))
  replace GG := GG.store St bg1
  replace kg1 := St.new
  clear St
  refine wpList_nil ?_
  refine then_n ?_
  refine wp_seq ?_
  refine wp_region_lit ?_
  have zg1 := kg1
  have zg2 := kg2
  have zH_tr := H_tr
  have zG := GG
  refine wpList_none 57 24 16 (fun _ => by kernel_rfl) 8 rfl rfl rfl ?_
  intro w7 gN G1 e1 HN
  simp only [Act.put, List.setIfInBounds_toArray, List.set_cons_zero, List.set_cons_succ]
  replace kg1 := G1.has kg1
  replace kg2 := G1.has kg2
  refine s_val 9 rfl rfl (.pointer (some ⟨g1, 57, none⟩)) (run_fld 64 _ 9 rfl _ _ rfl _ (by kernel_rfl)) ?_
  refine nr ?_; intro U h; simp only [z0, z1] at h; subst h
  refine s_val 10 rfl rfl (.slice f.ids.ao f.ids.n f.ids.cap) (run_ldc 57 _ rfl g1 57 rfl 64 _ kg1 (na57a _) _ rfl) ?_
  refine nr ?_; intro U h; simp only [z0, z1] at h; subst h
  refine wpList_appX iT29 11 rfl rfl _ _ rfl rfl HN rfl ((HF.ids.gro zG).gro G1) (by rw [Nat.zero_add]; exact HS.ids.out) (by decide) (by rw [← e1]; exact G1.size) ?_
  intro sl_ids cl_ids w8 H_ids B2
  rw [Nat.zero_add] at H_ids ⊢
  rw [List.nil_append] at H_ids
  simp only [Act.put, List.setIfInBounds_toArray, List.set_cons_zero, List.set_cons_succ]
  have G : Gro _ _ := below_trans G1 (B2.mono (by rw [← e1]; exact Nat.le_refl _))
  replace kg1 := G.has zg1
  replace kg2 := G.has zg2
  replace H_tr := zH_tr.gro G
  replace GG := zG.trans G
  replace H_ids := H_ids.mono (by rw [← e1]; exact zG.size)
  clear G zG HN e1 G1 B2 zg1 zg2 zH_tr
  refine s_val 12 rfl rfl (.pointer (some ⟨g1, 57, none⟩)) (run_fld 64 _ 9 rfl _ _ rfl _ (by kernel_rfl)) ?_
  refine nr ?_; intro U h; simp only [z0, z1] at h; subst h
  refine s_store rfl rfl 57 _ _ rfl g1 57 rfl (.slice sl_ids f.ids.n cl_ids) rfl 64 _ kg1 #[.slice sl_ids f.ids.n cl_ids] rfl (by kernel_rfl) (Nat.le_of_ble_eq_true rfl) (by kernel_rfl) (c64 f.kind f.pw f.pn f.toA f.a f.b f.n f.fi f.fn f.ti f.tn ⟨sl_tr, f.tr.n, cl_tr⟩ ⟨sl_ids, f.ids.n, cl_ids⟩ f.key f.vn f.vw f.val f.op f.ttl f.tx) (by kernel_rfl) ?_
  intro w10 St
  replace kg2 := St.has (by omega) kg2
  replace H_tr := H_tr.apart St (fun ad ha => by obtain ⟨cur, hc9⟩ := H_tr.ty ha; exact ne_type hc9 kg1 (by decide))
  replace H_ids := H_ids.apart St (fun ad ha => by obtain ⟨cur, hc9⟩ := H_ids.ty ha; exact ne_type hc9 kg1 (by decide))
  replace GG := GG.store St bg1
  replace kg1 := St.new
  clear St
  refine wpList_nil ?_
  refine then_n ?_
  refine wp_seq ?_
  refine wp_region_lit ?_
  have zg1 := kg1
  have zg2 := kg2
  have zH_tr := H_tr
  have zH_ids := H_ids
  have zG := GG
  refine wpList_none 60 5 1 (fun _ => by kernel_rfl) 13 rfl rfl rfl ?_
  intro w11 gN G1 e1 HN
  simp only [Act.put, List.setIfInBounds_toArray, List.set_cons_zero, List.set_cons_succ]
  replace kg1 := G1.has kg1
  replace kg2 := G1.has kg2
  refine s_val 14 rfl rfl (.pointer (some ⟨g1, 94, none⟩)) (run_fld 64 _ 13 rfl _ _ rfl _ (by kernel_rfl)) ?_
  refine nr ?_; intro U h; simp only [z0, z1] at h; subst h
  refine s_val 15 rfl rfl (.slice f.tx.ao f.tx.n f.tx.cap) (run_ldc 60 _ rfl g1 94 rfl 64 _ kg1 (na60 _) _ rfl) ?_
  refine nr ?_; intro U h; simp only [z0, z1] at h; subst h
  refine wpList_appX bX 16 rfl rfl _ _ rfl rfl HN rfl ((HF.tx.gro zG).gro G1) (by rw [Nat.zero_add]; exact HS.tx.out) (by decide) (by rw [← e1]; exact G1.size) ?_
  intro sl_tx cl_tx w12 H_tx B2
  rw [Nat.zero_add] at H_tx ⊢
  rw [List.nil_append] at H_tx
  simp only [Act.put, List.setIfInBounds_toArray, List.set_cons_zero, List.set_cons_succ]
  have G : Gro _ _ := below_trans G1 (B2.mono (by rw [← e1]; exact Nat.le_refl _))
  replace kg1 := G.has zg1
  replace kg2 := G.has zg2
  replace H_tr := zH_tr.gro G
  replace H_ids := zH_ids.gro G
  replace GG := zG.trans G
  replace H_tx := H_tx.mono (by rw [← e1]; exact zG.size)
  clear G zG HN e1 G1 B2 zg1 zg2 zH_tr zH_ids
  refine s_val 17 rfl rfl (.pointer (some ⟨g1, 94, none⟩)) (run_fld 64 _ 13 rfl _ _ rfl _ (by kernel_rfl)) ?_
  refine nr ?_; intro U h; simp only [z0, z1] at h; subst h
  refine s_store rfl rfl 60 _ _ rfl g1 94 rfl (.slice sl_tx f.tx.n cl_tx) rfl 64 _ kg1 #[.slice sl_tx f.tx.n cl_tx] rfl (by kernel_rfl) (Nat.le_of_ble_eq_true rfl) (by kernel_rfl) (c64 f.kind f.pw f.pn f.toA f.a f.b f.n f.fi f.fn f.ti f.tn ⟨sl_tr, f.tr.n, cl_tr⟩ ⟨sl_ids, f.ids.n, cl_ids⟩ f.key f.vn f.vw f.val f.op f.ttl ⟨sl_tx, f.tx.n, cl_tx⟩) (by kernel_rfl) ?_
  intro w14 St
  replace kg2 := St.has (by omega) kg2
  replace H_tr := H_tr.apart St (fun ad ha => by obtain ⟨cur, hc9⟩ := H_tr.ty ha; exact ne_type hc9 kg1 (by decide))
  replace H_ids := H_ids.apart St (fun ad ha => by obtain ⟨cur, hc9⟩ := H_ids.ty ha; exact ne_type hc9 kg1 (by decide))
  replace H_tx := H_tx.apart St (fun ad ha => by obtain ⟨cur, hc9⟩ := H_tx.ty ha; exact ne_type hc9 kg1 (by decide))
  replace GG := GG.store St bg1
  replace kg1 := St.new
  clear St
  refine wpList_nil ?_
  refine then_n ?_
  refine wp_seq ?_
  refine wp_region_lit ?_
  have zg1 := kg1
  have zg2 := kg2
  have zH_tr := H_tr
  have zH_ids := H_ids
  have zH_tx := H_tx
  have zG := GG
  refine wpList_none 60 5 1 (fun _ => by kernel_rfl) 18 rfl rfl rfl ?_
  intro w15 gN G1 e1 HN
  simp only [Act.put, List.setIfInBounds_toArray, List.set_cons_zero, List.set_cons_succ]
  replace kg1 := G1.has kg1
  replace kg2 := G1.has kg2
  refine s_val 19 rfl rfl (.pointer (some ⟨g1, 58, none⟩)) (run_fld 64 _ 10 rfl _ _ rfl _ (by kernel_rfl)) ?_
  refine nr ?_; intro U h; simp only [z0, z1] at h; subst h
  refine s_val 20 rfl rfl (.pointer (some ⟨g1, 91, none⟩)) (run_fld 62 _ 2 rfl _ _ rfl _ (by kernel_rfl)) ?_
  refine nr ?_; intro U h; simp only [z0, z1] at h; subst h
  refine s_val 21 rfl rfl (.slice f.val.ao f.val.n f.val.cap) (run_ldc 60 _ rfl g1 91 rfl 64 _ kg1 (na60 _) _ rfl) ?_
  refine nr ?_; intro U h; simp only [z0, z1] at h; subst h
  refine wpList_appX bX 22 rfl rfl _ _ rfl rfl HN rfl ((HF.val.gro zG).gro G1) (by rw [Nat.zero_add]; exact HS.val.out) (by decide) (by rw [← e1]; exact G1.size) ?_
  intro sl_val cl_val w16 H_val B2
  rw [Nat.zero_add] at H_val ⊢
  rw [List.nil_append] at H_val
  simp only [Act.put, List.setIfInBounds_toArray, List.set_cons_zero, List.set_cons_succ]
  have G : Gro _ _ := below_trans G1 (B2.mono (by rw [← e1]; exact Nat.le_refl _))
  replace kg1 := G.has zg1
  replace kg2 := G.has zg2
  replace H_tr := zH_tr.gro G
  replace H_ids := zH_ids.gro G
  replace H_tx := zH_tx.gro G
  replace GG := zG.trans G
  replace H_val := H_val.mono (by rw [← e1]; exact zG.size)
  clear G zG HN e1 G1 B2 zg1 zg2 zH_tr zH_ids zH_tx
  refine s_val 23 rfl rfl (.pointer (some ⟨g1, 58, none⟩)) (run_fld 64 _ 10 rfl _ _ rfl _ (by kernel_rfl)) ?_
  refine nr ?_; intro U h; simp only [z0, z1] at h; subst h
  refine s_val 24 rfl rfl (.pointer (some ⟨g1, 91, none⟩)) (run_fld 62 _ 2 rfl _ _ rfl _ (by kernel_rfl)) ?_
  refine nr ?_; intro U h; simp only [z0, z1] at h; subst h
  refine s_store rfl rfl 60 _ _ rfl g1 91 rfl (.slice sl_val f.val.n cl_val) rfl 64 _ kg1 #[.slice sl_val f.val.n cl_val] rfl (by kernel_rfl) (Nat.le_of_ble_eq_true rfl) (by kernel_rfl) (c64 f.kind f.pw f.pn f.toA f.a f.b f.n f.fi f.fn f.ti f.tn ⟨sl_tr, f.tr.n, cl_tr⟩ ⟨sl_ids, f.ids.n, cl_ids⟩ f.key f.vn f.vw ⟨sl_val, f.val.n, cl_val⟩ f.op f.ttl ⟨sl_tx, f.tx.n, cl_tx⟩) (by kernel_rfl) ?_
  intro w18 St
  replace kg2 := St.has (by omega) kg2
  replace H_tr := H_tr.apart St (fun ad ha => by obtain ⟨cur, hc9⟩ := H_tr.ty ha; exact ne_type hc9 kg1 (by decide))
  replace H_ids := H_ids.apart St (fun ad ha => by obtain ⟨cur, hc9⟩ := H_ids.ty ha; exact ne_type hc9 kg1 (by decide))
  replace H_tx := H_tx.apart St (fun ad ha => by obtain ⟨cur, hc9⟩ := H_tx.ty ha; exact ne_type hc9 kg1 (by decide))
  replace H_val := H_val.apart St (fun ad ha => by obtain ⟨cur, hc9⟩ := H_val.ty ha; exact ne_type hc9 kg1 (by decide))
  replace GG := GG.store St bg1
  replace kg1 := St.new
  clear St
  refine wpList_nil ?_
  refine then_n ?_
  refine wp_seq ?_
  refine wp_region_lit ?_
  refine s_val 25 rfl rfl (.agg (c64 f.kind f.pw f.pn f.toA f.a f.b f.n f.fi f.fn f.ti f.tn ⟨sl_tr, f.tr.n, cl_tr⟩ ⟨sl_ids, f.ids.n, cl_ids⟩ f.key f.vn f.vw ⟨sl_val, f.val.n, cl_val⟩ f.op f.ttl ⟨sl_tx, f.tx.n, cl_tx⟩)) (run_lda 64 _ rfl g1 0 95 rfl 64 _ kg1 _ Try.underlying64 rfl si64 (Nat.le_of_ble_eq_true rfl) _ (by kernel_rfl)) ?_
  refine nr ?_; intro U h; simp only [z0, z1] at h; subst h
  refine s_store rfl rfl 64 _ _ rfl g2 0 rfl (.agg (c64 f.kind f.pw f.pn f.toA f.a f.b f.n f.fi f.fn f.ti f.tn ⟨sl_tr, f.tr.n, cl_tr⟩ ⟨sl_ids, f.ids.n, cl_ids⟩ f.key f.vn f.vw ⟨sl_val, f.val.n, cl_val⟩ f.op f.ttl ⟨sl_tx, f.tx.n, cl_tx⟩)) rfl 64 _ kg2 (c64 f.kind f.pw f.pn f.toA f.a f.b f.n f.fi f.fn f.ti f.tn ⟨sl_tr, f.tr.n, cl_tr⟩ ⟨sl_ids, f.ids.n, cl_ids⟩ f.key f.vn f.vw ⟨sl_val, f.val.n, cl_val⟩ f.op f.ttl ⟨sl_tx, f.tx.n, cl_tx⟩) rfl (by kernel_rfl) (Nat.le_of_ble_eq_true rfl) (by kernel_rfl) (c64 f.kind f.pw f.pn f.toA f.a f.b f.n f.fi f.fn f.ti f.tn ⟨sl_tr, f.tr.n, cl_tr⟩ ⟨sl_ids, f.ids.n, cl_ids⟩ f.key f.vn f.vw ⟨sl_val, f.val.n, cl_val⟩ f.op f.ttl ⟨sl_tx, f.tx.n, cl_tx⟩) (by kernel_rfl) ?_
  intro w20 St
  replace kg1 := St.has (by omega) kg1
  replace H_tr := H_tr.apart St (fun ad ha => by obtain ⟨cur, hc9⟩ := H_tr.ty ha; exact ne_type hc9 kg2 (by decide))
  replace H_ids := H_ids.apart St (fun ad ha => by obtain ⟨cur, hc9⟩ := H_ids.ty ha; exact ne_type hc9 kg2 (by decide))
  replace H_tx := H_tx.apart St (fun ad ha => by obtain ⟨cur, hc9⟩ := H_tx.ty ha; exact ne_type hc9 kg2 (by decide))
  replace H_val := H_val.apart St (fun ad ha => by obtain ⟨cur, hc9⟩ := H_val.ty ha; exact ne_type hc9 kg2 (by decide))
  replace GG := GG.store St bg2
  replace kg2 := St.new
  clear St
  refine wpList_nil ?_
  refine then_n ?_
  refine wp_ret ?_
  refine bodyPost_ret (results_cell_row Try.results15 _ _ g2 64 _ (0, 0) _ rfl kg2 Try.underlying64 rfl (by kernel_rfl)) rfl ?_
  exact ⟨⟨sl_tr, f.tr.n, cl_tr⟩, ⟨sl_ids, f.ids.n, cl_ids⟩, ⟨sl_val, f.val.n, cl_val⟩, ⟨sl_tx, f.tx.n, cl_tx⟩, rfl, ⟨H_tr, H_ids, H_val, H_tx, HF.oids, HF.oval, HF.otx⟩, GG⟩
section
open Go.ChangeShapes Go.WideShapes Go.ChangeAt Go.RowKit
variable {H : Type} {enc : TypeId × Value → H} {w : World} {base : Nat} {spare : Nat → Bool} {held : Bool}
theorem tr_seg8 {fuel : Nat} {cs : List Value} {x : DataW H × List MemPlace} (h : DataW.trod enc Try.prog w base spare held fuel 32 cs = some x) :
    ∃ (s : Sl) (l : List Int), cs = [.slice s.ao s.n s.cap] ∧ XC w 1 s.ao s.cap s.n (l.map (Value.int .i64 ·)) ∧ ∀ m, (∀ y ∈ x.1.weights Try.prog 32, y ≤ m) → l.length * 8 ≤ m := by
  rcases open_ints Try.underlying32 Try.underlying3 ck3 h with ⟨hcs, hx⟩ | ⟨a, len, cap, zs, hcs, _, hl, hm, hz, hx, hcell, hwz⟩
  · exact ⟨Sl.nil, [], hcs, XC.nil _ _, fun m _ => by simp⟩
  · have hle : len ≤ zs.length := by rw [hz]; split <;> omega
    have hlen : (zs.take len).length = len := by simp; omega
    refine ⟨⟨some a, len, cap⟩, zs.take len, hcs, ⟨by simp; omega, hl, fun h => by (cases h), fun ad ha j v hv => ?_, fun v hv => ?_⟩, fun m hm2 => ?_⟩
    · cases ha
      rw [List.getElem?_map] at hv
      have hj : j < len := by
        cases hq : decide (j < len)
        · rw [List.getElem?_eq_none (by have := of_decide_eq_false hq; omega)] at hv
          cases hv
        · exact of_decide_eq_true hq
      rw [List.getElem?_take, if_pos hj, List.getElem?_eq_getElem (by omega)] at hv
      rw [hcell j (by omega), List.getD_eq_getElem?_getD, List.getElem?_eq_getElem (by omega)]
      simpa using hv
    · obtain ⟨z, _, rfl⟩ := List.mem_map.1 hv
      rfl
    · have := hm2 (((lits .i64 (zs.take len)).length + (lits .i64 (zs.drop len)).length) * Try.prog.bytesOf 3) (by
        rw [hx, DataW.weights, Try.underlying32]
        exact List.mem_cons_self)
      rw [bk3] at this
      have h2 : (lits (H := H) .i64 (zs.take len)).length = len := by simp [lits]; omega
      rw [h2] at this
      rw [hlen]
      omega
theorem row_seg8 {fuel : Nat} {cs : List Value} {x : DataW H × List MemPlace} (h : DataW.trod enc Try.prog w base spare held fuel 60 cs = some x) :
    ∃ (s : Sl) (l : List Nat), cs = [.slice s.ao s.n s.cap] ∧ XC w 1 s.ao s.cap s.n (bL l) ∧ (∀ y ∈ l, y < 256) ∧ ∀ m, (∀ y ∈ x.1.weights Try.prog 60, y ≤ m) → l.length ≤ m := by
  obtain ⟨ao, cap, l, e, nc, _, ha⟩ := open_row bT cells5 rfl h
  refine ⟨⟨ao, l.length, cap⟩, l, e, nc.xc, nc.lt256, fun m hm => ?_⟩
  rcases ha with ⟨_, rfl⟩ | ⟨el, sp, hd, hl⟩
  · simp
  · have := hm ((el.length + sp.length) * Try.prog.bytesOf 5) (by
      rw [hd, DataW.weights, Try.underlying60]
      exact List.mem_cons_self)
    rw [bytes5] at this
    omega
theorem ids_seg8 {fuel : Nat} {cs : List Value} {x : DataW H × List MemPlace} (h : DataW.trod enc Try.prog w base spare held fuel 57 cs = some x) :
    ∃ (s : Sl) (l : List (List Nat)), cs = [.slice s.ao s.n s.cap] ∧ XC w 16 s.ao s.cap s.n (cellsIa l) ∧ ok16 l ∧ ∀ m, (∀ y ∈ x.1.weights Try.prog 57, y ≤ m) → l.length * 16 ≤ m := by
  rcases DataW.trod_slice Try.underlying57 h with ⟨hcs, hx⟩ | ⟨a, len, cap, elems, rest, n, _, hcs, hx, _, hl, _, hel, hei, _, _⟩
  · exact ⟨Sl.nil, [], hcs, XC.nil _ _, fun x hx => by (cases hx), fun m _ => by simp⟩
  · rw [cells24] at hei
    have each : ∀ i, ∃ y : Nat → Nat, i < len → okI y ∧ ∀ r, r < 16 → w.cell? (a.add (i * 16 + r)) = (bL (idL y))[r]? := by
      intro i
      by_cases hi : i < len
      · have h1 := hei i hi
        rw [List.getElem?_eq_getElem (by omega)] at h1
        cases hc : w.cells? base (a.add (i * 16)) 16 with
        | none => rw [hc] at h1; cases h1
        | some cs2 =>
          rw [hc] at h1
          obtain ⟨y, e, hy⟩ := id_seg (show DataW.trod enc Try.prog w base spare held n 24 cs2 = some elems[i] from h1)
          refine ⟨y, fun _ => ⟨hy, fun r hr => ?_⟩⟩
          have := (World.cells?_some hc).2.2 r hr
          rw [add_add, e] at this
          exact this
      · exact ⟨fun _ => 0, fun h => absurd h hi⟩
    obtain ⟨F, hF⟩ := Classical.axiomOfChoice each
    have hlen : ((List.range len).map fun i => idL (F i)).length = len := by simp
    have hok : ok16 ((List.range len).map fun i => idL (F i)) := fun x hx => by
      obtain ⟨i, hi, rfl⟩ := List.mem_map.1 hx
      exact ⟨idL_len _, idL_lt (hF i (List.mem_range.1 hi)).1⟩
    refine ⟨⟨some a, len, cap⟩, (List.range len).map fun i => idL (F i), hcs, ⟨?_, hl, fun h => by (cases h), fun ad ha j v hv => ?_, fun v hv => ?_⟩, hok, fun m hm => ?_⟩
    · rw [cellsI_len hok, hlen]
    · cases ha
      have hj : j < len * 16 := by
        have := (List.getElem?_eq_some_iff.1 hv).1
        rwa [cellsI_len hok, hlen] at this
      have h3 := cellsI_at _ (j / 16) hok (by rw [hlen]; omega)
      have h4 : ((List.range len).map fun i => idL (F i)).getD (j / 16) [] = idL (F (j / 16)) := by
        simp [List.getD_eq_getElem?_getD, show j / 16 < len by omega]
      rw [h4] at h3
      have h5 := (hF (j / 16) (by omega)).2 (j % 16) (Nat.mod_lt _ (by decide))
      rw [← h3, List.getElem?_take, if_pos (Nat.mod_lt _ (by decide)), List.getElem?_drop, show j / 16 * 16 + j % 16 = j by omega, hv] at h5
      exact h5
    · obtain ⟨x, _, hx2⟩ := List.mem_flatMap.1 hv
      obtain ⟨r, _, rfl⟩ := List.mem_map.1 hx2
      rfl
    · have hd2 : x.1 = .slice (elems.map (·.1)) (rest.map (·.1)) := congrArg Prod.fst hx
      have := hm ((elems.length + rest.length) * Try.prog.bytesOf 24) (by
        rw [hd2, DataW.weights, Try.underlying57]
        simp)
      rw [bk23] at this
      rw [hlen]
      omega
set_option maxRecDepth 100000 in
theorem fr_of_trod8 {fuel : Nat} {cs : List Value} {x : DataW H × List MemPlace} (h : DataW.trod enc Try.prog w base spare held fuel 64 cs = some x) :
    ∃ (f : Fr) (d : FD), cs = (frA f).toList ∧ FrW w f d ∧ FrR f ∧ ∀ m, (∀ y ∈ x.1.weights Try.prog 64, y ≤ m) → d.tr.length * 8 ≤ m ∧ d.ids.length * 16 ≤ m ∧ d.val.length ≤ m ∧ d.tx.length ≤ m := by
  obtain ⟨xs, n, _, hx, hl, hxl, hf⟩ := DataW.trod_struct Try.underlying64 h
  have hxl : xs.length = 14 := hxl
  rw [ck36] at hl
  obtain ⟨x0, hx0⟩ : ∃ y, xs[0]? = some y := ⟨_, List.getElem?_eq_getElem (by omega)⟩
  have g0 : DataW.trod enc Try.prog w base spare held n 3 ((cs.drop 0).take (Try.prog.cellsOf 3)) = some x0 := by rw [← hx0]; exact hf 0 _ rfl
  rw [ck3] at g0
  obtain ⟨x1, hx1⟩ : ∃ y, xs[1]? = some y := ⟨_, List.getElem?_eq_getElem (by omega)⟩
  have g1 : DataW.trod enc Try.prog w base spare held n 31 ((cs.drop 1).take (Try.prog.cellsOf 31)) = some x1 := by rw [← hx1]; exact hf 1 _ rfl
  rw [ck25] at g1
  obtain ⟨x2, hx2⟩ : ∃ y, xs[2]? = some y := ⟨_, List.getElem?_eq_getElem (by omega)⟩
  have g2 : DataW.trod enc Try.prog w base spare held n 4 ((cs.drop 18).take (Try.prog.cellsOf 4)) = some x2 := by rw [← hx2]; exact hf 2 _ rfl
  rw [ck4] at g2
  obtain ⟨x3, hx3⟩ : ∃ y, xs[3]? = some y := ⟨_, List.getElem?_eq_getElem (by omega)⟩
  have g3 : DataW.trod enc Try.prog w base spare held n 24 ((cs.drop 19).take (Try.prog.cellsOf 24)) = some x3 := by rw [← hx3]; exact hf 3 _ rfl
  rw [cells24] at g3
  obtain ⟨x4, hx4⟩ : ∃ y, xs[4]? = some y := ⟨_, List.getElem?_eq_getElem (by omega)⟩
  have g4 : DataW.trod enc Try.prog w base spare held n 24 ((cs.drop 35).take (Try.prog.cellsOf 24)) = some x4 := by rw [← hx4]; exact hf 4 _ rfl
  rw [cells24] at g4
  obtain ⟨x5, hx5⟩ : ∃ y, xs[5]? = some y := ⟨_, List.getElem?_eq_getElem (by omega)⟩
  have g5 : DataW.trod enc Try.prog w base spare held n 2 ((cs.drop 51).take (Try.prog.cellsOf 2)) = some x5 := by rw [← hx5]; exact hf 5 _ rfl
  rw [ck2] at g5
  obtain ⟨x6, hx6⟩ : ∃ y, xs[6]? = some y := ⟨_, List.getElem?_eq_getElem (by omega)⟩
  have g6 : DataW.trod enc Try.prog w base spare held n 56 ((cs.drop 52).take (Try.prog.cellsOf 56)) = some x6 := by rw [← hx6]; exact hf 6 _ rfl
  rw [ck27] at g6
  obtain ⟨x7, hx7⟩ : ∃ y, xs[7]? = some y := ⟨_, List.getElem?_eq_getElem (by omega)⟩
  have g7 : DataW.trod enc Try.prog w base spare held n 56 ((cs.drop 54).take (Try.prog.cellsOf 56)) = some x7 := by rw [← hx7]; exact hf 7 _ rfl
  rw [ck27] at g7
  obtain ⟨x8, hx8⟩ : ∃ y, xs[8]? = some y := ⟨_, List.getElem?_eq_getElem (by omega)⟩
  have g8 : DataW.trod enc Try.prog w base spare held n 32 ((cs.drop 56).take (Try.prog.cellsOf 32)) = some x8 := by rw [← hx8]; exact hf 8 _ rfl
  rw [ck28] at g8
  obtain ⟨x9, hx9⟩ : ∃ y, xs[9]? = some y := ⟨_, List.getElem?_eq_getElem (by omega)⟩
  have g9 : DataW.trod enc Try.prog w base spare held n 57 ((cs.drop 57).take (Try.prog.cellsOf 57)) = some x9 := by rw [← hx9]; exact hf 9 _ rfl
  rw [ck29] at g9
  obtain ⟨x10, hx10⟩ : ∃ y, xs[10]? = some y := ⟨_, List.getElem?_eq_getElem (by omega)⟩
  have g10 : DataW.trod enc Try.prog w base spare held n 62 ((cs.drop 58).take (Try.prog.cellsOf 62)) = some x10 := by rw [← hx10]; exact hf 10 _ rfl
  rw [ck34] at g10
  obtain ⟨x11, hx11⟩ : ∃ y, xs[11]? = some y := ⟨_, List.getElem?_eq_getElem (by omega)⟩
  have g11 : DataW.trod enc Try.prog w base spare held n 3 ((cs.drop 92).take (Try.prog.cellsOf 3)) = some x11 := by rw [← hx11]; exact hf 11 _ rfl
  rw [ck3] at g11
  obtain ⟨x12, hx12⟩ : ∃ y, xs[12]? = some y := ⟨_, List.getElem?_eq_getElem (by omega)⟩
  have g12 : DataW.trod enc Try.prog w base spare held n 3 ((cs.drop 93).take (Try.prog.cellsOf 3)) = some x12 := by rw [← hx12]; exact hf 12 _ rfl
  rw [ck3] at g12
  obtain ⟨x13, hx13⟩ : ∃ y, xs[13]? = some y := ⟨_, List.getElem?_eq_getElem (by omega)⟩
  have g13 : DataW.trod enc Try.prog w base spare held n 60 ((cs.drop 94).take (Try.prog.cellsOf 60)) = some x13 := by rw [← hx13]; exact hf 13 _ rfl
  rw [ck32] at g13
  obtain ⟨zkind, qkind, bkind⟩ := int_seg Try.underlying3 g0
  obtain ⟨xs1_, n1_, _, _, _, hxl1_, hf1_⟩ := DataW.trod_struct Try.underlying31 g1
  have hxl1_ : xs1_.length = 2 := hxl1_
  obtain ⟨x1_0, hx1_0⟩ : ∃ y, xs1_[0]? = some y := ⟨_, List.getElem?_eq_getElem (by omega)⟩
  have g1_0 : DataW.trod enc Try.prog w base spare held n1_ 24 ((((cs.drop 1).take 17).drop 0).take (Try.prog.cellsOf 24)) = some x1_0 := by rw [← hx1_0]; exact hf1_ 0 _ rfl
  rw [cells24, subSeg _ _ _ _ _ (by decide)] at g1_0
  obtain ⟨x1_1, hx1_1⟩ : ∃ y, xs1_[1]? = some y := ⟨_, List.getElem?_eq_getElem (by omega)⟩
  have g1_1 : DataW.trod enc Try.prog w base spare held n1_ 2 ((((cs.drop 1).take 17).drop 16).take (Try.prog.cellsOf 2)) = some x1_1 := by rw [← hx1_1]; exact hf1_ 1 _ rfl
  rw [ck2, subSeg _ _ _ _ _ (by decide)] at g1_1
  obtain ⟨zpw, qpw, bpw⟩ := id_seg g1_0
  obtain ⟨zpn, qpn, bpn⟩ := int_seg Try.underlying2 g1_1
  obtain ⟨ztoA, qtoA, _⟩ := DataW.trod_bool Try.underlying4 g2
  obtain ⟨za, qa, ba⟩ := id_seg g3
  obtain ⟨zb, qb, bb⟩ := id_seg g4
  obtain ⟨zn, qn, bn⟩ := int_seg Try.underlying2 g5
  obtain ⟨xs6_, n6_, _, _, _, hxl6_, hf6_⟩ := DataW.trod_struct Try.underlying56 g6
  have hxl6_ : xs6_.length = 2 := hxl6_
  obtain ⟨x6_0, hx6_0⟩ : ∃ y, xs6_[0]? = some y := ⟨_, List.getElem?_eq_getElem (by omega)⟩
  have g6_0 : DataW.trod enc Try.prog w base spare held n6_ 2 ((((cs.drop 52).take 2).drop 0).take (Try.prog.cellsOf 2)) = some x6_0 := by rw [← hx6_0]; exact hf6_ 0 _ rfl
  rw [ck2, subSeg _ _ _ _ _ (by decide)] at g6_0
  obtain ⟨x6_1, hx6_1⟩ : ∃ y, xs6_[1]? = some y := ⟨_, List.getElem?_eq_getElem (by omega)⟩
  have g6_1 : DataW.trod enc Try.prog w base spare held n6_ 2 ((((cs.drop 52).take 2).drop 1).take (Try.prog.cellsOf 2)) = some x6_1 := by rw [← hx6_1]; exact hf6_ 1 _ rfl
  rw [ck2, subSeg _ _ _ _ _ (by decide)] at g6_1
  obtain ⟨zfi, qfi, bfi⟩ := int_seg Try.underlying2 g6_0
  obtain ⟨zfn, qfn, bfn⟩ := int_seg Try.underlying2 g6_1
  obtain ⟨xs7_, n7_, _, _, _, hxl7_, hf7_⟩ := DataW.trod_struct Try.underlying56 g7
  have hxl7_ : xs7_.length = 2 := hxl7_
  obtain ⟨x7_0, hx7_0⟩ : ∃ y, xs7_[0]? = some y := ⟨_, List.getElem?_eq_getElem (by omega)⟩
  have g7_0 : DataW.trod enc Try.prog w base spare held n7_ 2 ((((cs.drop 54).take 2).drop 0).take (Try.prog.cellsOf 2)) = some x7_0 := by rw [← hx7_0]; exact hf7_ 0 _ rfl
  rw [ck2, subSeg _ _ _ _ _ (by decide)] at g7_0
  obtain ⟨x7_1, hx7_1⟩ : ∃ y, xs7_[1]? = some y := ⟨_, List.getElem?_eq_getElem (by omega)⟩
  have g7_1 : DataW.trod enc Try.prog w base spare held n7_ 2 ((((cs.drop 54).take 2).drop 1).take (Try.prog.cellsOf 2)) = some x7_1 := by rw [← hx7_1]; exact hf7_ 1 _ rfl
  rw [ck2, subSeg _ _ _ _ _ (by decide)] at g7_1
  obtain ⟨zti, qti, bti⟩ := int_seg Try.underlying2 g7_0
  obtain ⟨ztn, qtn, btn⟩ := int_seg Try.underlying2 g7_1
  obtain ⟨str, ltr, qtr, xtr, wtr⟩ := tr_seg8 g8
  obtain ⟨sids, lids, qids, xids, oids, wids⟩ := ids_seg8 g9
  obtain ⟨xs10_, n10_, _, hx10s, _, hxl10_, hf10_⟩ := DataW.trod_struct Try.underlying62 g10
  have hxl10_ : xs10_.length = 3 := hxl10_
  obtain ⟨x10_0, hx10_0⟩ : ∃ y, xs10_[0]? = some y := ⟨_, List.getElem?_eq_getElem (by omega)⟩
  have g10_0 : DataW.trod enc Try.prog w base spare held n10_ 24 ((((cs.drop 58).take 34).drop 0).take (Try.prog.cellsOf 24)) = some x10_0 := by rw [← hx10_0]; exact hf10_ 0 _ rfl
  rw [cells24, subSeg _ _ _ _ _ (by decide)] at g10_0
  obtain ⟨x10_1, hx10_1⟩ : ∃ y, xs10_[1]? = some y := ⟨_, List.getElem?_eq_getElem (by omega)⟩
  have g10_1 : DataW.trod enc Try.prog w base spare held n10_ 59 ((((cs.drop 58).take 34).drop 16).take (Try.prog.cellsOf 59)) = some x10_1 := by rw [← hx10_1]; exact hf10_ 1 _ rfl
  rw [ck31, subSeg _ _ _ _ _ (by decide)] at g10_1
  obtain ⟨x10_2, hx10_2⟩ : ∃ y, xs10_[2]? = some y := ⟨_, List.getElem?_eq_getElem (by omega)⟩
  have g10_2 : DataW.trod enc Try.prog w base spare held n10_ 60 ((((cs.drop 58).take 34).drop 33).take (Try.prog.cellsOf 60)) = some x10_2 := by rw [← hx10_2]; exact hf10_ 2 _ rfl
  rw [ck32, subSeg _ _ _ _ _ (by decide)] at g10_2
  obtain ⟨zkey, qkey, bkey⟩ := id_seg g10_0
  obtain ⟨xs10_1_, n10_1_, _, _, _, hxl10_1_, hf10_1_⟩ := DataW.trod_struct Try.underlying59 g10_1
  have hxl10_1_ : xs10_1_.length = 2 := hxl10_1_
  obtain ⟨x10_1_0, hx10_1_0⟩ : ∃ y, xs10_1_[0]? = some y := ⟨_, List.getElem?_eq_getElem (by omega)⟩
  have g10_1_0 : DataW.trod enc Try.prog w base spare held n10_1_ 2 ((((cs.drop (58 + 16)).take 17).drop 0).take (Try.prog.cellsOf 2)) = some x10_1_0 := by rw [← hx10_1_0]; exact hf10_1_ 0 _ rfl
  rw [ck2, subSeg _ _ _ _ _ (by decide)] at g10_1_0
  obtain ⟨x10_1_1, hx10_1_1⟩ : ∃ y, xs10_1_[1]? = some y := ⟨_, List.getElem?_eq_getElem (by omega)⟩
  have g10_1_1 : DataW.trod enc Try.prog w base spare held n10_1_ 24 ((((cs.drop (58 + 16)).take 17).drop 1).take (Try.prog.cellsOf 24)) = some x10_1_1 := by rw [← hx10_1_1]; exact hf10_1_ 1 _ rfl
  rw [cells24, subSeg _ _ _ _ _ (by decide)] at g10_1_1
  obtain ⟨zvn, qvn, bvn⟩ := int_seg Try.underlying2 g10_1_0
  obtain ⟨zvw, qvw, bvw⟩ := id_seg g10_1_1
  obtain ⟨sval, lval, qval, xval, oval, wval⟩ := row_seg8 g10_2
  obtain ⟨zop, qop, bop⟩ := int_seg Try.underlying3 g11
  obtain ⟨zttl, qttl, bttl⟩ := int_seg Try.underlying3 g12
  obtain ⟨stx, ltx, qtx, xtx, otx, wtx⟩ := row_seg8 g13
  refine ⟨⟨zkind, zpw, zpn, ztoA, za, zb, zn, zfi, zfn, zti, ztn, str, sids, zkey, zvn, zvw, sval, zop, zttl, stx⟩, ⟨ltr, lids, lval, ltx⟩, ?_, ⟨xtr, xids, xval, xtx, oids, oval, otx⟩, ⟨bpw, ba, bb, bkey, bvw, bpn, bn, bfi, bfn, bti, btn, bvn, bop, bttl⟩, fun m hm => ⟨wtr m fun y hy => hm y ?_, wids m fun y hy => hm y ?_, wval m fun y hy => hm y ?_, wtx m fun y hy => hm y ?_⟩⟩
  · have e0 : cs = cs.drop 0 := rfl
    have s_kind : cs.drop 0 = [.int .i64 zkind] ++ cs.drop 1 := nextSeg qkind rfl
    have s_pw : cs.drop 1 = bL (idL zpw) ++ cs.drop 17 := nextSeg qpw rfl
    have s_pn : cs.drop 17 = [.int .i64 zpn] ++ cs.drop 18 := nextSeg qpn rfl
    have s_toA : cs.drop 18 = [.bool ztoA] ++ cs.drop 19 := nextSeg qtoA rfl
    have s_a : cs.drop 19 = bL (idL za) ++ cs.drop 35 := nextSeg qa rfl
    have s_b : cs.drop 35 = bL (idL zb) ++ cs.drop 51 := nextSeg qb rfl
    have s_n : cs.drop 51 = [.int .i64 zn] ++ cs.drop 52 := nextSeg qn rfl
    have s_fi : cs.drop 52 = [.int .i64 zfi] ++ cs.drop 53 := nextSeg qfi rfl
    have s_fn : cs.drop 53 = [.int .i64 zfn] ++ cs.drop 54 := nextSeg qfn rfl
    have s_ti : cs.drop 54 = [.int .i64 zti] ++ cs.drop 55 := nextSeg qti rfl
    have s_tn : cs.drop 55 = [.int .i64 ztn] ++ cs.drop 56 := nextSeg qtn rfl
    have s_tr : cs.drop 56 = [.slice str.ao str.n str.cap] ++ cs.drop 57 := nextSeg qtr rfl
    have s_ids : cs.drop 57 = [.slice sids.ao sids.n sids.cap] ++ cs.drop 58 := nextSeg qids rfl
    have s_key : cs.drop 58 = bL (idL zkey) ++ cs.drop 74 := nextSeg qkey rfl
    have s_vn : cs.drop 74 = [.int .i64 zvn] ++ cs.drop 75 := nextSeg qvn rfl
    have s_vw : cs.drop 75 = bL (idL zvw) ++ cs.drop 91 := nextSeg qvw rfl
    have s_val : cs.drop 91 = [.slice sval.ao sval.n sval.cap] ++ cs.drop 92 := nextSeg qval rfl
    have s_op : cs.drop 92 = [.int .i64 zop] ++ cs.drop 93 := nextSeg qop rfl
    have s_ttl : cs.drop 93 = [.int .i64 zttl] ++ cs.drop 94 := nextSeg qttl rfl
    have s_tx : cs.drop 94 = [.slice stx.ao stx.n stx.cap] ++ cs.drop 95 := nextSeg qtx rfl
    have s_end : cs.drop 95 = [] := List.drop_of_length_le (by omega)
    rw [e0, s_kind, s_pw, s_pn, s_toA, s_a, s_b, s_n, s_fi, s_fn, s_ti, s_tn, s_tr, s_ids, s_key, s_vn, s_vw, s_val, s_op, s_ttl, s_tx, s_end]
    rfl
  · rw [hx]
    show _ ∈ DataW.weights Try.prog 64 (.agg (xs.map (·.1)))
    rw [DataW.weights, Try.underlying64]
    exact DataW.weights_mem_each (j := 8) (t := 32) (d := x8.1) rfl (by rw [List.getElem?_map, hx8]; rfl) _ hy
  · rw [hx]
    show _ ∈ DataW.weights Try.prog 64 (.agg (xs.map (·.1)))
    rw [DataW.weights, Try.underlying64]
    exact DataW.weights_mem_each (j := 9) (t := 57) (d := x9.1) rfl (by rw [List.getElem?_map, hx9]; rfl) _ hy
  · rw [hx]
    show _ ∈ DataW.weights Try.prog 64 (.agg (xs.map (·.1)))
    rw [DataW.weights, Try.underlying64]
    refine DataW.weights_mem_each (j := 10) (t := 62) (d := x10.1) rfl (by rw [List.getElem?_map, hx10]; rfl) _ ?_
    rw [hx10s]
    show _ ∈ DataW.weights Try.prog 62 (.agg (xs10_.map (·.1)))
    rw [DataW.weights, Try.underlying62]
    exact DataW.weights_mem_each (j := 2) (t := 60) (d := x10_2.1) rfl (by rw [List.getElem?_map, hx10_2]; rfl) _ hy
  · rw [hx]
    show _ ∈ DataW.weights Try.prog 64 (.agg (xs.map (·.1)))
    rw [DataW.weights, Try.underlying64]
    exact DataW.weights_mem_each (j := 13) (t := 60) (d := x13.1) rfl (by rw [List.getElem?_map, hx13]; rfl) _ hy
end
end Go.Proofs.Ytkjnefgenffhcaa
