/- A nil book. -/
import Derived.Test.YtjahegiopigblaaGC8
import Derived.Test.YtjahegiopigblaaGC6
namespace Go.Proofs.Ytjahegiopigblaa
open Go.RowKit
theorem bdV1 (w : World) : (Instr.build 39 #[(0, .int .i64 1)]).run Try.prog w = .ok (.agg (veA (mkV 1 0))) w := by kernel_rfl
set_option maxRecDepth 100000 in
set_option maxHeartbeats 4000000 in
theorem copiesNil_any (x : Nat) (mo : Option Addr) (mc : Nat) (its : List IM) (w : World) (hx : x < top) : Calls Try.prog 8 #[.agg (idA x), .slice mo its.length mc] w (fun e w' => e = .returned (.bool true) ∧ Gro w w') := by
  refine s_enter Try.func8 rfl Try.ntmps8 [.agg (idA x), .slice mo its.length mc] [.agg (idA x), .slice mo its.length mc, undef, undef, undef, undef, undef, undef, undef, undef, undef, undef, undef, undef, undef, undef, undef, undef, undef, undef, undef, undef, undef, undef, undef, undef, undef] rfl ?_
  have GG := Gro.refl w
  refine wp_seq ?_
  refine wp_region_lit ?_
  refine s_box 2 rfl rfl 23 _ rfl _ rfl (idA x) rfl ?_
  intro w1 g1 G eg1 kg1
  have bg1 := size_base GG eg1
  replace GG := GG.trans G
  clear G
  clear eg1
  refine nr ?_; intro U h; simp only [z0, z1] at h; subst h
  refine s_val 4 rfl rfl (.bool false) (rfl) ?_
  refine nr ?_; intro U h; simp only [z0, z1] at h; subst h
  refine wpList_nil ?_
  refine then_n ?_
  refine wp_seq ?_
  refine wp_region_lit ?_
  refine s_val 5 rfl rfl (.pointer none) (rfl) ?_
  refine nr ?_; intro U h; simp only [z0, z1] at h; subst h
  refine wpList_nil ?_
  refine then_n ?_
  refine wp_seq ?_
  refine wp_region_lit ?_
  refine s_val 6 rfl rfl (.pointer none) (rfl) ?_
  refine nr ?_; intro U h; simp only [z0, z1] at h; subst h
  refine s_val 7 rfl rfl (.agg (idA x)) (ldI0 _ rfl g1 rfl (kg1)) ?_
  refine nr ?_; intro U h; simp only [z0, z1] at h; subst h
  refine s_val 8 rfl rfl (.agg (idA x)) (ldI0 _ rfl g1 rfl (kg1)) ?_
  refine nr ?_; intro U h; simp only [z0, z1] at h; subst h
  refine s_val 9 rfl rfl (.agg (veA (mkV 1 0))) (run_bd 39 _ rfl [(0, .int .i64 1)] rfl _ (bdV1 _)) ?_
  refine nr ?_; intro U h; simp only [z0, z1] at h; subst h
  refine s_callv 10 rfl rfl _ 19 Try.call19 rfl rfl _ rfl [.pointer none, .agg (idA x), .agg (idA x), .agg (veA (mkV 1 0))] rfl (mark_nil x x (mkV 1 0) _) ?_
  intro w2 G
  replace kg1 := G.has kg1
  replace GG := GG.trans G
  clear G
  refine nr ?_; intro U h; simp only [z0, z1] at h; subst h
  refine wpList_nil ?_
  refine then_n ?_
  refine wp_seq ?_
  refine wp_region_lit ?_
  refine s_val 11 rfl rfl (.pointer none) (rfl) ?_
  refine nr ?_; intro U h; simp only [z0, z1] at h; subst h
  refine s_val 12 rfl rfl (.agg (idA x)) (ldI0 _ rfl g1 rfl (kg1)) ?_
  refine nr ?_; intro U h; simp only [z0, z1] at h; subst h
  refine s_bsl 13 rfl rfl 24 1 _ rfl [(0, .agg (idA x))] rfl ([x].flatMap kI.E).toArray 23 (bsI _ _) ?_
  intro w3 qHB G eqHB kqHB
  have bqHB := size_base GG eqHB
  replace kg1 := G.has kg1
  replace GG := GG.trans G
  clear G
  have HB : RK kI w3 (some ⟨qHB, 0, none⟩) 1 [x] := RK.blk kqHB (one_all hx) (Nat.le_refl _)
  clear eqHB kqHB
  refine nr ?_; intro U h; simp only [z0, z1] at h; subst h
  refine s_callv 14 rfl rfl _ 21 Try.call21 rfl rfl _ rfl [.pointer none, .slice (some ⟨qHB, 0, none⟩) 1 1] rfl (retain_nil _ 1 [x] _) ?_
  intro w4 G
  replace kg1 := G.has kg1
  replace HB := HB.gro G
  replace GG := GG.trans G
  clear G
  refine nr ?_; intro U h; simp only [z0, z1] at h; subst h
  refine wpList_nil ?_
  refine then_n ?_
  refine wp_seq ?_
  refine wp_region_exA (A := ?Ax5) 11 [(0, 15), (1, 16), (2, 17), (3, 18), (4, 19), (5, 20), (6, 21), (7, 22), (8, 23), (9, 24), (10, 25)] [.val (.bool true), .val (.bool true), .val (.pointer none), .val (.agg (idA x)), .val (.agg (idA 1)), .val (.agg (idA 2)), rowK kI [1, 2], .val (.slice mo its.length mc), .val (.slice none 0 0), .val (.int .i64 0), .val (.bool true)] follows (by kernel_rfl) rfl ?hAx5 (opsA_cons ?o0x5 (opsA_cons ?o1x5 (opsA_cons ?o2x5 (opsA_cons ?o3x5 (opsA_cons ?o4x5 (opsA_cons ?o5x5 (opsA_cons ?o6x5 (opsA_cons ?o7x5 (opsA_cons ?o8x5 (opsA_cons ?o9x5 (opsA_cons ?o10x5 opsA_nil))))))))))) ?restx5
  case hAx5 =>
    intro ptrs
    simp only [full, foldSlots, filledE, postE, List.foldl_cons, List.foldl_nil, List.getD_cons_zero, List.getD_cons_succ, fill_val, fill_rowK, List.set_cons_zero, List.set_cons_succ]
    exact rfl
  case o0x5 =>
    intro ptrs w' hw hE
    exact opE_call (.val (.bool true)) rfl _ 11 Try.call11 rfl rfl _ rfl [] rfl ((fixed_any _).mono fun e w' ⟨he, hg⟩ => ⟨_, he, hg, rfl⟩)
  case o1x5 => exact fun _ _ _ _ => opE_move (v := .bool true) _ rfl rfl rfl
  case o2x5 => exact fun _ _ _ _ => opE_move (v := .pointer none) _ rfl rfl rfl
  case o3x5 => exact fun _ _ hw _ => opE_value (v := .agg (idA x)) rfl (ldI0 _ rfl g1 rfl (hw.has kg1))
  case o4x5 =>
    intro ptrs w' hw hE
    exact opE_call (.val (.agg (idA 1))) rfl _ 29 Try.call29 rfl rfl _ rfl [.int .u8 1] rfl ((n_any 1 (by decide) _).mono fun e w' ⟨he, hg⟩ => ⟨_, he, hg, rfl⟩)
  case o5x5 =>
    intro ptrs w' hw hE
    exact opE_call (.val (.agg (idA 2))) rfl _ 29 Try.call29 rfl rfl _ rfl [.int .u8 2] rfl ((n_any 2 (by decide) _).mono fun e w' ⟨he, hg⟩ => ⟨_, he, hg, rfl⟩)
  case o6x5 =>
    intro ptrs w' hw hE
    exact opE_new (rowK kI [1, 2]) rfl (run_bsl 24 2 _ rfl [(0, .agg (idA 1)), (1, .agg (idA 2))] rfl (bsI2 1 2 _)) (gro_alloc _ _) ⟨_, _, rfl, RK.blk (heap_alloc_new _ _) (fun x hx => lt_top (by simp at hx; omega)) (Nat.le_refl _)⟩
  case o7x5 => exact fun _ _ _ _ => opE_move (v := .slice mo its.length mc) _ rfl rfl rfl
  case o8x5 =>
    intro ptrs w' hw hE
    obtain ⟨⟨ao6, cap6, h6, o6⟩, _⟩ := hE
    exact opE_call (.val (.slice none 0 0)) rfl _ 23 Try.call23 rfl rfl _ rfl [.pointer none, .agg (idA x), .slice ao6 ([1, 2]).length cap6, .slice mo its.length mc] (by show [.pointer none, .agg (idA x), ptrs 6, .slice mo its.length mc] = _; rw [h6]) ((due_nil x ao6 mo cap6 mc [1, 2] its _).mono fun e w' ⟨he, hg⟩ => ⟨_, he, hg, rfl⟩)
  case o9x5 => exact fun _ _ _ _ => opE_value (v := .int .i64 0) rfl (run_len Try.underlying49 _ rfl _ _ _ rfl _)
  case o10x5 => exact fun _ _ _ _ => opE_value (v := .bool true) rfl (run_eq_k 3 .i64 _ _ _ rfl Try.underlying3 0 0 rfl rfl true (decide_eq_true rfl) _)
  intro ptrs w5 GD hxE
  simp only [List.drop_succ_cons, List.drop_zero]
  replace kg1 := GD.has kg1
  replace HB := HB.gro ((Gro.refl _).drew.trans GD)
  replace GG := GG.drew.trans GD
  obtain ⟨_, _⟩ := hxE
  clear GD
  refine s_val 26 rfl rfl (.bool true) (rfl) ?_
  refine nr ?_; intro U h; simp only [z0, z1] at h; subst h
  refine s_val 4 rfl rfl (.bool true) (rfl) ?_
  refine nr ?_; intro U h; simp only [z0, z1] at h; subst h
  refine wpList_nil ?_
  refine then_n ?_
  refine wp_ret ?_
  refine bodyPost_ret (results_tmp Try.results8 _ _ _) rfl ?_
  exact ⟨rfl, GG⟩
end Go.Proofs.Ytjahegiopigblaa
