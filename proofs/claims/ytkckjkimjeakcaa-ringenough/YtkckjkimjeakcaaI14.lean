/- The chapter's examples; whether all pairs agree. -/
import Derived.Test.YtkckjkimjeakcaaI13
import Derived.Test.YtkckjkimjeakcaaI3
namespace Go.Proofs.Ytkckjkimjeakcaa
open Go.RowKit

theorem nxt_12 : nxt 12 [1, 4, 9, 12] = some 1 := by decide +kernel
theorem want_41 : want 4 [1, 4, 9, 12] 1 = [1, 9] := by decide +kernel
theorem want_121 : want 12 [1, 4, 9, 12] 1 = [1, 9] := by decide +kernel
theorem want_42 : want 4 [1, 4, 9, 12] 2 = [1, 9, 12] := by decide +kernel
theorem Calls.valV {P : Program} {f : FuncId} {args : Array Value} {w : World} {u v : Value} (h : Calls P f args w fun e w' => e = .returned u ∧ Gro w w') (e : u = v) : Calls P f args w fun e w' => e = .returned v ∧ Gro w w' := e ▸ h
set_option maxRecDepth 100000 in
set_option maxHeartbeats 4000000 in
theorem fixed_any (w : World) : Calls Try.prog 13 #[] w (fun e w' => e = .returned (.bool true) ∧ Gro w w') := by
  refine s_enter Try.func13 rfl Try.ntmps13 [] [undef, undef, undef, undef, undef, undef, undef, undef, undef, undef, undef, undef, undef, undef, undef, undef, undef, undef, undef, undef, undef, undef, undef, undef, undef, undef, undef, undef, undef, undef, undef, undef, undef, undef, undef, undef, undef, undef, undef, undef, undef, undef, undef, undef, undef, undef, undef, undef, undef, undef, undef, undef, undef, undef, undef, undef, undef, undef, undef, undef] rfl ?_
  have GG := Gro.refl w
  refine wp_seq ?_
  refine wp_region_lit ?_
  refine s_val 0 rfl rfl (.bool false) (rfl) ?_
  refine nr ?_; intro U h; simp only [z0] at h; subst h
  refine wpList_nil ?_
  refine then_n ?_
  refine wp_seq ?_
  refine wp_region_lit ?_
  refine s_callv 4 rfl rfl _ 27 Try.call27 rfl rfl _ rfl [.int .u8 1] rfl (n_any _ 1 (by decide)) ?_
  intro w1 G
  replace GG := GG.trans G
  clear G
  refine nr ?_; intro U h; simp only [z0, z1] at h; subst h
  refine s_callv 5 rfl rfl _ 27 Try.call27 rfl rfl _ rfl [.int .u8 4] rfl (n_any _ 4 (by decide)) ?_
  intro w2 G
  replace GG := GG.trans G
  clear G
  refine nr ?_; intro U h; simp only [z0, z1] at h; subst h
  refine s_callv 6 rfl rfl _ 27 Try.call27 rfl rfl _ rfl [.int .u8 9] rfl (n_any _ 9 (by decide)) ?_
  intro w3 G
  replace GG := GG.trans G
  clear G
  refine nr ?_; intro U h; simp only [z0, z1] at h; subst h
  refine s_callv 7 rfl rfl _ 27 Try.call27 rfl rfl _ rfl [.int .u8 12] rfl (n_any _ 12 (by decide)) ?_
  intro w4 G
  replace GG := GG.trans G
  clear G
  refine nr ?_; intro U h; simp only [z0, z1] at h; subst h
  refine s_bsl 8 rfl rfl 24 4 _ rfl [(0, .agg (idA 1)), (1, .agg (idA 4)), (2, .agg (idA 9)), (3, .agg (idA 12))] rfl (fl [1, 4, 9, 12]).toArray 23 (bs4 1 4 9 12 _) ?_
  intro w5 q1 G eq1 kq1
  replace GG := GG.trans G
  clear G
  have HR1 : RC _ (some ⟨q1, 0, none⟩) [1, 4, 9, 12].length [1, 4, 9, 12] := RC.all_blk kq1 (all_of [1, 4, 9, 12] ⟨(by decide), (by decide), (by decide), (by decide), trivial⟩) (Nat.le_refl _)
  clear eq1
  refine nr ?_; intro U h; simp only [z0, z1] at h; subst h
  refine s_val 1 rfl rfl (.slice (some ⟨q1, 0, none⟩) ([1, 4, 9, 12].length) ([1, 4, 9, 12].length)) (rfl) ?_
  refine nr ?_; intro U h; simp only [z0, z1] at h; subst h
  refine wpList_nil ?_
  refine then_n ?_
  refine wp_seq ?_
  refine wp_region_lit ?_
  refine s_callv 10 rfl rfl _ 27 Try.call27 rfl rfl _ rfl [.int .u8 12] rfl (n_any _ 12 (by decide)) ?_
  intro w6 G
  replace HR1 := HR1.gro G
  replace GG := GG.trans G
  clear G
  refine nr ?_; intro U h; simp only [z0, z1] at h; subst h
  refine s_val 11 rfl rfl (.slice (some ⟨q1, 0, none⟩) ([1, 4, 9, 12].length) ([1, 4, 9, 12].length)) (rfl) ?_
  refine nr ?_; intro U h; simp only [z0, z1] at h; subst h
  refine s_callv 12 rfl rfl _ 17 Try.call17 rfl rfl _ rfl [.agg (idA 12), .slice (some ⟨q1, 0, none⟩) ([1, 4, 9, 12].length) ([1, 4, 9, 12].length)] rfl (Calls.valV (next_any _ (some ⟨q1, 0, none⟩) [1, 4, 9, 12].length [1, 4, 9, 12] (HR1) (by decide) 12 (by decide)) (by rw [nxt_12])) ?_
  intro w7 G
  replace HR1 := HR1.gro G
  replace GG := GG.trans G
  clear G
  refine nr ?_; intro U h; simp only [z0, z1] at h; subst h
  refine s_val 9 rfl rfl (.tuple #[.agg (idA 1), .bool true]) (rfl) ?_
  refine nr ?_; intro U h; simp only [z0, z1] at h; subst h
  refine s_val 13 rfl rfl (.agg (idA 1)) (rfl) ?_
  refine nr ?_; intro U h; simp only [z0, z1] at h; subst h
  refine s_val 14 rfl rfl (.bool true) (rfl) ?_
  refine nr ?_; intro U h; simp only [z0, z1] at h; subst h
  refine s_alloc 2 rfl rfl 23 rfl _ zero23 (idA 0) rfl ?_
  intro w8 g1 G eg1 kg1
  have bg1 := size_base GG eg1
  have dHR1g1 := HR1.ne eg1
  replace HR1 := HR1.gro G
  replace GG := GG.trans G
  clear G
  clear eg1
  refine nr ?_; intro U h; simp only [z0, z1] at h; subst h
  refine s_store rfl rfl 23 _ _ rfl g1 0 rfl (.agg (idA 1)) rfl 23 _ kg1 (idA 1) rfl (size23' _) (idA_fit _ _) (idA_one _) (idA 1) (splice_whole _ _ (idA_sz _ _)) ?_
  intro w9 St
  replace HR1 := HR1.st St dHR1g1
  replace GG := GG.store St bg1
  replace kg1 := St.new
  clear St
  refine s_val 3 rfl rfl (.bool true) (rfl) ?_
  refine nr ?_; intro U h; simp only [z0, z1] at h; subst h
  refine wpList_nil ?_
  refine then_n ?_
  refine wp_seq ?_
  refine wp_region_exA (A := ?Ax26) 44 [(0, 15), (1, 16), (2, 17), (3, 18), (4, 19), (5, 20), (6, 21), (7, 22), (8, 23), (9, 24), (10, 25), (11, 26), (12, 27), (13, 28), (14, 29), (15, 30), (16, 31), (17, 32), (18, 33), (19, 34), (20, 35), (21, 36), (22, 37), (23, 38), (24, 39), (25, 40), (26, 41), (27, 42), (28, 43), (29, 44), (30, 45), (31, 46), (32, 47), (33, 48), (34, 49), (35, 50), (36, 51), (37, 52), (38, 53), (39, 54), (40, 55), (41, 56), (42, 57), (43, 58)] [.val (.agg (idA 4)), .val (.slice (some ⟨q1, 0, none⟩) ([1, 4, 9, 12].length) ([1, 4, 9, 12].length)), rowI (want 4 [1, 4, 9, 12] 1), .val (.agg (idA 1)), .val (.agg (idA 9)), rowI [1, 9], .val (.bool true), .val (.bool true), .val (.agg (idA 12)), .val (.slice (some ⟨q1, 0, none⟩) ([1, 4, 9, 12].length) ([1, 4, 9, 12].length)), rowI (want 12 [1, 4, 9, 12] 1), .val (.agg (idA 1)), .val (.agg (idA 9)), rowI [1, 9], .val (.bool true), .val (.bool true), .val (.bool true), .val (.agg (idA 4)), .val (.slice (some ⟨q1, 0, none⟩) ([1, 4, 9, 12].length) ([1, 4, 9, 12].length)), rowI (want 4 [1, 4, 9, 12] 2), .val (.agg (idA 1)), .val (.agg (idA 9)), .val (.agg (idA 12)), rowI [1, 9, 12], .val (.bool true), .val (.bool true), .val (.bool true), .val (.bool true), .val (.bool true), .val (.bool true), .val (.agg (idA 1)), .val (.agg (idA 1)), .val (.bool true), .val (.bool true), .val (.bool true), .val (.slice (some ⟨q1, 0, none⟩) ([1, 4, 9, 12].length) ([1, 4, 9, 12].length)), .val (.agg (idA 9)), .val (.bool true), .val (.bool true), .val (.bool true), .val (.slice (some ⟨q1, 0, none⟩) ([1, 4, 9, 12].length) ([1, 4, 9, 12].length)), .val (.agg (idA 2)), .val (.bool false), .val (.bool true)] follows (by kernel_rfl) rfl ?hAx26 (opsA_cons ?o0x26 (opsA_cons ?o1x26 (opsA_cons ?o2x26 (opsA_cons ?o3x26 (opsA_cons ?o4x26 (opsA_cons ?o5x26 (opsA_cons ?o6x26 (opsA_cons ?o7x26 (opsA_cons ?o8x26 (opsA_cons ?o9x26 (opsA_cons ?o10x26 (opsA_cons ?o11x26 (opsA_cons ?o12x26 (opsA_cons ?o13x26 (opsA_cons ?o14x26 (opsA_cons ?o15x26 (opsA_cons ?o16x26 (opsA_cons ?o17x26 (opsA_cons ?o18x26 (opsA_cons ?o19x26 (opsA_cons ?o20x26 (opsA_cons ?o21x26 (opsA_cons ?o22x26 (opsA_cons ?o23x26 (opsA_cons ?o24x26 (opsA_cons ?o25x26 (opsA_cons ?o26x26 (opsA_cons ?o27x26 (opsA_cons ?o28x26 (opsA_cons ?o29x26 (opsA_cons ?o30x26 (opsA_cons ?o31x26 (opsA_cons ?o32x26 (opsA_cons ?o33x26 (opsA_cons ?o34x26 (opsA_cons ?o35x26 (opsA_cons ?o36x26 (opsA_cons ?o37x26 (opsA_cons ?o38x26 (opsA_cons ?o39x26 (opsA_cons ?o40x26 (opsA_cons ?o41x26 (opsA_cons ?o42x26 (opsA_cons ?o43x26 opsA_nil)))))))))))))))))))))))))))))))))))))))))))) ?restx26
  case hAx26 =>
    intro ptrs
    simp only [full, foldSlots, filledE, postE, List.foldl_cons, List.foldl_nil, List.getD_cons_zero, List.getD_cons_succ, fill_val, fill_rowI, List.set_cons_zero, List.set_cons_succ]
    exact rfl
  case o0x26 =>
    intro ptrs w' hw hE
    exact opE_call (.val (.agg (idA 4))) rfl _ 27 Try.call27 rfl rfl _ rfl [.int .u8 4] rfl ((n_any _ 4 (by decide)).mono fun e w' ⟨he, hg⟩ => ⟨_, he, hg, rfl⟩)
  case o1x26 => exact fun _ _ _ _ => opE_move (v := .slice (some ⟨q1, 0, none⟩) ([1, 4, 9, 12].length) ([1, 4, 9, 12].length)) _ rfl rfl rfl
  case o2x26 =>
    intro ptrs w' hw hE
    exact opE_call (rowI (want 4 [1, 4, 9, 12] 1)) rfl _ 11 Try.call11 rfl rfl _ rfl [.agg (idA 4), .slice (some ⟨q1, 0, none⟩) ([1, 4, 9, 12].length) ([1, 4, 9, 12].length), .int .i64 1] rfl ((want_any _ (some ⟨q1, 0, none⟩) [1, 4, 9, 12].length [1, 4, 9, 12] (HR1.gro ((Gro.refl _).drew.trans hw)) (by decide) 4 (by decide) 1).mono fun e w' ⟨ao, cap, he, hg, hr⟩ => ⟨_, he, hg, ao, cap, rfl, hr⟩)
  case o3x26 =>
    intro ptrs w' hw hE
    obtain ⟨⟨ao2, cap2, h2, o2⟩, _⟩ := hE
    exact opE_call (.val (.agg (idA 1))) rfl _ 27 Try.call27 rfl rfl _ rfl [.int .u8 1] rfl ((n_any _ 1 (by decide)).mono fun e w' ⟨he, hg⟩ => ⟨_, he, hg, rfl⟩)
  case o4x26 =>
    intro ptrs w' hw hE
    exact opE_call (.val (.agg (idA 9))) rfl _ 27 Try.call27 rfl rfl _ rfl [.int .u8 9] rfl ((n_any _ 9 (by decide)).mono fun e w' ⟨he, hg⟩ => ⟨_, he, hg, rfl⟩)
  case o5x26 => exact fun _ _ _ _ => opE_new (rowI [1, 9]) rfl (run_bsl 24 2 _ rfl [(0, .agg (idA 1)), (1, .agg (idA 9))] rfl (bs2 1 9 _)) (gro_alloc _ _) ⟨_, _, rfl, RC.all_blk (heap_alloc_new _ _) (all_of [1, 9] ⟨(by decide), (by decide), trivial⟩) (Nat.le_refl _)⟩
  case o6x26 =>
    intro ptrs w' hw hE
    obtain ⟨⟨ao2, cap2, h2, o2⟩, ⟨ao5, cap5, h5, o5⟩, _⟩ := hE
    exact opE_call (.val (.bool true)) rfl _ 14 Try.call14 rfl rfl _ rfl [.slice ao2 (want 4 [1, 4, 9, 12] 1).length cap2, .slice ao5 ([1, 9]).length cap5] (by show [ptrs 2, ptrs 5] = _; rw [h2, h5]) ((Calls.bool (same_ids _ ao2 cap2 (want 4 [1, 4, 9, 12] 1) (o2) (by rw [want_41]; decide) ao5 cap5 [1, 9] (o5) (by decide)) (decide_eq_true want_41)).mono fun e w' ⟨he, hg⟩ => ⟨_, he, hg, rfl⟩)
  case o7x26 => exact fun _ _ _ _ => opE_move (v := .bool true) _ rfl rfl rfl
  case o8x26 =>
    intro ptrs w' hw hE
    exact opE_call (.val (.agg (idA 12))) rfl _ 27 Try.call27 rfl rfl _ rfl [.int .u8 12] rfl ((n_any _ 12 (by decide)).mono fun e w' ⟨he, hg⟩ => ⟨_, he, hg, rfl⟩)
  case o9x26 => exact fun _ _ _ _ => opE_move (v := .slice (some ⟨q1, 0, none⟩) ([1, 4, 9, 12].length) ([1, 4, 9, 12].length)) _ rfl rfl rfl
  case o10x26 =>
    intro ptrs w' hw hE
    exact opE_call (rowI (want 12 [1, 4, 9, 12] 1)) rfl _ 11 Try.call11 rfl rfl _ rfl [.agg (idA 12), .slice (some ⟨q1, 0, none⟩) ([1, 4, 9, 12].length) ([1, 4, 9, 12].length), .int .i64 1] rfl ((want_any _ (some ⟨q1, 0, none⟩) [1, 4, 9, 12].length [1, 4, 9, 12] (HR1.gro ((Gro.refl _).drew.trans hw)) (by decide) 12 (by decide) 1).mono fun e w' ⟨ao, cap, he, hg, hr⟩ => ⟨_, he, hg, ao, cap, rfl, hr⟩)
  case o11x26 =>
    intro ptrs w' hw hE
    obtain ⟨⟨ao10, cap10, h10, o10⟩, _⟩ := hE
    exact opE_call (.val (.agg (idA 1))) rfl _ 27 Try.call27 rfl rfl _ rfl [.int .u8 1] rfl ((n_any _ 1 (by decide)).mono fun e w' ⟨he, hg⟩ => ⟨_, he, hg, rfl⟩)
  case o12x26 =>
    intro ptrs w' hw hE
    exact opE_call (.val (.agg (idA 9))) rfl _ 27 Try.call27 rfl rfl _ rfl [.int .u8 9] rfl ((n_any _ 9 (by decide)).mono fun e w' ⟨he, hg⟩ => ⟨_, he, hg, rfl⟩)
  case o13x26 => exact fun _ _ _ _ => opE_new (rowI [1, 9]) rfl (run_bsl 24 2 _ rfl [(0, .agg (idA 1)), (1, .agg (idA 9))] rfl (bs2 1 9 _)) (gro_alloc _ _) ⟨_, _, rfl, RC.all_blk (heap_alloc_new _ _) (all_of [1, 9] ⟨(by decide), (by decide), trivial⟩) (Nat.le_refl _)⟩
  case o14x26 =>
    intro ptrs w' hw hE
    obtain ⟨⟨ao10, cap10, h10, o10⟩, ⟨ao13, cap13, h13, o13⟩, _⟩ := hE
    exact opE_call (.val (.bool true)) rfl _ 14 Try.call14 rfl rfl _ rfl [.slice ao10 (want 12 [1, 4, 9, 12] 1).length cap10, .slice ao13 ([1, 9]).length cap13] (by show [ptrs 10, ptrs 13] = _; rw [h10, h13]) ((Calls.bool (same_ids _ ao10 cap10 (want 12 [1, 4, 9, 12] 1) (o10) (by rw [want_121]; decide) ao13 cap13 [1, 9] (o13) (by decide)) (decide_eq_true want_121)).mono fun e w' ⟨he, hg⟩ => ⟨_, he, hg, rfl⟩)
  case o15x26 => exact fun _ _ _ _ => opE_pick (v := .bool true) _ _ _ rfl rfl true rfl rfl
  case o16x26 => exact fun _ _ _ _ => opE_move (v := .bool true) _ rfl rfl rfl
  case o17x26 =>
    intro ptrs w' hw hE
    exact opE_call (.val (.agg (idA 4))) rfl _ 27 Try.call27 rfl rfl _ rfl [.int .u8 4] rfl ((n_any _ 4 (by decide)).mono fun e w' ⟨he, hg⟩ => ⟨_, he, hg, rfl⟩)
  case o18x26 => exact fun _ _ _ _ => opE_move (v := .slice (some ⟨q1, 0, none⟩) ([1, 4, 9, 12].length) ([1, 4, 9, 12].length)) _ rfl rfl rfl
  case o19x26 =>
    intro ptrs w' hw hE
    exact opE_call (rowI (want 4 [1, 4, 9, 12] 2)) rfl _ 11 Try.call11 rfl rfl _ rfl [.agg (idA 4), .slice (some ⟨q1, 0, none⟩) ([1, 4, 9, 12].length) ([1, 4, 9, 12].length), .int .i64 2] rfl ((want_any _ (some ⟨q1, 0, none⟩) [1, 4, 9, 12].length [1, 4, 9, 12] (HR1.gro ((Gro.refl _).drew.trans hw)) (by decide) 4 (by decide) 2).mono fun e w' ⟨ao, cap, he, hg, hr⟩ => ⟨_, he, hg, ao, cap, rfl, hr⟩)
  case o20x26 =>
    intro ptrs w' hw hE
    obtain ⟨⟨ao19, cap19, h19, o19⟩, _⟩ := hE
    exact opE_call (.val (.agg (idA 1))) rfl _ 27 Try.call27 rfl rfl _ rfl [.int .u8 1] rfl ((n_any _ 1 (by decide)).mono fun e w' ⟨he, hg⟩ => ⟨_, he, hg, rfl⟩)
  case o21x26 =>
    intro ptrs w' hw hE
    exact opE_call (.val (.agg (idA 9))) rfl _ 27 Try.call27 rfl rfl _ rfl [.int .u8 9] rfl ((n_any _ 9 (by decide)).mono fun e w' ⟨he, hg⟩ => ⟨_, he, hg, rfl⟩)
  case o22x26 =>
    intro ptrs w' hw hE
    exact opE_call (.val (.agg (idA 12))) rfl _ 27 Try.call27 rfl rfl _ rfl [.int .u8 12] rfl ((n_any _ 12 (by decide)).mono fun e w' ⟨he, hg⟩ => ⟨_, he, hg, rfl⟩)
  case o23x26 => exact fun _ _ _ _ => opE_new (rowI [1, 9, 12]) rfl (run_bsl 24 3 _ rfl [(0, .agg (idA 1)), (1, .agg (idA 9)), (2, .agg (idA 12))] rfl (bs3 1 9 12 _)) (gro_alloc _ _) ⟨_, _, rfl, RC.all_blk (heap_alloc_new _ _) (all_of [1, 9, 12] ⟨(by decide), (by decide), (by decide), trivial⟩) (Nat.le_refl _)⟩
  case o24x26 =>
    intro ptrs w' hw hE
    obtain ⟨⟨ao19, cap19, h19, o19⟩, ⟨ao23, cap23, h23, o23⟩, _⟩ := hE
    exact opE_call (.val (.bool true)) rfl _ 14 Try.call14 rfl rfl _ rfl [.slice ao19 (want 4 [1, 4, 9, 12] 2).length cap19, .slice ao23 ([1, 9, 12]).length cap23] (by show [ptrs 19, ptrs 23] = _; rw [h19, h23]) ((Calls.bool (same_ids _ ao19 cap19 (want 4 [1, 4, 9, 12] 2) (o19) (by rw [want_42]; decide) ao23 cap23 [1, 9, 12] (o23) (by decide)) (decide_eq_true want_42)).mono fun e w' ⟨he, hg⟩ => ⟨_, he, hg, rfl⟩)
  case o25x26 => exact fun _ _ _ _ => opE_pick (v := .bool true) _ _ _ rfl rfl true rfl rfl
  case o26x26 => exact fun _ _ _ _ => opE_move (v := .bool true) _ rfl rfl rfl
  case o27x26 => exact fun _ _ _ _ => opE_move (v := .bool true) _ rfl rfl rfl
  case o28x26 => exact fun _ _ _ _ => opE_pick (v := .bool true) _ _ _ rfl rfl true rfl rfl
  case o29x26 => exact fun _ _ _ _ => opE_move (v := .bool true) _ rfl rfl rfl
  case o30x26 => exact fun _ _ hw _ => opE_value (v := .agg (idA 1)) rfl (run_ldB _ rfl g1 _ rfl (hw.has kg1))
  case o31x26 =>
    intro ptrs w' hw hE
    exact opE_call (.val (.agg (idA 1))) rfl _ 27 Try.call27 rfl rfl _ rfl [.int .u8 1] rfl ((n_any _ 1 (by decide)).mono fun e w' ⟨he, hg⟩ => ⟨_, he, hg, rfl⟩)
  case o32x26 => exact fun _ _ _ _ => opE_value (v := .bool true) rfl (run_eqI _ _ _ rfl 1 1 rfl rfl (by decide) (by decide) true rfl)
  case o33x26 => exact fun _ _ _ _ => opE_pick (v := .bool true) _ _ _ rfl rfl true rfl rfl
  case o34x26 => exact fun _ _ _ _ => opE_move (v := .bool true) _ rfl rfl rfl
  case o35x26 => exact fun _ _ _ _ => opE_move (v := .slice (some ⟨q1, 0, none⟩) ([1, 4, 9, 12].length) ([1, 4, 9, 12].length)) _ rfl rfl rfl
  case o36x26 =>
    intro ptrs w' hw hE
    exact opE_call (.val (.agg (idA 9))) rfl _ 27 Try.call27 rfl rfl _ rfl [.int .u8 9] rfl ((n_any _ 9 (by decide)).mono fun e w' ⟨he, hg⟩ => ⟨_, he, hg, rfl⟩)
  case o37x26 =>
    intro ptrs w' hw hE
    exact opE_call (.val (.bool true)) rfl _ 19 Try.call19 rfl rfl _ rfl [.slice (some ⟨q1, 0, none⟩) ([1, 4, 9, 12].length) ([1, 4, 9, 12].length), .agg (idA 9)] rfl ((Calls.bool (has_any _ (some ⟨q1, 0, none⟩) [1, 4, 9, 12].length [1, 4, 9, 12] (HR1.gro ((Gro.refl _).drew.trans hw)) (by decide) 9 (by decide)) (by decide)).mono fun e w' ⟨he, hg⟩ => ⟨_, he, hg, rfl⟩)
  case o38x26 => exact fun _ _ _ _ => opE_pick (v := .bool true) _ _ _ rfl rfl true rfl rfl
  case o39x26 => exact fun _ _ _ _ => opE_move (v := .bool true) _ rfl rfl rfl
  case o40x26 => exact fun _ _ _ _ => opE_move (v := .slice (some ⟨q1, 0, none⟩) ([1, 4, 9, 12].length) ([1, 4, 9, 12].length)) _ rfl rfl rfl
  case o41x26 =>
    intro ptrs w' hw hE
    exact opE_call (.val (.agg (idA 2))) rfl _ 27 Try.call27 rfl rfl _ rfl [.int .u8 2] rfl ((n_any _ 2 (by decide)).mono fun e w' ⟨he, hg⟩ => ⟨_, he, hg, rfl⟩)
  case o42x26 =>
    intro ptrs w' hw hE
    exact opE_call (.val (.bool false)) rfl _ 19 Try.call19 rfl rfl _ rfl [.slice (some ⟨q1, 0, none⟩) ([1, 4, 9, 12].length) ([1, 4, 9, 12].length), .agg (idA 2)] rfl ((Calls.bool (has_any _ (some ⟨q1, 0, none⟩) [1, 4, 9, 12].length [1, 4, 9, 12] (HR1.gro ((Gro.refl _).drew.trans hw)) (by decide) 2 (by decide)) (by decide)).mono fun e w' ⟨he, hg⟩ => ⟨_, he, hg, rfl⟩)
  case o43x26 => exact fun _ _ _ _ => opE_value (v := .bool true) rfl (run_nt _ _ rfl false rfl)
  intro ptrs w10 GD hxE
  simp only [List.drop_succ_cons, List.drop_zero]
  replace kg1 := GD.has kg1
  replace HR1 := HR1.gro ((Gro.refl _).drew.trans GD)
  replace GG := GG.drew.trans GD
  obtain ⟨_, _, _, _, _, _, _⟩ := hxE
  clear GD
  refine s_val 59 rfl rfl (.bool true) (rfl) ?_
  refine nr ?_; intro U h; simp only [z0, z1] at h; subst h
  refine s_val 0 rfl rfl (.bool true) (rfl) ?_
  refine nr ?_; intro U h; simp only [z0] at h; subst h
  refine wpList_nil ?_
  refine then_n ?_
  refine wp_ret ?_
  refine bodyPost_ret (results_tmp Try.results13 _ _ _) rfl ?_
  exact ⟨rfl, GG⟩
section
variable {P : Program} {ops : Array Oper} {rest : List Oper} {o : Oper} {T : List Value} {ds : List Deferred} {w : World} {Q : Exit → Act → World → Prop}
theorem s_makeY {t e : TypeId} {b : Nat} {z : Value} (TT : RowT P t e 1 b z) (hz1 : z.cells = #[z]) (dst : Nat) (hd : o.dst = some dst) (hgd : o.guard = none) (x y : Operand) (ho : o.op = .makeSlice t x y) (n : Nat) (hx : (⟨T.toArray, ds⟩ : Act).eval x = .int .i64 (n : Int)) (hy : (⟨T.toArray, ds⟩ : Act).eval y = .int .i64 (n : Int)) (hb : b * n ≤ 281474976710656) (hm : n ≤ maxLen)
    (h : ∀ w' g, Gro w w' → w.heap.size = g → w'.heap[g]? = some (.cells (List.replicate n z).toArray e (0, 0)) → wpList P ops Q rest ⟨(T.set dst (.slice (some ⟨g, 0, none⟩) n n)).toArray, ds⟩ w') : wpList P ops Q (o :: rest) ⟨T.toArray, ds⟩ w := by
  obtain ⟨i, hi, hz, hsz, hby⟩ := TT.info
  refine wpList_make_full w hgd x y t ho w.heap.size e i z 1 TT.und hi hz hsz .i64 .i64 _ _ n hx hy rfl rfl (by rw [hby]; exact hb) hm (Nat.le_refl _) ?_
  intro w' h1 h2
  rw [hd, put_list]
  rcases h1.2 with ⟨h3, _⟩ | ⟨g, c, cur, h3, _, h4, _, _, h5, h6⟩
  · cases h3
  · injection h3 with e1 e2 e3
    injection e1 with e1
    injection e1 with e1
    subst e1 e3
    refine h w' _ ⟨h2.os, h2.tape, h2.output, h2.size, fun k hk => h2.block k hk (by simp)⟩ rfl ?_
    have : cur = (List.replicate n z).toArray := by
      apply Array.toList_inj.1
      rw [hz1, Nat.mul_one, toList_madeCells_one, List.take_of_length_le (by simp; omega)] at h6
      rw [h6]
    rw [← this]
    exact h4
end

theorem rW : RowT Try.prog 51 24 1 24 (.slice none 0 0) := ⟨Try.underlying51, info_of (by kernel_rfl), rfl, by decide⟩
theorem mut_all {a b : Nat} {l : List Nat} (hl : All l) (ha : a ∈ l) (hb : b ∈ l) (half : Int) : b ∈ want a l half ↔ a ∈ want b l half := by
  by_cases e : a = b
  · rw [e]
  · exact mut_want hl ha hb e half
/-- Who is wanted of the first ones, row by row. -/
def WT (w : World) (l : List Nat) (half : Int) (F : Nat → Option Addr × Nat) (i : Nat) : Prop := ∀ j, j < i → RC w (F j).1 (F j).2 (want (l.getD j 0) l half)
theorem WT.gro {w w' : World} {l : List Nat} {half : Int} {F : Nat → Option Addr × Nat} {i : Nat} (h : WT w l half F i) (G : Gro w w') : WT w' l half F i := fun j hj => (h j hj).gro G
def NW (l : List Nat) (half : Int) (F : Nat → Option Addr × Nat) (i g : Nat) : Prop := ∀ j, j < i → NE (F j).1 (want (l.getD j 0) l half) g
theorem WT.ne {w : World} {l : List Nat} {half : Int} {F : Nat → Option Addr × Nat} {i g : Nat} (h : WT w l half F i) (e : w.heap.size = g) : NW l half F i g := fun j hj => (h j hj).ne e
theorem WT.st {w w' : World} {l : List Nat} {half : Int} {F : Nat → Option Addr × Nat} {i g : Nat} {x : Obj} (h : WT w l half F i) (S : Stored w w' g x) (hn : NW l half F i g) : WT w' l half F i := fun j hj => (h j hj).st S (hn j hj)
/-- The cells of the rows' row. -/
def wc (l : List Nat) (half : Int) (F : Nat → Option Addr × Nat) (i n : Nat) : Array Value := ((List.range n).map fun j => if j < i then Value.slice (F j).1 (want (l.getD j 0) l half).length (F j).2 else .slice none 0 0).toArray
theorem wc_size (l : List Nat) (half : Int) (F : Nat → Option Addr × Nat) (i n : Nat) : (wc l half F i n).size = n := by simp [wc]
theorem wc_get (l : List Nat) (half : Int) (F : Nat → Option Addr × Nat) (i n j : Nat) (hj : j < i) (hi : i ≤ n) : (wc l half F i n)[j]? = some (.slice (F j).1 (want (l.getD j 0) l half).length (F j).2) := by
  simp [wc, show j < n by omega, hj]
theorem wc_0 (l : List Nat) (half : Int) (F : Nat → Option Addr × Nat) (n : Nat) : wc l half F 0 n = (List.replicate n (Value.slice none 0 0)).toArray := by
  unfold wc
  congr 1
  apply List.ext_getElem
  · simp
  · intro i h1 h2
    simp
def upF (F : Nat → Option Addr × Nat) (i : Nat) (p : Option Addr × Nat) : Nat → Option Addr × Nat := fun j => if j = i then p else F j
theorem upF_i (F : Nat → Option Addr × Nat) (i : Nat) (p : Option Addr × Nat) : upF F i p i = p := by simp [upF]
theorem upF_ne (F : Nat → Option Addr × Nat) (i j : Nat) (p : Option Addr × Nat) (h : j ≠ i) : upF F i p j = F j := by simp [upF, h]
theorem wc_set (l : List Nat) (half : Int) (F : Nat → Option Addr × Nat) (i n : Nat) (p : Option Addr × Nat) (hi : i < n) : splice (wc l half F i n) i #[.slice p.1 (want (l.getD i 0) l half).length p.2] = wc l half (upF F i p) (i + 1) n := by
  rw [splice_one _ _ _ (by rw [wc_size]; exact hi)]
  unfold wc
  apply Array.ext_getElem?
  intro k
  rw [List.setIfInBounds_toArray, List.getElem?_toArray, List.getElem?_toArray, List.getElem?_set]
  by_cases hk : i = k
  · subst hk
    rw [if_pos rfl]
    simp [hi, upF]
  · rw [if_neg hk]
    by_cases hkn : k < n
    · simp only [List.getElem?_map, List.getElem?_range hkn, Option.map_some]
      by_cases h1 : k < i
      · rw [if_pos h1, if_pos (by omega), upF_ne _ _ _ _ (by omega)]
      · rw [if_neg h1, if_neg (by omega)]
    · rw [List.getElem?_eq_none (by simp; omega), List.getElem?_eq_none (by simp; omega)]
theorem WT.snoc {w : World} {l : List Nat} {half : Int} {F : Nat → Option Addr × Nat} {i : Nat} (h : WT w l half F i) {ao : Option Addr} {cap : Nat} (H : RC w ao cap (want (l.getD i 0) l half)) : WT w l half (upF F i (ao, cap)) (i + 1) := fun j hj => by
  by_cases e : j = i
  · subst e
    rw [upF_i]
    exact H
  · rw [upF_ne _ _ _ _ e]
    exact h j (by omega)
/-- Rows of identities lie apart from rows of rows. -/
theorem RC.neW {w : World} {ao : Option Addr} {cap : Nat} {m : List Nat} (h : RC w ao cap m) {l : List Nat} {half : Int} {F : Nat → Option Addr × Nat} {i n g : Nat} {t : TypeId} {fr : Nat × Nat} (hg : w.heap[g]? = some (.cells (wc l half F i n) t fr)) : NE ao m g := fun ad ha h0 e => by
  have hc := h.xc.cell ad ha 0 (fl m)[0] (List.getElem?_eq_getElem h0)
  have hb : (ad.add 0).block = g := by rw [add_block]; exact e
  unfold World.cell? at hc
  rw [hb, hg] at hc
  simp only at hc
  split at hc
  · cases hc
  · have hm := List.mem_of_getElem? (l := (wc l half F i n).toList) (by simpa using hc)
    unfold wc at hm
    simp only [List.mem_map] at hm
    obtain ⟨j, _, hj⟩ := hm
    have hi : ∃ z, (fl m)[0] = .int .u8 z := by
      obtain ⟨x, _, hx⟩ := List.mem_flatMap.1 (List.getElem_mem h0)
      unfold idA at hx
      simp only [Array.toList_ofFn, List.mem_ofFn] at hx
      obtain ⟨q, hq⟩ := hx
      exact ⟨_, hq.symm⟩
    obtain ⟨z, hz⟩ := hi
    rw [hz] at hj
    split at hj <;> cases hj
theorem run_ixW {o : Oper} {A : Act} {w : World} (x y : Operand) (ho : o.op = .indexAddr 51 x y) (g n j : Nat) (hx : A.eval x = .slice (some ⟨g, 0, none⟩) n n) (hy : A.eval y = .int .i64 (j : Int)) (hj : j < n) :
    (execOp A.eval o).run Try.prog w = .ok (.value (.pointer (some ⟨g, j, none⟩))) w := by
  rw [run_idxX rW x y ho ⟨g, 0, none⟩ n n j hx hy hj w, add_at, Nat.zero_add, Nat.mul_one]
theorem na24 (w : World) : (isAgg 24).run Try.prog w = .ok false w := by kernel_rfl
theorem si24 : (Try.prog.info? 24).map (·.size) = some 1 := by kernel_rfl
set_option maxRecDepth 100000 in
set_option maxHeartbeats 4000000 in
theorem mutual_any (w : World) (ao : Option Addr) (cap : Nat) (l : List Nat) (H : RC w ao cap l) (hl : l.length ≤ 1000000) (half : Int) : Calls Try.prog 21 #[.slice ao l.length cap, .int .i64 half] w (fun e w' => e = .returned (.bool true) ∧ Gro w w') := by
  refine s_enter Try.func21 rfl Try.ntmps21 [.slice ao l.length cap, .int .i64 half] [.slice ao l.length cap, .int .i64 half, undef, undef, undef, undef, undef, undef, undef, undef, undef, undef, undef, undef, undef, undef, undef, undef, undef, undef, undef, undef, undef, undef, undef, undef, undef, undef, undef, undef, undef, undef, undef, undef, undef, undef, undef, undef, undef, undef, undef, undef, undef, undef, undef, undef, undef, undef, undef, undef, undef, undef, undef, undef, undef, undef, undef, undef, undef, undef, undef] rfl ?_
  have GG := Gro.refl w
  refine wp_seq ?_
  refine wp_region_lit ?_
  refine s_val 4 rfl rfl (.bool false) (rfl) ?_
  refine nr ?_; intro U h; simp only [z0, z1] at h; subst h
  refine wpList_nil ?_
  refine then_n ?_
  refine wp_seq ?_
  refine wp_region_lit ?_
  refine s_val 12 rfl rfl (.slice ao l.length cap) (rfl) ?_
  refine nr ?_; intro U h; simp only [z0, z1] at h; subst h
  refine s_val 13 rfl rfl (.int .i64 ((l.length : Nat) : Int)) (run_len Try.underlying24 _ rfl _ _ _ rfl _) ?_
  refine nr ?_; intro U h; simp only [z0, z1] at h; subst h
  refine s_makeY rW rfl 14 rfl rfl _ _ rfl l.length rfl rfl (by omega) (by simp only [maxLen]; omega) ?_
  intro w1 g G eg kg
  have bg := size_base GG eg
  replace GG := GG.trans G
  clear G
  clear eg
  refine nr ?_; intro U h; simp only [z0, z1] at h; subst h
  refine s_val 5 rfl rfl (.slice (some ⟨g, 0, none⟩) l.length l.length) (rfl) ?_
  refine nr ?_; intro U h; simp only [z0, z1] at h; subst h
  refine wpList_nil ?_
  refine then_n ?_
  refine wp_seq ?_
  refine wp_seq ?_
  refine wp_region_lit ?_
  refine s_val 15 rfl rfl (.slice ao l.length cap) (rfl) ?_
  refine nr ?_; intro U h; simp only [z0, z1] at h; subst h
  refine s_val 16 rfl rfl (.int .i64 ((l.length : Nat) : Int)) (run_len Try.underlying24 _ rfl _ _ _ rfl _) ?_
  refine nr ?_; intro U h; simp only [z0, z1] at h; subst h
  refine s_val 17 rfl rfl (.int .i64 0) (rfl) ?_
  refine nr ?_; intro U h; simp only [z0, z1] at h; subst h
  refine wpList_nil ?_
  refine then_n ?_
  refine wp_block ?_
  refine wp_loopN (fun mz az wv => ∃ (i : Nat) (F : Nat → Option Addr × Nat) (us1 : Nat → Value), mz = l.length - i ∧ az = ⟨[.slice ao l.length cap, .int .i64 half, undef, undef, .bool false, .slice (some ⟨g, 0, none⟩) l.length l.length, us1 0, us1 1, undef, undef, undef, undef, .slice ao l.length cap, .int .i64 ((l.length : Nat) : Int), .slice (some ⟨g, 0, none⟩) l.length l.length, .slice ao l.length cap, .int .i64 ((l.length : Nat) : Int), .int .i64 ((i : Nat) : Int), us1 2, us1 3, us1 4, us1 5, us1 6, us1 7, us1 8, us1 9, us1 10, us1 11, us1 12, us1 13, undef, undef, undef, undef, undef, undef, undef, undef, undef, undef, undef, undef, undef, undef, undef, undef, undef, undef, undef, undef, undef, undef, undef, undef, undef, undef, undef, undef, undef, undef, undef].toArray, []⟩ ∧ i ≤ l.length ∧ Gro w wv ∧ wv.heap[g]? = some (.cells (wc l half F i l.length) 24 (0, 0)) ∧ WT wv l half F i) ?_ _ ⟨0, (fun _ => (none, 0)), (fun kz => ([undef, undef, undef, undef, undef, undef, undef, undef, undef, undef, undef, undef, undef, undef] : List Value).getD kz undef), rfl, rfl, Nat.zero_le _, GG, (by rw [wc_0]; exact kg), (fun j hj => absurd hj (Nat.not_lt_zero j))⟩
  clear GG kg
  rintro mz az wv ⟨i, F, us1, rfl, rfl, hi, GG, kg, HW⟩
  refine wp_seq ?_
  refine wp_region_lit ?_
  cases hi1 : decide (((i : Nat) : Int) < ((l.length : Nat) : Int))
  · have hie : i = l.length := by have := of_decide_eq_false hi1; omega
    refine s_val 18 rfl rfl (.bool false) (run_lssT 3 _ _ _ rfl ((i : Nat) : Int) ((l.length : Nat) : Int) rfl rfl false hi1 _) ?_
    refine nr ?_; intro U h; simp only [z0, z1] at h; subst h
    refine wpList_nil ?_
    refine then_n ?_
    refine wp_seq ?_
    refine wp_cond_false rfl ?_
    refine wp_exit ?_
    refine then_x ?_
    refine then_x ?_
    refine blk_x ?_
    refine then_n ?_
    refine wp_seq ?_
    refine wp_seq ?_
    refine wp_region_lit ?_
    refine s_val 30 rfl rfl (.slice ao l.length cap) (rfl) ?_
    refine nr ?_; intro U h; simp only [z0, z1] at h; subst h
    refine s_val 31 rfl rfl (.int .i64 ((l.length : Nat) : Int)) (run_len Try.underlying24 _ rfl _ _ _ rfl _) ?_
    refine nr ?_; intro U h; simp only [z0, z1] at h; subst h
    refine s_val 32 rfl rfl (.int .i64 0) (rfl) ?_
    refine nr ?_; intro U h; simp only [z0, z1] at h; subst h
    refine wpList_nil ?_
    refine then_n ?_
    refine wp_block ?_
    have hie2 := hie
    subst hie2
    clear hie hi1
    have GW := GG
    clear GG
    have GG := Gro.refl wv
    have H0 := H.gro GW
    refine wp_loopN (fun mz az wu => ∃ (i : Nat) (us2 : Nat → Value), mz = l.length - i ∧ az = ⟨[.slice ao l.length cap, .int .i64 half, undef, undef, us2 0, .slice (some ⟨g, 0, none⟩) l.length l.length, us1 0, us1 1, us2 1, us2 2, us2 3, us2 4, .slice ao l.length cap, .int .i64 ((l.length : Nat) : Int), .slice (some ⟨g, 0, none⟩) l.length l.length, .slice ao l.length cap, .int .i64 ((l.length : Nat) : Int), .int .i64 ((l.length : Nat) : Int), .bool false, us1 3, us1 4, us1 5, us1 6, us1 7, us1 8, us1 9, us1 10, us1 11, us1 12, us1 13, .slice ao l.length cap, .int .i64 ((l.length : Nat) : Int), .int .i64 ((i : Nat) : Int), us2 5, us2 6, us2 7, us2 8, us2 9, us2 10, us2 11, us2 12, us2 13, us2 14, us2 15, us2 16, us2 17, us2 18, us2 19, us2 20, us2 21, us2 22, us2 23, us2 24, us2 25, us2 26, us2 27, us2 28, us2 29, us2 30, us2 31, us2 32].toArray, []⟩ ∧ i ≤ l.length ∧ Gro wv wu) ?_ _ ⟨0, (fun kz => ([.bool false, undef, undef, undef, undef, undef, undef, undef, undef, undef, undef, undef, undef, undef, undef, undef, undef, undef, undef, undef, undef, undef, undef, undef, undef, undef, undef, undef, undef, undef, undef, undef, undef] : List Value).getD kz undef), rfl, rfl, Nat.zero_le _, GG⟩
    clear GG
    rintro mz az wu ⟨i, us2, rfl, rfl, hi, GG⟩
    refine wp_seq ?_
    refine wp_region_lit ?_
    cases hi1 : decide (((i : Nat) : Int) < ((l.length : Nat) : Int))
    · refine s_val 33 rfl rfl (.bool false) (run_lssT 3 _ _ _ rfl ((i : Nat) : Int) ((l.length : Nat) : Int) rfl rfl false hi1 _) ?_
      refine nr ?_; intro U h; simp only [z0, z1] at h; subst h
      refine wpList_nil ?_
      refine then_n ?_
      refine wp_seq ?_
      refine wp_cond_false rfl ?_
      refine wp_exit ?_
      refine then_x ?_
      refine then_x ?_
      refine blk_x ?_
      refine then_n ?_
      refine wp_seq ?_
      refine wp_region_lit ?_
      refine s_val 4 rfl rfl (.bool true) (rfl) ?_
      refine nr ?_; intro U h; simp only [z0, z1] at h; subst h
      refine wpList_nil ?_
      refine then_n ?_
      refine wp_ret ?_
      refine bodyPost_ret (results_tmp Try.results21 _ _ _) rfl ?_
      exact ⟨rfl, GW.trans GG⟩
    · have hil : i < l.length := by have := of_decide_eq_true hi1; omega
      refine s_val 33 rfl rfl (.bool true) (run_lssT 3 _ _ _ rfl ((i : Nat) : Int) ((l.length : Nat) : Int) rfl rfl true hi1 _) ?_
      refine nr ?_; intro U h; simp only [z0, z1] at h; subst h
      refine wpList_nil ?_
      refine then_n ?_
      refine wp_seq ?_
      refine wp_cond_true rfl ?_
      refine wp_skip ?_
      refine then_n ?_
      refine wp_seq ?_
      refine wp_block ?_
      refine wp_seq ?_
      refine wp_region_lit ?_
      refine s_val 34 rfl rfl (.int .i64 ((i : Nat) : Int)) (rfl) ?_
      refine nr ?_; intro U h; simp only [z0, z1] at h; subst h
      refine s_val 35 rfl rfl (.pointer (pA ao i)) (run_ixI (H0.gro GG) _ _ rfl rfl i rfl hil) ?_
      refine nr ?_; intro U h; simp only [z0, z1] at h; subst h
      refine s_val 36 rfl rfl (.agg (idA (l.getD i 0))) (run_ldI (H0.gro GG) _ rfl i rfl hil) ?_
      refine nr ?_; intro U h; simp only [z0, z1] at h; subst h
      refine s_alloc 9 rfl rfl 23 rfl _ zero23 (idA 0) rfl ?_
      intro w2 g3 G eg3 kg3
      have bg3 := size_base GG eg3
      replace GG := GG.trans G
      clear G
      clear eg3
      refine nr ?_; intro U h; simp only [z0, z1] at h; subst h
      refine s_val 8 rfl rfl (.int .i64 ((i : Nat) : Int)) (rfl) ?_
      refine nr ?_; intro U h; simp only [z0, z1] at h; subst h
      refine s_store rfl rfl 23 _ _ rfl g3 0 rfl (.agg (idA (l.getD i 0))) rfl 23 _ kg3 (idA (l.getD i 0)) rfl (size23' _) (idA_fit _ _) (idA_one _) (idA (l.getD i 0)) (splice_whole _ _ (idA_sz _ _)) ?_
      intro w3 St
      replace GG := GG.store St bg3
      replace kg3 := St.new
      clear St
      refine wpList_nil ?_
      refine then_n ?_
      refine wp_seq ?_
      refine wp_region_lit ?_
      refine s_val 37 rfl rfl (.slice ao l.length cap) (rfl) ?_
      refine nr ?_; intro U h; simp only [z0, z1] at h; subst h
      refine s_val 38 rfl rfl (.int .i64 ((i : Nat) : Int)) (rfl) ?_
      refine nr ?_; intro U h; simp only [z0, z1] at h; subst h
      refine s_val 39 rfl rfl (.slice ao i cap) (run_cut0X rI _ _ rfl ao l.length cap i rfl rfl (by have := H.fit; omega) _) ?_
      refine nr ?_; intro U h; simp only [z0, z1] at h; subst h
      refine s_val 40 rfl rfl (.int .i64 ((i : Nat) : Int)) (run_len Try.underlying24 _ rfl _ _ _ rfl _) ?_
      refine nr ?_; intro U h; simp only [z0, z1] at h; subst h
      refine s_val 41 rfl rfl (.int .i64 0) (rfl) ?_
      refine nr ?_; intro U h; simp only [z0, z1] at h; subst h
      refine wpList_nil ?_
      refine then_n ?_
      refine wp_block ?_
      refine wp_loopN (fun mz az wx => ∃ (j : Nat) (us3 : Nat → Value), mz = i - j ∧ az = ⟨[.slice ao l.length cap, .int .i64 half, undef, undef, us3 0, .slice (some ⟨g, 0, none⟩) l.length l.length, us1 0, us1 1, .int .i64 ((i : Nat) : Int), .pointer (some ⟨g3, 0, none⟩), us3 1, us3 2, .slice ao l.length cap, .int .i64 ((l.length : Nat) : Int), .slice (some ⟨g, 0, none⟩) l.length l.length, .slice ao l.length cap, .int .i64 ((l.length : Nat) : Int), .int .i64 ((l.length : Nat) : Int), .bool false, us1 3, us1 4, us1 5, us1 6, us1 7, us1 8, us1 9, us1 10, us1 11, us1 12, us1 13, .slice ao l.length cap, .int .i64 ((l.length : Nat) : Int), .int .i64 ((i : Nat) : Int), .bool true, .int .i64 ((i : Nat) : Int), .pointer (pA ao i), .agg (idA (l.getD i 0)), .slice ao l.length cap, .int .i64 ((i : Nat) : Int), .slice ao i cap, .int .i64 ((i : Nat) : Int), .int .i64 ((j : Nat) : Int), us3 3, us3 4, us3 5, us3 6, us3 7, us3 8, us3 9, us3 10, us3 11, us3 12, us3 13, us3 14, us3 15, us3 16, us3 17, us3 18, us3 19, us3 20, us2 32].toArray, []⟩ ∧ j ≤ i ∧ Gro wv wx ∧ wx.heap[g3]? = some (.cells (idA (l.getD i 0)) 23 (0, 0))) ?_ _ ⟨0, (fun kz => ([us2 0, us2 3, us2 4, us2 14, us2 15, us2 16, us2 17, us2 18, us2 19, us2 20, us2 21, us2 22, us2 23, us2 24, us2 25, us2 26, us2 27, us2 28, us2 29, us2 30, us2 31] : List Value).getD kz undef), rfl, rfl, Nat.zero_le _, GG, kg3⟩
      clear GG kg3
      rintro mz az wx ⟨j, us3, rfl, rfl, hj, GG, kg3⟩
      refine wp_seq ?_
      refine wp_region_lit ?_
      cases hj1 : decide (((j : Nat) : Int) < ((i : Nat) : Int))
      · refine s_val 42 rfl rfl (.bool false) (run_lssT 3 _ _ _ rfl ((j : Nat) : Int) ((i : Nat) : Int) rfl rfl false hj1 _) ?_
        refine nr ?_; intro U h; simp only [z0, z1] at h; subst h
        refine wpList_nil ?_
        refine then_n ?_
        refine wp_seq ?_
        refine wp_cond_false rfl ?_
        refine wp_exit ?_
        refine then_x ?_
        refine then_x ?_
        refine blk_x ?_
        refine blk_n ?_
        refine then_n ?_
        refine wp_region_lit ?_
        refine s_val 60 rfl rfl (.int .i64 ((i + 1 : Nat) : Int)) (run_addI 3 _ _ _ rfl ((i : Nat) : Int) 1 ((i + 1 : Nat) : Int) rfl rfl (by omega) (by omega) (by omega) _) ?_
        refine nr ?_; intro U h; simp only [z0, z1] at h; subst h
        refine s_val 32 rfl rfl (.int .i64 ((i + 1 : Nat) : Int)) (rfl) ?_
        refine nr ?_; intro U h; simp only [z0, z1] at h; subst h
        refine wpList_nil ?_
        refine then_n ?_
        exact ⟨_, (by omega : l.length - (i + 1) < l.length - i), i + 1, (fun kz => ([us3 0, .int .i64 ((i : Nat) : Int), .pointer (some ⟨g3, 0, none⟩), us3 1, us3 2, .bool true, .int .i64 ((i : Nat) : Int), .pointer (pA ao i), .agg (idA (l.getD i 0)), .slice ao l.length cap, .int .i64 ((i : Nat) : Int), .slice ao i cap, .int .i64 ((i : Nat) : Int), .int .i64 ((j : Nat) : Int), .bool false, us3 4, us3 5, us3 6, us3 7, us3 8, us3 9, us3 10, us3 11, us3 12, us3 13, us3 14, us3 15, us3 16, us3 17, us3 18, us3 19, us3 20, .int .i64 ((i + 1 : Nat) : Int)] : List Value).getD kz undef), rfl, rfl, hil, GG⟩
      · have hji : j < i := by have := of_decide_eq_true hj1; omega
        have hjl : j < l.length := by omega
        have hmm := mut_all (a := l.getD i 0) (b := l.getD j 0) H.all (getD_mem hil) (getD_mem hjl) half
        refine s_val 42 rfl rfl (.bool true) (run_lssT 3 _ _ _ rfl ((j : Nat) : Int) ((i : Nat) : Int) rfl rfl true hj1 _) ?_
        refine nr ?_; intro U h; simp only [z0, z1] at h; subst h
        refine wpList_nil ?_
        refine then_n ?_
        refine wp_seq ?_
        refine wp_cond_true rfl ?_
        refine wp_skip ?_
        refine then_n ?_
        refine wp_seq ?_
        refine wp_block ?_
        refine wp_seq ?_
        refine wp_region_lit ?_
        refine s_val 43 rfl rfl (.int .i64 ((j : Nat) : Int)) (rfl) ?_
        refine nr ?_; intro U h; simp only [z0, z1] at h; subst h
        refine s_val 44 rfl rfl (.pointer (pA ao j)) (run_ixN ((H0.gro GG).take i (by omega)) (by rw [List.length_take]; omega) _ _ rfl rfl j rfl hji) ?_
        refine nr ?_; intro U h; simp only [z0, z1] at h; subst h
        refine s_val 45 rfl rfl (.agg (idA (l.getD j 0))) (run_ldI (H0.gro GG) _ rfl j rfl hjl) ?_
        refine nr ?_; intro U h; simp only [z0, z1] at h; subst h
        refine s_alloc 11 rfl rfl 23 rfl _ zero23 (idA 0) rfl ?_
        intro w4 g4 G eg4 kg4
        have bg4 := size_base GG eg4
        have dg3g4 := lt_new kg3 eg4
        replace kg3 := G.has kg3
        replace GG := GG.trans G
        clear G
        clear eg4
        refine nr ?_; intro U h; simp only [z0, z1] at h; subst h
        refine s_val 10 rfl rfl (.int .i64 ((j : Nat) : Int)) (rfl) ?_
        refine nr ?_; intro U h; simp only [z0, z1] at h; subst h
        refine s_store rfl rfl 23 _ _ rfl g4 0 rfl (.agg (idA (l.getD j 0))) rfl 23 _ kg4 (idA (l.getD j 0)) rfl (size23' _) (idA_fit _ _) (idA_one _) (idA (l.getD j 0)) (splice_whole _ _ (idA_sz _ _)) ?_
        intro w5 St
        replace kg3 := St.has (by omega) kg3
        replace GG := GG.store St bg4
        replace kg4 := St.new
        clear St
        refine wpList_nil ?_
        refine then_n ?_
        refine wp_seq ?_
        cases hm : decide ((l.getD j 0) ∈ want (l.getD i 0) l half)
        · refine wp_region_exA (A := ?Ax27) 11 [(0, 46), (1, 47), (2, 48), (3, 49), (4, 50), (5, 51), (6, 52), (7, 53), (8, 54), (9, 55), (10, 56)] [.val (.slice (some ⟨g, 0, none⟩) l.length l.length), .val (.int .i64 ((i : Nat) : Int)), .val (.pointer (some ⟨g, i, none⟩)), .val (.slice ((F i).1) ((want (l.getD i 0) l half).length) ((F i).2)), .val (.agg (idA (l.getD j 0))), .val (.bool false), .val (.slice (some ⟨g, 0, none⟩) l.length l.length), .val (.int .i64 ((j : Nat) : Int)), .val (.pointer (some ⟨g, j, none⟩)), .val (.slice ((F j).1) ((want (l.getD j 0) l half).length) ((F j).2)), .val (.agg (idA (l.getD i 0)))] follows (by kernel_rfl) rfl ?hAx27 (opsA_cons ?o0x27 (opsA_cons ?o1x27 (opsA_cons ?o2x27 (opsA_cons ?o3x27 (opsA_cons ?o4x27 (opsA_cons ?o5x27 (opsA_cons ?o6x27 (opsA_cons ?o7x27 (opsA_cons ?o8x27 (opsA_cons ?o9x27 (opsA_cons ?o10x27 opsA_nil))))))))))) ?restx27
          case hAx27 =>
            intro ptrs
            simp only [full, foldSlots, filledE, postE, List.foldl_cons, List.foldl_nil, List.getD_cons_zero, List.getD_cons_succ, fill_val, List.set_cons_zero, List.set_cons_succ]
            exact rfl
          case o0x27 => exact fun _ _ _ _ => opE_move (v := .slice (some ⟨g, 0, none⟩) l.length l.length) _ rfl rfl rfl
          case o1x27 => exact fun _ _ _ _ => opE_move (v := .int .i64 ((i : Nat) : Int)) _ rfl rfl rfl
          case o2x27 => exact fun _ _ _ _ => opE_value (v := .pointer (some ⟨g, i, none⟩)) rfl (run_ixW _ _ rfl g l.length i rfl rfl hil)
          case o3x27 => exact fun _ _ hw _ => opE_value (v := .slice ((F i).1) ((want (l.getD i 0) l half).length) ((F i).2)) rfl (run_ldc 24 _ rfl g i rfl 24 _ ((GG.drew.trans hw).has kg) (na24 _) _ (wc_get l half F l.length l.length i hil (Nat.le_refl _)))
          case o4x27 => exact fun _ _ hw _ => opE_value (v := .agg (idA (l.getD j 0))) rfl (run_ldB _ rfl g4 _ rfl (hw.has kg4))
          case o5x27 =>
            intro ptrs w' hw hE
            exact opE_call (.val (.bool false)) rfl _ 19 Try.call19 rfl rfl _ rfl [.slice ((F i).1) ((want (l.getD i 0) l half).length) ((F i).2), .agg (idA (l.getD j 0))] rfl ((Calls.bool (has_any _ (F i).1 (F i).2 (want (l.getD i 0) l half) ((HW i hil).gro (GG.drew.trans hw)) (by have := want_len (l.getD i 0) l half; omega) (l.getD j 0) (H.at hjl)) hm).mono fun e w' ⟨he, hg⟩ => ⟨_, he, hg, rfl⟩)
          case o6x27 => exact fun _ _ _ _ => opE_move (v := .slice (some ⟨g, 0, none⟩) l.length l.length) _ rfl rfl rfl
          case o7x27 => exact fun _ _ _ _ => opE_move (v := .int .i64 ((j : Nat) : Int)) _ rfl rfl rfl
          case o8x27 => exact fun _ _ _ _ => opE_value (v := .pointer (some ⟨g, j, none⟩)) rfl (run_ixW _ _ rfl g l.length j rfl rfl hjl)
          case o9x27 => exact fun _ _ hw _ => opE_value (v := .slice ((F j).1) ((want (l.getD j 0) l half).length) ((F j).2)) rfl (run_ldc 24 _ rfl g j rfl 24 _ ((GG.drew.trans hw).has kg) (na24 _) _ (wc_get l half F l.length l.length j hjl (Nat.le_refl _)))
          case o10x27 => exact fun _ _ hw _ => opE_value (v := .agg (idA (l.getD i 0))) rfl (run_ldB _ rfl g3 _ rfl (hw.has kg3))
          intro ptrs w6 GD hxE
          simp only [List.drop_succ_cons, List.drop_zero]
          replace kg3 := GD.has kg3
          replace kg4 := GD.has kg4
          replace GG := GG.drew.trans GD
          clear GD
          refine s_callv 57 rfl rfl _ 19 Try.call19 rfl rfl _ rfl [.slice ((F j).1) ((want (l.getD j 0) l half).length) ((F j).2), .agg (idA (l.getD i 0))] rfl (Calls.bool (has_any _ (F j).1 (F j).2 (want (l.getD j 0) l half) ((HW j hjl).gro GG) (by have := want_len (l.getD j 0) l half; omega) (l.getD i 0) (H.at hil)) ((decide_eq_decide.2 hmm).symm.trans hm)) ?_
          intro w7 G
          replace kg3 := G.has kg3
          replace kg4 := G.has kg4
          replace GG := GG.trans G
          clear G
          refine nr ?_; intro U h; simp only [z0, z1] at h; subst h
          refine s_val 58 rfl rfl (.bool false) (run_neB 4 _ _ _ rfl false false rfl rfl Try.underlying4 false rfl _) ?_
          refine nr ?_; intro U h; simp only [z0, z1] at h; subst h
          refine wpList_nil ?_
          refine then_n ?_
          refine wp_cond_false rfl ?_
          refine wp_skip ?_
          refine blk_n ?_
          refine then_n ?_
          refine wp_region_lit ?_
          refine s_val 59 rfl rfl (.int .i64 ((j + 1 : Nat) : Int)) (run_addI 3 _ _ _ rfl ((j : Nat) : Int) 1 ((j + 1 : Nat) : Int) rfl rfl (by omega) (by omega) (by omega) _) ?_
          refine nr ?_; intro U h; simp only [z0, z1] at h; subst h
          refine s_val 41 rfl rfl (.int .i64 ((j + 1 : Nat) : Int)) (rfl) ?_
          refine nr ?_; intro U h; simp only [z0, z1] at h; subst h
          refine wpList_nil ?_
          refine then_n ?_
          exact ⟨_, (by omega : i - (j + 1) < i - j), j + 1, (fun kz => ([us3 0, .int .i64 ((j : Nat) : Int), .pointer (some ⟨g4, 0, none⟩), .bool true, .int .i64 ((j : Nat) : Int), .pointer (pA ao j), .agg (idA (l.getD j 0)), .slice (some ⟨g, 0, none⟩) l.length l.length, .int .i64 ((i : Nat) : Int), .pointer (some ⟨g, i, none⟩), .slice ((F i).1) ((want (l.getD i 0) l half).length) ((F i).2), .agg (idA (l.getD j 0)), .bool false, .slice (some ⟨g, 0, none⟩) l.length l.length, .int .i64 ((j : Nat) : Int), .pointer (some ⟨g, j, none⟩), .slice ((F j).1) ((want (l.getD j 0) l half).length) ((F j).2), .agg (idA (l.getD i 0)), .bool false, .bool false, .int .i64 ((j + 1 : Nat) : Int)] : List Value).getD kz undef), rfl, rfl, hji, GG, kg3⟩
        · refine wp_region_exA (A := ?Ax28) 11 [(0, 46), (1, 47), (2, 48), (3, 49), (4, 50), (5, 51), (6, 52), (7, 53), (8, 54), (9, 55), (10, 56)] [.val (.slice (some ⟨g, 0, none⟩) l.length l.length), .val (.int .i64 ((i : Nat) : Int)), .val (.pointer (some ⟨g, i, none⟩)), .val (.slice ((F i).1) ((want (l.getD i 0) l half).length) ((F i).2)), .val (.agg (idA (l.getD j 0))), .val (.bool true), .val (.slice (some ⟨g, 0, none⟩) l.length l.length), .val (.int .i64 ((j : Nat) : Int)), .val (.pointer (some ⟨g, j, none⟩)), .val (.slice ((F j).1) ((want (l.getD j 0) l half).length) ((F j).2)), .val (.agg (idA (l.getD i 0)))] follows (by kernel_rfl) rfl ?hAx28 (opsA_cons ?o0x28 (opsA_cons ?o1x28 (opsA_cons ?o2x28 (opsA_cons ?o3x28 (opsA_cons ?o4x28 (opsA_cons ?o5x28 (opsA_cons ?o6x28 (opsA_cons ?o7x28 (opsA_cons ?o8x28 (opsA_cons ?o9x28 (opsA_cons ?o10x28 opsA_nil))))))))))) ?restx28
          case hAx28 =>
            intro ptrs
            simp only [full, foldSlots, filledE, postE, List.foldl_cons, List.foldl_nil, List.getD_cons_zero, List.getD_cons_succ, fill_val, List.set_cons_zero, List.set_cons_succ]
            exact rfl
          case o0x28 => exact fun _ _ _ _ => opE_move (v := .slice (some ⟨g, 0, none⟩) l.length l.length) _ rfl rfl rfl
          case o1x28 => exact fun _ _ _ _ => opE_move (v := .int .i64 ((i : Nat) : Int)) _ rfl rfl rfl
          case o2x28 => exact fun _ _ _ _ => opE_value (v := .pointer (some ⟨g, i, none⟩)) rfl (run_ixW _ _ rfl g l.length i rfl rfl hil)
          case o3x28 => exact fun _ _ hw _ => opE_value (v := .slice ((F i).1) ((want (l.getD i 0) l half).length) ((F i).2)) rfl (run_ldc 24 _ rfl g i rfl 24 _ ((GG.drew.trans hw).has kg) (na24 _) _ (wc_get l half F l.length l.length i hil (Nat.le_refl _)))
          case o4x28 => exact fun _ _ hw _ => opE_value (v := .agg (idA (l.getD j 0))) rfl (run_ldB _ rfl g4 _ rfl (hw.has kg4))
          case o5x28 =>
            intro ptrs w' hw hE
            exact opE_call (.val (.bool true)) rfl _ 19 Try.call19 rfl rfl _ rfl [.slice ((F i).1) ((want (l.getD i 0) l half).length) ((F i).2), .agg (idA (l.getD j 0))] rfl ((Calls.bool (has_any _ (F i).1 (F i).2 (want (l.getD i 0) l half) ((HW i hil).gro (GG.drew.trans hw)) (by have := want_len (l.getD i 0) l half; omega) (l.getD j 0) (H.at hjl)) hm).mono fun e w' ⟨he, hg⟩ => ⟨_, he, hg, rfl⟩)
          case o6x28 => exact fun _ _ _ _ => opE_move (v := .slice (some ⟨g, 0, none⟩) l.length l.length) _ rfl rfl rfl
          case o7x28 => exact fun _ _ _ _ => opE_move (v := .int .i64 ((j : Nat) : Int)) _ rfl rfl rfl
          case o8x28 => exact fun _ _ _ _ => opE_value (v := .pointer (some ⟨g, j, none⟩)) rfl (run_ixW _ _ rfl g l.length j rfl rfl hjl)
          case o9x28 => exact fun _ _ hw _ => opE_value (v := .slice ((F j).1) ((want (l.getD j 0) l half).length) ((F j).2)) rfl (run_ldc 24 _ rfl g j rfl 24 _ ((GG.drew.trans hw).has kg) (na24 _) _ (wc_get l half F l.length l.length j hjl (Nat.le_refl _)))
          case o10x28 => exact fun _ _ hw _ => opE_value (v := .agg (idA (l.getD i 0))) rfl (run_ldB _ rfl g3 _ rfl (hw.has kg3))
          intro ptrs w6 GD hxE
          simp only [List.drop_succ_cons, List.drop_zero]
          replace kg3 := GD.has kg3
          replace kg4 := GD.has kg4
          replace GG := GG.drew.trans GD
          clear GD
          refine s_callv 57 rfl rfl _ 19 Try.call19 rfl rfl _ rfl [.slice ((F j).1) ((want (l.getD j 0) l half).length) ((F j).2), .agg (idA (l.getD i 0))] rfl (Calls.bool (has_any _ (F j).1 (F j).2 (want (l.getD j 0) l half) ((HW j hjl).gro GG) (by have := want_len (l.getD j 0) l half; omega) (l.getD i 0) (H.at hil)) ((decide_eq_decide.2 hmm).symm.trans hm)) ?_
          intro w7 G
          replace kg3 := G.has kg3
          replace kg4 := G.has kg4
          replace GG := GG.trans G
          clear G
          refine nr ?_; intro U h; simp only [z0, z1] at h; subst h
          refine s_val 58 rfl rfl (.bool false) (run_neB 4 _ _ _ rfl true true rfl rfl Try.underlying4 false rfl _) ?_
          refine nr ?_; intro U h; simp only [z0, z1] at h; subst h
          refine wpList_nil ?_
          refine then_n ?_
          refine wp_cond_false rfl ?_
          refine wp_skip ?_
          refine blk_n ?_
          refine then_n ?_
          refine wp_region_lit ?_
          refine s_val 59 rfl rfl (.int .i64 ((j + 1 : Nat) : Int)) (run_addI 3 _ _ _ rfl ((j : Nat) : Int) 1 ((j + 1 : Nat) : Int) rfl rfl (by omega) (by omega) (by omega) _) ?_
          refine nr ?_; intro U h; simp only [z0, z1] at h; subst h
          refine s_val 41 rfl rfl (.int .i64 ((j + 1 : Nat) : Int)) (rfl) ?_
          refine nr ?_; intro U h; simp only [z0, z1] at h; subst h
          refine wpList_nil ?_
          refine then_n ?_
          exact ⟨_, (by omega : i - (j + 1) < i - j), j + 1, (fun kz => ([us3 0, .int .i64 ((j : Nat) : Int), .pointer (some ⟨g4, 0, none⟩), .bool true, .int .i64 ((j : Nat) : Int), .pointer (pA ao j), .agg (idA (l.getD j 0)), .slice (some ⟨g, 0, none⟩) l.length l.length, .int .i64 ((i : Nat) : Int), .pointer (some ⟨g, i, none⟩), .slice ((F i).1) ((want (l.getD i 0) l half).length) ((F i).2), .agg (idA (l.getD j 0)), .bool true, .slice (some ⟨g, 0, none⟩) l.length l.length, .int .i64 ((j : Nat) : Int), .pointer (some ⟨g, j, none⟩), .slice ((F j).1) ((want (l.getD j 0) l half).length) ((F j).2), .agg (idA (l.getD i 0)), .bool true, .bool false, .int .i64 ((j + 1 : Nat) : Int)] : List Value).getD kz undef), rfl, rfl, hji, GG, kg3⟩
  · have hil : i < l.length := by have := of_decide_eq_true hi1; omega
    refine s_val 18 rfl rfl (.bool true) (run_lssT 3 _ _ _ rfl ((i : Nat) : Int) ((l.length : Nat) : Int) rfl rfl true hi1 _) ?_
    refine nr ?_; intro U h; simp only [z0, z1] at h; subst h
    refine wpList_nil ?_
    refine then_n ?_
    refine wp_seq ?_
    refine wp_cond_true rfl ?_
    refine wp_skip ?_
    refine then_n ?_
    refine wp_seq ?_
    refine wp_block ?_
    refine wp_seq ?_
    refine wp_region_lit ?_
    refine s_val 19 rfl rfl (.int .i64 ((i : Nat) : Int)) (rfl) ?_
    refine nr ?_; intro U h; simp only [z0, z1] at h; subst h
    refine s_val 20 rfl rfl (.pointer (pA ao i)) (run_ixI (H.gro GG) _ _ rfl rfl i rfl hil) ?_
    refine nr ?_; intro U h; simp only [z0, z1] at h; subst h
    refine s_val 21 rfl rfl (.agg (idA (l.getD i 0))) (run_ldI (H.gro GG) _ rfl i rfl hil) ?_
    refine nr ?_; intro U h; simp only [z0, z1] at h; subst h
    refine s_alloc 7 rfl rfl 23 rfl _ zero23 (idA 0) rfl ?_
    intro w2 g2 G eg2 kg2
    have bg2 := size_base GG eg2
    have dgg2 := lt_new kg eg2
    have dHWg2 := HW.ne eg2
    replace kg := G.has kg
    replace HW := HW.gro G
    replace GG := GG.trans G
    clear G
    clear eg2
    refine nr ?_; intro U h; simp only [z0, z1] at h; subst h
    refine s_val 6 rfl rfl (.int .i64 ((i : Nat) : Int)) (rfl) ?_
    refine nr ?_; intro U h; simp only [z0, z1] at h; subst h
    refine s_store rfl rfl 23 _ _ rfl g2 0 rfl (.agg (idA (l.getD i 0))) rfl 23 _ kg2 (idA (l.getD i 0)) rfl (size23' _) (idA_fit _ _) (idA_one _) (idA (l.getD i 0)) (splice_whole _ _ (idA_sz _ _)) ?_
    intro w3 St
    replace kg := St.has (by omega) kg
    replace HW := HW.st St dHWg2
    replace GG := GG.store St bg2
    replace kg2 := St.new
    clear St
    refine wpList_nil ?_
    refine then_n ?_
    refine wp_region_lit ?_
    refine s_val 22 rfl rfl (.slice (some ⟨g, 0, none⟩) l.length l.length) (rfl) ?_
    refine nr ?_; intro U h; simp only [z0, z1] at h; subst h
    refine s_val 23 rfl rfl (.int .i64 ((i : Nat) : Int)) (rfl) ?_
    refine nr ?_; intro U h; simp only [z0, z1] at h; subst h
    refine s_val 24 rfl rfl (.agg (idA (l.getD i 0))) (run_ldB _ rfl g2 _ rfl (kg2)) ?_
    refine nr ?_; intro U h; simp only [z0, z1] at h; subst h
    refine s_val 25 rfl rfl (.slice ao l.length cap) (rfl) ?_
    refine nr ?_; intro U h; simp only [z0, z1] at h; subst h
    refine s_val 26 rfl rfl (.int .i64 half) (rfl) ?_
    refine nr ?_; intro U h; simp only [z0, z1] at h; subst h
    refine s_callx 27 rfl rfl _ 11 Try.call11 rfl rfl _ rfl [.agg (idA (l.getD i 0)), .slice ao l.length cap, .int .i64 half] rfl (want_any _ ao cap l (H.gro GG) hl (l.getD i 0) (H.at hil) half) (by rintro _ _ ⟨_, _, he, _⟩; exact ⟨_, he⟩) ?_
    rintro v w4 ⟨ao1, cap1, he, G, HR1⟩
    cases he
    replace kg := G.has kg
    replace kg2 := G.has kg2
    replace HW := HW.gro G
    replace GG := GG.trans G
    clear G
    refine nr ?_; intro U h; simp only [z0, z1] at h; subst h
    refine s_val 28 rfl rfl (.pointer (some ⟨g, i, none⟩)) (run_ixW _ _ rfl g l.length i rfl rfl hil) ?_
    refine nr ?_; intro U h; simp only [z0, z1] at h; subst h
    have hnr := HR1.neW kg
    have hnw : NW l half F i g := fun j hj => (HW j hj).neW kg
    refine s_store rfl rfl 24 _ _ rfl g i rfl (.slice ao1 (want (l.getD i 0) l half).length cap1) rfl 24 _ kg #[.slice ao1 (want (l.getD i 0) l half).length cap1] rfl si24 (by rw [wc_size]; exact hil) (by kernel_rfl) _ (wc_set l half F i l.length (ao1, cap1) hil) ?_
    intro w5 St
    replace HW := HW.st St hnw
    replace HR1 := HR1.st St hnr
    replace GG := GG.store St bg
    replace kg := St.new
    replace HW := HW.snoc HR1
    clear St hnr hnw
    refine wpList_nil ?_
    refine blk_n ?_
    refine then_n ?_
    refine wp_region_lit ?_
    refine s_val 29 rfl rfl (.int .i64 ((i + 1 : Nat) : Int)) (run_addI 3 _ _ _ rfl ((i : Nat) : Int) 1 ((i + 1 : Nat) : Int) rfl rfl (by omega) (by omega) (by omega) _) ?_
    refine nr ?_; intro U h; simp only [z0, z1] at h; subst h
    refine s_val 17 rfl rfl (.int .i64 ((i + 1 : Nat) : Int)) (rfl) ?_
    refine nr ?_; intro U h; simp only [z0, z1] at h; subst h
    refine wpList_nil ?_
    refine then_n ?_
    exact ⟨_, (by omega : l.length - (i + 1) < l.length - i), i + 1, upF F i (ao1, cap1), (fun kz => ([.int .i64 ((i : Nat) : Int), .pointer (some ⟨g2, 0, none⟩), .bool true, .int .i64 ((i : Nat) : Int), .pointer (pA ao i), .agg (idA (l.getD i 0)), .slice (some ⟨g, 0, none⟩) l.length l.length, .int .i64 ((i : Nat) : Int), .agg (idA (l.getD i 0)), .slice ao l.length cap, .int .i64 half, .slice ao1 ((want (l.getD i 0) l half).length) cap1, .pointer (some ⟨g, i, none⟩), .int .i64 ((i + 1 : Nat) : Int)] : List Value).getD kz undef), rfl, rfl, hil, GG, kg, HW⟩
end Go.Proofs.Ytkckjkimjeakcaa
