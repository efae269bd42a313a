/- Which version is newer, and an item's record (the law). -/
import Derived.Test.YtgfnjekpafempaaBV7
namespace Go.Proofs.Ytgfnjekpafempaa
open Go.RowKit
def IM.sn (x : IM) (n : Int) : IM := ⟨x.key, n, x.who, x.ao, x.cap, x.val⟩
theorem spl_sn (x : IM) (n : Int) : splice (itA x) 16 #[.int .i64 n] = itA (x.sn n) := by kernel_rfl
theorem nwV_asy {a b : VM} (h : nwV a b = true) : nwV b a = false := by
  unfold nwV at *
  rw [decide_eq_true_eq] at h
  exact decide_eq_false (by omega)
theorem nwV_tot {a b : VM} (h : nwV a b = false) (k : nwV b a = false) : eqV a b = true := by
  unfold nwV at *
  rw [decide_eq_false_iff_not] at h k
  unfold eqV
  rw [decide_eq_true (show a.n = b.n by omega), decide_eq_true (show a.who = b.who by omega)]
  rfl
set_option maxRecDepth 100000 in
set_option maxHeartbeats 4000000 in
theorem vaultForms_any (x : IM) (hx : x.ok) (hl : x.val.length ≤ 140737488351232) (a b : VM) (ha : a.ok) (hb : b.ok) (w : World) (HX : NC w .u8 x.ao x.cap x.val) : Calls Try.prog 4 #[.agg (itA x), .agg (veA a), .agg (veA b)] w (fun e w' => e = .returned (.bool true) ∧ Gro w w') := by
  refine s_enter Try.func4 rfl Try.ntmps4 [.agg (itA x), .agg (veA a), .agg (veA b)] [.agg (itA x), .agg (veA a), .agg (veA b), undef, undef, undef, undef, undef, undef, undef, undef, undef, undef, undef, undef, undef, undef, undef, undef, undef, undef, undef, undef, undef, undef, undef, undef, undef, undef, undef, undef, undef, undef, undef, undef, undef, undef, undef, undef, undef, undef, undef, undef, undef, undef, undef, undef, undef, undef, undef, undef, undef, undef, undef, undef, undef, undef, undef] rfl ?_
  have GG := Gro.refl w
  refine wp_seq ?_
  refine wp_region_lit ?_
  refine s_box 3 rfl rfl 56 _ rfl _ rfl (itA x) rfl ?_
  intro w1 g1 G eg1 kg1
  have bg1 := size_base GG eg1
  have dHXg1 := HX.ne eg1
  replace HX := HX.gro G
  replace GG := GG.trans G
  clear G
  clear eg1
  refine nr ?_; intro U h; simp only [z0, z1] at h; subst h
  refine s_box 4 rfl rfl 54 _ rfl _ rfl (veA a) rfl ?_
  intro w2 g2 G eg2 kg2
  have bg2 := size_base GG eg2
  have dg1g2 := lt_new kg1 eg2
  have dHXg2 := HX.ne eg2
  replace kg1 := G.has kg1
  replace HX := HX.gro G
  replace GG := GG.trans G
  clear G
  clear eg2
  refine nr ?_; intro U h; simp only [z0, z1] at h; subst h
  refine s_box 5 rfl rfl 54 _ rfl _ rfl (veA b) rfl ?_
  intro w3 g3 G eg3 kg3
  have bg3 := size_base GG eg3
  have dg1g3 := lt_new kg1 eg3
  have dg2g3 := lt_new kg2 eg3
  have dHXg3 := HX.ne eg3
  replace kg1 := G.has kg1
  replace kg2 := G.has kg2
  replace HX := HX.gro G
  replace GG := GG.trans G
  clear G
  clear eg3
  refine nr ?_; intro U h; simp only [z0, z1] at h; subst h
  refine s_val 6 rfl rfl (.bool false) (rfl) ?_
  refine nr ?_; intro U h; simp only [z0, z1] at h; subst h
  refine wpList_nil ?_
  refine then_n ?_
  refine wp_seq ?_
  refine wp_seq ?_
  cases h0 : decide (x.n < 0)
  · refine wp_region_lit ?_
    refine s_val 7 rfl rfl (.pointer (some ⟨g1, 16, none⟩)) (run_fld 56 _ 1 rfl g1 0 rfl 16 (by kernel_rfl)) ?_
    refine nr ?_; intro U h; simp only [z0, z1] at h; subst h
    refine s_val 8 rfl rfl (.pointer (some ⟨g1, 16, none⟩)) (run_fld 54 _ 0 rfl g1 16 rfl 16 (by kernel_rfl)) ?_
    refine nr ?_; intro U h; simp only [z0, z1] at h; subst h
    refine s_val 9 rfl rfl (.int .i64 x.n) (ldItn _ rfl g1 rfl (kg1)) ?_
    refine nr ?_; intro U h; simp only [z0, z1] at h; subst h
    refine s_val 10 rfl rfl (.bool false) (run_lssT 2 _ _ _ rfl x.n 0 rfl rfl false h0 _) ?_
    refine nr ?_; intro U h; simp only [z0, z1] at h; subst h
    refine wpList_nil ?_
    refine then_n ?_
    refine wp_cond_false rfl ?_
    refine wp_skip ?_
    refine then_n ?_
    refine wp_seq ?_
    have hX : (x).ok := hx
    have hX0 : 0 ≤ (x).n := by have := of_decide_eq_false h0; omega
    cases h1 : nwV a b
    · skip
      cases h2 : nwV b a
      · skip
        cases h3 : eqV a b
        · skip
          exact absurd ((nwV_tot h1 h2).symm.trans h3) (by decide)
        · skip
          refine wp_region_exA (A := ?Ax1) 44 [(0, 13), (1, 14), (2, 15), (3, 16), (4, 17), (5, 18), (6, 19), (7, 20), (8, 21), (9, 22), (10, 23), (11, 24), (12, 25), (13, 26), (14, 27), (15, 28), (16, 29), (17, 30), (18, 31), (19, 32), (20, 33), (21, 34), (22, 35), (23, 36), (24, 37), (25, 38), (26, 39), (27, 40), (28, 41), (29, 42), (30, 43), (31, 44), (32, 45), (33, 46), (34, 47), (35, 48), (36, 49), (37, 50), (38, 51), (39, 52), (40, 53), (41, 54), (42, 55), (43, 56)] [.val (.bool true), .val (.bool true), .val (.agg (itA x)), bytE w3.heap.size (formV x.it), .val (.string (bas (formV x.it))), .val (.agg (itA x)), bytE w3.heap.size (formV x.it), .val (.string (bas (formV x.it))), .val (.bool true), .val (.bool true), .val (.bool true), .val (.agg (veA a)), .val (.agg (veA b)), .val (.bool false), .val (.agg (veA a)), .val (.agg (veA b)), .val (.bool false), .val (.bool true), .val (.bool true), .val (.bool true), .val (.agg (veA a)), .val (.agg (veA b)), .val (.bool false), .val (.bool false), .val undef, .val undef, .val undef, .val (.bool false), .val (.bool true), .val (.bool true), .val (.bool true), .val (.agg (veA a)), .val (.agg (veA b)), .val (.bool true), .val (.bool true), .val undef, .val undef, .val undef, .val (.bool true), .val (.bool true), .val undef, .val undef, .val undef, .val (.bool true)] follows (by kernel_rfl) rfl ?hAx1 (opsA_cons ?o0x1 (opsA_cons ?o1x1 (opsA_cons ?o2x1 (opsA_cons ?o3x1 (opsA_cons ?o4x1 (opsA_cons ?o5x1 (opsA_cons ?o6x1 (opsA_cons ?o7x1 (opsA_cons ?o8x1 (opsA_cons ?o9x1 (opsA_cons ?o10x1 (opsA_cons ?o11x1 (opsA_cons ?o12x1 (opsA_cons ?o13x1 (opsA_cons ?o14x1 (opsA_cons ?o15x1 (opsA_cons ?o16x1 (opsA_cons ?o17x1 (opsA_cons ?o18x1 (opsA_cons ?o19x1 (opsA_cons ?o20x1 (opsA_cons ?o21x1 (opsA_cons ?o22x1 (opsA_cons ?o23x1 (opsA_cons ?o24x1 (opsA_cons ?o25x1 (opsA_cons ?o26x1 (opsA_cons ?o27x1 (opsA_cons ?o28x1 (opsA_cons ?o29x1 (opsA_cons ?o30x1 (opsA_cons ?o31x1 (opsA_cons ?o32x1 (opsA_cons ?o33x1 (opsA_cons ?o34x1 (opsA_cons ?o35x1 (opsA_cons ?o36x1 (opsA_cons ?o37x1 (opsA_cons ?o38x1 (opsA_cons ?o39x1 (opsA_cons ?o40x1 (opsA_cons ?o41x1 (opsA_cons ?o42x1 (opsA_cons ?o43x1 opsA_nil)))))))))))))))))))))))))))))))))))))))))))) ?restx1
          case hAx1 =>
            intro ptrs
            simp only [full, foldSlots, filledE, postE, List.foldl_cons, List.foldl_nil, List.getD_cons_zero, List.getD_cons_succ, fill_val, fill_bytE, fill_bytE, List.set_cons_zero, List.set_cons_succ]
            exact rfl
          case o0x1 =>
            intro ptrs w' hw hE
            exact opE_call (.val (.bool true)) rfl _ 10 Try.call10 rfl rfl _ rfl [] rfl ((fixed_any _).mono fun e w' ⟨he, hg⟩ => ⟨_, he, hg, rfl⟩)
          case o1x1 => exact fun _ _ _ _ => opE_move (v := .bool true) _ rfl rfl rfl
          case o2x1 => exact fun _ _ hw _ => opE_value (v := .agg (itA x)) rfl (ldIt0 _ rfl g1 rfl (hw.has kg1))
          case o3x1 =>
            intro ptrs w' hw hE
            exact opE_call (bytE w3.heap.size (formV x.it)) rfl _ 19 Try.call19 rfl rfl _ rfl [.agg (itA x)] rfl ((form_any x hX hX0 hl _ (show NC _ .u8 x.ao x.cap x.val from HX.gro ((Gro.refl _).drew.trans hw))).mono fun e w' ⟨ao, cap, he, hg, ho⟩ => ⟨_, he, hg, ao, cap, rfl, ho.mono hw.size⟩)
          case o4x1 =>
            intro ptrs w' hw hE
            obtain ⟨⟨ao3, cap3, h3, o3⟩, _⟩ := hE
            exact opE_value (v := .string (bas (formV x.it))) rfl (run_text_op bT 9 rfl _ rfl (by exact h3) o3.nc)
          case o5x1 => exact fun _ _ hw _ => opE_value (v := .agg (itA x)) rfl (ldIt0 _ rfl g1 rfl (hw.has kg1))
          case o6x1 =>
            intro ptrs w' hw hE
            obtain ⟨⟨ao3, cap3, h3, o3⟩, _⟩ := hE
            exact opE_call (bytE w3.heap.size (formV x.it)) rfl _ 20 Try.call20 rfl rfl _ rfl [.agg (itA x)] rfl ((rform_any x hX hX0 hl _ (show NC _ .u8 x.ao x.cap x.val from HX.gro ((Gro.refl _).drew.trans hw))).mono fun e w' ⟨ao, cap, he, hg, ho⟩ => ⟨_, he, hg, ao, cap, rfl, ho.mono hw.size⟩)
          case o7x1 =>
            intro ptrs w' hw hE
            obtain ⟨⟨ao6, cap6, h6, o6⟩, _⟩ := hE
            exact opE_value (v := .string (bas (formV x.it))) rfl (run_text_op bT 9 rfl _ rfl (by exact h6) o6.nc)
          case o8x1 => exact fun _ _ _ _ => opE_value (v := .bool true) rfl (run_eqs_op _ _ _ rfl _ _ rfl rfl true (decide_eq_true rfl) _)
          case o9x1 => exact fun _ _ _ _ => opE_pick (v := .bool true) _ _ _ rfl rfl true rfl rfl
          case o10x1 => exact fun _ _ _ _ => opE_move (v := .bool true) _ rfl rfl rfl
          case o11x1 => exact fun _ _ hw _ => opE_value (v := .agg (veA a)) rfl (ldVe0 _ rfl g2 rfl (hw.has kg2))
          case o12x1 => exact fun _ _ hw _ => opE_value (v := .agg (veA b)) rfl (ldVe0 _ rfl g3 rfl (hw.has kg3))
          case o13x1 =>
            intro ptrs w' hw hE
            exact opE_call (.val (.bool false)) rfl _ 21 Try.call21 rfl rfl _ rfl [.agg (veA a), .agg (veA b)] rfl ((Calls.bool (newer_any a b ha hb _) h1).mono fun e w' ⟨he, hg⟩ => ⟨_, he, hg, rfl⟩)
          case o14x1 => exact fun _ _ hw _ => opE_value (v := .agg (veA a)) rfl (ldVe0 _ rfl g2 rfl (hw.has kg2))
          case o15x1 => exact fun _ _ hw _ => opE_value (v := .agg (veA b)) rfl (ldVe0 _ rfl g3 rfl (hw.has kg3))
          case o16x1 =>
            intro ptrs w' hw hE
            exact opE_call (.val (.bool false)) rfl _ 22 Try.call22 rfl rfl _ rfl [.agg (veA a), .agg (veA b)] rfl ((Calls.bool (rnewer_any a b ha hb _) h1).mono fun e w' ⟨he, hg⟩ => ⟨_, he, hg, rfl⟩)
          case o17x1 => exact fun _ _ _ _ => opE_value (v := .bool true) rfl (run_eqB 4 _ _ _ rfl false false rfl rfl Try.underlying4 true (by decide) _)
          case o18x1 => exact fun _ _ _ _ => opE_pick (v := .bool true) _ _ _ rfl rfl true rfl rfl
          case o19x1 => exact fun _ _ _ _ => opE_move (v := .bool true) _ rfl rfl rfl
          case o20x1 => exact fun _ _ hw _ => opE_value (v := .agg (veA a)) rfl (ldVe0 _ rfl g2 rfl (hw.has kg2))
          case o21x1 => exact fun _ _ hw _ => opE_value (v := .agg (veA b)) rfl (ldVe0 _ rfl g3 rfl (hw.has kg3))
          case o22x1 =>
            intro ptrs w' hw hE
            exact opE_call (.val (.bool false)) rfl _ 21 Try.call21 rfl rfl _ rfl [.agg (veA a), .agg (veA b)] rfl ((Calls.bool (newer_any a b ha hb _) h1).mono fun e w' ⟨he, hg⟩ => ⟨_, he, hg, rfl⟩)
          case o23x1 => exact fun _ _ _ _ => opE_move (v := .bool false) _ rfl rfl rfl
          case o24x1 => exact fun _ _ _ _ => opE_skip rfl
          case o25x1 => exact fun _ _ _ _ => opE_skip rfl
          case o26x1 => exact fun _ _ _ _ => opE_skip rfl
          case o27x1 => exact fun _ _ _ _ => opE_pick (v := .bool false) _ _ _ rfl rfl false rfl rfl
          case o28x1 => exact fun _ _ _ _ => opE_value (v := .bool true) rfl (run_nt _ _ rfl false rfl)
          case o29x1 => exact fun _ _ _ _ => opE_pick (v := .bool true) _ _ _ rfl rfl true rfl rfl
          case o30x1 => exact fun _ _ _ _ => opE_move (v := .bool true) _ rfl rfl rfl
          case o31x1 => exact fun _ _ hw _ => opE_value (v := .agg (veA a)) rfl (ldVe0 _ rfl g2 rfl (hw.has kg2))
          case o32x1 => exact fun _ _ hw _ => opE_value (v := .agg (veA b)) rfl (ldVe0 _ rfl g3 rfl (hw.has kg3))
          case o33x1 => exact fun _ _ _ _ => opE_value (v := .bool true) rfl (run_eqV _ _ _ rfl _ _ rfl rfl ha hb true h3)
          case o34x1 => exact fun _ _ _ _ => opE_move (v := .bool true) _ rfl rfl rfl
          case o35x1 => exact fun _ _ _ _ => opE_skip rfl
          case o36x1 => exact fun _ _ _ _ => opE_skip rfl
          case o37x1 => exact fun _ _ _ _ => opE_skip rfl
          case o38x1 => exact fun _ _ _ _ => opE_pick (v := .bool true) _ _ _ rfl rfl true rfl rfl
          case o39x1 => exact fun _ _ _ _ => opE_move (v := .bool true) _ rfl rfl rfl
          case o40x1 => exact fun _ _ _ _ => opE_skip rfl
          case o41x1 => exact fun _ _ _ _ => opE_skip rfl
          case o42x1 => exact fun _ _ _ _ => opE_skip rfl
          case o43x1 => exact fun _ _ _ _ => opE_pick (v := .bool true) _ _ _ rfl rfl true rfl rfl
          intro ptrs w4 GD hxE
          simp only [List.drop_succ_cons, List.drop_zero]
          replace kg1 := GD.has kg1
          replace kg2 := GD.has kg2
          replace kg3 := GD.has kg3
          replace HX := HX.gro ((Gro.refl _).drew.trans GD)
          replace GG := GG.drew.trans GD
          obtain ⟨_, _, _⟩ := hxE
          clear GD
          refine s_val 57 rfl rfl (.bool true) (rfl) ?_
          refine nr ?_; intro U h; simp only [z0, z1] at h; subst h
          refine s_val 6 rfl rfl (.bool true) (rfl) ?_
          refine nr ?_; intro U h; simp only [z0, z1] at h; subst h
          refine wpList_nil ?_
          refine then_n ?_
          refine wp_ret ?_
          refine bodyPost_ret (results_tmp Try.results4 _ _ _) rfl ?_
          exact ⟨rfl, GG⟩
      · skip
        cases h3 : eqV a b
        · skip
          refine wp_region_exA (A := ?Ax2) 44 [(0, 13), (1, 14), (2, 15), (3, 16), (4, 17), (5, 18), (6, 19), (7, 20), (8, 21), (9, 22), (10, 23), (11, 24), (12, 25), (13, 26), (14, 27), (15, 28), (16, 29), (17, 30), (18, 31), (19, 32), (20, 33), (21, 34), (22, 35), (23, 36), (24, 37), (25, 38), (26, 39), (27, 40), (28, 41), (29, 42), (30, 43), (31, 44), (32, 45), (33, 46), (34, 47), (35, 48), (36, 49), (37, 50), (38, 51), (39, 52), (40, 53), (41, 54), (42, 55), (43, 56)] [.val (.bool true), .val (.bool true), .val (.agg (itA x)), bytE w3.heap.size (formV x.it), .val (.string (bas (formV x.it))), .val (.agg (itA x)), bytE w3.heap.size (formV x.it), .val (.string (bas (formV x.it))), .val (.bool true), .val (.bool true), .val (.bool true), .val (.agg (veA a)), .val (.agg (veA b)), .val (.bool false), .val (.agg (veA a)), .val (.agg (veA b)), .val (.bool false), .val (.bool true), .val (.bool true), .val (.bool true), .val (.agg (veA a)), .val (.agg (veA b)), .val (.bool false), .val (.bool false), .val undef, .val undef, .val undef, .val (.bool false), .val (.bool true), .val (.bool true), .val (.bool true), .val (.agg (veA a)), .val (.agg (veA b)), .val (.bool false), .val (.bool false), .val (.agg (veA a)), .val (.agg (veA b)), .val (.bool false), .val (.bool false), .val (.bool false), .val (.agg (veA b)), .val (.agg (veA a)), .val (.bool true), .val (.bool true)] follows (by kernel_rfl) rfl ?hAx2 (opsA_cons ?o0x2 (opsA_cons ?o1x2 (opsA_cons ?o2x2 (opsA_cons ?o3x2 (opsA_cons ?o4x2 (opsA_cons ?o5x2 (opsA_cons ?o6x2 (opsA_cons ?o7x2 (opsA_cons ?o8x2 (opsA_cons ?o9x2 (opsA_cons ?o10x2 (opsA_cons ?o11x2 (opsA_cons ?o12x2 (opsA_cons ?o13x2 (opsA_cons ?o14x2 (opsA_cons ?o15x2 (opsA_cons ?o16x2 (opsA_cons ?o17x2 (opsA_cons ?o18x2 (opsA_cons ?o19x2 (opsA_cons ?o20x2 (opsA_cons ?o21x2 (opsA_cons ?o22x2 (opsA_cons ?o23x2 (opsA_cons ?o24x2 (opsA_cons ?o25x2 (opsA_cons ?o26x2 (opsA_cons ?o27x2 (opsA_cons ?o28x2 (opsA_cons ?o29x2 (opsA_cons ?o30x2 (opsA_cons ?o31x2 (opsA_cons ?o32x2 (opsA_cons ?o33x2 (opsA_cons ?o34x2 (opsA_cons ?o35x2 (opsA_cons ?o36x2 (opsA_cons ?o37x2 (opsA_cons ?o38x2 (opsA_cons ?o39x2 (opsA_cons ?o40x2 (opsA_cons ?o41x2 (opsA_cons ?o42x2 (opsA_cons ?o43x2 opsA_nil)))))))))))))))))))))))))))))))))))))))))))) ?restx2
          case hAx2 =>
            intro ptrs
            simp only [full, foldSlots, filledE, postE, List.foldl_cons, List.foldl_nil, List.getD_cons_zero, List.getD_cons_succ, fill_val, fill_bytE, fill_bytE, List.set_cons_zero, List.set_cons_succ]
            exact rfl
          case o0x2 =>
            intro ptrs w' hw hE
            exact opE_call (.val (.bool true)) rfl _ 10 Try.call10 rfl rfl _ rfl [] rfl ((fixed_any _).mono fun e w' ⟨he, hg⟩ => ⟨_, he, hg, rfl⟩)
          case o1x2 => exact fun _ _ _ _ => opE_move (v := .bool true) _ rfl rfl rfl
          case o2x2 => exact fun _ _ hw _ => opE_value (v := .agg (itA x)) rfl (ldIt0 _ rfl g1 rfl (hw.has kg1))
          case o3x2 =>
            intro ptrs w' hw hE
            exact opE_call (bytE w3.heap.size (formV x.it)) rfl _ 19 Try.call19 rfl rfl _ rfl [.agg (itA x)] rfl ((form_any x hX hX0 hl _ (show NC _ .u8 x.ao x.cap x.val from HX.gro ((Gro.refl _).drew.trans hw))).mono fun e w' ⟨ao, cap, he, hg, ho⟩ => ⟨_, he, hg, ao, cap, rfl, ho.mono hw.size⟩)
          case o4x2 =>
            intro ptrs w' hw hE
            obtain ⟨⟨ao3, cap3, h3, o3⟩, _⟩ := hE
            exact opE_value (v := .string (bas (formV x.it))) rfl (run_text_op bT 9 rfl _ rfl (by exact h3) o3.nc)
          case o5x2 => exact fun _ _ hw _ => opE_value (v := .agg (itA x)) rfl (ldIt0 _ rfl g1 rfl (hw.has kg1))
          case o6x2 =>
            intro ptrs w' hw hE
            obtain ⟨⟨ao3, cap3, h3, o3⟩, _⟩ := hE
            exact opE_call (bytE w3.heap.size (formV x.it)) rfl _ 20 Try.call20 rfl rfl _ rfl [.agg (itA x)] rfl ((rform_any x hX hX0 hl _ (show NC _ .u8 x.ao x.cap x.val from HX.gro ((Gro.refl _).drew.trans hw))).mono fun e w' ⟨ao, cap, he, hg, ho⟩ => ⟨_, he, hg, ao, cap, rfl, ho.mono hw.size⟩)
          case o7x2 =>
            intro ptrs w' hw hE
            obtain ⟨⟨ao6, cap6, h6, o6⟩, _⟩ := hE
            exact opE_value (v := .string (bas (formV x.it))) rfl (run_text_op bT 9 rfl _ rfl (by exact h6) o6.nc)
          case o8x2 => exact fun _ _ _ _ => opE_value (v := .bool true) rfl (run_eqs_op _ _ _ rfl _ _ rfl rfl true (decide_eq_true rfl) _)
          case o9x2 => exact fun _ _ _ _ => opE_pick (v := .bool true) _ _ _ rfl rfl true rfl rfl
          case o10x2 => exact fun _ _ _ _ => opE_move (v := .bool true) _ rfl rfl rfl
          case o11x2 => exact fun _ _ hw _ => opE_value (v := .agg (veA a)) rfl (ldVe0 _ rfl g2 rfl (hw.has kg2))
          case o12x2 => exact fun _ _ hw _ => opE_value (v := .agg (veA b)) rfl (ldVe0 _ rfl g3 rfl (hw.has kg3))
          case o13x2 =>
            intro ptrs w' hw hE
            exact opE_call (.val (.bool false)) rfl _ 21 Try.call21 rfl rfl _ rfl [.agg (veA a), .agg (veA b)] rfl ((Calls.bool (newer_any a b ha hb _) h1).mono fun e w' ⟨he, hg⟩ => ⟨_, he, hg, rfl⟩)
          case o14x2 => exact fun _ _ hw _ => opE_value (v := .agg (veA a)) rfl (ldVe0 _ rfl g2 rfl (hw.has kg2))
          case o15x2 => exact fun _ _ hw _ => opE_value (v := .agg (veA b)) rfl (ldVe0 _ rfl g3 rfl (hw.has kg3))
          case o16x2 =>
            intro ptrs w' hw hE
            exact opE_call (.val (.bool false)) rfl _ 22 Try.call22 rfl rfl _ rfl [.agg (veA a), .agg (veA b)] rfl ((Calls.bool (rnewer_any a b ha hb _) h1).mono fun e w' ⟨he, hg⟩ => ⟨_, he, hg, rfl⟩)
          case o17x2 => exact fun _ _ _ _ => opE_value (v := .bool true) rfl (run_eqB 4 _ _ _ rfl false false rfl rfl Try.underlying4 true (by decide) _)
          case o18x2 => exact fun _ _ _ _ => opE_pick (v := .bool true) _ _ _ rfl rfl true rfl rfl
          case o19x2 => exact fun _ _ _ _ => opE_move (v := .bool true) _ rfl rfl rfl
          case o20x2 => exact fun _ _ hw _ => opE_value (v := .agg (veA a)) rfl (ldVe0 _ rfl g2 rfl (hw.has kg2))
          case o21x2 => exact fun _ _ hw _ => opE_value (v := .agg (veA b)) rfl (ldVe0 _ rfl g3 rfl (hw.has kg3))
          case o22x2 =>
            intro ptrs w' hw hE
            exact opE_call (.val (.bool false)) rfl _ 21 Try.call21 rfl rfl _ rfl [.agg (veA a), .agg (veA b)] rfl ((Calls.bool (newer_any a b ha hb _) h1).mono fun e w' ⟨he, hg⟩ => ⟨_, he, hg, rfl⟩)
          case o23x2 => exact fun _ _ _ _ => opE_move (v := .bool false) _ rfl rfl rfl
          case o24x2 => exact fun _ _ _ _ => opE_skip rfl
          case o25x2 => exact fun _ _ _ _ => opE_skip rfl
          case o26x2 => exact fun _ _ _ _ => opE_skip rfl
          case o27x2 => exact fun _ _ _ _ => opE_pick (v := .bool false) _ _ _ rfl rfl false rfl rfl
          case o28x2 => exact fun _ _ _ _ => opE_value (v := .bool true) rfl (run_nt _ _ rfl false rfl)
          case o29x2 => exact fun _ _ _ _ => opE_pick (v := .bool true) _ _ _ rfl rfl true rfl rfl
          case o30x2 => exact fun _ _ _ _ => opE_move (v := .bool true) _ rfl rfl rfl
          case o31x2 => exact fun _ _ hw _ => opE_value (v := .agg (veA a)) rfl (ldVe0 _ rfl g2 rfl (hw.has kg2))
          case o32x2 => exact fun _ _ hw _ => opE_value (v := .agg (veA b)) rfl (ldVe0 _ rfl g3 rfl (hw.has kg3))
          case o33x2 => exact fun _ _ _ _ => opE_value (v := .bool false) rfl (run_eqV _ _ _ rfl _ _ rfl rfl ha hb false h3)
          case o34x2 => exact fun _ _ _ _ => opE_move (v := .bool false) _ rfl rfl rfl
          case o35x2 => exact fun _ _ hw _ => opE_value (v := .agg (veA a)) rfl (ldVe0 _ rfl g2 rfl (hw.has kg2))
          case o36x2 => exact fun _ _ hw _ => opE_value (v := .agg (veA b)) rfl (ldVe0 _ rfl g3 rfl (hw.has kg3))
          case o37x2 =>
            intro ptrs w' hw hE
            exact opE_call (.val (.bool false)) rfl _ 21 Try.call21 rfl rfl _ rfl [.agg (veA a), .agg (veA b)] rfl ((Calls.bool (newer_any a b ha hb _) h1).mono fun e w' ⟨he, hg⟩ => ⟨_, he, hg, rfl⟩)
          case o38x2 => exact fun _ _ _ _ => opE_pick (v := .bool false) _ _ _ rfl rfl false rfl rfl
          case o39x2 => exact fun _ _ _ _ => opE_move (v := .bool false) _ rfl rfl rfl
          case o40x2 => exact fun _ _ hw _ => opE_value (v := .agg (veA b)) rfl (ldVe0 _ rfl g3 rfl (hw.has kg3))
          case o41x2 => exact fun _ _ hw _ => opE_value (v := .agg (veA a)) rfl (ldVe0 _ rfl g2 rfl (hw.has kg2))
          case o42x2 =>
            intro ptrs w' hw hE
            exact opE_call (.val (.bool true)) rfl _ 21 Try.call21 rfl rfl _ rfl [.agg (veA b), .agg (veA a)] rfl ((Calls.bool (newer_any b a hb ha _) h2).mono fun e w' ⟨he, hg⟩ => ⟨_, he, hg, rfl⟩)
          case o43x2 => exact fun _ _ _ _ => opE_pick (v := .bool true) _ _ _ rfl rfl false rfl rfl
          intro ptrs w4 GD hxE
          simp only [List.drop_succ_cons, List.drop_zero]
          replace kg1 := GD.has kg1
          replace kg2 := GD.has kg2
          replace kg3 := GD.has kg3
          replace HX := HX.gro ((Gro.refl _).drew.trans GD)
          replace GG := GG.drew.trans GD
          obtain ⟨_, _, _⟩ := hxE
          clear GD
          refine s_val 57 rfl rfl (.bool true) (rfl) ?_
          refine nr ?_; intro U h; simp only [z0, z1] at h; subst h
          refine s_val 6 rfl rfl (.bool true) (rfl) ?_
          refine nr ?_; intro U h; simp only [z0, z1] at h; subst h
          refine wpList_nil ?_
          refine then_n ?_
          refine wp_ret ?_
          refine bodyPost_ret (results_tmp Try.results4 _ _ _) rfl ?_
          exact ⟨rfl, GG⟩
        · skip
          refine wp_region_exA (A := ?Ax3) 44 [(0, 13), (1, 14), (2, 15), (3, 16), (4, 17), (5, 18), (6, 19), (7, 20), (8, 21), (9, 22), (10, 23), (11, 24), (12, 25), (13, 26), (14, 27), (15, 28), (16, 29), (17, 30), (18, 31), (19, 32), (20, 33), (21, 34), (22, 35), (23, 36), (24, 37), (25, 38), (26, 39), (27, 40), (28, 41), (29, 42), (30, 43), (31, 44), (32, 45), (33, 46), (34, 47), (35, 48), (36, 49), (37, 50), (38, 51), (39, 52), (40, 53), (41, 54), (42, 55), (43, 56)] [.val (.bool true), .val (.bool true), .val (.agg (itA x)), bytE w3.heap.size (formV x.it), .val (.string (bas (formV x.it))), .val (.agg (itA x)), bytE w3.heap.size (formV x.it), .val (.string (bas (formV x.it))), .val (.bool true), .val (.bool true), .val (.bool true), .val (.agg (veA a)), .val (.agg (veA b)), .val (.bool false), .val (.agg (veA a)), .val (.agg (veA b)), .val (.bool false), .val (.bool true), .val (.bool true), .val (.bool true), .val (.agg (veA a)), .val (.agg (veA b)), .val (.bool false), .val (.bool false), .val undef, .val undef, .val undef, .val (.bool false), .val (.bool true), .val (.bool true), .val (.bool true), .val (.agg (veA a)), .val (.agg (veA b)), .val (.bool true), .val (.bool true), .val undef, .val undef, .val undef, .val (.bool true), .val (.bool true), .val undef, .val undef, .val undef, .val (.bool true)] follows (by kernel_rfl) rfl ?hAx3 (opsA_cons ?o0x3 (opsA_cons ?o1x3 (opsA_cons ?o2x3 (opsA_cons ?o3x3 (opsA_cons ?o4x3 (opsA_cons ?o5x3 (opsA_cons ?o6x3 (opsA_cons ?o7x3 (opsA_cons ?o8x3 (opsA_cons ?o9x3 (opsA_cons ?o10x3 (opsA_cons ?o11x3 (opsA_cons ?o12x3 (opsA_cons ?o13x3 (opsA_cons ?o14x3 (opsA_cons ?o15x3 (opsA_cons ?o16x3 (opsA_cons ?o17x3 (opsA_cons ?o18x3 (opsA_cons ?o19x3 (opsA_cons ?o20x3 (opsA_cons ?o21x3 (opsA_cons ?o22x3 (opsA_cons ?o23x3 (opsA_cons ?o24x3 (opsA_cons ?o25x3 (opsA_cons ?o26x3 (opsA_cons ?o27x3 (opsA_cons ?o28x3 (opsA_cons ?o29x3 (opsA_cons ?o30x3 (opsA_cons ?o31x3 (opsA_cons ?o32x3 (opsA_cons ?o33x3 (opsA_cons ?o34x3 (opsA_cons ?o35x3 (opsA_cons ?o36x3 (opsA_cons ?o37x3 (opsA_cons ?o38x3 (opsA_cons ?o39x3 (opsA_cons ?o40x3 (opsA_cons ?o41x3 (opsA_cons ?o42x3 (opsA_cons ?o43x3 opsA_nil)))))))))))))))))))))))))))))))))))))))))))) ?restx3
          case hAx3 =>
            intro ptrs
            simp only [full, foldSlots, filledE, postE, List.foldl_cons, List.foldl_nil, List.getD_cons_zero, List.getD_cons_succ, fill_val, fill_bytE, fill_bytE, List.set_cons_zero, List.set_cons_succ]
            exact rfl
          case o0x3 =>
            intro ptrs w' hw hE
            exact opE_call (.val (.bool true)) rfl _ 10 Try.call10 rfl rfl _ rfl [] rfl ((fixed_any _).mono fun e w' ⟨he, hg⟩ => ⟨_, he, hg, rfl⟩)
          case o1x3 => exact fun _ _ _ _ => opE_move (v := .bool true) _ rfl rfl rfl
          case o2x3 => exact fun _ _ hw _ => opE_value (v := .agg (itA x)) rfl (ldIt0 _ rfl g1 rfl (hw.has kg1))
          case o3x3 =>
            intro ptrs w' hw hE
            exact opE_call (bytE w3.heap.size (formV x.it)) rfl _ 19 Try.call19 rfl rfl _ rfl [.agg (itA x)] rfl ((form_any x hX hX0 hl _ (show NC _ .u8 x.ao x.cap x.val from HX.gro ((Gro.refl _).drew.trans hw))).mono fun e w' ⟨ao, cap, he, hg, ho⟩ => ⟨_, he, hg, ao, cap, rfl, ho.mono hw.size⟩)
          case o4x3 =>
            intro ptrs w' hw hE
            obtain ⟨⟨ao3, cap3, h3, o3⟩, _⟩ := hE
            exact opE_value (v := .string (bas (formV x.it))) rfl (run_text_op bT 9 rfl _ rfl (by exact h3) o3.nc)
          case o5x3 => exact fun _ _ hw _ => opE_value (v := .agg (itA x)) rfl (ldIt0 _ rfl g1 rfl (hw.has kg1))
          case o6x3 =>
            intro ptrs w' hw hE
            obtain ⟨⟨ao3, cap3, h3, o3⟩, _⟩ := hE
            exact opE_call (bytE w3.heap.size (formV x.it)) rfl _ 20 Try.call20 rfl rfl _ rfl [.agg (itA x)] rfl ((rform_any x hX hX0 hl _ (show NC _ .u8 x.ao x.cap x.val from HX.gro ((Gro.refl _).drew.trans hw))).mono fun e w' ⟨ao, cap, he, hg, ho⟩ => ⟨_, he, hg, ao, cap, rfl, ho.mono hw.size⟩)
          case o7x3 =>
            intro ptrs w' hw hE
            obtain ⟨⟨ao6, cap6, h6, o6⟩, _⟩ := hE
            exact opE_value (v := .string (bas (formV x.it))) rfl (run_text_op bT 9 rfl _ rfl (by exact h6) o6.nc)
          case o8x3 => exact fun _ _ _ _ => opE_value (v := .bool true) rfl (run_eqs_op _ _ _ rfl _ _ rfl rfl true (decide_eq_true rfl) _)
          case o9x3 => exact fun _ _ _ _ => opE_pick (v := .bool true) _ _ _ rfl rfl true rfl rfl
          case o10x3 => exact fun _ _ _ _ => opE_move (v := .bool true) _ rfl rfl rfl
          case o11x3 => exact fun _ _ hw _ => opE_value (v := .agg (veA a)) rfl (ldVe0 _ rfl g2 rfl (hw.has kg2))
          case o12x3 => exact fun _ _ hw _ => opE_value (v := .agg (veA b)) rfl (ldVe0 _ rfl g3 rfl (hw.has kg3))
          case o13x3 =>
            intro ptrs w' hw hE
            exact opE_call (.val (.bool false)) rfl _ 21 Try.call21 rfl rfl _ rfl [.agg (veA a), .agg (veA b)] rfl ((Calls.bool (newer_any a b ha hb _) h1).mono fun e w' ⟨he, hg⟩ => ⟨_, he, hg, rfl⟩)
          case o14x3 => exact fun _ _ hw _ => opE_value (v := .agg (veA a)) rfl (ldVe0 _ rfl g2 rfl (hw.has kg2))
          case o15x3 => exact fun _ _ hw _ => opE_value (v := .agg (veA b)) rfl (ldVe0 _ rfl g3 rfl (hw.has kg3))
          case o16x3 =>
            intro ptrs w' hw hE
            exact opE_call (.val (.bool false)) rfl _ 22 Try.call22 rfl rfl _ rfl [.agg (veA a), .agg (veA b)] rfl ((Calls.bool (rnewer_any a b ha hb _) h1).mono fun e w' ⟨he, hg⟩ => ⟨_, he, hg, rfl⟩)
          case o17x3 => exact fun _ _ _ _ => opE_value (v := .bool true) rfl (run_eqB 4 _ _ _ rfl false false rfl rfl Try.underlying4 true (by decide) _)
          case o18x3 => exact fun _ _ _ _ => opE_pick (v := .bool true) _ _ _ rfl rfl true rfl rfl
          case o19x3 => exact fun _ _ _ _ => opE_move (v := .bool true) _ rfl rfl rfl
          case o20x3 => exact fun _ _ hw _ => opE_value (v := .agg (veA a)) rfl (ldVe0 _ rfl g2 rfl (hw.has kg2))
          case o21x3 => exact fun _ _ hw _ => opE_value (v := .agg (veA b)) rfl (ldVe0 _ rfl g3 rfl (hw.has kg3))
          case o22x3 =>
            intro ptrs w' hw hE
            exact opE_call (.val (.bool false)) rfl _ 21 Try.call21 rfl rfl _ rfl [.agg (veA a), .agg (veA b)] rfl ((Calls.bool (newer_any a b ha hb _) h1).mono fun e w' ⟨he, hg⟩ => ⟨_, he, hg, rfl⟩)
          case o23x3 => exact fun _ _ _ _ => opE_move (v := .bool false) _ rfl rfl rfl
          case o24x3 => exact fun _ _ _ _ => opE_skip rfl
          case o25x3 => exact fun _ _ _ _ => opE_skip rfl
          case o26x3 => exact fun _ _ _ _ => opE_skip rfl
          case o27x3 => exact fun _ _ _ _ => opE_pick (v := .bool false) _ _ _ rfl rfl false rfl rfl
          case o28x3 => exact fun _ _ _ _ => opE_value (v := .bool true) rfl (run_nt _ _ rfl false rfl)
          case o29x3 => exact fun _ _ _ _ => opE_pick (v := .bool true) _ _ _ rfl rfl true rfl rfl
          case o30x3 => exact fun _ _ _ _ => opE_move (v := .bool true) _ rfl rfl rfl
          case o31x3 => exact fun _ _ hw _ => opE_value (v := .agg (veA a)) rfl (ldVe0 _ rfl g2 rfl (hw.has kg2))
          case o32x3 => exact fun _ _ hw _ => opE_value (v := .agg (veA b)) rfl (ldVe0 _ rfl g3 rfl (hw.has kg3))
          case o33x3 => exact fun _ _ _ _ => opE_value (v := .bool true) rfl (run_eqV _ _ _ rfl _ _ rfl rfl ha hb true h3)
          case o34x3 => exact fun _ _ _ _ => opE_move (v := .bool true) _ rfl rfl rfl
          case o35x3 => exact fun _ _ _ _ => opE_skip rfl
          case o36x3 => exact fun _ _ _ _ => opE_skip rfl
          case o37x3 => exact fun _ _ _ _ => opE_skip rfl
          case o38x3 => exact fun _ _ _ _ => opE_pick (v := .bool true) _ _ _ rfl rfl true rfl rfl
          case o39x3 => exact fun _ _ _ _ => opE_move (v := .bool true) _ rfl rfl rfl
          case o40x3 => exact fun _ _ _ _ => opE_skip rfl
          case o41x3 => exact fun _ _ _ _ => opE_skip rfl
          case o42x3 => exact fun _ _ _ _ => opE_skip rfl
          case o43x3 => exact fun _ _ _ _ => opE_pick (v := .bool true) _ _ _ rfl rfl true rfl rfl
          intro ptrs w4 GD hxE
          simp only [List.drop_succ_cons, List.drop_zero]
          replace kg1 := GD.has kg1
          replace kg2 := GD.has kg2
          replace kg3 := GD.has kg3
          replace HX := HX.gro ((Gro.refl _).drew.trans GD)
          replace GG := GG.drew.trans GD
          obtain ⟨_, _, _⟩ := hxE
          clear GD
          refine s_val 57 rfl rfl (.bool true) (rfl) ?_
          refine nr ?_; intro U h; simp only [z0, z1] at h; subst h
          refine s_val 6 rfl rfl (.bool true) (rfl) ?_
          refine nr ?_; intro U h; simp only [z0, z1] at h; subst h
          refine wpList_nil ?_
          refine then_n ?_
          refine wp_ret ?_
          refine bodyPost_ret (results_tmp Try.results4 _ _ _) rfl ?_
          exact ⟨rfl, GG⟩
    · skip
      cases h2 : nwV b a
      · skip
        cases h3 : eqV a b
        · skip
          refine wp_region_exA (A := ?Ax4) 44 [(0, 13), (1, 14), (2, 15), (3, 16), (4, 17), (5, 18), (6, 19), (7, 20), (8, 21), (9, 22), (10, 23), (11, 24), (12, 25), (13, 26), (14, 27), (15, 28), (16, 29), (17, 30), (18, 31), (19, 32), (20, 33), (21, 34), (22, 35), (23, 36), (24, 37), (25, 38), (26, 39), (27, 40), (28, 41), (29, 42), (30, 43), (31, 44), (32, 45), (33, 46), (34, 47), (35, 48), (36, 49), (37, 50), (38, 51), (39, 52), (40, 53), (41, 54), (42, 55), (43, 56)] [.val (.bool true), .val (.bool true), .val (.agg (itA x)), bytE w3.heap.size (formV x.it), .val (.string (bas (formV x.it))), .val (.agg (itA x)), bytE w3.heap.size (formV x.it), .val (.string (bas (formV x.it))), .val (.bool true), .val (.bool true), .val (.bool true), .val (.agg (veA a)), .val (.agg (veA b)), .val (.bool true), .val (.agg (veA a)), .val (.agg (veA b)), .val (.bool true), .val (.bool true), .val (.bool true), .val (.bool true), .val (.agg (veA a)), .val (.agg (veA b)), .val (.bool true), .val (.bool true), .val (.agg (veA b)), .val (.agg (veA a)), .val (.bool false), .val (.bool false), .val (.bool true), .val (.bool true), .val (.bool true), .val (.agg (veA a)), .val (.agg (veA b)), .val (.bool false), .val (.bool false), .val (.agg (veA a)), .val (.agg (veA b)), .val (.bool true), .val (.bool true), .val (.bool true), .val undef, .val undef, .val undef, .val (.bool true)] follows (by kernel_rfl) rfl ?hAx4 (opsA_cons ?o0x4 (opsA_cons ?o1x4 (opsA_cons ?o2x4 (opsA_cons ?o3x4 (opsA_cons ?o4x4 (opsA_cons ?o5x4 (opsA_cons ?o6x4 (opsA_cons ?o7x4 (opsA_cons ?o8x4 (opsA_cons ?o9x4 (opsA_cons ?o10x4 (opsA_cons ?o11x4 (opsA_cons ?o12x4 (opsA_cons ?o13x4 (opsA_cons ?o14x4 (opsA_cons ?o15x4 (opsA_cons ?o16x4 (opsA_cons ?o17x4 (opsA_cons ?o18x4 (opsA_cons ?o19x4 (opsA_cons ?o20x4 (opsA_cons ?o21x4 (opsA_cons ?o22x4 (opsA_cons ?o23x4 (opsA_cons ?o24x4 (opsA_cons ?o25x4 (opsA_cons ?o26x4 (opsA_cons ?o27x4 (opsA_cons ?o28x4 (opsA_cons ?o29x4 (opsA_cons ?o30x4 (opsA_cons ?o31x4 (opsA_cons ?o32x4 (opsA_cons ?o33x4 (opsA_cons ?o34x4 (opsA_cons ?o35x4 (opsA_cons ?o36x4 (opsA_cons ?o37x4 (opsA_cons ?o38x4 (opsA_cons ?o39x4 (opsA_cons ?o40x4 (opsA_cons ?o41x4 (opsA_cons ?o42x4 (opsA_cons ?o43x4 opsA_nil)))))))))))))))))))))))))))))))))))))))))))) ?restx4
          case hAx4 =>
            intro ptrs
            simp only [full, foldSlots, filledE, postE, List.foldl_cons, List.foldl_nil, List.getD_cons_zero, List.getD_cons_succ, fill_val, fill_bytE, fill_bytE, List.set_cons_zero, List.set_cons_succ]
            exact rfl
          case o0x4 =>
            intro ptrs w' hw hE
            exact opE_call (.val (.bool true)) rfl _ 10 Try.call10 rfl rfl _ rfl [] rfl ((fixed_any _).mono fun e w' ⟨he, hg⟩ => ⟨_, he, hg, rfl⟩)
          case o1x4 => exact fun _ _ _ _ => opE_move (v := .bool true) _ rfl rfl rfl
          case o2x4 => exact fun _ _ hw _ => opE_value (v := .agg (itA x)) rfl (ldIt0 _ rfl g1 rfl (hw.has kg1))
          case o3x4 =>
            intro ptrs w' hw hE
            exact opE_call (bytE w3.heap.size (formV x.it)) rfl _ 19 Try.call19 rfl rfl _ rfl [.agg (itA x)] rfl ((form_any x hX hX0 hl _ (show NC _ .u8 x.ao x.cap x.val from HX.gro ((Gro.refl _).drew.trans hw))).mono fun e w' ⟨ao, cap, he, hg, ho⟩ => ⟨_, he, hg, ao, cap, rfl, ho.mono hw.size⟩)
          case o4x4 =>
            intro ptrs w' hw hE
            obtain ⟨⟨ao3, cap3, h3, o3⟩, _⟩ := hE
            exact opE_value (v := .string (bas (formV x.it))) rfl (run_text_op bT 9 rfl _ rfl (by exact h3) o3.nc)
          case o5x4 => exact fun _ _ hw _ => opE_value (v := .agg (itA x)) rfl (ldIt0 _ rfl g1 rfl (hw.has kg1))
          case o6x4 =>
            intro ptrs w' hw hE
            obtain ⟨⟨ao3, cap3, h3, o3⟩, _⟩ := hE
            exact opE_call (bytE w3.heap.size (formV x.it)) rfl _ 20 Try.call20 rfl rfl _ rfl [.agg (itA x)] rfl ((rform_any x hX hX0 hl _ (show NC _ .u8 x.ao x.cap x.val from HX.gro ((Gro.refl _).drew.trans hw))).mono fun e w' ⟨ao, cap, he, hg, ho⟩ => ⟨_, he, hg, ao, cap, rfl, ho.mono hw.size⟩)
          case o7x4 =>
            intro ptrs w' hw hE
            obtain ⟨⟨ao6, cap6, h6, o6⟩, _⟩ := hE
            exact opE_value (v := .string (bas (formV x.it))) rfl (run_text_op bT 9 rfl _ rfl (by exact h6) o6.nc)
          case o8x4 => exact fun _ _ _ _ => opE_value (v := .bool true) rfl (run_eqs_op _ _ _ rfl _ _ rfl rfl true (decide_eq_true rfl) _)
          case o9x4 => exact fun _ _ _ _ => opE_pick (v := .bool true) _ _ _ rfl rfl true rfl rfl
          case o10x4 => exact fun _ _ _ _ => opE_move (v := .bool true) _ rfl rfl rfl
          case o11x4 => exact fun _ _ hw _ => opE_value (v := .agg (veA a)) rfl (ldVe0 _ rfl g2 rfl (hw.has kg2))
          case o12x4 => exact fun _ _ hw _ => opE_value (v := .agg (veA b)) rfl (ldVe0 _ rfl g3 rfl (hw.has kg3))
          case o13x4 =>
            intro ptrs w' hw hE
            exact opE_call (.val (.bool true)) rfl _ 21 Try.call21 rfl rfl _ rfl [.agg (veA a), .agg (veA b)] rfl ((Calls.bool (newer_any a b ha hb _) h1).mono fun e w' ⟨he, hg⟩ => ⟨_, he, hg, rfl⟩)
          case o14x4 => exact fun _ _ hw _ => opE_value (v := .agg (veA a)) rfl (ldVe0 _ rfl g2 rfl (hw.has kg2))
          case o15x4 => exact fun _ _ hw _ => opE_value (v := .agg (veA b)) rfl (ldVe0 _ rfl g3 rfl (hw.has kg3))
          case o16x4 =>
            intro ptrs w' hw hE
            exact opE_call (.val (.bool true)) rfl _ 22 Try.call22 rfl rfl _ rfl [.agg (veA a), .agg (veA b)] rfl ((Calls.bool (rnewer_any a b ha hb _) h1).mono fun e w' ⟨he, hg⟩ => ⟨_, he, hg, rfl⟩)
          case o17x4 => exact fun _ _ _ _ => opE_value (v := .bool true) rfl (run_eqB 4 _ _ _ rfl true true rfl rfl Try.underlying4 true (by decide) _)
          case o18x4 => exact fun _ _ _ _ => opE_pick (v := .bool true) _ _ _ rfl rfl true rfl rfl
          case o19x4 => exact fun _ _ _ _ => opE_move (v := .bool true) _ rfl rfl rfl
          case o20x4 => exact fun _ _ hw _ => opE_value (v := .agg (veA a)) rfl (ldVe0 _ rfl g2 rfl (hw.has kg2))
          case o21x4 => exact fun _ _ hw _ => opE_value (v := .agg (veA b)) rfl (ldVe0 _ rfl g3 rfl (hw.has kg3))
          case o22x4 =>
            intro ptrs w' hw hE
            exact opE_call (.val (.bool true)) rfl _ 21 Try.call21 rfl rfl _ rfl [.agg (veA a), .agg (veA b)] rfl ((Calls.bool (newer_any a b ha hb _) h1).mono fun e w' ⟨he, hg⟩ => ⟨_, he, hg, rfl⟩)
          case o23x4 => exact fun _ _ _ _ => opE_move (v := .bool true) _ rfl rfl rfl
          case o24x4 => exact fun _ _ hw _ => opE_value (v := .agg (veA b)) rfl (ldVe0 _ rfl g3 rfl (hw.has kg3))
          case o25x4 => exact fun _ _ hw _ => opE_value (v := .agg (veA a)) rfl (ldVe0 _ rfl g2 rfl (hw.has kg2))
          case o26x4 =>
            intro ptrs w' hw hE
            exact opE_call (.val (.bool false)) rfl _ 21 Try.call21 rfl rfl _ rfl [.agg (veA b), .agg (veA a)] rfl ((Calls.bool (newer_any b a hb ha _) h2).mono fun e w' ⟨he, hg⟩ => ⟨_, he, hg, rfl⟩)
          case o27x4 => exact fun _ _ _ _ => opE_pick (v := .bool false) _ _ _ rfl rfl true rfl rfl
          case o28x4 => exact fun _ _ _ _ => opE_value (v := .bool true) rfl (run_nt _ _ rfl false rfl)
          case o29x4 => exact fun _ _ _ _ => opE_pick (v := .bool true) _ _ _ rfl rfl true rfl rfl
          case o30x4 => exact fun _ _ _ _ => opE_move (v := .bool true) _ rfl rfl rfl
          case o31x4 => exact fun _ _ hw _ => opE_value (v := .agg (veA a)) rfl (ldVe0 _ rfl g2 rfl (hw.has kg2))
          case o32x4 => exact fun _ _ hw _ => opE_value (v := .agg (veA b)) rfl (ldVe0 _ rfl g3 rfl (hw.has kg3))
          case o33x4 => exact fun _ _ _ _ => opE_value (v := .bool false) rfl (run_eqV _ _ _ rfl _ _ rfl rfl ha hb false h3)
          case o34x4 => exact fun _ _ _ _ => opE_move (v := .bool false) _ rfl rfl rfl
          case o35x4 => exact fun _ _ hw _ => opE_value (v := .agg (veA a)) rfl (ldVe0 _ rfl g2 rfl (hw.has kg2))
          case o36x4 => exact fun _ _ hw _ => opE_value (v := .agg (veA b)) rfl (ldVe0 _ rfl g3 rfl (hw.has kg3))
          case o37x4 =>
            intro ptrs w' hw hE
            exact opE_call (.val (.bool true)) rfl _ 21 Try.call21 rfl rfl _ rfl [.agg (veA a), .agg (veA b)] rfl ((Calls.bool (newer_any a b ha hb _) h1).mono fun e w' ⟨he, hg⟩ => ⟨_, he, hg, rfl⟩)
          case o38x4 => exact fun _ _ _ _ => opE_pick (v := .bool true) _ _ _ rfl rfl false rfl rfl
          case o39x4 => exact fun _ _ _ _ => opE_move (v := .bool true) _ rfl rfl rfl
          case o40x4 => exact fun _ _ _ _ => opE_skip rfl
          case o41x4 => exact fun _ _ _ _ => opE_skip rfl
          case o42x4 => exact fun _ _ _ _ => opE_skip rfl
          case o43x4 => exact fun _ _ _ _ => opE_pick (v := .bool true) _ _ _ rfl rfl true rfl rfl
          intro ptrs w4 GD hxE
          simp only [List.drop_succ_cons, List.drop_zero]
          replace kg1 := GD.has kg1
          replace kg2 := GD.has kg2
          replace kg3 := GD.has kg3
          replace HX := HX.gro ((Gro.refl _).drew.trans GD)
          replace GG := GG.drew.trans GD
          obtain ⟨_, _, _⟩ := hxE
          clear GD
          refine s_val 57 rfl rfl (.bool true) (rfl) ?_
          refine nr ?_; intro U h; simp only [z0, z1] at h; subst h
          refine s_val 6 rfl rfl (.bool true) (rfl) ?_
          refine nr ?_; intro U h; simp only [z0, z1] at h; subst h
          refine wpList_nil ?_
          refine then_n ?_
          refine wp_ret ?_
          refine bodyPost_ret (results_tmp Try.results4 _ _ _) rfl ?_
          exact ⟨rfl, GG⟩
        · skip
          refine wp_region_exA (A := ?Ax5) 44 [(0, 13), (1, 14), (2, 15), (3, 16), (4, 17), (5, 18), (6, 19), (7, 20), (8, 21), (9, 22), (10, 23), (11, 24), (12, 25), (13, 26), (14, 27), (15, 28), (16, 29), (17, 30), (18, 31), (19, 32), (20, 33), (21, 34), (22, 35), (23, 36), (24, 37), (25, 38), (26, 39), (27, 40), (28, 41), (29, 42), (30, 43), (31, 44), (32, 45), (33, 46), (34, 47), (35, 48), (36, 49), (37, 50), (38, 51), (39, 52), (40, 53), (41, 54), (42, 55), (43, 56)] [.val (.bool true), .val (.bool true), .val (.agg (itA x)), bytE w3.heap.size (formV x.it), .val (.string (bas (formV x.it))), .val (.agg (itA x)), bytE w3.heap.size (formV x.it), .val (.string (bas (formV x.it))), .val (.bool true), .val (.bool true), .val (.bool true), .val (.agg (veA a)), .val (.agg (veA b)), .val (.bool true), .val (.agg (veA a)), .val (.agg (veA b)), .val (.bool true), .val (.bool true), .val (.bool true), .val (.bool true), .val (.agg (veA a)), .val (.agg (veA b)), .val (.bool true), .val (.bool true), .val (.agg (veA b)), .val (.agg (veA a)), .val (.bool false), .val (.bool false), .val (.bool true), .val (.bool true), .val (.bool true), .val (.agg (veA a)), .val (.agg (veA b)), .val (.bool true), .val (.bool true), .val undef, .val undef, .val undef, .val (.bool true), .val (.bool true), .val undef, .val undef, .val undef, .val (.bool true)] follows (by kernel_rfl) rfl ?hAx5 (opsA_cons ?o0x5 (opsA_cons ?o1x5 (opsA_cons ?o2x5 (opsA_cons ?o3x5 (opsA_cons ?o4x5 (opsA_cons ?o5x5 (opsA_cons ?o6x5 (opsA_cons ?o7x5 (opsA_cons ?o8x5 (opsA_cons ?o9x5 (opsA_cons ?o10x5 (opsA_cons ?o11x5 (opsA_cons ?o12x5 (opsA_cons ?o13x5 (opsA_cons ?o14x5 (opsA_cons ?o15x5 (opsA_cons ?o16x5 (opsA_cons ?o17x5 (opsA_cons ?o18x5 (opsA_cons ?o19x5 (opsA_cons ?o20x5 (opsA_cons ?o21x5 (opsA_cons ?o22x5 (opsA_cons ?o23x5 (opsA_cons ?o24x5 (opsA_cons ?o25x5 (opsA_cons ?o26x5 (opsA_cons ?o27x5 (opsA_cons ?o28x5 (opsA_cons ?o29x5 (opsA_cons ?o30x5 (opsA_cons ?o31x5 (opsA_cons ?o32x5 (opsA_cons ?o33x5 (opsA_cons ?o34x5 (opsA_cons ?o35x5 (opsA_cons ?o36x5 (opsA_cons ?o37x5 (opsA_cons ?o38x5 (opsA_cons ?o39x5 (opsA_cons ?o40x5 (opsA_cons ?o41x5 (opsA_cons ?o42x5 (opsA_cons ?o43x5 opsA_nil)))))))))))))))))))))))))))))))))))))))))))) ?restx5
          case hAx5 =>
            intro ptrs
            simp only [full, foldSlots, filledE, postE, List.foldl_cons, List.foldl_nil, List.getD_cons_zero, List.getD_cons_succ, fill_val, fill_bytE, fill_bytE, List.set_cons_zero, List.set_cons_succ]
            exact rfl
          case o0x5 =>
            intro ptrs w' hw hE
            exact opE_call (.val (.bool true)) rfl _ 10 Try.call10 rfl rfl _ rfl [] rfl ((fixed_any _).mono fun e w' ⟨he, hg⟩ => ⟨_, he, hg, rfl⟩)
          case o1x5 => exact fun _ _ _ _ => opE_move (v := .bool true) _ rfl rfl rfl
          case o2x5 => exact fun _ _ hw _ => opE_value (v := .agg (itA x)) rfl (ldIt0 _ rfl g1 rfl (hw.has kg1))
          case o3x5 =>
            intro ptrs w' hw hE
            exact opE_call (bytE w3.heap.size (formV x.it)) rfl _ 19 Try.call19 rfl rfl _ rfl [.agg (itA x)] rfl ((form_any x hX hX0 hl _ (show NC _ .u8 x.ao x.cap x.val from HX.gro ((Gro.refl _).drew.trans hw))).mono fun e w' ⟨ao, cap, he, hg, ho⟩ => ⟨_, he, hg, ao, cap, rfl, ho.mono hw.size⟩)
          case o4x5 =>
            intro ptrs w' hw hE
            obtain ⟨⟨ao3, cap3, h3, o3⟩, _⟩ := hE
            exact opE_value (v := .string (bas (formV x.it))) rfl (run_text_op bT 9 rfl _ rfl (by exact h3) o3.nc)
          case o5x5 => exact fun _ _ hw _ => opE_value (v := .agg (itA x)) rfl (ldIt0 _ rfl g1 rfl (hw.has kg1))
          case o6x5 =>
            intro ptrs w' hw hE
            obtain ⟨⟨ao3, cap3, h3, o3⟩, _⟩ := hE
            exact opE_call (bytE w3.heap.size (formV x.it)) rfl _ 20 Try.call20 rfl rfl _ rfl [.agg (itA x)] rfl ((rform_any x hX hX0 hl _ (show NC _ .u8 x.ao x.cap x.val from HX.gro ((Gro.refl _).drew.trans hw))).mono fun e w' ⟨ao, cap, he, hg, ho⟩ => ⟨_, he, hg, ao, cap, rfl, ho.mono hw.size⟩)
          case o7x5 =>
            intro ptrs w' hw hE
            obtain ⟨⟨ao6, cap6, h6, o6⟩, _⟩ := hE
            exact opE_value (v := .string (bas (formV x.it))) rfl (run_text_op bT 9 rfl _ rfl (by exact h6) o6.nc)
          case o8x5 => exact fun _ _ _ _ => opE_value (v := .bool true) rfl (run_eqs_op _ _ _ rfl _ _ rfl rfl true (decide_eq_true rfl) _)
          case o9x5 => exact fun _ _ _ _ => opE_pick (v := .bool true) _ _ _ rfl rfl true rfl rfl
          case o10x5 => exact fun _ _ _ _ => opE_move (v := .bool true) _ rfl rfl rfl
          case o11x5 => exact fun _ _ hw _ => opE_value (v := .agg (veA a)) rfl (ldVe0 _ rfl g2 rfl (hw.has kg2))
          case o12x5 => exact fun _ _ hw _ => opE_value (v := .agg (veA b)) rfl (ldVe0 _ rfl g3 rfl (hw.has kg3))
          case o13x5 =>
            intro ptrs w' hw hE
            exact opE_call (.val (.bool true)) rfl _ 21 Try.call21 rfl rfl _ rfl [.agg (veA a), .agg (veA b)] rfl ((Calls.bool (newer_any a b ha hb _) h1).mono fun e w' ⟨he, hg⟩ => ⟨_, he, hg, rfl⟩)
          case o14x5 => exact fun _ _ hw _ => opE_value (v := .agg (veA a)) rfl (ldVe0 _ rfl g2 rfl (hw.has kg2))
          case o15x5 => exact fun _ _ hw _ => opE_value (v := .agg (veA b)) rfl (ldVe0 _ rfl g3 rfl (hw.has kg3))
          case o16x5 =>
            intro ptrs w' hw hE
            exact opE_call (.val (.bool true)) rfl _ 22 Try.call22 rfl rfl _ rfl [.agg (veA a), .agg (veA b)] rfl ((Calls.bool (rnewer_any a b ha hb _) h1).mono fun e w' ⟨he, hg⟩ => ⟨_, he, hg, rfl⟩)
          case o17x5 => exact fun _ _ _ _ => opE_value (v := .bool true) rfl (run_eqB 4 _ _ _ rfl true true rfl rfl Try.underlying4 true (by decide) _)
          case o18x5 => exact fun _ _ _ _ => opE_pick (v := .bool true) _ _ _ rfl rfl true rfl rfl
          case o19x5 => exact fun _ _ _ _ => opE_move (v := .bool true) _ rfl rfl rfl
          case o20x5 => exact fun _ _ hw _ => opE_value (v := .agg (veA a)) rfl (ldVe0 _ rfl g2 rfl (hw.has kg2))
          case o21x5 => exact fun _ _ hw _ => opE_value (v := .agg (veA b)) rfl (ldVe0 _ rfl g3 rfl (hw.has kg3))
          case o22x5 =>
            intro ptrs w' hw hE
            exact opE_call (.val (.bool true)) rfl _ 21 Try.call21 rfl rfl _ rfl [.agg (veA a), .agg (veA b)] rfl ((Calls.bool (newer_any a b ha hb _) h1).mono fun e w' ⟨he, hg⟩ => ⟨_, he, hg, rfl⟩)
          case o23x5 => exact fun _ _ _ _ => opE_move (v := .bool true) _ rfl rfl rfl
          case o24x5 => exact fun _ _ hw _ => opE_value (v := .agg (veA b)) rfl (ldVe0 _ rfl g3 rfl (hw.has kg3))
          case o25x5 => exact fun _ _ hw _ => opE_value (v := .agg (veA a)) rfl (ldVe0 _ rfl g2 rfl (hw.has kg2))
          case o26x5 =>
            intro ptrs w' hw hE
            exact opE_call (.val (.bool false)) rfl _ 21 Try.call21 rfl rfl _ rfl [.agg (veA b), .agg (veA a)] rfl ((Calls.bool (newer_any b a hb ha _) h2).mono fun e w' ⟨he, hg⟩ => ⟨_, he, hg, rfl⟩)
          case o27x5 => exact fun _ _ _ _ => opE_pick (v := .bool false) _ _ _ rfl rfl true rfl rfl
          case o28x5 => exact fun _ _ _ _ => opE_value (v := .bool true) rfl (run_nt _ _ rfl false rfl)
          case o29x5 => exact fun _ _ _ _ => opE_pick (v := .bool true) _ _ _ rfl rfl true rfl rfl
          case o30x5 => exact fun _ _ _ _ => opE_move (v := .bool true) _ rfl rfl rfl
          case o31x5 => exact fun _ _ hw _ => opE_value (v := .agg (veA a)) rfl (ldVe0 _ rfl g2 rfl (hw.has kg2))
          case o32x5 => exact fun _ _ hw _ => opE_value (v := .agg (veA b)) rfl (ldVe0 _ rfl g3 rfl (hw.has kg3))
          case o33x5 => exact fun _ _ _ _ => opE_value (v := .bool true) rfl (run_eqV _ _ _ rfl _ _ rfl rfl ha hb true h3)
          case o34x5 => exact fun _ _ _ _ => opE_move (v := .bool true) _ rfl rfl rfl
          case o35x5 => exact fun _ _ _ _ => opE_skip rfl
          case o36x5 => exact fun _ _ _ _ => opE_skip rfl
          case o37x5 => exact fun _ _ _ _ => opE_skip rfl
          case o38x5 => exact fun _ _ _ _ => opE_pick (v := .bool true) _ _ _ rfl rfl true rfl rfl
          case o39x5 => exact fun _ _ _ _ => opE_move (v := .bool true) _ rfl rfl rfl
          case o40x5 => exact fun _ _ _ _ => opE_skip rfl
          case o41x5 => exact fun _ _ _ _ => opE_skip rfl
          case o42x5 => exact fun _ _ _ _ => opE_skip rfl
          case o43x5 => exact fun _ _ _ _ => opE_pick (v := .bool true) _ _ _ rfl rfl true rfl rfl
          intro ptrs w4 GD hxE
          simp only [List.drop_succ_cons, List.drop_zero]
          replace kg1 := GD.has kg1
          replace kg2 := GD.has kg2
          replace kg3 := GD.has kg3
          replace HX := HX.gro ((Gro.refl _).drew.trans GD)
          replace GG := GG.drew.trans GD
          obtain ⟨_, _, _⟩ := hxE
          clear GD
          refine s_val 57 rfl rfl (.bool true) (rfl) ?_
          refine nr ?_; intro U h; simp only [z0, z1] at h; subst h
          refine s_val 6 rfl rfl (.bool true) (rfl) ?_
          refine nr ?_; intro U h; simp only [z0, z1] at h; subst h
          refine wpList_nil ?_
          refine then_n ?_
          refine wp_ret ?_
          refine bodyPost_ret (results_tmp Try.results4 _ _ _) rfl ?_
          exact ⟨rfl, GG⟩
      · skip
        exact absurd ((nwV_asy h1).symm.trans h2) (by decide)
  · refine wp_region_lit ?_
    refine s_val 7 rfl rfl (.pointer (some ⟨g1, 16, none⟩)) (run_fld 56 _ 1 rfl g1 0 rfl 16 (by kernel_rfl)) ?_
    refine nr ?_; intro U h; simp only [z0, z1] at h; subst h
    refine s_val 8 rfl rfl (.pointer (some ⟨g1, 16, none⟩)) (run_fld 54 _ 0 rfl g1 16 rfl 16 (by kernel_rfl)) ?_
    refine nr ?_; intro U h; simp only [z0, z1] at h; subst h
    refine s_val 9 rfl rfl (.int .i64 x.n) (ldItn _ rfl g1 rfl (kg1)) ?_
    refine nr ?_; intro U h; simp only [z0, z1] at h; subst h
    refine s_val 10 rfl rfl (.bool true) (run_lssT 2 _ _ _ rfl x.n 0 rfl rfl true h0 _) ?_
    refine nr ?_; intro U h; simp only [z0, z1] at h; subst h
    refine wpList_nil ?_
    refine then_n ?_
    refine wp_cond_true rfl ?_
    refine wp_region_lit ?_
    refine s_val 11 rfl rfl (.pointer (some ⟨g1, 16, none⟩)) (run_fld 56 _ 1 rfl g1 0 rfl 16 (by kernel_rfl)) ?_
    refine nr ?_; intro U h; simp only [z0, z1] at h; subst h
    refine s_val 12 rfl rfl (.pointer (some ⟨g1, 16, none⟩)) (run_fld 54 _ 0 rfl g1 16 rfl 16 (by kernel_rfl)) ?_
    refine nr ?_; intro U h; simp only [z0, z1] at h; subst h
    refine s_store rfl rfl 2 _ _ rfl g1 16 rfl (.int .i64 0) rfl 56 _ kg1 #[.int .i64 0] rfl si64i (by rw [itA_size]; exact Nat.le_of_ble_eq_true rfl) (i_one _) (itA (x.sn 0)) (spl_sn x 0) ?_
    intro w4 St
    replace kg2 := St.has (by omega) kg2
    replace kg3 := St.has (by omega) kg3
    replace HX := HX.st St dHXg1
    replace GG := GG.store St bg1
    replace kg1 := St.new
    clear St
    refine wpList_nil ?_
    refine then_n ?_
    refine wp_seq ?_
    have hX : ((x.sn 0)).ok := ⟨hx.key, ⟨by show -9223372036854775808 ≤ (0 : Int); decide, by show (0 : Int) < 9223372036854775808; decide⟩, hx.who⟩
    have hX0 : 0 ≤ ((x.sn 0)).n := Int.le_refl 0
    cases h1 : nwV a b
    · skip
      cases h2 : nwV b a
      · skip
        cases h3 : eqV a b
        · skip
          exact absurd ((nwV_tot h1 h2).symm.trans h3) (by decide)
        · skip
          refine wp_region_exA (A := ?Ax6) 44 [(0, 13), (1, 14), (2, 15), (3, 16), (4, 17), (5, 18), (6, 19), (7, 20), (8, 21), (9, 22), (10, 23), (11, 24), (12, 25), (13, 26), (14, 27), (15, 28), (16, 29), (17, 30), (18, 31), (19, 32), (20, 33), (21, 34), (22, 35), (23, 36), (24, 37), (25, 38), (26, 39), (27, 40), (28, 41), (29, 42), (30, 43), (31, 44), (32, 45), (33, 46), (34, 47), (35, 48), (36, 49), (37, 50), (38, 51), (39, 52), (40, 53), (41, 54), (42, 55), (43, 56)] [.val (.bool true), .val (.bool true), .val (.agg (itA (x.sn 0))), bytE w4.heap.size (formV (x.sn 0).it), .val (.string (bas (formV (x.sn 0).it))), .val (.agg (itA (x.sn 0))), bytE w4.heap.size (formV (x.sn 0).it), .val (.string (bas (formV (x.sn 0).it))), .val (.bool true), .val (.bool true), .val (.bool true), .val (.agg (veA a)), .val (.agg (veA b)), .val (.bool false), .val (.agg (veA a)), .val (.agg (veA b)), .val (.bool false), .val (.bool true), .val (.bool true), .val (.bool true), .val (.agg (veA a)), .val (.agg (veA b)), .val (.bool false), .val (.bool false), .val undef, .val undef, .val undef, .val (.bool false), .val (.bool true), .val (.bool true), .val (.bool true), .val (.agg (veA a)), .val (.agg (veA b)), .val (.bool true), .val (.bool true), .val undef, .val undef, .val undef, .val (.bool true), .val (.bool true), .val undef, .val undef, .val undef, .val (.bool true)] follows (by kernel_rfl) rfl ?hAx6 (opsA_cons ?o0x6 (opsA_cons ?o1x6 (opsA_cons ?o2x6 (opsA_cons ?o3x6 (opsA_cons ?o4x6 (opsA_cons ?o5x6 (opsA_cons ?o6x6 (opsA_cons ?o7x6 (opsA_cons ?o8x6 (opsA_cons ?o9x6 (opsA_cons ?o10x6 (opsA_cons ?o11x6 (opsA_cons ?o12x6 (opsA_cons ?o13x6 (opsA_cons ?o14x6 (opsA_cons ?o15x6 (opsA_cons ?o16x6 (opsA_cons ?o17x6 (opsA_cons ?o18x6 (opsA_cons ?o19x6 (opsA_cons ?o20x6 (opsA_cons ?o21x6 (opsA_cons ?o22x6 (opsA_cons ?o23x6 (opsA_cons ?o24x6 (opsA_cons ?o25x6 (opsA_cons ?o26x6 (opsA_cons ?o27x6 (opsA_cons ?o28x6 (opsA_cons ?o29x6 (opsA_cons ?o30x6 (opsA_cons ?o31x6 (opsA_cons ?o32x6 (opsA_cons ?o33x6 (opsA_cons ?o34x6 (opsA_cons ?o35x6 (opsA_cons ?o36x6 (opsA_cons ?o37x6 (opsA_cons ?o38x6 (opsA_cons ?o39x6 (opsA_cons ?o40x6 (opsA_cons ?o41x6 (opsA_cons ?o42x6 (opsA_cons ?o43x6 opsA_nil)))))))))))))))))))))))))))))))))))))))))))) ?restx6
          case hAx6 =>
            intro ptrs
            simp only [full, foldSlots, filledE, postE, List.foldl_cons, List.foldl_nil, List.getD_cons_zero, List.getD_cons_succ, fill_val, fill_bytE, fill_bytE, List.set_cons_zero, List.set_cons_succ]
            exact rfl
          case o0x6 =>
            intro ptrs w' hw hE
            exact opE_call (.val (.bool true)) rfl _ 10 Try.call10 rfl rfl _ rfl [] rfl ((fixed_any _).mono fun e w' ⟨he, hg⟩ => ⟨_, he, hg, rfl⟩)
          case o1x6 => exact fun _ _ _ _ => opE_move (v := .bool true) _ rfl rfl rfl
          case o2x6 => exact fun _ _ hw _ => opE_value (v := .agg (itA (x.sn 0))) rfl (ldIt0 _ rfl g1 rfl (hw.has kg1))
          case o3x6 =>
            intro ptrs w' hw hE
            exact opE_call (bytE w4.heap.size (formV (x.sn 0).it)) rfl _ 19 Try.call19 rfl rfl _ rfl [.agg (itA (x.sn 0))] rfl ((form_any (x.sn 0) hX hX0 hl _ (show NC _ .u8 (x.sn 0).ao (x.sn 0).cap (x.sn 0).val from HX.gro ((Gro.refl _).drew.trans hw))).mono fun e w' ⟨ao, cap, he, hg, ho⟩ => ⟨_, he, hg, ao, cap, rfl, ho.mono hw.size⟩)
          case o4x6 =>
            intro ptrs w' hw hE
            obtain ⟨⟨ao3, cap3, h3, o3⟩, _⟩ := hE
            exact opE_value (v := .string (bas (formV (x.sn 0).it))) rfl (run_text_op bT 9 rfl _ rfl (by exact h3) o3.nc)
          case o5x6 => exact fun _ _ hw _ => opE_value (v := .agg (itA (x.sn 0))) rfl (ldIt0 _ rfl g1 rfl (hw.has kg1))
          case o6x6 =>
            intro ptrs w' hw hE
            obtain ⟨⟨ao3, cap3, h3, o3⟩, _⟩ := hE
            exact opE_call (bytE w4.heap.size (formV (x.sn 0).it)) rfl _ 20 Try.call20 rfl rfl _ rfl [.agg (itA (x.sn 0))] rfl ((rform_any (x.sn 0) hX hX0 hl _ (show NC _ .u8 (x.sn 0).ao (x.sn 0).cap (x.sn 0).val from HX.gro ((Gro.refl _).drew.trans hw))).mono fun e w' ⟨ao, cap, he, hg, ho⟩ => ⟨_, he, hg, ao, cap, rfl, ho.mono hw.size⟩)
          case o7x6 =>
            intro ptrs w' hw hE
            obtain ⟨⟨ao6, cap6, h6, o6⟩, _⟩ := hE
            exact opE_value (v := .string (bas (formV (x.sn 0).it))) rfl (run_text_op bT 9 rfl _ rfl (by exact h6) o6.nc)
          case o8x6 => exact fun _ _ _ _ => opE_value (v := .bool true) rfl (run_eqs_op _ _ _ rfl _ _ rfl rfl true (decide_eq_true rfl) _)
          case o9x6 => exact fun _ _ _ _ => opE_pick (v := .bool true) _ _ _ rfl rfl true rfl rfl
          case o10x6 => exact fun _ _ _ _ => opE_move (v := .bool true) _ rfl rfl rfl
          case o11x6 => exact fun _ _ hw _ => opE_value (v := .agg (veA a)) rfl (ldVe0 _ rfl g2 rfl (hw.has kg2))
          case o12x6 => exact fun _ _ hw _ => opE_value (v := .agg (veA b)) rfl (ldVe0 _ rfl g3 rfl (hw.has kg3))
          case o13x6 =>
            intro ptrs w' hw hE
            exact opE_call (.val (.bool false)) rfl _ 21 Try.call21 rfl rfl _ rfl [.agg (veA a), .agg (veA b)] rfl ((Calls.bool (newer_any a b ha hb _) h1).mono fun e w' ⟨he, hg⟩ => ⟨_, he, hg, rfl⟩)
          case o14x6 => exact fun _ _ hw _ => opE_value (v := .agg (veA a)) rfl (ldVe0 _ rfl g2 rfl (hw.has kg2))
          case o15x6 => exact fun _ _ hw _ => opE_value (v := .agg (veA b)) rfl (ldVe0 _ rfl g3 rfl (hw.has kg3))
          case o16x6 =>
            intro ptrs w' hw hE
            exact opE_call (.val (.bool false)) rfl _ 22 Try.call22 rfl rfl _ rfl [.agg (veA a), .agg (veA b)] rfl ((Calls.bool (rnewer_any a b ha hb _) h1).mono fun e w' ⟨he, hg⟩ => ⟨_, he, hg, rfl⟩)
          case o17x6 => exact fun _ _ _ _ => opE_value (v := .bool true) rfl (run_eqB 4 _ _ _ rfl false false rfl rfl Try.underlying4 true (by decide) _)
          case o18x6 => exact fun _ _ _ _ => opE_pick (v := .bool true) _ _ _ rfl rfl true rfl rfl
          case o19x6 => exact fun _ _ _ _ => opE_move (v := .bool true) _ rfl rfl rfl
          case o20x6 => exact fun _ _ hw _ => opE_value (v := .agg (veA a)) rfl (ldVe0 _ rfl g2 rfl (hw.has kg2))
          case o21x6 => exact fun _ _ hw _ => opE_value (v := .agg (veA b)) rfl (ldVe0 _ rfl g3 rfl (hw.has kg3))
          case o22x6 =>
            intro ptrs w' hw hE
            exact opE_call (.val (.bool false)) rfl _ 21 Try.call21 rfl rfl _ rfl [.agg (veA a), .agg (veA b)] rfl ((Calls.bool (newer_any a b ha hb _) h1).mono fun e w' ⟨he, hg⟩ => ⟨_, he, hg, rfl⟩)
          case o23x6 => exact fun _ _ _ _ => opE_move (v := .bool false) _ rfl rfl rfl
          case o24x6 => exact fun _ _ _ _ => opE_skip rfl
          case o25x6 => exact fun _ _ _ _ => opE_skip rfl
          case o26x6 => exact fun _ _ _ _ => opE_skip rfl
          case o27x6 => exact fun _ _ _ _ => opE_pick (v := .bool false) _ _ _ rfl rfl false rfl rfl
          case o28x6 => exact fun _ _ _ _ => opE_value (v := .bool true) rfl (run_nt _ _ rfl false rfl)
          case o29x6 => exact fun _ _ _ _ => opE_pick (v := .bool true) _ _ _ rfl rfl true rfl rfl
          case o30x6 => exact fun _ _ _ _ => opE_move (v := .bool true) _ rfl rfl rfl
          case o31x6 => exact fun _ _ hw _ => opE_value (v := .agg (veA a)) rfl (ldVe0 _ rfl g2 rfl (hw.has kg2))
          case o32x6 => exact fun _ _ hw _ => opE_value (v := .agg (veA b)) rfl (ldVe0 _ rfl g3 rfl (hw.has kg3))
          case o33x6 => exact fun _ _ _ _ => opE_value (v := .bool true) rfl (run_eqV _ _ _ rfl _ _ rfl rfl ha hb true h3)
          case o34x6 => exact fun _ _ _ _ => opE_move (v := .bool true) _ rfl rfl rfl
          case o35x6 => exact fun _ _ _ _ => opE_skip rfl
          case o36x6 => exact fun _ _ _ _ => opE_skip rfl
          case o37x6 => exact fun _ _ _ _ => opE_skip rfl
          case o38x6 => exact fun _ _ _ _ => opE_pick (v := .bool true) _ _ _ rfl rfl true rfl rfl
          case o39x6 => exact fun _ _ _ _ => opE_move (v := .bool true) _ rfl rfl rfl
          case o40x6 => exact fun _ _ _ _ => opE_skip rfl
          case o41x6 => exact fun _ _ _ _ => opE_skip rfl
          case o42x6 => exact fun _ _ _ _ => opE_skip rfl
          case o43x6 => exact fun _ _ _ _ => opE_pick (v := .bool true) _ _ _ rfl rfl true rfl rfl
          intro ptrs w5 GD hxE
          simp only [List.drop_succ_cons, List.drop_zero]
          replace kg1 := GD.has kg1
          replace kg2 := GD.has kg2
          replace kg3 := GD.has kg3
          replace HX := HX.gro ((Gro.refl _).drew.trans GD)
          replace GG := GG.drew.trans GD
          obtain ⟨_, _, _⟩ := hxE
          clear GD
          refine s_val 57 rfl rfl (.bool true) (rfl) ?_
          refine nr ?_; intro U h; simp only [z0, z1] at h; subst h
          refine s_val 6 rfl rfl (.bool true) (rfl) ?_
          refine nr ?_; intro U h; simp only [z0, z1] at h; subst h
          refine wpList_nil ?_
          refine then_n ?_
          refine wp_ret ?_
          refine bodyPost_ret (results_tmp Try.results4 _ _ _) rfl ?_
          exact ⟨rfl, GG⟩
      · skip
        cases h3 : eqV a b
        · skip
          refine wp_region_exA (A := ?Ax7) 44 [(0, 13), (1, 14), (2, 15), (3, 16), (4, 17), (5, 18), (6, 19), (7, 20), (8, 21), (9, 22), (10, 23), (11, 24), (12, 25), (13, 26), (14, 27), (15, 28), (16, 29), (17, 30), (18, 31), (19, 32), (20, 33), (21, 34), (22, 35), (23, 36), (24, 37), (25, 38), (26, 39), (27, 40), (28, 41), (29, 42), (30, 43), (31, 44), (32, 45), (33, 46), (34, 47), (35, 48), (36, 49), (37, 50), (38, 51), (39, 52), (40, 53), (41, 54), (42, 55), (43, 56)] [.val (.bool true), .val (.bool true), .val (.agg (itA (x.sn 0))), bytE w4.heap.size (formV (x.sn 0).it), .val (.string (bas (formV (x.sn 0).it))), .val (.agg (itA (x.sn 0))), bytE w4.heap.size (formV (x.sn 0).it), .val (.string (bas (formV (x.sn 0).it))), .val (.bool true), .val (.bool true), .val (.bool true), .val (.agg (veA a)), .val (.agg (veA b)), .val (.bool false), .val (.agg (veA a)), .val (.agg (veA b)), .val (.bool false), .val (.bool true), .val (.bool true), .val (.bool true), .val (.agg (veA a)), .val (.agg (veA b)), .val (.bool false), .val (.bool false), .val undef, .val undef, .val undef, .val (.bool false), .val (.bool true), .val (.bool true), .val (.bool true), .val (.agg (veA a)), .val (.agg (veA b)), .val (.bool false), .val (.bool false), .val (.agg (veA a)), .val (.agg (veA b)), .val (.bool false), .val (.bool false), .val (.bool false), .val (.agg (veA b)), .val (.agg (veA a)), .val (.bool true), .val (.bool true)] follows (by kernel_rfl) rfl ?hAx7 (opsA_cons ?o0x7 (opsA_cons ?o1x7 (opsA_cons ?o2x7 (opsA_cons ?o3x7 (opsA_cons ?o4x7 (opsA_cons ?o5x7 (opsA_cons ?o6x7 (opsA_cons ?o7x7 (opsA_cons ?o8x7 (opsA_cons ?o9x7 (opsA_cons ?o10x7 (opsA_cons ?o11x7 (opsA_cons ?o12x7 (opsA_cons ?o13x7 (opsA_cons ?o14x7 (opsA_cons ?o15x7 (opsA_cons ?o16x7 (opsA_cons ?o17x7 (opsA_cons ?o18x7 (opsA_cons ?o19x7 (opsA_cons ?o20x7 (opsA_cons ?o21x7 (opsA_cons ?o22x7 (opsA_cons ?o23x7 (opsA_cons ?o24x7 (opsA_cons ?o25x7 (opsA_cons ?o26x7 (opsA_cons ?o27x7 (opsA_cons ?o28x7 (opsA_cons ?o29x7 (opsA_cons ?o30x7 (opsA_cons ?o31x7 (opsA_cons ?o32x7 (opsA_cons ?o33x7 (opsA_cons ?o34x7 (opsA_cons ?o35x7 (opsA_cons ?o36x7 (opsA_cons ?o37x7 (opsA_cons ?o38x7 (opsA_cons ?o39x7 (opsA_cons ?o40x7 (opsA_cons ?o41x7 (opsA_cons ?o42x7 (opsA_cons ?o43x7 opsA_nil)))))))))))))))))))))))))))))))))))))))))))) ?restx7
          case hAx7 =>
            intro ptrs
            simp only [full, foldSlots, filledE, postE, List.foldl_cons, List.foldl_nil, List.getD_cons_zero, List.getD_cons_succ, fill_val, fill_bytE, fill_bytE, List.set_cons_zero, List.set_cons_succ]
            exact rfl
          case o0x7 =>
            intro ptrs w' hw hE
            exact opE_call (.val (.bool true)) rfl _ 10 Try.call10 rfl rfl _ rfl [] rfl ((fixed_any _).mono fun e w' ⟨he, hg⟩ => ⟨_, he, hg, rfl⟩)
          case o1x7 => exact fun _ _ _ _ => opE_move (v := .bool true) _ rfl rfl rfl
          case o2x7 => exact fun _ _ hw _ => opE_value (v := .agg (itA (x.sn 0))) rfl (ldIt0 _ rfl g1 rfl (hw.has kg1))
          case o3x7 =>
            intro ptrs w' hw hE
            exact opE_call (bytE w4.heap.size (formV (x.sn 0).it)) rfl _ 19 Try.call19 rfl rfl _ rfl [.agg (itA (x.sn 0))] rfl ((form_any (x.sn 0) hX hX0 hl _ (show NC _ .u8 (x.sn 0).ao (x.sn 0).cap (x.sn 0).val from HX.gro ((Gro.refl _).drew.trans hw))).mono fun e w' ⟨ao, cap, he, hg, ho⟩ => ⟨_, he, hg, ao, cap, rfl, ho.mono hw.size⟩)
          case o4x7 =>
            intro ptrs w' hw hE
            obtain ⟨⟨ao3, cap3, h3, o3⟩, _⟩ := hE
            exact opE_value (v := .string (bas (formV (x.sn 0).it))) rfl (run_text_op bT 9 rfl _ rfl (by exact h3) o3.nc)
          case o5x7 => exact fun _ _ hw _ => opE_value (v := .agg (itA (x.sn 0))) rfl (ldIt0 _ rfl g1 rfl (hw.has kg1))
          case o6x7 =>
            intro ptrs w' hw hE
            obtain ⟨⟨ao3, cap3, h3, o3⟩, _⟩ := hE
            exact opE_call (bytE w4.heap.size (formV (x.sn 0).it)) rfl _ 20 Try.call20 rfl rfl _ rfl [.agg (itA (x.sn 0))] rfl ((rform_any (x.sn 0) hX hX0 hl _ (show NC _ .u8 (x.sn 0).ao (x.sn 0).cap (x.sn 0).val from HX.gro ((Gro.refl _).drew.trans hw))).mono fun e w' ⟨ao, cap, he, hg, ho⟩ => ⟨_, he, hg, ao, cap, rfl, ho.mono hw.size⟩)
          case o7x7 =>
            intro ptrs w' hw hE
            obtain ⟨⟨ao6, cap6, h6, o6⟩, _⟩ := hE
            exact opE_value (v := .string (bas (formV (x.sn 0).it))) rfl (run_text_op bT 9 rfl _ rfl (by exact h6) o6.nc)
          case o8x7 => exact fun _ _ _ _ => opE_value (v := .bool true) rfl (run_eqs_op _ _ _ rfl _ _ rfl rfl true (decide_eq_true rfl) _)
          case o9x7 => exact fun _ _ _ _ => opE_pick (v := .bool true) _ _ _ rfl rfl true rfl rfl
          case o10x7 => exact fun _ _ _ _ => opE_move (v := .bool true) _ rfl rfl rfl
          case o11x7 => exact fun _ _ hw _ => opE_value (v := .agg (veA a)) rfl (ldVe0 _ rfl g2 rfl (hw.has kg2))
          case o12x7 => exact fun _ _ hw _ => opE_value (v := .agg (veA b)) rfl (ldVe0 _ rfl g3 rfl (hw.has kg3))
          case o13x7 =>
            intro ptrs w' hw hE
            exact opE_call (.val (.bool false)) rfl _ 21 Try.call21 rfl rfl _ rfl [.agg (veA a), .agg (veA b)] rfl ((Calls.bool (newer_any a b ha hb _) h1).mono fun e w' ⟨he, hg⟩ => ⟨_, he, hg, rfl⟩)
          case o14x7 => exact fun _ _ hw _ => opE_value (v := .agg (veA a)) rfl (ldVe0 _ rfl g2 rfl (hw.has kg2))
          case o15x7 => exact fun _ _ hw _ => opE_value (v := .agg (veA b)) rfl (ldVe0 _ rfl g3 rfl (hw.has kg3))
          case o16x7 =>
            intro ptrs w' hw hE
            exact opE_call (.val (.bool false)) rfl _ 22 Try.call22 rfl rfl _ rfl [.agg (veA a), .agg (veA b)] rfl ((Calls.bool (rnewer_any a b ha hb _) h1).mono fun e w' ⟨he, hg⟩ => ⟨_, he, hg, rfl⟩)
          case o17x7 => exact fun _ _ _ _ => opE_value (v := .bool true) rfl (run_eqB 4 _ _ _ rfl false false rfl rfl Try.underlying4 true (by decide) _)
          case o18x7 => exact fun _ _ _ _ => opE_pick (v := .bool true) _ _ _ rfl rfl true rfl rfl
          case o19x7 => exact fun _ _ _ _ => opE_move (v := .bool true) _ rfl rfl rfl
          case o20x7 => exact fun _ _ hw _ => opE_value (v := .agg (veA a)) rfl (ldVe0 _ rfl g2 rfl (hw.has kg2))
          case o21x7 => exact fun _ _ hw _ => opE_value (v := .agg (veA b)) rfl (ldVe0 _ rfl g3 rfl (hw.has kg3))
          case o22x7 =>
            intro ptrs w' hw hE
            exact opE_call (.val (.bool false)) rfl _ 21 Try.call21 rfl rfl _ rfl [.agg (veA a), .agg (veA b)] rfl ((Calls.bool (newer_any a b ha hb _) h1).mono fun e w' ⟨he, hg⟩ => ⟨_, he, hg, rfl⟩)
          case o23x7 => exact fun _ _ _ _ => opE_move (v := .bool false) _ rfl rfl rfl
          case o24x7 => exact fun _ _ _ _ => opE_skip rfl
          case o25x7 => exact fun _ _ _ _ => opE_skip rfl
          case o26x7 => exact fun _ _ _ _ => opE_skip rfl
          case o27x7 => exact fun _ _ _ _ => opE_pick (v := .bool false) _ _ _ rfl rfl false rfl rfl
          case o28x7 => exact fun _ _ _ _ => opE_value (v := .bool true) rfl (run_nt _ _ rfl false rfl)
          case o29x7 => exact fun _ _ _ _ => opE_pick (v := .bool true) _ _ _ rfl rfl true rfl rfl
          case o30x7 => exact fun _ _ _ _ => opE_move (v := .bool true) _ rfl rfl rfl
          case o31x7 => exact fun _ _ hw _ => opE_value (v := .agg (veA a)) rfl (ldVe0 _ rfl g2 rfl (hw.has kg2))
          case o32x7 => exact fun _ _ hw _ => opE_value (v := .agg (veA b)) rfl (ldVe0 _ rfl g3 rfl (hw.has kg3))
          case o33x7 => exact fun _ _ _ _ => opE_value (v := .bool false) rfl (run_eqV _ _ _ rfl _ _ rfl rfl ha hb false h3)
          case o34x7 => exact fun _ _ _ _ => opE_move (v := .bool false) _ rfl rfl rfl
          case o35x7 => exact fun _ _ hw _ => opE_value (v := .agg (veA a)) rfl (ldVe0 _ rfl g2 rfl (hw.has kg2))
          case o36x7 => exact fun _ _ hw _ => opE_value (v := .agg (veA b)) rfl (ldVe0 _ rfl g3 rfl (hw.has kg3))
          case o37x7 =>
            intro ptrs w' hw hE
            exact opE_call (.val (.bool false)) rfl _ 21 Try.call21 rfl rfl _ rfl [.agg (veA a), .agg (veA b)] rfl ((Calls.bool (newer_any a b ha hb _) h1).mono fun e w' ⟨he, hg⟩ => ⟨_, he, hg, rfl⟩)
          case o38x7 => exact fun _ _ _ _ => opE_pick (v := .bool false) _ _ _ rfl rfl false rfl rfl
          case o39x7 => exact fun _ _ _ _ => opE_move (v := .bool false) _ rfl rfl rfl
          case o40x7 => exact fun _ _ hw _ => opE_value (v := .agg (veA b)) rfl (ldVe0 _ rfl g3 rfl (hw.has kg3))
          case o41x7 => exact fun _ _ hw _ => opE_value (v := .agg (veA a)) rfl (ldVe0 _ rfl g2 rfl (hw.has kg2))
          case o42x7 =>
            intro ptrs w' hw hE
            exact opE_call (.val (.bool true)) rfl _ 21 Try.call21 rfl rfl _ rfl [.agg (veA b), .agg (veA a)] rfl ((Calls.bool (newer_any b a hb ha _) h2).mono fun e w' ⟨he, hg⟩ => ⟨_, he, hg, rfl⟩)
          case o43x7 => exact fun _ _ _ _ => opE_pick (v := .bool true) _ _ _ rfl rfl false rfl rfl
          intro ptrs w5 GD hxE
          simp only [List.drop_succ_cons, List.drop_zero]
          replace kg1 := GD.has kg1
          replace kg2 := GD.has kg2
          replace kg3 := GD.has kg3
          replace HX := HX.gro ((Gro.refl _).drew.trans GD)
          replace GG := GG.drew.trans GD
          obtain ⟨_, _, _⟩ := hxE
          clear GD
          refine s_val 57 rfl rfl (.bool true) (rfl) ?_
          refine nr ?_; intro U h; simp only [z0, z1] at h; subst h
          refine s_val 6 rfl rfl (.bool true) (rfl) ?_
          refine nr ?_; intro U h; simp only [z0, z1] at h; subst h
          refine wpList_nil ?_
          refine then_n ?_
          refine wp_ret ?_
          refine bodyPost_ret (results_tmp Try.results4 _ _ _) rfl ?_
          exact ⟨rfl, GG⟩
        · skip
          refine wp_region_exA (A := ?Ax8) 44 [(0, 13), (1, 14), (2, 15), (3, 16), (4, 17), (5, 18), (6, 19), (7, 20), (8, 21), (9, 22), (10, 23), (11, 24), (12, 25), (13, 26), (14, 27), (15, 28), (16, 29), (17, 30), (18, 31), (19, 32), (20, 33), (21, 34), (22, 35), (23, 36), (24, 37), (25, 38), (26, 39), (27, 40), (28, 41), (29, 42), (30, 43), (31, 44), (32, 45), (33, 46), (34, 47), (35, 48), (36, 49), (37, 50), (38, 51), (39, 52), (40, 53), (41, 54), (42, 55), (43, 56)] [.val (.bool true), .val (.bool true), .val (.agg (itA (x.sn 0))), bytE w4.heap.size (formV (x.sn 0).it), .val (.string (bas (formV (x.sn 0).it))), .val (.agg (itA (x.sn 0))), bytE w4.heap.size (formV (x.sn 0).it), .val (.string (bas (formV (x.sn 0).it))), .val (.bool true), .val (.bool true), .val (.bool true), .val (.agg (veA a)), .val (.agg (veA b)), .val (.bool false), .val (.agg (veA a)), .val (.agg (veA b)), .val (.bool false), .val (.bool true), .val (.bool true), .val (.bool true), .val (.agg (veA a)), .val (.agg (veA b)), .val (.bool false), .val (.bool false), .val undef, .val undef, .val undef, .val (.bool false), .val (.bool true), .val (.bool true), .val (.bool true), .val (.agg (veA a)), .val (.agg (veA b)), .val (.bool true), .val (.bool true), .val undef, .val undef, .val undef, .val (.bool true), .val (.bool true), .val undef, .val undef, .val undef, .val (.bool true)] follows (by kernel_rfl) rfl ?hAx8 (opsA_cons ?o0x8 (opsA_cons ?o1x8 (opsA_cons ?o2x8 (opsA_cons ?o3x8 (opsA_cons ?o4x8 (opsA_cons ?o5x8 (opsA_cons ?o6x8 (opsA_cons ?o7x8 (opsA_cons ?o8x8 (opsA_cons ?o9x8 (opsA_cons ?o10x8 (opsA_cons ?o11x8 (opsA_cons ?o12x8 (opsA_cons ?o13x8 (opsA_cons ?o14x8 (opsA_cons ?o15x8 (opsA_cons ?o16x8 (opsA_cons ?o17x8 (opsA_cons ?o18x8 (opsA_cons ?o19x8 (opsA_cons ?o20x8 (opsA_cons ?o21x8 (opsA_cons ?o22x8 (opsA_cons ?o23x8 (opsA_cons ?o24x8 (opsA_cons ?o25x8 (opsA_cons ?o26x8 (opsA_cons ?o27x8 (opsA_cons ?o28x8 (opsA_cons ?o29x8 (opsA_cons ?o30x8 (opsA_cons ?o31x8 (opsA_cons ?o32x8 (opsA_cons ?o33x8 (opsA_cons ?o34x8 (opsA_cons ?o35x8 (opsA_cons ?o36x8 (opsA_cons ?o37x8 (opsA_cons ?o38x8 (opsA_cons ?o39x8 (opsA_cons ?o40x8 (opsA_cons ?o41x8 (opsA_cons ?o42x8 (opsA_cons ?o43x8 opsA_nil)))))))))))))))))))))))))))))))))))))))))))) ?restx8
          case hAx8 =>
            intro ptrs
            simp only [full, foldSlots, filledE, postE, List.foldl_cons, List.foldl_nil, List.getD_cons_zero, List.getD_cons_succ, fill_val, fill_bytE, fill_bytE, List.set_cons_zero, List.set_cons_succ]
            exact rfl
          case o0x8 =>
            intro ptrs w' hw hE
            exact opE_call (.val (.bool true)) rfl _ 10 Try.call10 rfl rfl _ rfl [] rfl ((fixed_any _).mono fun e w' ⟨he, hg⟩ => ⟨_, he, hg, rfl⟩)
          case o1x8 => exact fun _ _ _ _ => opE_move (v := .bool true) _ rfl rfl rfl
          case o2x8 => exact fun _ _ hw _ => opE_value (v := .agg (itA (x.sn 0))) rfl (ldIt0 _ rfl g1 rfl (hw.has kg1))
          case o3x8 =>
            intro ptrs w' hw hE
            exact opE_call (bytE w4.heap.size (formV (x.sn 0).it)) rfl _ 19 Try.call19 rfl rfl _ rfl [.agg (itA (x.sn 0))] rfl ((form_any (x.sn 0) hX hX0 hl _ (show NC _ .u8 (x.sn 0).ao (x.sn 0).cap (x.sn 0).val from HX.gro ((Gro.refl _).drew.trans hw))).mono fun e w' ⟨ao, cap, he, hg, ho⟩ => ⟨_, he, hg, ao, cap, rfl, ho.mono hw.size⟩)
          case o4x8 =>
            intro ptrs w' hw hE
            obtain ⟨⟨ao3, cap3, h3, o3⟩, _⟩ := hE
            exact opE_value (v := .string (bas (formV (x.sn 0).it))) rfl (run_text_op bT 9 rfl _ rfl (by exact h3) o3.nc)
          case o5x8 => exact fun _ _ hw _ => opE_value (v := .agg (itA (x.sn 0))) rfl (ldIt0 _ rfl g1 rfl (hw.has kg1))
          case o6x8 =>
            intro ptrs w' hw hE
            obtain ⟨⟨ao3, cap3, h3, o3⟩, _⟩ := hE
            exact opE_call (bytE w4.heap.size (formV (x.sn 0).it)) rfl _ 20 Try.call20 rfl rfl _ rfl [.agg (itA (x.sn 0))] rfl ((rform_any (x.sn 0) hX hX0 hl _ (show NC _ .u8 (x.sn 0).ao (x.sn 0).cap (x.sn 0).val from HX.gro ((Gro.refl _).drew.trans hw))).mono fun e w' ⟨ao, cap, he, hg, ho⟩ => ⟨_, he, hg, ao, cap, rfl, ho.mono hw.size⟩)
          case o7x8 =>
            intro ptrs w' hw hE
            obtain ⟨⟨ao6, cap6, h6, o6⟩, _⟩ := hE
            exact opE_value (v := .string (bas (formV (x.sn 0).it))) rfl (run_text_op bT 9 rfl _ rfl (by exact h6) o6.nc)
          case o8x8 => exact fun _ _ _ _ => opE_value (v := .bool true) rfl (run_eqs_op _ _ _ rfl _ _ rfl rfl true (decide_eq_true rfl) _)
          case o9x8 => exact fun _ _ _ _ => opE_pick (v := .bool true) _ _ _ rfl rfl true rfl rfl
          case o10x8 => exact fun _ _ _ _ => opE_move (v := .bool true) _ rfl rfl rfl
          case o11x8 => exact fun _ _ hw _ => opE_value (v := .agg (veA a)) rfl (ldVe0 _ rfl g2 rfl (hw.has kg2))
          case o12x8 => exact fun _ _ hw _ => opE_value (v := .agg (veA b)) rfl (ldVe0 _ rfl g3 rfl (hw.has kg3))
          case o13x8 =>
            intro ptrs w' hw hE
            exact opE_call (.val (.bool false)) rfl _ 21 Try.call21 rfl rfl _ rfl [.agg (veA a), .agg (veA b)] rfl ((Calls.bool (newer_any a b ha hb _) h1).mono fun e w' ⟨he, hg⟩ => ⟨_, he, hg, rfl⟩)
          case o14x8 => exact fun _ _ hw _ => opE_value (v := .agg (veA a)) rfl (ldVe0 _ rfl g2 rfl (hw.has kg2))
          case o15x8 => exact fun _ _ hw _ => opE_value (v := .agg (veA b)) rfl (ldVe0 _ rfl g3 rfl (hw.has kg3))
          case o16x8 =>
            intro ptrs w' hw hE
            exact opE_call (.val (.bool false)) rfl _ 22 Try.call22 rfl rfl _ rfl [.agg (veA a), .agg (veA b)] rfl ((Calls.bool (rnewer_any a b ha hb _) h1).mono fun e w' ⟨he, hg⟩ => ⟨_, he, hg, rfl⟩)
          case o17x8 => exact fun _ _ _ _ => opE_value (v := .bool true) rfl (run_eqB 4 _ _ _ rfl false false rfl rfl Try.underlying4 true (by decide) _)
          case o18x8 => exact fun _ _ _ _ => opE_pick (v := .bool true) _ _ _ rfl rfl true rfl rfl
          case o19x8 => exact fun _ _ _ _ => opE_move (v := .bool true) _ rfl rfl rfl
          case o20x8 => exact fun _ _ hw _ => opE_value (v := .agg (veA a)) rfl (ldVe0 _ rfl g2 rfl (hw.has kg2))
          case o21x8 => exact fun _ _ hw _ => opE_value (v := .agg (veA b)) rfl (ldVe0 _ rfl g3 rfl (hw.has kg3))
          case o22x8 =>
            intro ptrs w' hw hE
            exact opE_call (.val (.bool false)) rfl _ 21 Try.call21 rfl rfl _ rfl [.agg (veA a), .agg (veA b)] rfl ((Calls.bool (newer_any a b ha hb _) h1).mono fun e w' ⟨he, hg⟩ => ⟨_, he, hg, rfl⟩)
          case o23x8 => exact fun _ _ _ _ => opE_move (v := .bool false) _ rfl rfl rfl
          case o24x8 => exact fun _ _ _ _ => opE_skip rfl
          case o25x8 => exact fun _ _ _ _ => opE_skip rfl
          case o26x8 => exact fun _ _ _ _ => opE_skip rfl
          case o27x8 => exact fun _ _ _ _ => opE_pick (v := .bool false) _ _ _ rfl rfl false rfl rfl
          case o28x8 => exact fun _ _ _ _ => opE_value (v := .bool true) rfl (run_nt _ _ rfl false rfl)
          case o29x8 => exact fun _ _ _ _ => opE_pick (v := .bool true) _ _ _ rfl rfl true rfl rfl
          case o30x8 => exact fun _ _ _ _ => opE_move (v := .bool true) _ rfl rfl rfl
          case o31x8 => exact fun _ _ hw _ => opE_value (v := .agg (veA a)) rfl (ldVe0 _ rfl g2 rfl (hw.has kg2))
          case o32x8 => exact fun _ _ hw _ => opE_value (v := .agg (veA b)) rfl (ldVe0 _ rfl g3 rfl (hw.has kg3))
          case o33x8 => exact fun _ _ _ _ => opE_value (v := .bool true) rfl (run_eqV _ _ _ rfl _ _ rfl rfl ha hb true h3)
          case o34x8 => exact fun _ _ _ _ => opE_move (v := .bool true) _ rfl rfl rfl
          case o35x8 => exact fun _ _ _ _ => opE_skip rfl
          case o36x8 => exact fun _ _ _ _ => opE_skip rfl
          case o37x8 => exact fun _ _ _ _ => opE_skip rfl
          case o38x8 => exact fun _ _ _ _ => opE_pick (v := .bool true) _ _ _ rfl rfl true rfl rfl
          case o39x8 => exact fun _ _ _ _ => opE_move (v := .bool true) _ rfl rfl rfl
          case o40x8 => exact fun _ _ _ _ => opE_skip rfl
          case o41x8 => exact fun _ _ _ _ => opE_skip rfl
          case o42x8 => exact fun _ _ _ _ => opE_skip rfl
          case o43x8 => exact fun _ _ _ _ => opE_pick (v := .bool true) _ _ _ rfl rfl true rfl rfl
          intro ptrs w5 GD hxE
          simp only [List.drop_succ_cons, List.drop_zero]
          replace kg1 := GD.has kg1
          replace kg2 := GD.has kg2
          replace kg3 := GD.has kg3
          replace HX := HX.gro ((Gro.refl _).drew.trans GD)
          replace GG := GG.drew.trans GD
          obtain ⟨_, _, _⟩ := hxE
          clear GD
          refine s_val 57 rfl rfl (.bool true) (rfl) ?_
          refine nr ?_; intro U h; simp only [z0, z1] at h; subst h
          refine s_val 6 rfl rfl (.bool true) (rfl) ?_
          refine nr ?_; intro U h; simp only [z0, z1] at h; subst h
          refine wpList_nil ?_
          refine then_n ?_
          refine wp_ret ?_
          refine bodyPost_ret (results_tmp Try.results4 _ _ _) rfl ?_
          exact ⟨rfl, GG⟩
    · skip
      cases h2 : nwV b a
      · skip
        cases h3 : eqV a b
        · skip
          refine wp_region_exA (A := ?Ax9) 44 [(0, 13), (1, 14), (2, 15), (3, 16), (4, 17), (5, 18), (6, 19), (7, 20), (8, 21), (9, 22), (10, 23), (11, 24), (12, 25), (13, 26), (14, 27), (15, 28), (16, 29), (17, 30), (18, 31), (19, 32), (20, 33), (21, 34), (22, 35), (23, 36), (24, 37), (25, 38), (26, 39), (27, 40), (28, 41), (29, 42), (30, 43), (31, 44), (32, 45), (33, 46), (34, 47), (35, 48), (36, 49), (37, 50), (38, 51), (39, 52), (40, 53), (41, 54), (42, 55), (43, 56)] [.val (.bool true), .val (.bool true), .val (.agg (itA (x.sn 0))), bytE w4.heap.size (formV (x.sn 0).it), .val (.string (bas (formV (x.sn 0).it))), .val (.agg (itA (x.sn 0))), bytE w4.heap.size (formV (x.sn 0).it), .val (.string (bas (formV (x.sn 0).it))), .val (.bool true), .val (.bool true), .val (.bool true), .val (.agg (veA a)), .val (.agg (veA b)), .val (.bool true), .val (.agg (veA a)), .val (.agg (veA b)), .val (.bool true), .val (.bool true), .val (.bool true), .val (.bool true), .val (.agg (veA a)), .val (.agg (veA b)), .val (.bool true), .val (.bool true), .val (.agg (veA b)), .val (.agg (veA a)), .val (.bool false), .val (.bool false), .val (.bool true), .val (.bool true), .val (.bool true), .val (.agg (veA a)), .val (.agg (veA b)), .val (.bool false), .val (.bool false), .val (.agg (veA a)), .val (.agg (veA b)), .val (.bool true), .val (.bool true), .val (.bool true), .val undef, .val undef, .val undef, .val (.bool true)] follows (by kernel_rfl) rfl ?hAx9 (opsA_cons ?o0x9 (opsA_cons ?o1x9 (opsA_cons ?o2x9 (opsA_cons ?o3x9 (opsA_cons ?o4x9 (opsA_cons ?o5x9 (opsA_cons ?o6x9 (opsA_cons ?o7x9 (opsA_cons ?o8x9 (opsA_cons ?o9x9 (opsA_cons ?o10x9 (opsA_cons ?o11x9 (opsA_cons ?o12x9 (opsA_cons ?o13x9 (opsA_cons ?o14x9 (opsA_cons ?o15x9 (opsA_cons ?o16x9 (opsA_cons ?o17x9 (opsA_cons ?o18x9 (opsA_cons ?o19x9 (opsA_cons ?o20x9 (opsA_cons ?o21x9 (opsA_cons ?o22x9 (opsA_cons ?o23x9 (opsA_cons ?o24x9 (opsA_cons ?o25x9 (opsA_cons ?o26x9 (opsA_cons ?o27x9 (opsA_cons ?o28x9 (opsA_cons ?o29x9 (opsA_cons ?o30x9 (opsA_cons ?o31x9 (opsA_cons ?o32x9 (opsA_cons ?o33x9 (opsA_cons ?o34x9 (opsA_cons ?o35x9 (opsA_cons ?o36x9 (opsA_cons ?o37x9 (opsA_cons ?o38x9 (opsA_cons ?o39x9 (opsA_cons ?o40x9 (opsA_cons ?o41x9 (opsA_cons ?o42x9 (opsA_cons ?o43x9 opsA_nil)))))))))))))))))))))))))))))))))))))))))))) ?restx9
          case hAx9 =>
            intro ptrs
            simp only [full, foldSlots, filledE, postE, List.foldl_cons, List.foldl_nil, List.getD_cons_zero, List.getD_cons_succ, fill_val, fill_bytE, fill_bytE, List.set_cons_zero, List.set_cons_succ]
            exact rfl
          case o0x9 =>
            intro ptrs w' hw hE
            exact opE_call (.val (.bool true)) rfl _ 10 Try.call10 rfl rfl _ rfl [] rfl ((fixed_any _).mono fun e w' ⟨he, hg⟩ => ⟨_, he, hg, rfl⟩)
          case o1x9 => exact fun _ _ _ _ => opE_move (v := .bool true) _ rfl rfl rfl
          case o2x9 => exact fun _ _ hw _ => opE_value (v := .agg (itA (x.sn 0))) rfl (ldIt0 _ rfl g1 rfl (hw.has kg1))
          case o3x9 =>
            intro ptrs w' hw hE
            exact opE_call (bytE w4.heap.size (formV (x.sn 0).it)) rfl _ 19 Try.call19 rfl rfl _ rfl [.agg (itA (x.sn 0))] rfl ((form_any (x.sn 0) hX hX0 hl _ (show NC _ .u8 (x.sn 0).ao (x.sn 0).cap (x.sn 0).val from HX.gro ((Gro.refl _).drew.trans hw))).mono fun e w' ⟨ao, cap, he, hg, ho⟩ => ⟨_, he, hg, ao, cap, rfl, ho.mono hw.size⟩)
          case o4x9 =>
            intro ptrs w' hw hE
            obtain ⟨⟨ao3, cap3, h3, o3⟩, _⟩ := hE
            exact opE_value (v := .string (bas (formV (x.sn 0).it))) rfl (run_text_op bT 9 rfl _ rfl (by exact h3) o3.nc)
          case o5x9 => exact fun _ _ hw _ => opE_value (v := .agg (itA (x.sn 0))) rfl (ldIt0 _ rfl g1 rfl (hw.has kg1))
          case o6x9 =>
            intro ptrs w' hw hE
            obtain ⟨⟨ao3, cap3, h3, o3⟩, _⟩ := hE
            exact opE_call (bytE w4.heap.size (formV (x.sn 0).it)) rfl _ 20 Try.call20 rfl rfl _ rfl [.agg (itA (x.sn 0))] rfl ((rform_any (x.sn 0) hX hX0 hl _ (show NC _ .u8 (x.sn 0).ao (x.sn 0).cap (x.sn 0).val from HX.gro ((Gro.refl _).drew.trans hw))).mono fun e w' ⟨ao, cap, he, hg, ho⟩ => ⟨_, he, hg, ao, cap, rfl, ho.mono hw.size⟩)
          case o7x9 =>
            intro ptrs w' hw hE
            obtain ⟨⟨ao6, cap6, h6, o6⟩, _⟩ := hE
            exact opE_value (v := .string (bas (formV (x.sn 0).it))) rfl (run_text_op bT 9 rfl _ rfl (by exact h6) o6.nc)
          case o8x9 => exact fun _ _ _ _ => opE_value (v := .bool true) rfl (run_eqs_op _ _ _ rfl _ _ rfl rfl true (decide_eq_true rfl) _)
          case o9x9 => exact fun _ _ _ _ => opE_pick (v := .bool true) _ _ _ rfl rfl true rfl rfl
          case o10x9 => exact fun _ _ _ _ => opE_move (v := .bool true) _ rfl rfl rfl
          case o11x9 => exact fun _ _ hw _ => opE_value (v := .agg (veA a)) rfl (ldVe0 _ rfl g2 rfl (hw.has kg2))
          case o12x9 => exact fun _ _ hw _ => opE_value (v := .agg (veA b)) rfl (ldVe0 _ rfl g3 rfl (hw.has kg3))
          case o13x9 =>
            intro ptrs w' hw hE
            exact opE_call (.val (.bool true)) rfl _ 21 Try.call21 rfl rfl _ rfl [.agg (veA a), .agg (veA b)] rfl ((Calls.bool (newer_any a b ha hb _) h1).mono fun e w' ⟨he, hg⟩ => ⟨_, he, hg, rfl⟩)
          case o14x9 => exact fun _ _ hw _ => opE_value (v := .agg (veA a)) rfl (ldVe0 _ rfl g2 rfl (hw.has kg2))
          case o15x9 => exact fun _ _ hw _ => opE_value (v := .agg (veA b)) rfl (ldVe0 _ rfl g3 rfl (hw.has kg3))
          case o16x9 =>
            intro ptrs w' hw hE
            exact opE_call (.val (.bool true)) rfl _ 22 Try.call22 rfl rfl _ rfl [.agg (veA a), .agg (veA b)] rfl ((Calls.bool (rnewer_any a b ha hb _) h1).mono fun e w' ⟨he, hg⟩ => ⟨_, he, hg, rfl⟩)
          case o17x9 => exact fun _ _ _ _ => opE_value (v := .bool true) rfl (run_eqB 4 _ _ _ rfl true true rfl rfl Try.underlying4 true (by decide) _)
          case o18x9 => exact fun _ _ _ _ => opE_pick (v := .bool true) _ _ _ rfl rfl true rfl rfl
          case o19x9 => exact fun _ _ _ _ => opE_move (v := .bool true) _ rfl rfl rfl
          case o20x9 => exact fun _ _ hw _ => opE_value (v := .agg (veA a)) rfl (ldVe0 _ rfl g2 rfl (hw.has kg2))
          case o21x9 => exact fun _ _ hw _ => opE_value (v := .agg (veA b)) rfl (ldVe0 _ rfl g3 rfl (hw.has kg3))
          case o22x9 =>
            intro ptrs w' hw hE
            exact opE_call (.val (.bool true)) rfl _ 21 Try.call21 rfl rfl _ rfl [.agg (veA a), .agg (veA b)] rfl ((Calls.bool (newer_any a b ha hb _) h1).mono fun e w' ⟨he, hg⟩ => ⟨_, he, hg, rfl⟩)
          case o23x9 => exact fun _ _ _ _ => opE_move (v := .bool true) _ rfl rfl rfl
          case o24x9 => exact fun _ _ hw _ => opE_value (v := .agg (veA b)) rfl (ldVe0 _ rfl g3 rfl (hw.has kg3))
          case o25x9 => exact fun _ _ hw _ => opE_value (v := .agg (veA a)) rfl (ldVe0 _ rfl g2 rfl (hw.has kg2))
          case o26x9 =>
            intro ptrs w' hw hE
            exact opE_call (.val (.bool false)) rfl _ 21 Try.call21 rfl rfl _ rfl [.agg (veA b), .agg (veA a)] rfl ((Calls.bool (newer_any b a hb ha _) h2).mono fun e w' ⟨he, hg⟩ => ⟨_, he, hg, rfl⟩)
          case o27x9 => exact fun _ _ _ _ => opE_pick (v := .bool false) _ _ _ rfl rfl true rfl rfl
          case o28x9 => exact fun _ _ _ _ => opE_value (v := .bool true) rfl (run_nt _ _ rfl false rfl)
          case o29x9 => exact fun _ _ _ _ => opE_pick (v := .bool true) _ _ _ rfl rfl true rfl rfl
          case o30x9 => exact fun _ _ _ _ => opE_move (v := .bool true) _ rfl rfl rfl
          case o31x9 => exact fun _ _ hw _ => opE_value (v := .agg (veA a)) rfl (ldVe0 _ rfl g2 rfl (hw.has kg2))
          case o32x9 => exact fun _ _ hw _ => opE_value (v := .agg (veA b)) rfl (ldVe0 _ rfl g3 rfl (hw.has kg3))
          case o33x9 => exact fun _ _ _ _ => opE_value (v := .bool false) rfl (run_eqV _ _ _ rfl _ _ rfl rfl ha hb false h3)
          case o34x9 => exact fun _ _ _ _ => opE_move (v := .bool false) _ rfl rfl rfl
          case o35x9 => exact fun _ _ hw _ => opE_value (v := .agg (veA a)) rfl (ldVe0 _ rfl g2 rfl (hw.has kg2))
          case o36x9 => exact fun _ _ hw _ => opE_value (v := .agg (veA b)) rfl (ldVe0 _ rfl g3 rfl (hw.has kg3))
          case o37x9 =>
            intro ptrs w' hw hE
            exact opE_call (.val (.bool true)) rfl _ 21 Try.call21 rfl rfl _ rfl [.agg (veA a), .agg (veA b)] rfl ((Calls.bool (newer_any a b ha hb _) h1).mono fun e w' ⟨he, hg⟩ => ⟨_, he, hg, rfl⟩)
          case o38x9 => exact fun _ _ _ _ => opE_pick (v := .bool true) _ _ _ rfl rfl false rfl rfl
          case o39x9 => exact fun _ _ _ _ => opE_move (v := .bool true) _ rfl rfl rfl
          case o40x9 => exact fun _ _ _ _ => opE_skip rfl
          case o41x9 => exact fun _ _ _ _ => opE_skip rfl
          case o42x9 => exact fun _ _ _ _ => opE_skip rfl
          case o43x9 => exact fun _ _ _ _ => opE_pick (v := .bool true) _ _ _ rfl rfl true rfl rfl
          intro ptrs w5 GD hxE
          simp only [List.drop_succ_cons, List.drop_zero]
          replace kg1 := GD.has kg1
          replace kg2 := GD.has kg2
          replace kg3 := GD.has kg3
          replace HX := HX.gro ((Gro.refl _).drew.trans GD)
          replace GG := GG.drew.trans GD
          obtain ⟨_, _, _⟩ := hxE
          clear GD
          refine s_val 57 rfl rfl (.bool true) (rfl) ?_
          refine nr ?_; intro U h; simp only [z0, z1] at h; subst h
          refine s_val 6 rfl rfl (.bool true) (rfl) ?_
          refine nr ?_; intro U h; simp only [z0, z1] at h; subst h
          refine wpList_nil ?_
          refine then_n ?_
          refine wp_ret ?_
          refine bodyPost_ret (results_tmp Try.results4 _ _ _) rfl ?_
          exact ⟨rfl, GG⟩
        · skip
          refine wp_region_exA (A := ?Ax10) 44 [(0, 13), (1, 14), (2, 15), (3, 16), (4, 17), (5, 18), (6, 19), (7, 20), (8, 21), (9, 22), (10, 23), (11, 24), (12, 25), (13, 26), (14, 27), (15, 28), (16, 29), (17, 30), (18, 31), (19, 32), (20, 33), (21, 34), (22, 35), (23, 36), (24, 37), (25, 38), (26, 39), (27, 40), (28, 41), (29, 42), (30, 43), (31, 44), (32, 45), (33, 46), (34, 47), (35, 48), (36, 49), (37, 50), (38, 51), (39, 52), (40, 53), (41, 54), (42, 55), (43, 56)] [.val (.bool true), .val (.bool true), .val (.agg (itA (x.sn 0))), bytE w4.heap.size (formV (x.sn 0).it), .val (.string (bas (formV (x.sn 0).it))), .val (.agg (itA (x.sn 0))), bytE w4.heap.size (formV (x.sn 0).it), .val (.string (bas (formV (x.sn 0).it))), .val (.bool true), .val (.bool true), .val (.bool true), .val (.agg (veA a)), .val (.agg (veA b)), .val (.bool true), .val (.agg (veA a)), .val (.agg (veA b)), .val (.bool true), .val (.bool true), .val (.bool true), .val (.bool true), .val (.agg (veA a)), .val (.agg (veA b)), .val (.bool true), .val (.bool true), .val (.agg (veA b)), .val (.agg (veA a)), .val (.bool false), .val (.bool false), .val (.bool true), .val (.bool true), .val (.bool true), .val (.agg (veA a)), .val (.agg (veA b)), .val (.bool true), .val (.bool true), .val undef, .val undef, .val undef, .val (.bool true), .val (.bool true), .val undef, .val undef, .val undef, .val (.bool true)] follows (by kernel_rfl) rfl ?hAx10 (opsA_cons ?o0x10 (opsA_cons ?o1x10 (opsA_cons ?o2x10 (opsA_cons ?o3x10 (opsA_cons ?o4x10 (opsA_cons ?o5x10 (opsA_cons ?o6x10 (opsA_cons ?o7x10 (opsA_cons ?o8x10 (opsA_cons ?o9x10 (opsA_cons ?o10x10 (opsA_cons ?o11x10 (opsA_cons ?o12x10 (opsA_cons ?o13x10 (opsA_cons ?o14x10 (opsA_cons ?o15x10 (opsA_cons ?o16x10 (opsA_cons ?o17x10 (opsA_cons ?o18x10 (opsA_cons ?o19x10 (opsA_cons ?o20x10 (opsA_cons ?o21x10 (opsA_cons ?o22x10 (opsA_cons ?o23x10 (opsA_cons ?o24x10 (opsA_cons ?o25x10 (opsA_cons ?o26x10 (opsA_cons ?o27x10 (opsA_cons ?o28x10 (opsA_cons ?o29x10 (opsA_cons ?o30x10 (opsA_cons ?o31x10 (opsA_cons ?o32x10 (opsA_cons ?o33x10 (opsA_cons ?o34x10 (opsA_cons ?o35x10 (opsA_cons ?o36x10 (opsA_cons ?o37x10 (opsA_cons ?o38x10 (opsA_cons ?o39x10 (opsA_cons ?o40x10 (opsA_cons ?o41x10 (opsA_cons ?o42x10 (opsA_cons ?o43x10 opsA_nil)))))))))))))))))))))))))))))))))))))))))))) ?restx10
          case hAx10 =>
            intro ptrs
            simp only [full, foldSlots, filledE, postE, List.foldl_cons, List.foldl_nil, List.getD_cons_zero, List.getD_cons_succ, fill_val, fill_bytE, fill_bytE, List.set_cons_zero, List.set_cons_succ]
            exact rfl
          case o0x10 =>
            intro ptrs w' hw hE
            exact opE_call (.val (.bool true)) rfl _ 10 Try.call10 rfl rfl _ rfl [] rfl ((fixed_any _).mono fun e w' ⟨he, hg⟩ => ⟨_, he, hg, rfl⟩)
          case o1x10 => exact fun _ _ _ _ => opE_move (v := .bool true) _ rfl rfl rfl
          case o2x10 => exact fun _ _ hw _ => opE_value (v := .agg (itA (x.sn 0))) rfl (ldIt0 _ rfl g1 rfl (hw.has kg1))
          case o3x10 =>
            intro ptrs w' hw hE
            exact opE_call (bytE w4.heap.size (formV (x.sn 0).it)) rfl _ 19 Try.call19 rfl rfl _ rfl [.agg (itA (x.sn 0))] rfl ((form_any (x.sn 0) hX hX0 hl _ (show NC _ .u8 (x.sn 0).ao (x.sn 0).cap (x.sn 0).val from HX.gro ((Gro.refl _).drew.trans hw))).mono fun e w' ⟨ao, cap, he, hg, ho⟩ => ⟨_, he, hg, ao, cap, rfl, ho.mono hw.size⟩)
          case o4x10 =>
            intro ptrs w' hw hE
            obtain ⟨⟨ao3, cap3, h3, o3⟩, _⟩ := hE
            exact opE_value (v := .string (bas (formV (x.sn 0).it))) rfl (run_text_op bT 9 rfl _ rfl (by exact h3) o3.nc)
          case o5x10 => exact fun _ _ hw _ => opE_value (v := .agg (itA (x.sn 0))) rfl (ldIt0 _ rfl g1 rfl (hw.has kg1))
          case o6x10 =>
            intro ptrs w' hw hE
            obtain ⟨⟨ao3, cap3, h3, o3⟩, _⟩ := hE
            exact opE_call (bytE w4.heap.size (formV (x.sn 0).it)) rfl _ 20 Try.call20 rfl rfl _ rfl [.agg (itA (x.sn 0))] rfl ((rform_any (x.sn 0) hX hX0 hl _ (show NC _ .u8 (x.sn 0).ao (x.sn 0).cap (x.sn 0).val from HX.gro ((Gro.refl _).drew.trans hw))).mono fun e w' ⟨ao, cap, he, hg, ho⟩ => ⟨_, he, hg, ao, cap, rfl, ho.mono hw.size⟩)
          case o7x10 =>
            intro ptrs w' hw hE
            obtain ⟨⟨ao6, cap6, h6, o6⟩, _⟩ := hE
            exact opE_value (v := .string (bas (formV (x.sn 0).it))) rfl (run_text_op bT 9 rfl _ rfl (by exact h6) o6.nc)
          case o8x10 => exact fun _ _ _ _ => opE_value (v := .bool true) rfl (run_eqs_op _ _ _ rfl _ _ rfl rfl true (decide_eq_true rfl) _)
          case o9x10 => exact fun _ _ _ _ => opE_pick (v := .bool true) _ _ _ rfl rfl true rfl rfl
          case o10x10 => exact fun _ _ _ _ => opE_move (v := .bool true) _ rfl rfl rfl
          case o11x10 => exact fun _ _ hw _ => opE_value (v := .agg (veA a)) rfl (ldVe0 _ rfl g2 rfl (hw.has kg2))
          case o12x10 => exact fun _ _ hw _ => opE_value (v := .agg (veA b)) rfl (ldVe0 _ rfl g3 rfl (hw.has kg3))
          case o13x10 =>
            intro ptrs w' hw hE
            exact opE_call (.val (.bool true)) rfl _ 21 Try.call21 rfl rfl _ rfl [.agg (veA a), .agg (veA b)] rfl ((Calls.bool (newer_any a b ha hb _) h1).mono fun e w' ⟨he, hg⟩ => ⟨_, he, hg, rfl⟩)
          case o14x10 => exact fun _ _ hw _ => opE_value (v := .agg (veA a)) rfl (ldVe0 _ rfl g2 rfl (hw.has kg2))
          case o15x10 => exact fun _ _ hw _ => opE_value (v := .agg (veA b)) rfl (ldVe0 _ rfl g3 rfl (hw.has kg3))
          case o16x10 =>
            intro ptrs w' hw hE
            exact opE_call (.val (.bool true)) rfl _ 22 Try.call22 rfl rfl _ rfl [.agg (veA a), .agg (veA b)] rfl ((Calls.bool (rnewer_any a b ha hb _) h1).mono fun e w' ⟨he, hg⟩ => ⟨_, he, hg, rfl⟩)
          case o17x10 => exact fun _ _ _ _ => opE_value (v := .bool true) rfl (run_eqB 4 _ _ _ rfl true true rfl rfl Try.underlying4 true (by decide) _)
          case o18x10 => exact fun _ _ _ _ => opE_pick (v := .bool true) _ _ _ rfl rfl true rfl rfl
          case o19x10 => exact fun _ _ _ _ => opE_move (v := .bool true) _ rfl rfl rfl
          case o20x10 => exact fun _ _ hw _ => opE_value (v := .agg (veA a)) rfl (ldVe0 _ rfl g2 rfl (hw.has kg2))
          case o21x10 => exact fun _ _ hw _ => opE_value (v := .agg (veA b)) rfl (ldVe0 _ rfl g3 rfl (hw.has kg3))
          case o22x10 =>
            intro ptrs w' hw hE
            exact opE_call (.val (.bool true)) rfl _ 21 Try.call21 rfl rfl _ rfl [.agg (veA a), .agg (veA b)] rfl ((Calls.bool (newer_any a b ha hb _) h1).mono fun e w' ⟨he, hg⟩ => ⟨_, he, hg, rfl⟩)
          case o23x10 => exact fun _ _ _ _ => opE_move (v := .bool true) _ rfl rfl rfl
          case o24x10 => exact fun _ _ hw _ => opE_value (v := .agg (veA b)) rfl (ldVe0 _ rfl g3 rfl (hw.has kg3))
          case o25x10 => exact fun _ _ hw _ => opE_value (v := .agg (veA a)) rfl (ldVe0 _ rfl g2 rfl (hw.has kg2))
          case o26x10 =>
            intro ptrs w' hw hE
            exact opE_call (.val (.bool false)) rfl _ 21 Try.call21 rfl rfl _ rfl [.agg (veA b), .agg (veA a)] rfl ((Calls.bool (newer_any b a hb ha _) h2).mono fun e w' ⟨he, hg⟩ => ⟨_, he, hg, rfl⟩)
          case o27x10 => exact fun _ _ _ _ => opE_pick (v := .bool false) _ _ _ rfl rfl true rfl rfl
          case o28x10 => exact fun _ _ _ _ => opE_value (v := .bool true) rfl (run_nt _ _ rfl false rfl)
          case o29x10 => exact fun _ _ _ _ => opE_pick (v := .bool true) _ _ _ rfl rfl true rfl rfl
          case o30x10 => exact fun _ _ _ _ => opE_move (v := .bool true) _ rfl rfl rfl
          case o31x10 => exact fun _ _ hw _ => opE_value (v := .agg (veA a)) rfl (ldVe0 _ rfl g2 rfl (hw.has kg2))
          case o32x10 => exact fun _ _ hw _ => opE_value (v := .agg (veA b)) rfl (ldVe0 _ rfl g3 rfl (hw.has kg3))
          case o33x10 => exact fun _ _ _ _ => opE_value (v := .bool true) rfl (run_eqV _ _ _ rfl _ _ rfl rfl ha hb true h3)
          case o34x10 => exact fun _ _ _ _ => opE_move (v := .bool true) _ rfl rfl rfl
          case o35x10 => exact fun _ _ _ _ => opE_skip rfl
          case o36x10 => exact fun _ _ _ _ => opE_skip rfl
          case o37x10 => exact fun _ _ _ _ => opE_skip rfl
          case o38x10 => exact fun _ _ _ _ => opE_pick (v := .bool true) _ _ _ rfl rfl true rfl rfl
          case o39x10 => exact fun _ _ _ _ => opE_move (v := .bool true) _ rfl rfl rfl
          case o40x10 => exact fun _ _ _ _ => opE_skip rfl
          case o41x10 => exact fun _ _ _ _ => opE_skip rfl
          case o42x10 => exact fun _ _ _ _ => opE_skip rfl
          case o43x10 => exact fun _ _ _ _ => opE_pick (v := .bool true) _ _ _ rfl rfl true rfl rfl
          intro ptrs w5 GD hxE
          simp only [List.drop_succ_cons, List.drop_zero]
          replace kg1 := GD.has kg1
          replace kg2 := GD.has kg2
          replace kg3 := GD.has kg3
          replace HX := HX.gro ((Gro.refl _).drew.trans GD)
          replace GG := GG.drew.trans GD
          obtain ⟨_, _, _⟩ := hxE
          clear GD
          refine s_val 57 rfl rfl (.bool true) (rfl) ?_
          refine nr ?_; intro U h; simp only [z0, z1] at h; subst h
          refine s_val 6 rfl rfl (.bool true) (rfl) ?_
          refine nr ?_; intro U h; simp only [z0, z1] at h; subst h
          refine wpList_nil ?_
          refine then_n ?_
          refine wp_ret ?_
          refine bodyPost_ret (results_tmp Try.results4 _ _ _) rfl ?_
          exact ⟨rfl, GG⟩
      · skip
        exact absurd ((nwV_asy h1).symm.trans h2) (by decide)
end Go.Proofs.Ytgfnjekpafempaa
