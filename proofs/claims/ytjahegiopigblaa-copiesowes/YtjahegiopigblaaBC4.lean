/- The laws on whom an item is owed to, and on rings. -/
import Derived.Test.YtjahegiopigblaaBC3
namespace Go.Proofs.Ytjahegiopigblaa
open Go.RowKit
set_option maxRecDepth 100000 in
set_option maxHeartbeats 4000000 in
theorem copiesOwes_any (s : Nat) (ao : Option Addr) (cap : Nat) (l : List Nat) (k : Nat) (w : World) (hs : s < top) (hk : k < top) (HL : RK kI w ao cap l) : Calls Try.prog 3 #[.agg (idA s), .slice ao l.length cap, .agg (idA k)] w (fun e w' => e = .returned (.bool true) ∧ Gro w w') := by
  refine s_enter Try.func3 rfl Try.ntmps3 [.agg (idA s), .slice ao l.length cap, .agg (idA k)] [.agg (idA s), .slice ao l.length cap, .agg (idA k), undef, undef, undef, undef, undef, undef, undef, undef, undef, undef, undef, undef, undef, undef, undef, undef, undef, undef, undef, undef, undef, undef, undef, undef, undef, undef, undef, undef, undef, undef, undef, undef, undef, undef, undef, undef, undef] rfl ?_
  have GG := Gro.refl w
  obtain ⟨t, ht⟩ : ∃ t, l.take 40 = t := ⟨_, rfl⟩
  have HT : RK kI w ao t.length t := ht ▸ HL.take 40
  have htl : t.length ≤ 40 := by rw [← ht, List.length_take]; omega
  refine wp_seq ?_
  refine wp_region_lit ?_
  refine s_box 3 rfl rfl 23 _ rfl _ rfl (idA s) rfl ?_
  intro w1 g1 G eg1 kg1
  have bg1 := size_base GG eg1
  replace HL := HL.gro G
  replace HT := HT.gro G
  replace GG := GG.trans G
  clear G
  clear eg1
  refine nr ?_; intro U h; simp only [z0, z1] at h; subst h
  refine s_box 5 rfl rfl 23 _ rfl _ rfl (idA k) rfl ?_
  intro w2 g2 G eg2 kg2
  have bg2 := size_base GG eg2
  replace kg1 := G.has kg1
  replace HL := HL.gro G
  replace HT := HT.gro G
  replace GG := GG.trans G
  clear G
  clear eg2
  refine nr ?_; intro U h; simp only [z0, z1] at h; subst h
  refine s_val 6 rfl rfl (.bool false) (rfl) ?_
  refine nr ?_; intro U h; simp only [z0, z1] at h; subst h
  refine wpList_nil ?_
  refine then_n ?_
  refine wp_seq ?_
  refine wp_region_lit ?_
  refine s_val 8 rfl rfl (.slice ao l.length cap) (rfl) ?_
  refine nr ?_; intro U h; simp only [z0, z1] at h; subst h
  refine s_callv 9 rfl rfl _ 9 Try.call9 rfl rfl _ rfl [.slice ao l.length cap, .int .i64 40] rfl (Calls.valV (cutI_any ao cap l _ HL 40) (by rw [ht])) ?_
  intro w3 G
  replace kg1 := G.has kg1
  replace kg2 := G.has kg2
  replace HL := HL.gro G
  replace HT := HT.gro G
  replace GG := GG.trans G
  clear G
  refine nr ?_; intro U h; simp only [z0, z1] at h; subst h
  refine s_val 1 rfl rfl (.slice ao t.length t.length) (rfl) ?_
  refine nr ?_; intro U h; simp only [z0, z1] at h; subst h
  refine wpList_nil ?_
  refine then_n ?_
  refine wp_seq ?_
  refine wp_region_lit ?_
  refine s_val 10 rfl rfl (.slice ao t.length t.length) (rfl) ?_
  refine nr ?_; intro U h; simp only [z0, z1] at h; subst h
  refine s_callx 11 rfl rfl _ 10 Try.call10 rfl rfl _ rfl [.slice ao t.length t.length] rfl (copyK _ ao t.length t HT (by omega)) (by rintro _ _ ⟨_, _, he, _, _⟩; exact ⟨_, he⟩) ?_
  rintro v w4 ⟨ao1, cap1, he, G, HR1⟩
  cases he
  replace kg1 := G.has kg1
  replace kg2 := G.has kg2
  replace HL := HL.gro G
  replace HT := HT.gro G
  replace GG := GG.trans G
  clear G
  refine nr ?_; intro U h; simp only [z0, z1] at h; subst h
  refine s_val 7 rfl rfl (.slice ao1 t.length cap1) (rfl) ?_
  refine nr ?_; intro U h; simp only [z0, z1] at h; subst h
  refine wpList_nil ?_
  refine then_n ?_
  refine wp_seq ?_
  refine wp_region_exA (A := ?Ax1) 27 [(0, 12), (1, 13), (2, 14), (3, 15), (4, 16), (5, 17), (6, 18), (7, 19), (8, 20), (9, 21), (10, 22), (11, 23), (12, 24), (13, 25), (14, 26), (15, 27), (16, 28), (17, 29), (18, 30), (19, 31), (20, 32), (21, 33), (22, 34), (23, 35), (24, 36), (25, 37), (26, 38)] [.val (.bool true), .val (.bool true), .val (.agg (idA s)), .val (.slice ao t.length t.length), .val (.agg (idA k)), .val (.bool (rtC s t k)), .val (.agg (idA s)), .val (.slice ao1 t.length cap1), .val (.agg (idA k)), .val (.bool (rtC s t k)), .val (.bool true), .val (.bool true), .val (.bool true), .val (.agg (idA s)), .val (.slice ao t.length t.length), .val (.agg (idA k)), rowK kI (owC s t k), .val (.agg (idA s)), .val (.slice ao1 t.length cap1), .val (.agg (idA k)), rowK kI (owC s t k), .val (.bool true), .val (.bool true), .val (.bool true), .val (.slice ao t.length t.length), .val (.slice ao1 t.length cap1), .val (.bool true)] follows (by kernel_rfl) rfl ?hAx1 (opsA_cons ?o0x1 (opsA_cons ?o1x1 (opsA_cons ?o2x1 (opsA_cons ?o3x1 (opsA_cons ?o4x1 (opsA_cons ?o5x1 (opsA_cons ?o6x1 (opsA_cons ?o7x1 (opsA_cons ?o8x1 (opsA_cons ?o9x1 (opsA_cons ?o10x1 (opsA_cons ?o11x1 (opsA_cons ?o12x1 (opsA_cons ?o13x1 (opsA_cons ?o14x1 (opsA_cons ?o15x1 (opsA_cons ?o16x1 (opsA_cons ?o17x1 (opsA_cons ?o18x1 (opsA_cons ?o19x1 (opsA_cons ?o20x1 (opsA_cons ?o21x1 (opsA_cons ?o22x1 (opsA_cons ?o23x1 (opsA_cons ?o24x1 (opsA_cons ?o25x1 (opsA_cons ?o26x1 opsA_nil))))))))))))))))))))))))))) ?restx1
  case hAx1 =>
    intro ptrs
    simp only [full, foldSlots, filledE, postE, List.foldl_cons, List.foldl_nil, List.getD_cons_zero, List.getD_cons_succ, fill_val, fill_rowK, List.set_cons_zero, List.set_cons_succ]
    exact rfl
  case o0x1 =>
    intro ptrs w' hw hE
    exact opE_call (.val (.bool true)) rfl _ 11 Try.call11 rfl rfl _ rfl [] rfl ((fixed_any _).mono fun e w' ⟨he, hg⟩ => ⟨_, he, hg, rfl⟩)
  case o1x1 => exact fun _ _ _ _ => opE_move (v := .bool true) _ rfl rfl rfl
  case o2x1 => exact fun _ _ hw _ => opE_value (v := .agg (idA s)) rfl (ldI0 _ rfl g1 rfl (hw.has kg1))
  case o3x1 => exact fun _ _ _ _ => opE_move (v := .slice ao t.length t.length) _ rfl rfl rfl
  case o4x1 => exact fun _ _ hw _ => opE_value (v := .agg (idA k)) rfl (ldI0 _ rfl g2 rfl (hw.has kg2))
  case o5x1 =>
    intro ptrs w' hw hE
    exact opE_call (.val (.bool (rtC s t k))) rfl _ 12 Try.call12 rfl rfl _ rfl [.agg (idA s), .slice ao t.length t.length, .agg (idA k)] rfl ((root_any s ao t.length t k _ hs hk ((HT).gro ((Gro.refl _).drew.trans hw)) (by omega)).mono fun e w' ⟨he, hg⟩ => ⟨_, he, hg, rfl⟩)
  case o6x1 => exact fun _ _ hw _ => opE_value (v := .agg (idA s)) rfl (ldI0 _ rfl g1 rfl (hw.has kg1))
  case o7x1 => exact fun _ _ _ _ => opE_move (v := .slice ao1 t.length cap1) _ rfl rfl rfl
  case o8x1 => exact fun _ _ hw _ => opE_value (v := .agg (idA k)) rfl (ldI0 _ rfl g2 rfl (hw.has kg2))
  case o9x1 =>
    intro ptrs w' hw hE
    exact opE_call (.val (.bool (rtC s t k))) rfl _ 13 Try.call13 rfl rfl _ rfl [.agg (idA s), .slice ao1 t.length cap1, .agg (idA k)] rfl ((rroot_any s _ _ t k _ hs hk ((HR1).gro ((Gro.refl _).drew.trans hw)) (by omega)).mono fun e w' ⟨he, hg⟩ => ⟨_, he, hg, rfl⟩)
  case o10x1 => exact fun _ _ _ _ => opE_value (v := .bool true) rfl (run_eqBB 4 _ _ _ rfl (rtC s t k) rfl rfl Try.underlying4 _)
  case o11x1 => exact fun _ _ _ _ => opE_pick (v := .bool true) _ _ _ rfl rfl true rfl rfl
  case o12x1 => exact fun _ _ _ _ => opE_move (v := .bool true) _ rfl rfl rfl
  case o13x1 => exact fun _ _ hw _ => opE_value (v := .agg (idA s)) rfl (ldI0 _ rfl g1 rfl (hw.has kg1))
  case o14x1 => exact fun _ _ _ _ => opE_move (v := .slice ao t.length t.length) _ rfl rfl rfl
  case o15x1 => exact fun _ _ hw _ => opE_value (v := .agg (idA k)) rfl (ldI0 _ rfl g2 rfl (hw.has kg2))
  case o16x1 =>
    intro ptrs w' hw hE
    exact opE_call (rowK kI (owC s t k)) rfl _ 15 Try.call15 rfl rfl _ rfl [.agg (idA s), .slice ao t.length t.length, .agg (idA k)] rfl ((RowN.r (owed_any s ao t.length t k _ hs hk ((HT).gro ((Gro.refl _).drew.trans hw)) (by omega))).mono fun e w' ⟨ao, cap, he, hg, hr⟩ => ⟨_, he, hg, ao, cap, rfl, hr⟩)
  case o17x1 => exact fun _ _ hw _ => opE_value (v := .agg (idA s)) rfl (ldI0 _ rfl g1 rfl (hw.has kg1))
  case o18x1 => exact fun _ _ _ _ => opE_move (v := .slice ao1 t.length cap1) _ rfl rfl rfl
  case o19x1 => exact fun _ _ hw _ => opE_value (v := .agg (idA k)) rfl (ldI0 _ rfl g2 rfl (hw.has kg2))
  case o20x1 =>
    intro ptrs w' hw hE
    obtain ⟨⟨ao16, cap16, h16, o16⟩, _⟩ := hE
    exact opE_call (rowK kI (owC s t k)) rfl _ 16 Try.call16 rfl rfl _ rfl [.agg (idA s), .slice ao1 t.length cap1, .agg (idA k)] rfl ((RowN.r (rowed_any s _ _ t k _ hs hk ((HR1).gro ((Gro.refl _).drew.trans hw)) (by omega))).mono fun e w' ⟨ao, cap, he, hg, hr⟩ => ⟨_, he, hg, ao, cap, rfl, hr⟩)
  case o21x1 =>
    intro ptrs w' hw hE
    obtain ⟨⟨ao16, cap16, h16, o16⟩, ⟨ao20, cap20, h20, o20⟩, _, _⟩ := hE
    exact opE_call (.val (.bool true)) rfl _ 14 Try.call14 rfl rfl _ rfl [.slice ao16 (owC s t k).length cap16, .slice ao20 (owC s t k).length cap20] (by show [ptrs 16, ptrs 20] = _; rw [h16, h20]) ((same_idsK _ ao16 cap16 (owC s t k) o16 (by have := owC_len s t k; omega) ao20 cap20 (owC s t k) o20 (by have := owC_len s t k; omega) rfl).mono fun e w' ⟨he, hg⟩ => ⟨_, he, hg, rfl⟩)
  case o22x1 => exact fun _ _ _ _ => opE_pick (v := .bool true) _ _ _ rfl rfl true rfl rfl
  case o23x1 => exact fun _ _ _ _ => opE_move (v := .bool true) _ rfl rfl rfl
  case o24x1 => exact fun _ _ _ _ => opE_move (v := .slice ao t.length t.length) _ rfl rfl rfl
  case o25x1 => exact fun _ _ _ _ => opE_move (v := .slice ao1 t.length cap1) _ rfl rfl rfl
  case o26x1 =>
    intro ptrs w' hw hE
    exact opE_call (.val (.bool true)) rfl _ 14 Try.call14 rfl rfl _ rfl [.slice ao t.length t.length, .slice ao1 t.length cap1] rfl ((same_idsK _ ao t.length t ((HT).gro ((Gro.refl _).drew.trans hw)) (by have := owC_len s t k; omega) ao1 cap1 t ((HR1).gro ((Gro.refl _).drew.trans hw)) (by have := owC_len s t k; omega) rfl).mono fun e w' ⟨he, hg⟩ => ⟨_, he, hg, rfl⟩)
  intro ptrs w5 GD hxE
  simp only [List.drop_succ_cons, List.drop_zero]
  replace kg1 := GD.has kg1
  replace kg2 := GD.has kg2
  replace HL := HL.gro ((Gro.refl _).drew.trans GD)
  replace HT := HT.gro ((Gro.refl _).drew.trans GD)
  replace HR1 := HR1.gro ((Gro.refl _).drew.trans GD)
  replace GG := GG.drew.trans GD
  obtain ⟨_, _, _⟩ := hxE
  clear GD
  refine s_val 39 rfl rfl (.bool true) (rfl) ?_
  refine nr ?_; intro U h; simp only [z0, z1] at h; subst h
  refine s_val 6 rfl rfl (.bool true) (rfl) ?_
  refine nr ?_; intro U h; simp only [z0, z1] at h; subst h
  refine wpList_nil ?_
  refine then_n ?_
  refine wp_ret ?_
  refine bodyPost_ret (results_tmp Try.results3 _ _ _) rfl ?_
  exact ⟨rfl, GG⟩
end Go.Proofs.Ytjahegiopigblaa
