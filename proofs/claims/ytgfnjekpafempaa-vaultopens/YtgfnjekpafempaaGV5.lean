/- Put and Merge. -/
import Derived.Test.YtgfnjekpafempaaGV4
namespace Go.Proofs.Ytgfnjekpafempaa
open Go.RowKit
def PutP (U : List Nat) (w : World) (vp lp p sg mb n : Nat) (dn : Int) (inc : Int) (M : List (Nat × IM)) (x : IM) (err : Int) (L2 : List Nat) (pw2 : Int) (h2 : Hd) (dw2 : Bool) (e : Ending) (w' : World) : Prop :=
  (err ≠ 0 ∧ ∃ dn', e = .returned (.tuple #[.agg (itA zM), .int .i64 err]) ∧ GroS [vp, lp, p, sg, mb] w w' ∧ VK U w' vp lp p sg mb n L2 pw2 dn' h2 dw2 inc M ∧ dn ≤ dn' ∧ dn' ≤ dn + 20) ∨
  (err = 0 ∧ ∃ C dn' ao3 cap3 ao4 cap4, e = .returned (.tuple #[.agg (itA (x.re ao4 cap4)), .int .i64 0]) ∧ GroS [vp, lp, p, sg, mb] w w' ∧ VK U w' vp lp p sg mb n L2 pw2 dn' h2 dw2 inc (putM M x.key (x.re ao3 cap3)) ∧ Bd C U (putM M x.key (x.re ao3 cap3)) ∧ OB w' 5 .u8 C ao4 cap4 x.val ∧ dn ≤ dn' ∧ dn' ≤ dn + 20)
set_option maxRecDepth 100000 in
set_option maxHeartbeats 4000000 in
theorem put_go (U : List Nat) (w : World) (vp lp p sg mb n : Nat) (L : List Nat) (pw dn : Int) (h : Hd) (dw : Bool) (inc : Int) (M : List (Nat × IM)) (H : VK U w vp lp p sg mb n L pw dn h dw inc M) (k : Nat) (hk : k < top) (ao : Option Addr) (cap : Nat) (l : List Nat) (z : Nat) (hz : z < top) (hl : l.length ≤ 64) (hf : (getK M k).n ≠ 4611686018427387903) (HX : BS U w ao cap l) (rs : List (List Nat)) (err : Int) (L2 : List Nat) (pw2 : Int) (h2 : Hd) (dw2 : Bool) (rs2 : List (List Nat)) (HO : Out n L pw h dw rs (formV (mkI k (mkV ((getK M k).ver.n + 1) z) ao cap l).it) err L2 pw2 h2 dw2 rs2) (SA : SideA n L pw h dw (formV (mkI k (mkV ((getK M k).ver.n + 1) z) ao cap l).it) err L2 pw2 h2 dw2) (hd1 : 0 ≤ dn) (hd2 : dn < 9223372036854760000) : Calls Try.prog 28 #[.pointer (some ⟨vp, 0, none⟩), .agg (idA k), .slice ao l.length cap, .agg (idA z)] w (PutP U w vp lp p sg mb n dn inc M (mkI k (mkV ((getK M k).ver.n + 1) z) ao cap l) err L2 pw2 h2 dw2) := by
  have t1 : decide ((64 : Int) < ((l.length : Nat) : Int)) = false := decide_eq_false (by omega)
  have t2 : decide ((getK M k).ver.n = 4611686018427387903) = false := decide_eq_false hf
  have hgn := getK_n H.mr k
  have hvn : (getK M k).ver.n = (getK M k).n := rfl
  have hf' : (getK M k).n ≠ 4611686018427387903 := hf
  have hI : I64 ((getK M k).ver.n + 1) := ⟨by omega, by omega⟩
  rcases HO.res with ⟨rfl, hrs⟩ | ⟨he1, hrs⟩
  · clear hrs
    refine s_enter Try.func28 rfl Try.ntmps28 [.pointer (some ⟨vp, 0, none⟩), .agg (idA k), .slice ao l.length cap, .agg (idA z)] [.pointer (some ⟨vp, 0, none⟩), .agg (idA k), .slice ao l.length cap, .agg (idA z), undef, undef, undef, undef, undef, undef, undef, undef, undef, undef, undef, undef, undef, undef, undef, undef, undef, undef, undef, undef, undef, undef, undef, undef, undef, undef, undef, undef, undef, undef, undef, undef, undef, undef, undef, undef, undef, undef, undef, undef, undef, undef, undef] rfl ?_
    have GG := GroS.refl [vp, lp, p, sg, mb] w
    have GA := Gro.refl w
    have kvp := H.vb.box
    refine wp_seq ?_
    refine wp_region_lit ?_
    refine s_box 5 rfl rfl 52 _ rfl _ rfl (idA k) rfl ?_
    intro w1 g1 G eg1 kg1
    have bg1 := size_basS GG eg1
    replace kvp := G.has kvp
    replace GA := GA.gro G
    replace GG := GG.tg G
    clear G
    clear eg1
    refine nr ?_; intro U h; simp only [z0, z1] at h; subst h
    refine s_box 7 rfl rfl 52 _ rfl _ rfl (idA z) rfl ?_
    intro w2 g2 G eg2 kg2
    have bg2 := size_basS GG eg2
    replace kvp := G.has kvp
    replace kg1 := G.has kg1
    replace GA := GA.gro G
    replace GG := GG.tg G
    clear G
    clear eg2
    refine nr ?_; intro U h; simp only [z0, z1] at h; subst h
    refine s_alloc 8 rfl rfl 56 rfl _ zeroIt (itA zM) rfl ?_
    intro w3 g3 G eg3 kg3
    have bg3 := size_basS GG eg3
    have dvpg3 := lt_new kvp eg3
    have dg1g3 := lt_new kg1 eg3
    have dg2g3 := lt_new kg2 eg3
    have dGAg3 := GA.ne eg3
    replace kvp := G.has kvp
    replace kg1 := G.has kg1
    replace kg2 := G.has kg2
    replace GA := GA.gro G
    replace GG := GG.tg G
    clear G
    clear eg3
    refine nr ?_; intro U h; simp only [z0, z1] at h; subst h
    refine s_val 9 rfl rfl (.int .i64 0) (rfl) ?_
    refine nr ?_; intro U h; simp only [z0, z1] at h; subst h
    refine wpList_nil ?_
    refine then_n ?_
    refine wp_seq ?_
    refine wp_seq ?_
    refine wp_region_lit ?_
    refine s_val 13 rfl rfl (.pointer (some ⟨vp, 0, none⟩)) (rfl) ?_
    refine nr ?_; intro U h; simp only [z0, z1] at h; subst h
    refine s_val 14 rfl rfl (.bool false) (run_eqnp 37 _ _ _ rfl _ rfl rfl Try.underlying37 _) ?_
    refine nr ?_; intro U h; simp only [z0, z1] at h; subst h
    refine wpList_nil ?_
    refine then_n ?_
    refine wp_cond_false rfl ?_
    refine wp_skip ?_
    refine then_n ?_
    refine wp_seq ?_
    refine wp_seq ?_
    refine wp_region_lit ?_
    refine s_val 16 rfl rfl (.slice ao l.length cap) (rfl) ?_
    refine nr ?_; intro U h; simp only [z0, z1] at h; subst h
    refine s_val 17 rfl rfl (.int .i64 ((l.length : Nat) : Int)) (run_len Try.underlying30 _ rfl _ _ _ rfl _) ?_
    refine nr ?_; intro U h; simp only [z0, z1] at h; subst h
    refine s_val 18 rfl rfl (.bool false) (run_gtrT 3 _ _ _ rfl ((l.length : Nat) : Int) 64 rfl rfl false t1 _) ?_
    refine nr ?_; intro U h; simp only [z0, z1] at h; subst h
    refine wpList_nil ?_
    refine then_n ?_
    refine wp_cond_false rfl ?_
    refine wp_skip ?_
    refine then_n ?_
    refine wp_seq ?_
    refine wp_region_exA (A := ?Ax2) 5 [(0, 20), (1, 21), (2, 22), (3, 23), (4, 24)] [.val (.pointer (some ⟨vp, 0, none⟩)), .val (.pointer (some ⟨vp, 0, none⟩)), .val (.pointer (some ⟨vp, 2, none⟩)), .val (.map (some mb)), .val (.agg (idA k))] follows (by kernel_rfl) rfl ?hAx2 (opsA_cons ?o0x2 (opsA_cons ?o1x2 (opsA_cons ?o2x2 (opsA_cons ?o3x2 (opsA_cons ?o4x2 opsA_nil))))) ?restx2
    case hAx2 =>
      intro ptrs
      simp only [full, foldSlots, filledE, postE, List.foldl_cons, List.foldl_nil, List.getD_cons_zero, List.getD_cons_succ, fill_val, List.set_cons_zero, List.set_cons_succ]
      exact rfl
    case o0x2 => exact fun _ _ _ _ => opE_move (v := .pointer (some ⟨vp, 0, none⟩)) _ rfl rfl rfl
    case o1x2 => exact fun _ _ _ _ => opE_value (v := .pointer (some ⟨vp, 0, none⟩)) rfl (run_nc _ rfl _ rfl)
    case o2x2 => exact fun _ _ _ _ => opE_value (v := .pointer (some ⟨vp, 2, none⟩)) rfl (run_fld 91 _ 2 rfl vp 0 rfl 2 (by kernel_rfl))
    case o3x2 => exact fun _ _ hw _ => opE_value (v := .map (some mb)) rfl (ldVtm _ rfl vp rfl (hw.has kvp))
    case o4x2 => exact fun _ _ hw _ => opE_value (v := .agg (idA k)) rfl (ldI0 _ rfl g1 rfl (hw.has kg1))
    intro ptrs w4 GD hxE
    simp only [List.drop_succ_cons, List.drop_zero]
    replace kvp := GD.has kvp
    replace kg1 := GD.has kg1
    replace kg2 := GD.has kg2
    replace kg3 := GD.has kg3
    replace GA := GA.gro ((Gro.refl _).drew.trans GD)
    replace GG := GG.drew.tg GD
    clear GD
    refine s_val 25 rfl rfl (.agg (itA (getK M k))) (run_lkK (H.vb.map.gro (GA)) _ _ rfl rfl k rfl hk) ?_
    refine nr ?_; intro U h; simp only [z0, z1] at h; subst h
    refine s_val 26 rfl rfl (.agg (veA (getK M k).ver)) (run_fiv _ rfl (getK M k) rfl _) ?_
    refine nr ?_; intro U h; simp only [z0, z1] at h; subst h
    refine s_val 27 rfl rfl (.int .i64 (getK M k).ver.n) (run_fvn _ rfl (getK M k).ver rfl _) ?_
    refine nr ?_; intro U h; simp only [z0, z1] at h; subst h
    refine s_val 10 rfl rfl (.int .i64 (getK M k).ver.n) (rfl) ?_
    refine nr ?_; intro U h; simp only [z0, z1] at h; subst h
    refine wpList_nil ?_
    refine then_n ?_
    refine wp_seq ?_
    refine wp_seq ?_
    refine wp_region_lit ?_
    refine s_val 28 rfl rfl (.int .i64 (getK M k).ver.n) (rfl) ?_
    refine nr ?_; intro U h; simp only [z0, z1] at h; subst h
    refine s_val 29 rfl rfl (.bool false) (run_eq_k 2 .i64 _ _ _ rfl Try.underlying2 (getK M k).ver.n 4611686018427387903 rfl rfl false t2 _) ?_
    refine nr ?_; intro U h; simp only [z0, z1] at h; subst h
    refine wpList_nil ?_
    refine then_n ?_
    refine wp_cond_false rfl ?_
    refine wp_skip ?_
    refine then_n ?_
    refine wp_seq ?_
    refine wp_region_lit ?_
    refine s_val 31 rfl rfl (.agg (idA k)) (ldI0 _ rfl g1 rfl (kg1)) ?_
    refine nr ?_; intro U h; simp only [z0, z1] at h; subst h
    refine s_val 32 rfl rfl (.int .i64 (getK M k).ver.n) (rfl) ?_
    refine nr ?_; intro U h; simp only [z0, z1] at h; subst h
    refine s_val 33 rfl rfl (.int .i64 ((getK M k).ver.n + 1)) (run_addI 2 _ _ _ rfl (getK M k).ver.n 1 ((getK M k).ver.n + 1) rfl rfl (by omega) (by omega) (by omega) _) ?_
    refine nr ?_; intro U h; simp only [z0, z1] at h; subst h
    refine s_val 34 rfl rfl (.agg (idA z)) (ldI0 _ rfl g2 rfl (kg2)) ?_
    refine nr ?_; intro U h; simp only [z0, z1] at h; subst h
    refine s_val 35 rfl rfl (.agg (veA (mkV ((getK M k).ver.n + 1) z))) (run_bd 54 _ rfl [(0, .int .i64 ((getK M k).ver.n + 1)), (1, .agg (idA z))] rfl _ (bdV01 ((getK M k).ver.n + 1) z _)) ?_
    refine nr ?_; intro U h; simp only [z0, z1] at h; subst h
    refine s_val 36 rfl rfl (.slice ao l.length cap) (rfl) ?_
    refine nr ?_; intro U h; simp only [z0, z1] at h; subst h
    refine s_val 37 rfl rfl (.agg (itA (mkI k (mkV ((getK M k).ver.n + 1) z) ao cap l))) (run_bd 56 _ rfl [(0, .agg (idA k)), (1, .agg (veA (mkV ((getK M k).ver.n + 1) z))), (2, .slice ao l.length cap)] rfl _ (bdI012 k (mkV ((getK M k).ver.n + 1) z) ao cap l _)) ?_
    refine nr ?_; intro U h; simp only [z0, z1] at h; subst h
    refine s_alloc 11 rfl rfl 56 rfl _ zeroIt (itA zM) rfl ?_
    intro w5 g4 G eg4 kg4
    have bg4 := size_basS GG eg4
    have dvpg4 := lt_new kvp eg4
    have dg1g4 := lt_new kg1 eg4
    have dg2g4 := lt_new kg2 eg4
    have dg3g4 := lt_new kg3 eg4
    have dGAg4 := GA.ne eg4
    replace kvp := G.has kvp
    replace kg1 := G.has kg1
    replace kg2 := G.has kg2
    replace kg3 := G.has kg3
    replace GA := GA.gro G
    replace GG := GG.tg G
    clear G
    clear eg4
    refine nr ?_; intro U h; simp only [z0, z1] at h; subst h
    refine s_store rfl rfl 56 _ _ rfl g4 0 rfl (.agg (itA (mkI k (mkV ((getK M k).ver.n + 1) z) ao cap l))) rfl 56 _ kg4 (itA (mkI k (mkV ((getK M k).ver.n + 1) z) ao cap l)) rfl (siIt' _) (itA_fit _ _) (itA_one _) (itA (mkI k (mkV ((getK M k).ver.n + 1) z) ao cap l)) (splice_whole _ _ (itA_sz _ _)) ?_
    intro w6 St
    replace kvp := St.has (by omega) kvp
    replace kg1 := St.has (by omega) kg1
    replace kg2 := St.has (by omega) kg2
    replace kg3 := St.has (by omega) kg3
    replace GA := GA.st St dGAg4
    replace GG := GG.st St (.inl bg4)
    replace kg4 := St.new
    clear St
    refine wpList_nil ?_
    refine then_n ?_
    refine wp_seq ?_
    refine wp_seq ?_
    refine wp_region_lit ?_
    refine s_val 38 rfl rfl (.pointer (some ⟨vp, 0, none⟩)) (rfl) ?_
    refine nr ?_; intro U h; simp only [z0, z1] at h; subst h
    refine s_val 39 rfl rfl (.agg (itA (mkI k (mkV ((getK M k).ver.n + 1) z) ao cap l))) (ldIt0 _ rfl g4 rfl (kg4)) ?_
    refine nr ?_; intro U h; simp only [z0, z1] at h; subst h
    refine s_callx 40 rfl rfl _ 55 Try.call55 rfl rfl _ rfl [.pointer (some ⟨vp, 0, none⟩), .agg (itA (mkI k (mkV ((getK M k).ver.n + 1) z) ao cap l))] rfl (keep_any (g3 :: U) _ vp lp p sg mb n L pw dn h dw inc M (H.cons GA bg3 (lt_of_heap kg3)) (mkI k (mkV ((getK M k).ver.n + 1) z) ao cap l) (mkI_ok hk (mkV_ok hI hz)) (by show 1 ≤ (getK M k).n + 1; omega) (by show (getK M k).n + 1 ≤ 4611686018427387903; omega) hl (HX.cons GA bg3) rs 0 L2 pw2 h2 dw2 rs2 HO SA hd1 hd2) (by rintro _ _ ⟨_, _, he, _, _, _, _, _⟩; exact ⟨_, he⟩) ?_
    rintro v w7 ⟨dn2, M2, he, G, HV2, hd3, hd4, hres⟩
    cases he
    replace GG := GG.trans G
    have hlt : ∀ k, k ∈ [vp, lp, p, sg, mb] → k < w.heap.size := fun k hk => H.lt k (H.sub k hk)
    replace kg1 := G.has kg1 (fun hm => by have := hlt _ hm; omega)
    replace kg2 := G.has kg2 (fun hm => by have := hlt _ hm; omega)
    replace kg3 := G.has kg3 (fun hm => by have := hlt _ hm; omega)
    replace kg4 := G.has kg4 (fun hm => by have := hlt _ hm; omega)
    have HXn := (HX.cons GA bg3).gros (G.mono (fun k hk => List.mem_cons_of_mem _ (H.sub k hk)))
    clear kvp
    have dHV2g3 : g3 ∈ g3 :: U ∧ g3 ∉ [vp, lp, p, sg, mb] := ⟨List.mem_cons_self, fun hm => by have := hlt _ hm; omega⟩
    have hBd := HV2.bd
    refine nr ?_; intro U h; simp only [z0, z1] at h; subst h
    refine s_val 12 rfl rfl (.int .i64 0) (rfl) ?_
    refine nr ?_; intro U h; simp only [z0, z1] at h; subst h
    refine wpList_nil ?_
    refine then_n ?_
    refine wp_seq ?_
    refine wp_region_lit ?_
    refine s_val 41 rfl rfl (.int .i64 0) (rfl) ?_
    refine nr ?_; intro U h; simp only [z0, z1] at h; subst h
    refine s_val 42 rfl rfl (.bool false) (run_neq_k 26 .i64 _ _ _ rfl Try.underlying26 0 0 rfl rfl false (decide_eq_true rfl) _) ?_
    refine nr ?_; intro U h; simp only [z0, z1] at h; subst h
    refine wpList_nil ?_
    refine then_n ?_
    refine wp_cond_false rfl ?_
    refine wp_skip ?_
    refine then_n ?_
    refine wp_seq ?_
    refine wp_region_lit ?_
    refine s_val 45 rfl rfl (.agg (itA (mkI k (mkV ((getK M k).ver.n + 1) z) ao cap l))) (ldIt0 _ rfl g4 rfl (kg4)) ?_
    refine nr ?_; intro U h; simp only [z0, z1] at h; subst h
    refine s_callx 46 rfl rfl _ 44 Try.call44 rfl rfl _ rfl [.agg (itA (mkI k (mkV ((getK M k).ver.n + 1) z) ao cap l))] rfl (apart_any (mkI k (mkV ((getK M k).ver.n + 1) z) ao cap l) _ HXn.nc (by show l.length ≤ _; omega)) (by rintro _ _ ⟨_, _, he, _, _⟩; exact ⟨_, he⟩) ?_
    rintro v w8 ⟨ao2, cap2, he, G, HO2⟩
    cases he
    have dHO2g3 := HO2.neB (lt_of_heap kg3)
    replace kg1 := G.has kg1
    replace kg2 := G.has kg2
    replace kg3 := G.has kg3
    replace kg4 := G.has kg4
    replace HV2 := HV2.gro G
    replace HXn := HXn.gro G
    replace GG := GG.tg G
    clear G
    refine nr ?_; intro U h; simp only [z0, z1] at h; subst h
    refine s_store rfl rfl 56 _ _ rfl g3 0 rfl (.agg (itA ((mkI k (mkV ((getK M k).ver.n + 1) z) ao cap l).re ao2 cap2))) rfl 56 _ kg3 (itA ((mkI k (mkV ((getK M k).ver.n + 1) z) ao cap l).re ao2 cap2)) rfl (siIt' _) (itA_fit _ _) (itA_one _) (itA ((mkI k (mkV ((getK M k).ver.n + 1) z) ao cap l).re ao2 cap2)) (splice_whole _ _ (itA_sz _ _)) ?_
    intro w9 St
    replace kg1 := St.has (by omega) kg1
    replace kg2 := St.has (by omega) kg2
    replace kg4 := St.has (by omega) kg4
    replace HV2 := HV2.st St dHV2g3
    clear HXn
    replace HO2 := HO2.st St dHO2g3
    replace GG := GG.st St (.inl bg3)
    replace kg3 := St.new
    clear St
    refine s_val 9 rfl rfl (.int .i64 0) (rfl) ?_
    refine nr ?_; intro U h; simp only [z0, z1] at h; subst h
    refine wpList_nil ?_
    refine then_n ?_
    refine wp_ret ?_
    refine bodyPost_ret (results_cell_tmp Try.results28 _ _ g3 56 _ (0, 0) _ rfl (.int .i64 0) rfl kg3 Try.underlying56 rfl (siIt' _)) rfl ?_
    rcases hres with ⟨_, ao3, cap3, rfl⟩ | ⟨e0, _⟩
    · exact .inr ⟨rfl, _, dn2, ao3, cap3, _, _, rfl, GG, HV2.tail H.sub, ⟨fun k hk => hBd.1 k (List.mem_cons_of_mem _ hk), hBd.2⟩, HO2, hd3, hd4⟩
    · exact absurd rfl e0
  · clear hrs
    have t3 : decide (err = 0) = false := decide_eq_false he1
    refine s_enter Try.func28 rfl Try.ntmps28 [.pointer (some ⟨vp, 0, none⟩), .agg (idA k), .slice ao l.length cap, .agg (idA z)] [.pointer (some ⟨vp, 0, none⟩), .agg (idA k), .slice ao l.length cap, .agg (idA z), undef, undef, undef, undef, undef, undef, undef, undef, undef, undef, undef, undef, undef, undef, undef, undef, undef, undef, undef, undef, undef, undef, undef, undef, undef, undef, undef, undef, undef, undef, undef, undef, undef, undef, undef, undef, undef, undef, undef, undef, undef, undef, undef] rfl ?_
    have GG := GroS.refl [vp, lp, p, sg, mb] w
    have GA := Gro.refl w
    have kvp := H.vb.box
    refine wp_seq ?_
    refine wp_region_lit ?_
    refine s_box 5 rfl rfl 52 _ rfl _ rfl (idA k) rfl ?_
    intro w1 g1 G eg1 kg1
    have bg1 := size_basS GG eg1
    replace kvp := G.has kvp
    replace GA := GA.gro G
    replace GG := GG.tg G
    clear G
    clear eg1
    refine nr ?_; intro U h; simp only [z0, z1] at h; subst h
    refine s_box 7 rfl rfl 52 _ rfl _ rfl (idA z) rfl ?_
    intro w2 g2 G eg2 kg2
    have bg2 := size_basS GG eg2
    replace kvp := G.has kvp
    replace kg1 := G.has kg1
    replace GA := GA.gro G
    replace GG := GG.tg G
    clear G
    clear eg2
    refine nr ?_; intro U h; simp only [z0, z1] at h; subst h
    refine s_alloc 8 rfl rfl 56 rfl _ zeroIt (itA zM) rfl ?_
    intro w3 g3 G eg3 kg3
    have bg3 := size_basS GG eg3
    have dvpg3 := lt_new kvp eg3
    have dg1g3 := lt_new kg1 eg3
    have dg2g3 := lt_new kg2 eg3
    have dGAg3 := GA.ne eg3
    replace kvp := G.has kvp
    replace kg1 := G.has kg1
    replace kg2 := G.has kg2
    replace GA := GA.gro G
    replace GG := GG.tg G
    clear G
    clear eg3
    refine nr ?_; intro U h; simp only [z0, z1] at h; subst h
    refine s_val 9 rfl rfl (.int .i64 0) (rfl) ?_
    refine nr ?_; intro U h; simp only [z0, z1] at h; subst h
    refine wpList_nil ?_
    refine then_n ?_
    refine wp_seq ?_
    refine wp_seq ?_
    refine wp_region_lit ?_
    refine s_val 13 rfl rfl (.pointer (some ⟨vp, 0, none⟩)) (rfl) ?_
    refine nr ?_; intro U h; simp only [z0, z1] at h; subst h
    refine s_val 14 rfl rfl (.bool false) (run_eqnp 37 _ _ _ rfl _ rfl rfl Try.underlying37 _) ?_
    refine nr ?_; intro U h; simp only [z0, z1] at h; subst h
    refine wpList_nil ?_
    refine then_n ?_
    refine wp_cond_false rfl ?_
    refine wp_skip ?_
    refine then_n ?_
    refine wp_seq ?_
    refine wp_seq ?_
    refine wp_region_lit ?_
    refine s_val 16 rfl rfl (.slice ao l.length cap) (rfl) ?_
    refine nr ?_; intro U h; simp only [z0, z1] at h; subst h
    refine s_val 17 rfl rfl (.int .i64 ((l.length : Nat) : Int)) (run_len Try.underlying30 _ rfl _ _ _ rfl _) ?_
    refine nr ?_; intro U h; simp only [z0, z1] at h; subst h
    refine s_val 18 rfl rfl (.bool false) (run_gtrT 3 _ _ _ rfl ((l.length : Nat) : Int) 64 rfl rfl false t1 _) ?_
    refine nr ?_; intro U h; simp only [z0, z1] at h; subst h
    refine wpList_nil ?_
    refine then_n ?_
    refine wp_cond_false rfl ?_
    refine wp_skip ?_
    refine then_n ?_
    refine wp_seq ?_
    refine wp_region_exA (A := ?Ax3) 5 [(0, 20), (1, 21), (2, 22), (3, 23), (4, 24)] [.val (.pointer (some ⟨vp, 0, none⟩)), .val (.pointer (some ⟨vp, 0, none⟩)), .val (.pointer (some ⟨vp, 2, none⟩)), .val (.map (some mb)), .val (.agg (idA k))] follows (by kernel_rfl) rfl ?hAx3 (opsA_cons ?o0x3 (opsA_cons ?o1x3 (opsA_cons ?o2x3 (opsA_cons ?o3x3 (opsA_cons ?o4x3 opsA_nil))))) ?restx3
    case hAx3 =>
      intro ptrs
      simp only [full, foldSlots, filledE, postE, List.foldl_cons, List.foldl_nil, List.getD_cons_zero, List.getD_cons_succ, fill_val, List.set_cons_zero, List.set_cons_succ]
      exact rfl
    case o0x3 => exact fun _ _ _ _ => opE_move (v := .pointer (some ⟨vp, 0, none⟩)) _ rfl rfl rfl
    case o1x3 => exact fun _ _ _ _ => opE_value (v := .pointer (some ⟨vp, 0, none⟩)) rfl (run_nc _ rfl _ rfl)
    case o2x3 => exact fun _ _ _ _ => opE_value (v := .pointer (some ⟨vp, 2, none⟩)) rfl (run_fld 91 _ 2 rfl vp 0 rfl 2 (by kernel_rfl))
    case o3x3 => exact fun _ _ hw _ => opE_value (v := .map (some mb)) rfl (ldVtm _ rfl vp rfl (hw.has kvp))
    case o4x3 => exact fun _ _ hw _ => opE_value (v := .agg (idA k)) rfl (ldI0 _ rfl g1 rfl (hw.has kg1))
    intro ptrs w4 GD hxE
    simp only [List.drop_succ_cons, List.drop_zero]
    replace kvp := GD.has kvp
    replace kg1 := GD.has kg1
    replace kg2 := GD.has kg2
    replace kg3 := GD.has kg3
    replace GA := GA.gro ((Gro.refl _).drew.trans GD)
    replace GG := GG.drew.tg GD
    clear GD
    refine s_val 25 rfl rfl (.agg (itA (getK M k))) (run_lkK (H.vb.map.gro (GA)) _ _ rfl rfl k rfl hk) ?_
    refine nr ?_; intro U h; simp only [z0, z1] at h; subst h
    refine s_val 26 rfl rfl (.agg (veA (getK M k).ver)) (run_fiv _ rfl (getK M k) rfl _) ?_
    refine nr ?_; intro U h; simp only [z0, z1] at h; subst h
    refine s_val 27 rfl rfl (.int .i64 (getK M k).ver.n) (run_fvn _ rfl (getK M k).ver rfl _) ?_
    refine nr ?_; intro U h; simp only [z0, z1] at h; subst h
    refine s_val 10 rfl rfl (.int .i64 (getK M k).ver.n) (rfl) ?_
    refine nr ?_; intro U h; simp only [z0, z1] at h; subst h
    refine wpList_nil ?_
    refine then_n ?_
    refine wp_seq ?_
    refine wp_seq ?_
    refine wp_region_lit ?_
    refine s_val 28 rfl rfl (.int .i64 (getK M k).ver.n) (rfl) ?_
    refine nr ?_; intro U h; simp only [z0, z1] at h; subst h
    refine s_val 29 rfl rfl (.bool false) (run_eq_k 2 .i64 _ _ _ rfl Try.underlying2 (getK M k).ver.n 4611686018427387903 rfl rfl false t2 _) ?_
    refine nr ?_; intro U h; simp only [z0, z1] at h; subst h
    refine wpList_nil ?_
    refine then_n ?_
    refine wp_cond_false rfl ?_
    refine wp_skip ?_
    refine then_n ?_
    refine wp_seq ?_
    refine wp_region_lit ?_
    refine s_val 31 rfl rfl (.agg (idA k)) (ldI0 _ rfl g1 rfl (kg1)) ?_
    refine nr ?_; intro U h; simp only [z0, z1] at h; subst h
    refine s_val 32 rfl rfl (.int .i64 (getK M k).ver.n) (rfl) ?_
    refine nr ?_; intro U h; simp only [z0, z1] at h; subst h
    refine s_val 33 rfl rfl (.int .i64 ((getK M k).ver.n + 1)) (run_addI 2 _ _ _ rfl (getK M k).ver.n 1 ((getK M k).ver.n + 1) rfl rfl (by omega) (by omega) (by omega) _) ?_
    refine nr ?_; intro U h; simp only [z0, z1] at h; subst h
    refine s_val 34 rfl rfl (.agg (idA z)) (ldI0 _ rfl g2 rfl (kg2)) ?_
    refine nr ?_; intro U h; simp only [z0, z1] at h; subst h
    refine s_val 35 rfl rfl (.agg (veA (mkV ((getK M k).ver.n + 1) z))) (run_bd 54 _ rfl [(0, .int .i64 ((getK M k).ver.n + 1)), (1, .agg (idA z))] rfl _ (bdV01 ((getK M k).ver.n + 1) z _)) ?_
    refine nr ?_; intro U h; simp only [z0, z1] at h; subst h
    refine s_val 36 rfl rfl (.slice ao l.length cap) (rfl) ?_
    refine nr ?_; intro U h; simp only [z0, z1] at h; subst h
    refine s_val 37 rfl rfl (.agg (itA (mkI k (mkV ((getK M k).ver.n + 1) z) ao cap l))) (run_bd 56 _ rfl [(0, .agg (idA k)), (1, .agg (veA (mkV ((getK M k).ver.n + 1) z))), (2, .slice ao l.length cap)] rfl _ (bdI012 k (mkV ((getK M k).ver.n + 1) z) ao cap l _)) ?_
    refine nr ?_; intro U h; simp only [z0, z1] at h; subst h
    refine s_alloc 11 rfl rfl 56 rfl _ zeroIt (itA zM) rfl ?_
    intro w5 g4 G eg4 kg4
    have bg4 := size_basS GG eg4
    have dvpg4 := lt_new kvp eg4
    have dg1g4 := lt_new kg1 eg4
    have dg2g4 := lt_new kg2 eg4
    have dg3g4 := lt_new kg3 eg4
    have dGAg4 := GA.ne eg4
    replace kvp := G.has kvp
    replace kg1 := G.has kg1
    replace kg2 := G.has kg2
    replace kg3 := G.has kg3
    replace GA := GA.gro G
    replace GG := GG.tg G
    clear G
    clear eg4
    refine nr ?_; intro U h; simp only [z0, z1] at h; subst h
    refine s_store rfl rfl 56 _ _ rfl g4 0 rfl (.agg (itA (mkI k (mkV ((getK M k).ver.n + 1) z) ao cap l))) rfl 56 _ kg4 (itA (mkI k (mkV ((getK M k).ver.n + 1) z) ao cap l)) rfl (siIt' _) (itA_fit _ _) (itA_one _) (itA (mkI k (mkV ((getK M k).ver.n + 1) z) ao cap l)) (splice_whole _ _ (itA_sz _ _)) ?_
    intro w6 St
    replace kvp := St.has (by omega) kvp
    replace kg1 := St.has (by omega) kg1
    replace kg2 := St.has (by omega) kg2
    replace kg3 := St.has (by omega) kg3
    replace GA := GA.st St dGAg4
    replace GG := GG.st St (.inl bg4)
    replace kg4 := St.new
    clear St
    refine wpList_nil ?_
    refine then_n ?_
    refine wp_seq ?_
    refine wp_seq ?_
    refine wp_region_lit ?_
    refine s_val 38 rfl rfl (.pointer (some ⟨vp, 0, none⟩)) (rfl) ?_
    refine nr ?_; intro U h; simp only [z0, z1] at h; subst h
    refine s_val 39 rfl rfl (.agg (itA (mkI k (mkV ((getK M k).ver.n + 1) z) ao cap l))) (ldIt0 _ rfl g4 rfl (kg4)) ?_
    refine nr ?_; intro U h; simp only [z0, z1] at h; subst h
    refine s_callx 40 rfl rfl _ 55 Try.call55 rfl rfl _ rfl [.pointer (some ⟨vp, 0, none⟩), .agg (itA (mkI k (mkV ((getK M k).ver.n + 1) z) ao cap l))] rfl (keep_any (g3 :: U) _ vp lp p sg mb n L pw dn h dw inc M (H.cons GA bg3 (lt_of_heap kg3)) (mkI k (mkV ((getK M k).ver.n + 1) z) ao cap l) (mkI_ok hk (mkV_ok hI hz)) (by show 1 ≤ (getK M k).n + 1; omega) (by show (getK M k).n + 1 ≤ 4611686018427387903; omega) hl (HX.cons GA bg3) rs err L2 pw2 h2 dw2 rs2 HO SA hd1 hd2) (by rintro _ _ ⟨_, _, he, _, _, _, _, _⟩; exact ⟨_, he⟩) ?_
    rintro v w7 ⟨dn2, M2, he, G, HV2, hd3, hd4, hres⟩
    cases he
    replace GG := GG.trans G
    have hlt : ∀ k, k ∈ [vp, lp, p, sg, mb] → k < w.heap.size := fun k hk => H.lt k (H.sub k hk)
    replace kg1 := G.has kg1 (fun hm => by have := hlt _ hm; omega)
    replace kg2 := G.has kg2 (fun hm => by have := hlt _ hm; omega)
    replace kg3 := G.has kg3 (fun hm => by have := hlt _ hm; omega)
    replace kg4 := G.has kg4 (fun hm => by have := hlt _ hm; omega)
    have HXn := (HX.cons GA bg3).gros (G.mono (fun k hk => List.mem_cons_of_mem _ (H.sub k hk)))
    clear kvp
    have dHV2g3 : g3 ∈ g3 :: U ∧ g3 ∉ [vp, lp, p, sg, mb] := ⟨List.mem_cons_self, fun hm => by have := hlt _ hm; omega⟩
    have hBd := HV2.bd
    refine nr ?_; intro U h; simp only [z0, z1] at h; subst h
    refine s_val 12 rfl rfl (.int .i64 err) (rfl) ?_
    refine nr ?_; intro U h; simp only [z0, z1] at h; subst h
    refine wpList_nil ?_
    refine then_n ?_
    refine wp_seq ?_
    refine wp_region_lit ?_
    refine s_val 41 rfl rfl (.int .i64 err) (rfl) ?_
    refine nr ?_; intro U h; simp only [z0, z1] at h; subst h
    refine s_val 42 rfl rfl (.bool true) (run_neq_k 26 .i64 _ _ _ rfl Try.underlying26 err 0 rfl rfl true t3 _) ?_
    refine nr ?_; intro U h; simp only [z0, z1] at h; subst h
    refine wpList_nil ?_
    refine then_n ?_
    refine wp_cond_true rfl ?_
    refine wp_seq ?_
    refine wp_region_lit ?_
    refine s_val 43 rfl rfl (.agg (itA zM)) (run_bd 56 _ rfl [] rfl _ (bdI0 _)) ?_
    refine nr ?_; intro U h; simp only [z0, z1] at h; subst h
    refine s_val 44 rfl rfl (.int .i64 err) (rfl) ?_
    refine nr ?_; intro U h; simp only [z0, z1] at h; subst h
    refine s_store rfl rfl 56 _ _ rfl g3 0 rfl (.agg (itA zM)) rfl 56 _ kg3 (itA zM) rfl (siIt' _) (itA_fit _ _) (itA_one _) (itA zM) (splice_whole _ _ (itA_sz _ _)) ?_
    intro w8 St
    replace kg1 := St.has (by omega) kg1
    replace kg2 := St.has (by omega) kg2
    replace kg4 := St.has (by omega) kg4
    replace HV2 := HV2.st St dHV2g3
    clear HXn
    replace GG := GG.st St (.inl bg3)
    replace kg3 := St.new
    clear St
    refine s_val 9 rfl rfl (.int .i64 err) (rfl) ?_
    refine nr ?_; intro U h; simp only [z0, z1] at h; subst h
    refine wpList_nil ?_
    refine then_n ?_
    refine wp_ret ?_
    refine then_r ?_
    refine bodyPost_ret (results_cell_tmp Try.results28 _ _ g3 56 _ (0, 0) _ rfl (.int .i64 err) rfl kg3 Try.underlying56 rfl (siIt' _)) rfl ?_
    rcases hres with ⟨e0, _⟩ | ⟨_, rfl⟩
    · exact absurd e0 he1
    · exact .inl ⟨he1, dn2, rfl, GG, HV2.tail H.sub, hd3, hd4⟩
set_option maxRecDepth 100000 in
set_option maxHeartbeats 4000000 in
theorem merge_old (U : List Nat) (w : World) (vp lp p sg mb n : Nat) (L : List Nat) (pw dn : Int) (h : Hd) (dw : Bool) (inc : Int) (M : List (Nat × IM)) (H : VK U w vp lp p sg mb n L pw dn h dw inc M) (x : IM) (hx : x.ok) (hn1 : 1 ≤ x.n) (hn2 : x.n ≤ 4611686018427387903) (hl : x.val.length ≤ 64) (hq : isN M x = false) : Calls Try.prog 29 #[.pointer (some ⟨vp, 0, none⟩), .agg (itA x)] w (fun e w' => e = .returned (.tuple #[.bool false, .int .i64 0]) ∧ Gro w w') := by
  have t1 : decide (x.n < 1) = false := decide_eq_false (by omega)
  have t2 : decide (4611686018427387903 < x.n) = false := decide_eq_false (by omega)
  have t3 : decide ((64 : Int) < ((x.val.length : Nat) : Int)) = false := decide_eq_false (by omega)
  refine s_enter Try.func29 rfl Try.ntmps29 [.pointer (some ⟨vp, 0, none⟩), .agg (itA x)] [.pointer (some ⟨vp, 0, none⟩), .agg (itA x), undef, undef, undef, undef, undef, undef, undef, undef, undef, undef, undef, undef, undef, undef, undef, undef, undef, undef, undef, undef, undef, undef, undef, undef, undef, undef, undef, undef, undef, undef, undef, undef, undef, undef, undef, undef] rfl ?_
  have GG := Gro.refl w
  have GA := Gro.refl w
  have kvp := H.vb.box
  refine wp_seq ?_
  refine wp_region_lit ?_
  refine s_box 3 rfl rfl 56 _ rfl _ rfl (itA x) rfl ?_
  intro w1 g1 G eg1 kg1
  have bg1 := size_base GG eg1
  replace kvp := G.has kvp
  replace GA := GA.gro G
  replace GG := GG.trans G
  clear G
  clear eg1
  refine nr ?_; intro U h; simp only [z0, z1] at h; subst h
  refine s_val 4 rfl rfl (.bool false) (rfl) ?_
  refine nr ?_; intro U h; simp only [z0, z1] at h; subst h
  refine s_val 5 rfl rfl (.int .i64 0) (rfl) ?_
  refine nr ?_; intro U h; simp only [z0, z1] at h; subst h
  refine wpList_nil ?_
  refine then_n ?_
  refine wp_seq ?_
  refine wp_block ?_
  refine wp_seq ?_
  refine wp_region_opq ?_
  intro OPS hY
  have y2 := hY 2 10 rfl
  have y8 := hY 8 16 rfl
  clear hY
  refine s_val 8 rfl rfl (.pointer (some ⟨vp, 0, none⟩)) (rfl) ?_
  refine nr ?_; intro U h; simp only [z0, z1] at h; subst h
  refine s_val 9 rfl rfl (.bool false) (run_eqnp 37 _ _ _ rfl _ rfl rfl Try.underlying37 _) ?_
  refine nr ?_; intro U h; simp only [z0, z1] at h; subst h
  refine s_val 10 rfl rfl (.bool false) (rfl) ?_
  refine nr ?_; intro U h; simp only [z0, z1] at h; subst h
  refine s_gvalY 11 rfl rfl y2 rfl (.pointer (some ⟨g1, 16, none⟩)) (run_fld 56 _ 1 rfl g1 0 rfl 16 (by kernel_rfl)) ?_
  refine nr ?_; intro U h; simp only [z0, z1] at h; subst h
  refine s_gvalY 12 rfl rfl y2 rfl (.pointer (some ⟨g1, 16, none⟩)) (run_fld 54 _ 0 rfl g1 16 rfl 16 (by kernel_rfl)) ?_
  refine nr ?_; intro U h; simp only [z0, z1] at h; subst h
  refine s_gvalY 13 rfl rfl y2 rfl (.int .i64 x.n) (ldItn _ rfl g1 rfl (kg1)) ?_
  refine nr ?_; intro U h; simp only [z0, z1] at h; subst h
  refine s_gvalY 14 rfl rfl y2 rfl (.bool false) (run_lssT 2 _ _ _ rfl x.n 1 rfl rfl false t1 _) ?_
  refine nr ?_; intro U h; simp only [z0, z1] at h; subst h
  refine s_val 15 rfl rfl (.bool false) (rfl) ?_
  refine nr ?_; intro U h; simp only [z0, z1] at h; subst h
  refine s_val 16 rfl rfl (.bool false) (rfl) ?_
  refine nr ?_; intro U h; simp only [z0, z1] at h; subst h
  refine s_gvalY 17 rfl rfl y8 rfl (.pointer (some ⟨g1, 16, none⟩)) (run_fld 56 _ 1 rfl g1 0 rfl 16 (by kernel_rfl)) ?_
  refine nr ?_; intro U h; simp only [z0, z1] at h; subst h
  refine s_gvalY 18 rfl rfl y8 rfl (.pointer (some ⟨g1, 16, none⟩)) (run_fld 54 _ 0 rfl g1 16 rfl 16 (by kernel_rfl)) ?_
  refine nr ?_; intro U h; simp only [z0, z1] at h; subst h
  refine s_gvalY 19 rfl rfl y8 rfl (.int .i64 x.n) (ldItn _ rfl g1 rfl (kg1)) ?_
  refine nr ?_; intro U h; simp only [z0, z1] at h; subst h
  refine s_gvalY 20 rfl rfl y8 rfl (.bool false) (run_gtrT 2 _ _ _ rfl x.n 4611686018427387903 rfl rfl false t2 _) ?_
  refine nr ?_; intro U h; simp only [z0, z1] at h; subst h
  refine s_val 21 rfl rfl (.bool false) (rfl) ?_
  refine nr ?_; intro U h; simp only [z0, z1] at h; subst h
  refine s_val 7 rfl rfl (.bool false) (rfl) ?_
  refine nr ?_; intro U h; simp only [z0, z1] at h; subst h
  refine wpList_nil ?_
  refine then_n ?_
  refine wp_cond_false rfl ?_
  refine wp_seq ?_
  refine wp_region_lit ?_
  refine s_val 23 rfl rfl (.pointer (some ⟨g1, 33, none⟩)) (run_fld 56 _ 2 rfl g1 0 rfl 33 (by kernel_rfl)) ?_
  refine nr ?_; intro U h; simp only [z0, z1] at h; subst h
  refine s_val 24 rfl rfl (.slice x.ao x.val.length x.cap) (ldItr _ rfl g1 rfl (kg1)) ?_
  refine nr ?_; intro U h; simp only [z0, z1] at h; subst h
  refine s_val 25 rfl rfl (.int .i64 ((x.val.length : Nat) : Int)) (run_len Try.underlying30 _ rfl _ _ _ rfl _) ?_
  refine nr ?_; intro U h; simp only [z0, z1] at h; subst h
  refine s_val 26 rfl rfl (.bool false) (run_gtrT 3 _ _ _ rfl ((x.val.length : Nat) : Int) 64 rfl rfl false t3 _) ?_
  refine nr ?_; intro U h; simp only [z0, z1] at h; subst h
  refine s_val 22 rfl rfl (.bool false) (rfl) ?_
  refine nr ?_; intro U h; simp only [z0, z1] at h; subst h
  refine wpList_nil ?_
  refine then_n ?_
  refine wp_cond_false rfl ?_
  refine wp_seq ?_
  refine wp_region_lit ?_
  refine s_val 28 rfl rfl (.pointer (some ⟨vp, 0, none⟩)) (rfl) ?_
  refine nr ?_; intro U h; simp only [z0, z1] at h; subst h
  refine s_val 29 rfl rfl (.agg (itA x)) (ldIt0 _ rfl g1 rfl (kg1)) ?_
  refine nr ?_; intro U h; simp only [z0, z1] at h; subst h
  refine s_callv 30 rfl rfl _ 56 Try.call56 rfl rfl _ rfl [.pointer (some ⟨vp, 0, none⟩), .agg (itA x)] rfl (Calls.bool (isNew_any _ vp lp mb _ M (H.vb.gro GA) x hx) hq) ?_
  intro w2 G
  replace kvp := G.has kvp
  replace kg1 := G.has kg1
  replace GA := GA.gro G
  replace GG := GG.trans G
  clear G
  refine nr ?_; intro U h; simp only [z0, z1] at h; subst h
  refine s_val 31 rfl rfl (.bool true) (run_nt _ _ rfl false rfl) ?_
  refine nr ?_; intro U h; simp only [z0, z1] at h; subst h
  refine s_val 27 rfl rfl (.bool true) (rfl) ?_
  refine nr ?_; intro U h; simp only [z0, z1] at h; subst h
  refine wpList_nil ?_
  refine then_n ?_
  refine wp_cond_true rfl ?_
  refine wp_seq ?_
  refine wp_region_lit ?_
  refine s_val 4 rfl rfl (.bool false) (rfl) ?_
  refine nr ?_; intro U h; simp only [z0, z1] at h; subst h
  refine s_val 5 rfl rfl (.int .i64 0) (rfl) ?_
  refine nr ?_; intro U h; simp only [z0, z1] at h; subst h
  refine wpList_nil ?_
  refine then_n ?_
  refine wp_ret ?_
  refine blk_r ?_
  refine then_r ?_
  refine bodyPost_ret (results_tmp2 Try.results29 _ _ _) rfl ?_
  exact ⟨rfl, GG⟩
def MergeP (U : List Nat) (w : World) (vp lp p sg mb n : Nat) (dn : Int) (inc : Int) (M : List (Nat × IM)) (x : IM) (err : Int) (L2 : List Nat) (pw2 : Int) (h2 : Hd) (dw2 : Bool) (e : Ending) (w' : World) : Prop :=
  (err ≠ 0 ∧ ∃ dn', e = .returned (.tuple #[.bool false, .int .i64 err]) ∧ GroS [vp, lp, p, sg, mb] w w' ∧ VK U w' vp lp p sg mb n L2 pw2 dn' h2 dw2 inc M ∧ dn ≤ dn' ∧ dn' ≤ dn + 20) ∨
  (err = 0 ∧ ∃ dn' ao3 cap3, e = .returned (.tuple #[.bool true, .int .i64 0]) ∧ GroS [vp, lp, p, sg, mb] w w' ∧ VK U w' vp lp p sg mb n L2 pw2 dn' h2 dw2 inc (putM M x.key (x.re ao3 cap3)) ∧ dn ≤ dn' ∧ dn' ≤ dn + 20)
set_option maxRecDepth 100000 in
set_option maxHeartbeats 4000000 in
theorem merge_go (U : List Nat) (w : World) (vp lp p sg mb n : Nat) (L : List Nat) (pw dn : Int) (h : Hd) (dw : Bool) (inc : Int) (M : List (Nat × IM)) (H : VK U w vp lp p sg mb n L pw dn h dw inc M) (x : IM) (hx : x.ok) (hn1 : 1 ≤ x.n) (hn2 : x.n ≤ 4611686018427387903) (hl : x.val.length ≤ 64) (hq : isN M x = true) (HX : BS U w x.ao x.cap x.val) (rs : List (List Nat)) (err : Int) (L2 : List Nat) (pw2 : Int) (h2 : Hd) (dw2 : Bool) (rs2 : List (List Nat)) (HO : Out n L pw h dw rs (formV x.it) err L2 pw2 h2 dw2 rs2) (SA : SideA n L pw h dw (formV x.it) err L2 pw2 h2 dw2) (hd1 : 0 ≤ dn) (hd2 : dn < 9223372036854760000) : Calls Try.prog 29 #[.pointer (some ⟨vp, 0, none⟩), .agg (itA x)] w (MergeP U w vp lp p sg mb n dn inc M x err L2 pw2 h2 dw2) := by
  have t1 : decide (x.n < 1) = false := decide_eq_false (by omega)
  have t2 : decide (4611686018427387903 < x.n) = false := decide_eq_false (by omega)
  have t3 : decide ((64 : Int) < ((x.val.length : Nat) : Int)) = false := decide_eq_false (by omega)
  rcases HO.res with ⟨rfl, hrs⟩ | ⟨he1, hrs⟩
  · clear hrs
    refine s_enter Try.func29 rfl Try.ntmps29 [.pointer (some ⟨vp, 0, none⟩), .agg (itA x)] [.pointer (some ⟨vp, 0, none⟩), .agg (itA x), undef, undef, undef, undef, undef, undef, undef, undef, undef, undef, undef, undef, undef, undef, undef, undef, undef, undef, undef, undef, undef, undef, undef, undef, undef, undef, undef, undef, undef, undef, undef, undef, undef, undef, undef, undef] rfl ?_
    have GG := GroS.refl [vp, lp, p, sg, mb] w
    have GA := Gro.refl w
    have kvp := H.vb.box
    refine wp_seq ?_
    refine wp_region_lit ?_
    refine s_box 3 rfl rfl 56 _ rfl _ rfl (itA x) rfl ?_
    intro w1 g1 G eg1 kg1
    have bg1 := size_basS GG eg1
    replace kvp := G.has kvp
    replace GA := GA.gro G
    replace GG := GG.tg G
    clear G
    clear eg1
    refine nr ?_; intro U h; simp only [z0, z1] at h; subst h
    refine s_val 4 rfl rfl (.bool false) (rfl) ?_
    refine nr ?_; intro U h; simp only [z0, z1] at h; subst h
    refine s_val 5 rfl rfl (.int .i64 0) (rfl) ?_
    refine nr ?_; intro U h; simp only [z0, z1] at h; subst h
    refine wpList_nil ?_
    refine then_n ?_
    refine wp_seq ?_
    refine wp_block ?_
    refine wp_seq ?_
    refine wp_region_opq ?_
    intro OPS hY
    have y2 := hY 2 10 rfl
    have y8 := hY 8 16 rfl
    clear hY
    refine s_val 8 rfl rfl (.pointer (some ⟨vp, 0, none⟩)) (rfl) ?_
    refine nr ?_; intro U h; simp only [z0, z1] at h; subst h
    refine s_val 9 rfl rfl (.bool false) (run_eqnp 37 _ _ _ rfl _ rfl rfl Try.underlying37 _) ?_
    refine nr ?_; intro U h; simp only [z0, z1] at h; subst h
    refine s_val 10 rfl rfl (.bool false) (rfl) ?_
    refine nr ?_; intro U h; simp only [z0, z1] at h; subst h
    refine s_gvalY 11 rfl rfl y2 rfl (.pointer (some ⟨g1, 16, none⟩)) (run_fld 56 _ 1 rfl g1 0 rfl 16 (by kernel_rfl)) ?_
    refine nr ?_; intro U h; simp only [z0, z1] at h; subst h
    refine s_gvalY 12 rfl rfl y2 rfl (.pointer (some ⟨g1, 16, none⟩)) (run_fld 54 _ 0 rfl g1 16 rfl 16 (by kernel_rfl)) ?_
    refine nr ?_; intro U h; simp only [z0, z1] at h; subst h
    refine s_gvalY 13 rfl rfl y2 rfl (.int .i64 x.n) (ldItn _ rfl g1 rfl (kg1)) ?_
    refine nr ?_; intro U h; simp only [z0, z1] at h; subst h
    refine s_gvalY 14 rfl rfl y2 rfl (.bool false) (run_lssT 2 _ _ _ rfl x.n 1 rfl rfl false t1 _) ?_
    refine nr ?_; intro U h; simp only [z0, z1] at h; subst h
    refine s_val 15 rfl rfl (.bool false) (rfl) ?_
    refine nr ?_; intro U h; simp only [z0, z1] at h; subst h
    refine s_val 16 rfl rfl (.bool false) (rfl) ?_
    refine nr ?_; intro U h; simp only [z0, z1] at h; subst h
    refine s_gvalY 17 rfl rfl y8 rfl (.pointer (some ⟨g1, 16, none⟩)) (run_fld 56 _ 1 rfl g1 0 rfl 16 (by kernel_rfl)) ?_
    refine nr ?_; intro U h; simp only [z0, z1] at h; subst h
    refine s_gvalY 18 rfl rfl y8 rfl (.pointer (some ⟨g1, 16, none⟩)) (run_fld 54 _ 0 rfl g1 16 rfl 16 (by kernel_rfl)) ?_
    refine nr ?_; intro U h; simp only [z0, z1] at h; subst h
    refine s_gvalY 19 rfl rfl y8 rfl (.int .i64 x.n) (ldItn _ rfl g1 rfl (kg1)) ?_
    refine nr ?_; intro U h; simp only [z0, z1] at h; subst h
    refine s_gvalY 20 rfl rfl y8 rfl (.bool false) (run_gtrT 2 _ _ _ rfl x.n 4611686018427387903 rfl rfl false t2 _) ?_
    refine nr ?_; intro U h; simp only [z0, z1] at h; subst h
    refine s_val 21 rfl rfl (.bool false) (rfl) ?_
    refine nr ?_; intro U h; simp only [z0, z1] at h; subst h
    refine s_val 7 rfl rfl (.bool false) (rfl) ?_
    refine nr ?_; intro U h; simp only [z0, z1] at h; subst h
    refine wpList_nil ?_
    refine then_n ?_
    refine wp_cond_false rfl ?_
    refine wp_seq ?_
    refine wp_region_lit ?_
    refine s_val 23 rfl rfl (.pointer (some ⟨g1, 33, none⟩)) (run_fld 56 _ 2 rfl g1 0 rfl 33 (by kernel_rfl)) ?_
    refine nr ?_; intro U h; simp only [z0, z1] at h; subst h
    refine s_val 24 rfl rfl (.slice x.ao x.val.length x.cap) (ldItr _ rfl g1 rfl (kg1)) ?_
    refine nr ?_; intro U h; simp only [z0, z1] at h; subst h
    refine s_val 25 rfl rfl (.int .i64 ((x.val.length : Nat) : Int)) (run_len Try.underlying30 _ rfl _ _ _ rfl _) ?_
    refine nr ?_; intro U h; simp only [z0, z1] at h; subst h
    refine s_val 26 rfl rfl (.bool false) (run_gtrT 3 _ _ _ rfl ((x.val.length : Nat) : Int) 64 rfl rfl false t3 _) ?_
    refine nr ?_; intro U h; simp only [z0, z1] at h; subst h
    refine s_val 22 rfl rfl (.bool false) (rfl) ?_
    refine nr ?_; intro U h; simp only [z0, z1] at h; subst h
    refine wpList_nil ?_
    refine then_n ?_
    refine wp_cond_false rfl ?_
    refine wp_seq ?_
    refine wp_region_lit ?_
    refine s_val 28 rfl rfl (.pointer (some ⟨vp, 0, none⟩)) (rfl) ?_
    refine nr ?_; intro U h; simp only [z0, z1] at h; subst h
    refine s_val 29 rfl rfl (.agg (itA x)) (ldIt0 _ rfl g1 rfl (kg1)) ?_
    refine nr ?_; intro U h; simp only [z0, z1] at h; subst h
    refine s_callv 30 rfl rfl _ 56 Try.call56 rfl rfl _ rfl [.pointer (some ⟨vp, 0, none⟩), .agg (itA x)] rfl (Calls.bool (isNew_any _ vp lp mb _ M (H.vb.gro GA) x hx) hq) ?_
    intro w2 G
    replace kvp := G.has kvp
    replace kg1 := G.has kg1
    replace GA := GA.gro G
    replace GG := GG.tg G
    clear G
    refine nr ?_; intro U h; simp only [z0, z1] at h; subst h
    refine s_val 31 rfl rfl (.bool false) (run_nt _ _ rfl true rfl) ?_
    refine nr ?_; intro U h; simp only [z0, z1] at h; subst h
    refine s_val 27 rfl rfl (.bool false) (rfl) ?_
    refine nr ?_; intro U h; simp only [z0, z1] at h; subst h
    refine wpList_nil ?_
    refine then_n ?_
    refine wp_cond_false rfl ?_
    refine wp_skip ?_
    refine blk_n ?_
    refine then_n ?_
    refine wp_seq ?_
    refine wp_region_lit ?_
    refine s_val 32 rfl rfl (.pointer (some ⟨vp, 0, none⟩)) (rfl) ?_
    refine nr ?_; intro U h; simp only [z0, z1] at h; subst h
    refine s_val 33 rfl rfl (.agg (itA x)) (ldIt0 _ rfl g1 rfl (kg1)) ?_
    refine nr ?_; intro U h; simp only [z0, z1] at h; subst h
    refine s_callx 34 rfl rfl _ 55 Try.call55 rfl rfl _ rfl [.pointer (some ⟨vp, 0, none⟩), .agg (itA x)] rfl (keep_any U _ vp lp p sg mb n L pw dn h dw inc M (H.gro GA) x hx hn1 hn2 hl (HX.gro GA) rs 0 L2 pw2 h2 dw2 rs2 HO SA hd1 hd2) (by rintro _ _ ⟨_, _, he, _, _, _, _, _⟩; exact ⟨_, he⟩) ?_
    rintro v w3 ⟨dn2, M2, he, G, HV2, hd3, hd4, hres⟩
    cases he
    replace GG := GG.trans G
    clear kvp GA
    refine nr ?_; intro U h; simp only [z0, z1] at h; subst h
    refine s_val 6 rfl rfl (.int .i64 0) (rfl) ?_
    refine nr ?_; intro U h; simp only [z0, z1] at h; subst h
    refine wpList_nil ?_
    refine then_n ?_
    refine wp_seq ?_
    refine wp_region_lit ?_
    refine s_val 35 rfl rfl (.int .i64 0) (rfl) ?_
    refine nr ?_; intro U h; simp only [z0, z1] at h; subst h
    refine s_val 36 rfl rfl (.bool true) (run_eq_k 26 .i64 _ _ _ rfl Try.underlying26 0 0 rfl rfl true (decide_eq_true rfl) _) ?_
    refine nr ?_; intro U h; simp only [z0, z1] at h; subst h
    refine s_val 37 rfl rfl (.int .i64 0) (rfl) ?_
    refine nr ?_; intro U h; simp only [z0, z1] at h; subst h
    refine s_val 4 rfl rfl (.bool true) (rfl) ?_
    refine nr ?_; intro U h; simp only [z0, z1] at h; subst h
    refine s_val 5 rfl rfl (.int .i64 0) (rfl) ?_
    refine nr ?_; intro U h; simp only [z0, z1] at h; subst h
    refine wpList_nil ?_
    refine then_n ?_
    refine wp_ret ?_
    refine bodyPost_ret (results_tmp2 Try.results29 _ _ _) rfl ?_
    rcases hres with ⟨_, ao3, cap3, rfl⟩ | ⟨e0, _⟩
    · exact .inr ⟨rfl, dn2, ao3, cap3, rfl, GG, HV2, hd3, hd4⟩
    · exact absurd rfl e0
  · clear hrs
    have t5 : decide (err = 0) = false := decide_eq_false he1
    refine s_enter Try.func29 rfl Try.ntmps29 [.pointer (some ⟨vp, 0, none⟩), .agg (itA x)] [.pointer (some ⟨vp, 0, none⟩), .agg (itA x), undef, undef, undef, undef, undef, undef, undef, undef, undef, undef, undef, undef, undef, undef, undef, undef, undef, undef, undef, undef, undef, undef, undef, undef, undef, undef, undef, undef, undef, undef, undef, undef, undef, undef, undef, undef] rfl ?_
    have GG := GroS.refl [vp, lp, p, sg, mb] w
    have GA := Gro.refl w
    have kvp := H.vb.box
    refine wp_seq ?_
    refine wp_region_lit ?_
    refine s_box 3 rfl rfl 56 _ rfl _ rfl (itA x) rfl ?_
    intro w1 g1 G eg1 kg1
    have bg1 := size_basS GG eg1
    replace kvp := G.has kvp
    replace GA := GA.gro G
    replace GG := GG.tg G
    clear G
    clear eg1
    refine nr ?_; intro U h; simp only [z0, z1] at h; subst h
    refine s_val 4 rfl rfl (.bool false) (rfl) ?_
    refine nr ?_; intro U h; simp only [z0, z1] at h; subst h
    refine s_val 5 rfl rfl (.int .i64 0) (rfl) ?_
    refine nr ?_; intro U h; simp only [z0, z1] at h; subst h
    refine wpList_nil ?_
    refine then_n ?_
    refine wp_seq ?_
    refine wp_block ?_
    refine wp_seq ?_
    refine wp_region_opq ?_
    intro OPS hY
    have y2 := hY 2 10 rfl
    have y8 := hY 8 16 rfl
    clear hY
    refine s_val 8 rfl rfl (.pointer (some ⟨vp, 0, none⟩)) (rfl) ?_
    refine nr ?_; intro U h; simp only [z0, z1] at h; subst h
    refine s_val 9 rfl rfl (.bool false) (run_eqnp 37 _ _ _ rfl _ rfl rfl Try.underlying37 _) ?_
    refine nr ?_; intro U h; simp only [z0, z1] at h; subst h
    refine s_val 10 rfl rfl (.bool false) (rfl) ?_
    refine nr ?_; intro U h; simp only [z0, z1] at h; subst h
    refine s_gvalY 11 rfl rfl y2 rfl (.pointer (some ⟨g1, 16, none⟩)) (run_fld 56 _ 1 rfl g1 0 rfl 16 (by kernel_rfl)) ?_
    refine nr ?_; intro U h; simp only [z0, z1] at h; subst h
    refine s_gvalY 12 rfl rfl y2 rfl (.pointer (some ⟨g1, 16, none⟩)) (run_fld 54 _ 0 rfl g1 16 rfl 16 (by kernel_rfl)) ?_
    refine nr ?_; intro U h; simp only [z0, z1] at h; subst h
    refine s_gvalY 13 rfl rfl y2 rfl (.int .i64 x.n) (ldItn _ rfl g1 rfl (kg1)) ?_
    refine nr ?_; intro U h; simp only [z0, z1] at h; subst h
    refine s_gvalY 14 rfl rfl y2 rfl (.bool false) (run_lssT 2 _ _ _ rfl x.n 1 rfl rfl false t1 _) ?_
    refine nr ?_; intro U h; simp only [z0, z1] at h; subst h
    refine s_val 15 rfl rfl (.bool false) (rfl) ?_
    refine nr ?_; intro U h; simp only [z0, z1] at h; subst h
    refine s_val 16 rfl rfl (.bool false) (rfl) ?_
    refine nr ?_; intro U h; simp only [z0, z1] at h; subst h
    refine s_gvalY 17 rfl rfl y8 rfl (.pointer (some ⟨g1, 16, none⟩)) (run_fld 56 _ 1 rfl g1 0 rfl 16 (by kernel_rfl)) ?_
    refine nr ?_; intro U h; simp only [z0, z1] at h; subst h
    refine s_gvalY 18 rfl rfl y8 rfl (.pointer (some ⟨g1, 16, none⟩)) (run_fld 54 _ 0 rfl g1 16 rfl 16 (by kernel_rfl)) ?_
    refine nr ?_; intro U h; simp only [z0, z1] at h; subst h
    refine s_gvalY 19 rfl rfl y8 rfl (.int .i64 x.n) (ldItn _ rfl g1 rfl (kg1)) ?_
    refine nr ?_; intro U h; simp only [z0, z1] at h; subst h
    refine s_gvalY 20 rfl rfl y8 rfl (.bool false) (run_gtrT 2 _ _ _ rfl x.n 4611686018427387903 rfl rfl false t2 _) ?_
    refine nr ?_; intro U h; simp only [z0, z1] at h; subst h
    refine s_val 21 rfl rfl (.bool false) (rfl) ?_
    refine nr ?_; intro U h; simp only [z0, z1] at h; subst h
    refine s_val 7 rfl rfl (.bool false) (rfl) ?_
    refine nr ?_; intro U h; simp only [z0, z1] at h; subst h
    refine wpList_nil ?_
    refine then_n ?_
    refine wp_cond_false rfl ?_
    refine wp_seq ?_
    refine wp_region_lit ?_
    refine s_val 23 rfl rfl (.pointer (some ⟨g1, 33, none⟩)) (run_fld 56 _ 2 rfl g1 0 rfl 33 (by kernel_rfl)) ?_
    refine nr ?_; intro U h; simp only [z0, z1] at h; subst h
    refine s_val 24 rfl rfl (.slice x.ao x.val.length x.cap) (ldItr _ rfl g1 rfl (kg1)) ?_
    refine nr ?_; intro U h; simp only [z0, z1] at h; subst h
    refine s_val 25 rfl rfl (.int .i64 ((x.val.length : Nat) : Int)) (run_len Try.underlying30 _ rfl _ _ _ rfl _) ?_
    refine nr ?_; intro U h; simp only [z0, z1] at h; subst h
    refine s_val 26 rfl rfl (.bool false) (run_gtrT 3 _ _ _ rfl ((x.val.length : Nat) : Int) 64 rfl rfl false t3 _) ?_
    refine nr ?_; intro U h; simp only [z0, z1] at h; subst h
    refine s_val 22 rfl rfl (.bool false) (rfl) ?_
    refine nr ?_; intro U h; simp only [z0, z1] at h; subst h
    refine wpList_nil ?_
    refine then_n ?_
    refine wp_cond_false rfl ?_
    refine wp_seq ?_
    refine wp_region_lit ?_
    refine s_val 28 rfl rfl (.pointer (some ⟨vp, 0, none⟩)) (rfl) ?_
    refine nr ?_; intro U h; simp only [z0, z1] at h; subst h
    refine s_val 29 rfl rfl (.agg (itA x)) (ldIt0 _ rfl g1 rfl (kg1)) ?_
    refine nr ?_; intro U h; simp only [z0, z1] at h; subst h
    refine s_callv 30 rfl rfl _ 56 Try.call56 rfl rfl _ rfl [.pointer (some ⟨vp, 0, none⟩), .agg (itA x)] rfl (Calls.bool (isNew_any _ vp lp mb _ M (H.vb.gro GA) x hx) hq) ?_
    intro w2 G
    replace kvp := G.has kvp
    replace kg1 := G.has kg1
    replace GA := GA.gro G
    replace GG := GG.tg G
    clear G
    refine nr ?_; intro U h; simp only [z0, z1] at h; subst h
    refine s_val 31 rfl rfl (.bool false) (run_nt _ _ rfl true rfl) ?_
    refine nr ?_; intro U h; simp only [z0, z1] at h; subst h
    refine s_val 27 rfl rfl (.bool false) (rfl) ?_
    refine nr ?_; intro U h; simp only [z0, z1] at h; subst h
    refine wpList_nil ?_
    refine then_n ?_
    refine wp_cond_false rfl ?_
    refine wp_skip ?_
    refine blk_n ?_
    refine then_n ?_
    refine wp_seq ?_
    refine wp_region_lit ?_
    refine s_val 32 rfl rfl (.pointer (some ⟨vp, 0, none⟩)) (rfl) ?_
    refine nr ?_; intro U h; simp only [z0, z1] at h; subst h
    refine s_val 33 rfl rfl (.agg (itA x)) (ldIt0 _ rfl g1 rfl (kg1)) ?_
    refine nr ?_; intro U h; simp only [z0, z1] at h; subst h
    refine s_callx 34 rfl rfl _ 55 Try.call55 rfl rfl _ rfl [.pointer (some ⟨vp, 0, none⟩), .agg (itA x)] rfl (keep_any U _ vp lp p sg mb n L pw dn h dw inc M (H.gro GA) x hx hn1 hn2 hl (HX.gro GA) rs err L2 pw2 h2 dw2 rs2 HO SA hd1 hd2) (by rintro _ _ ⟨_, _, he, _, _, _, _, _⟩; exact ⟨_, he⟩) ?_
    rintro v w3 ⟨dn2, M2, he, G, HV2, hd3, hd4, hres⟩
    cases he
    replace GG := GG.trans G
    clear kvp GA
    refine nr ?_; intro U h; simp only [z0, z1] at h; subst h
    refine s_val 6 rfl rfl (.int .i64 err) (rfl) ?_
    refine nr ?_; intro U h; simp only [z0, z1] at h; subst h
    refine wpList_nil ?_
    refine then_n ?_
    refine wp_seq ?_
    refine wp_region_lit ?_
    refine s_val 35 rfl rfl (.int .i64 err) (rfl) ?_
    refine nr ?_; intro U h; simp only [z0, z1] at h; subst h
    refine s_val 36 rfl rfl (.bool false) (run_eq_k 26 .i64 _ _ _ rfl Try.underlying26 err 0 rfl rfl false t5 _) ?_
    refine nr ?_; intro U h; simp only [z0, z1] at h; subst h
    refine s_val 37 rfl rfl (.int .i64 err) (rfl) ?_
    refine nr ?_; intro U h; simp only [z0, z1] at h; subst h
    refine s_val 4 rfl rfl (.bool false) (rfl) ?_
    refine nr ?_; intro U h; simp only [z0, z1] at h; subst h
    refine s_val 5 rfl rfl (.int .i64 err) (rfl) ?_
    refine nr ?_; intro U h; simp only [z0, z1] at h; subst h
    refine wpList_nil ?_
    refine then_n ?_
    refine wp_ret ?_
    refine bodyPost_ret (results_tmp2 Try.results29 _ _ _) rfl ?_
    rcases hres with ⟨e0, _⟩ | ⟨_, rfl⟩
    · exact absurd e0 he1
    · exact .inl ⟨he1, dn2, rfl, GG, HV2, hd3, hd4⟩
end Go.Proofs.Ytgfnjekpafempaa
