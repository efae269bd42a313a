/- Put and Merge. -/
import Derived.Test.YtgfnjekpafempaaGV4
import Derived.Test.YtgfnjekpafempaaGAb
namespace Go.Proofs.Ytgfnjekpafempaa
set_option maxHeartbeats 4000000
set_option maxRecDepth 100000
open Go.RowKit
def PutP (U : List Nat) (w : World) (vp lp p sg mb n : Nat) (dn : Int) (inc : Int) (M : List (Nat × IM)) (x : IM) (err : Int) (L2 : List Nat) (pw2 : Int) (h2 : Hd) (dw2 : Bool) (e : Ending) (w' : World) : Prop :=
  (err ≠ 0 ∧ ∃ dn', e = .returned (.tuple #[.agg (itA zM), .int .i64 err]) ∧ GroS [vp, lp, p, sg, mb] w w' ∧ VK U w' vp lp p sg mb n L2 pw2 dn' h2 dw2 inc M ∧ dn ≤ dn' ∧ dn' ≤ dn + 20) ∨
  (err = 0 ∧ ∃ C dn' ao3 cap3 ao4 cap4, e = .returned (.tuple #[.agg (itA (x.re ao4 cap4)), .int .i64 0]) ∧ GroS [vp, lp, p, sg, mb] w w' ∧ VK U w' vp lp p sg mb n L2 pw2 dn' h2 dw2 inc (putM M x.key (x.re ao3 cap3)) ∧ Bd C U (putM M x.key (x.re ao3 cap3)) ∧ OB w' 5 .u8 C ao4 cap4 x.val ∧ dn ≤ dn' ∧ dn' ≤ dn + 20)
theorem put_go (U : List Nat) (w : World) (vp lp p sg mb n : Nat) (L : List Nat) (pw dn : Int) (h : Hd) (dw : Bool) (inc : Int) (M : List (Nat × IM)) (H : VK U w vp lp p sg mb n L pw dn h dw inc M) (k : Nat) (hk : k < top) (ao : Option Addr) (cap : Nat) (l : List Nat) (z : Nat) (hz : z < top) (hl : l.length ≤ 64) (hf : (getK M k).n ≠ 4611686018427387903) (HX : BS U w ao cap l) (rs : List (List Nat)) (err : Int) (L2 : List Nat) (pw2 : Int) (h2 : Hd) (dw2 : Bool) (rs2 : List (List Nat)) (HO : Out n L pw h dw rs (formV (mkI k (mkV ((getK M k).ver.n + 1) z) ao cap l).it) err L2 pw2 h2 dw2 rs2) (SA : SideA n L pw h dw (formV (mkI k (mkV ((getK M k).ver.n + 1) z) ao cap l).it) err L2 pw2 h2 dw2) (hd1 : 0 ≤ dn) (hd2 : dn < 9223372036854760000) : Calls Try.prog 28 #[vP vp 0, .agg (idA k), .slice ao l.length cap, .agg (idA z)] w (PutP U w vp lp p sg mb n dn inc M (mkI k (mkV ((getK M k).ver.n + 1) z) ao cap l) err L2 pw2 h2 dw2) := by
  have t1 : decide ((64 : Int) < ((l.length : Nat) : Int)) = false := decide_eq_false (by omega)
  have t2 : decide ((getK M k).ver.n = 4611686018427387903) = false := decide_eq_false hf
  have hgn := getK_n H.mr k
  have hvn : (getK M k).ver.n = (getK M k).n := rfl
  have hf' : (getK M k).n ≠ 4611686018427387903 := hf
  have hI : I64 ((getK M k).ver.n + 1) := ⟨by omega, by omega⟩
  rcases HO.res with ⟨rfl, hrs⟩ | ⟨he1, hrs⟩
  clear hrs
  refine js Try.func28 rfl Try.ntmps28 [vP vp 0, .agg (idA k), .slice ao l.length cap, .agg (idA z)] [vP vp 0, .agg (idA k), .slice ao l.length cap, .agg (idA z), uD, uD, uD, uD, uD, uD, uD, uD, uD, uD, uD, uD, uD, uD, uD, uD, uD, uD, uD, uD, uD, uD, uD, uD, uD, uD, uD, uD, uD, uD, uD, uD, uD, uD, uD, uD, uD, uD, uD, uD, uD, uD, uD] rfl ?_
  have GG := GroS.refl [vp, lp, p, sg, mb] w
  have GA := Gro.refl w
  have kvp := H.vb.box
  refine qS ?_
  refine zw 5 rfl rfl 52 _ rfl _ rfl (idA k) rfl ?_
  intro w1 g1 G eg1 kg1
  have bg1 := jO GG eg1
  replace kvp := G.has kvp
  replace GA := GA.gro G
  replace GG := GG.tg G
  clear G
  clear eg1
  refine nr ?_; intro U h; simp only [z0, z1] at h; subst h
  refine zw 7 rfl rfl 52 _ rfl _ rfl (idA z) rfl ?_
  intro w2 g2 G eg2 kg2
  have bg2 := jO GG eg2
  replace kvp := G.has kvp
  replace kg1 := G.has kg1
  replace GA := GA.gro G
  replace GG := GG.tg G
  clear G
  clear eg2
  refine nr ?_; intro U h; simp only [z0, z1] at h; subst h
  refine jU 8 rfl rfl 56 rfl _ zeroIt (itA zM) rfl ?_
  intro w3 g3 G eg3 kg3
  have bg3 := jO GG eg3
  have dvpg3 := jH kvp eg3
  have dg1g3 := jH kg1 eg3
  have dg2g3 := jH kg2 eg3
  have dGAg3 := GA.ne eg3
  replace kvp := G.has kvp
  replace kg1 := G.has kg1
  replace kg2 := G.has kg2
  replace GA := GA.gro G
  replace GG := GG.tg G
  clear G
  clear eg3
  refine nr ?_; intro U h; simp only [z0, z1] at h; subst h
  refine ja 9 rfl rfl (iK 0) (rfl) ?_
  refine nr ?_; intro U h; simp only [z0, z1] at h; subst h
  refine qL (qE (qS ?_))
  refine ja 13 rfl rfl (vP vp 0) (rfl) ?_
  refine ja 14 rfl rfl (vF) (zg 37 _ _ _ rfl _ rfl rfl Try.underlying37 _) ?_
  refine nr ?_; intro U h; simp only [z0, z1] at h; subst h
  refine qL (qF rfl (qK (qE (qS ?_))))
  refine ja 16 rfl rfl (.slice ao l.length cap) (rfl) ?_
  refine ja 17 rfl rfl (nK l.length) (jA Try.underlying30 _ rfl _ _ _ rfl _) ?_
  refine ja 18 rfl rfl (vF) (jJ 3 _ _ _ rfl ((l.length : Nat) : Int) 64 rfl rfl false t1 _) ?_
  refine nr ?_; intro U h; simp only [z0, z1] at h; subst h
  refine qL (qF rfl (qK (qE ?_)))
  refine jl (A := ?Ax2) 5 [(0, 20), (1, 21), (2, 22), (3, 23), (4, 24)] [.val (vP vp 0), .val (vP vp 0), .val (vP vp 2), .val (.map (some mb)), .val (.agg (idA k))] follows (by kernel_rfl) rfl ?hAx2 (jb ?o0x2 (jb ?o1x2 (jb ?o2x2 (jb ?o3x2 (jb ?o4x2 jF))))) ?restx2
  case hAx2 =>
    intro ptrs
    simp only [full, foldSlots, filledE, postE, List.foldl_cons, List.foldl_nil, List.getD_cons_zero, List.getD_cons_succ, jI, List.set_cons_zero, List.set_cons_succ]
    exact rfl
  case o0x2 => exact fun _ _ _ _ => jg (v := vP vp 0) _ rfl rfl rfl
  case o1x2 => exact fun _ _ _ _ => jd (v := vP vp 0) rfl (jn _ rfl _ rfl)
  case o2x2 => exact fun _ _ _ _ => jd (v := vP vp 2) rfl (jf 91 _ 2 rfl vp 0 rfl 2 (by kernel_rfl))
  case o3x2 => exact fun _ _ hw _ => jd (v := .map (some mb)) rfl (ldVtm _ rfl vp rfl (hw.has kvp))
  case o4x2 => exact fun _ _ hw _ => jd (v := .agg (idA k)) rfl (ldI0 _ rfl g1 rfl (hw.has kg1))
  intro ptrs w4 GD hxE
  simp only [List.drop_succ_cons, List.drop_zero]
  replace kvp := GD.has kvp
  replace kg1 := GD.has kg1
  replace kg2 := GD.has kg2
  replace kg3 := GD.has kg3
  replace GA := GA.gro ((Gro.refl _).drew.trans GD)
  replace GG := GG.drew.tg GD
  clear GD
  refine ja 25 rfl rfl (.agg (itA (getK M k))) (Uv (H.vb.map.gro (GA)) _ _ rfl rfl k rfl hk) ?_
  refine ja 26 rfl rfl (.agg (veA (getK M k).ver)) (Ux _ rfl (getK M k) rfl _) ?_
  refine ja 27 rfl rfl (iK (getK M k).ver.n) (Uw _ rfl (getK M k).ver rfl _) ?_
  refine ja 10 rfl rfl (iK (getK M k).ver.n) (rfl) ?_
  refine nr ?_; intro U h; simp only [z0, z1] at h; subst h
  refine qL (qE (qS ?_))
  refine ja 28 rfl rfl (iK (getK M k).ver.n) (rfl) ?_
  refine ja 29 rfl rfl (vF) (jB 2 .i64 _ _ _ rfl Try.underlying2 (getK M k).ver.n 4611686018427387903 rfl rfl false t2 _) ?_
  refine nr ?_; intro U h; simp only [z0, z1] at h; subst h
  refine qL (qF rfl (qK (qS ?_)))
  refine ja 31 rfl rfl (.agg (idA k)) (ldI0 _ rfl g1 rfl (kg1)) ?_
  refine ja 32 rfl rfl (iK (getK M k).ver.n) (rfl) ?_
  refine ja 33 rfl rfl (iK ((getK M k).ver.n + 1)) (zm 2 _ _ _ rfl (getK M k).ver.n 1 ((getK M k).ver.n + 1) rfl rfl (by omega) (by omega) (by omega) _) ?_
  refine ja 34 rfl rfl (.agg (idA z)) (ldI0 _ rfl g2 rfl (kg2)) ?_
  refine ja 35 rfl rfl (.agg (veA (mkV ((getK M k).ver.n + 1) z))) (jN 54 _ rfl [(0, iK ((getK M k).ver.n + 1)), (1, .agg (idA z))] rfl _ (bdV01 ((getK M k).ver.n + 1) z _)) ?_
  refine ja 36 rfl rfl (.slice ao l.length cap) (rfl) ?_
  refine ja 37 rfl rfl (.agg (itA (mkI k (mkV ((getK M k).ver.n + 1) z) ao cap l))) (jN 56 _ rfl [(0, .agg (idA k)), (1, .agg (veA (mkV ((getK M k).ver.n + 1) z))), (2, .slice ao l.length cap)] rfl _ (bdI012 k (mkV ((getK M k).ver.n + 1) z) ao cap l _)) ?_
  refine nr ?_; intro U h; simp only [z0, z1] at h; subst h
  refine jU 11 rfl rfl 56 rfl _ zeroIt (itA zM) rfl ?_
  intro w5 g4 G eg4 kg4
  have bg4 := jO GG eg4
  have dvpg4 := jH kvp eg4
  have dg1g4 := jH kg1 eg4
  have dg2g4 := jH kg2 eg4
  have dg3g4 := jH kg3 eg4
  have dGAg4 := GA.ne eg4
  replace kvp := G.has kvp
  replace kg1 := G.has kg1
  replace kg2 := G.has kg2
  replace kg3 := G.has kg3
  replace GA := GA.gro G
  replace GG := GG.tg G
  clear G
  clear eg4
  refine nr ?_; intro U h; simp only [z0, z1] at h; subst h
  refine jt rfl rfl 56 _ _ rfl g4 0 rfl (.agg (itA (mkI k (mkV ((getK M k).ver.n + 1) z) ao cap l))) rfl 56 _ kg4 (itA (mkI k (mkV ((getK M k).ver.n + 1) z) ao cap l)) rfl (siIt' _) (jT _ _) (jQ _) (itA (mkI k (mkV ((getK M k).ver.n + 1) z) ao cap l)) (jm _ _ (jZ _ _)) ?_
  intro w6 St
  replace kvp := St.has (by omega) kvp
  replace kg1 := St.has (by omega) kg1
  replace kg2 := St.has (by omega) kg2
  replace kg3 := St.has (by omega) kg3
  replace GA := GA.st St dGAg4
  replace GG := GG.st St (.inl bg4)
  replace kg4 := St.new
  clear St
  refine qL (qE (qS ?_))
  refine ja 38 rfl rfl (vP vp 0) (rfl) ?_
  refine ja 39 rfl rfl (.agg (itA (mkI k (mkV ((getK M k).ver.n + 1) z) ao cap l))) (ldIt0 _ rfl g4 rfl (kg4)) ?_
  refine nr ?_; intro U h; simp only [z0, z1] at h; subst h
  refine jx 40 rfl rfl _ 55 Try.call55 rfl rfl _ rfl [vP vp 0, .agg (itA (mkI k (mkV ((getK M k).ver.n + 1) z) ao cap l))] rfl (Jf (g3 :: U) _ vp lp p sg mb n L pw dn h dw inc M (H.cons GA bg3 (ji kg3)) (mkI k (mkV ((getK M k).ver.n + 1) z) ao cap l) (Zq hk (Jp hI hz)) (by show 1 ≤ (getK M k).n + 1; omega) (by show (getK M k).n + 1 ≤ 4611686018427387903; omega) hl (HX.cons GA bg3) rs 0 L2 pw2 h2 dw2 rs2 HO SA hd1 hd2) (by rintro _ _ ⟨_, _, he, _, _, _, _, _⟩; exact ⟨_, he⟩) ?_
  rintro v w7 ⟨dn2, M2, he, G, HV2, hd3, hd4, hres⟩
  cases he
  replace GG := GG.trans G
  have hlt : ∀ k, k ∈ [vp, lp, p, sg, mb] → k < w.heap.size := fun k hk => H.lt k (H.sub k hk)
  replace kg1 := G.has kg1 (fun hm => by have := hlt _ hm; omega)
  replace kg2 := G.has kg2 (fun hm => by have := hlt _ hm; omega)
  replace kg3 := G.has kg3 (fun hm => by have := hlt _ hm; omega)
  replace kg4 := G.has kg4 (fun hm => by have := hlt _ hm; omega)
  have HXn := (HX.cons GA bg3).gros (G.mono (fun k hk => List.mem_cons_of_mem _ (H.sub k hk)))
  clear kvp
  have dHV2g3 : g3 ∈ g3 :: U ∧ g3 ∉ [vp, lp, p, sg, mb] := ⟨List.mem_cons_self, fun hm => by have := hlt _ hm; omega⟩
  have hBd := HV2.bd
  refine nr ?_; intro U h; simp only [z0, z1] at h; subst h
  refine ja 12 rfl rfl (iK 0) (rfl) ?_
  refine nr ?_; intro U h; simp only [z0, z1] at h; subst h
  refine qA ?_
  refine ja 41 rfl rfl (iK 0) (rfl) ?_
  refine ja 42 rfl rfl (vF) (jh 26 .i64 _ _ _ rfl Try.underlying26 0 0 rfl rfl false (decide_eq_true rfl) _) ?_
  refine nr ?_; intro U h; simp only [z0, z1] at h; subst h
  refine qL (qF rfl (qK (qS ?_)))
  refine ja 45 rfl rfl (.agg (itA (mkI k (mkV ((getK M k).ver.n + 1) z) ao cap l))) (ldIt0 _ rfl g4 rfl (kg4)) ?_
  refine nr ?_; intro U h; simp only [z0, z1] at h; subst h
  refine jx 46 rfl rfl _ 44 Try.call44 rfl rfl _ rfl [.agg (itA (mkI k (mkV ((getK M k).ver.n + 1) z) ao cap l))] rfl (vo (mkI k (mkV ((getK M k).ver.n + 1) z) ao cap l) _ HXn.nc (by show l.length ≤ _; omega)) (by rintro _ _ ⟨_, _, he, _, _⟩; exact ⟨_, he⟩) ?_
  rintro v w8 ⟨ao2, cap2, he, G, HO2⟩
  cases he
  have dHO2g3 := HO2.neB (ji kg3)
  replace kg1 := G.has kg1
  replace kg2 := G.has kg2
  replace kg3 := G.has kg3
  replace kg4 := G.has kg4
  replace HV2 := HV2.gro G
  replace HXn := HXn.gro G
  replace GG := GG.tg G
  clear G
  refine nr ?_; intro U h; simp only [z0, z1] at h; subst h
  refine jt rfl rfl 56 _ _ rfl g3 0 rfl (.agg (itA ((mkI k (mkV ((getK M k).ver.n + 1) z) ao cap l).re ao2 cap2))) rfl 56 _ kg3 (itA ((mkI k (mkV ((getK M k).ver.n + 1) z) ao cap l).re ao2 cap2)) rfl (siIt' _) (jT _ _) (jQ _) (itA ((mkI k (mkV ((getK M k).ver.n + 1) z) ao cap l).re ao2 cap2)) (jm _ _ (jZ _ _)) ?_
  intro w9 St
  replace kg1 := St.has (by omega) kg1
  replace kg2 := St.has (by omega) kg2
  replace kg4 := St.has (by omega) kg4
  replace HV2 := HV2.st St dHV2g3
  clear HXn
  replace HO2 := HO2.st St dHO2g3
  replace GG := GG.st St (.inl bg3)
  replace kg3 := St.new
  clear St
  refine ja 9 rfl rfl (iK 0) (rfl) ?_
  refine nr ?_; intro U h; simp only [z0, z1] at h; subst h
  refine qL (qR ?_)
  refine bodyPost_ret (za Try.results28 _ _ g3 56 _ (0, 0) _ rfl (iK 0) rfl kg3 Try.underlying56 rfl (siIt' _)) rfl ?_
  rcases hres with ⟨_, ao3, cap3, rfl⟩ | ⟨e0, _⟩
  exact .inr ⟨rfl, _, dn2, ao3, cap3, _, _, rfl, GG, HV2.tail H.sub, ⟨fun k hk => hBd.1 k (List.mem_cons_of_mem _ hk), hBd.2⟩, HO2, hd3, hd4⟩
  exact absurd rfl e0
  clear hrs
  have t3 : decide (err = 0) = false := decide_eq_false he1
  refine js Try.func28 rfl Try.ntmps28 [vP vp 0, .agg (idA k), .slice ao l.length cap, .agg (idA z)] [vP vp 0, .agg (idA k), .slice ao l.length cap, .agg (idA z), uD, uD, uD, uD, uD, uD, uD, uD, uD, uD, uD, uD, uD, uD, uD, uD, uD, uD, uD, uD, uD, uD, uD, uD, uD, uD, uD, uD, uD, uD, uD, uD, uD, uD, uD, uD, uD, uD, uD, uD, uD, uD, uD] rfl ?_
  have GG := GroS.refl [vp, lp, p, sg, mb] w
  have GA := Gro.refl w
  have kvp := H.vb.box
  refine qS ?_
  refine zw 5 rfl rfl 52 _ rfl _ rfl (idA k) rfl ?_
  intro w1 g1 G eg1 kg1
  have bg1 := jO GG eg1
  replace kvp := G.has kvp
  replace GA := GA.gro G
  replace GG := GG.tg G
  clear G
  clear eg1
  refine nr ?_; intro U h; simp only [z0, z1] at h; subst h
  refine zw 7 rfl rfl 52 _ rfl _ rfl (idA z) rfl ?_
  intro w2 g2 G eg2 kg2
  have bg2 := jO GG eg2
  replace kvp := G.has kvp
  replace kg1 := G.has kg1
  replace GA := GA.gro G
  replace GG := GG.tg G
  clear G
  clear eg2
  refine nr ?_; intro U h; simp only [z0, z1] at h; subst h
  refine jU 8 rfl rfl 56 rfl _ zeroIt (itA zM) rfl ?_
  intro w3 g3 G eg3 kg3
  have bg3 := jO GG eg3
  have dvpg3 := jH kvp eg3
  have dg1g3 := jH kg1 eg3
  have dg2g3 := jH kg2 eg3
  have dGAg3 := GA.ne eg3
  replace kvp := G.has kvp
  replace kg1 := G.has kg1
  replace kg2 := G.has kg2
  replace GA := GA.gro G
  replace GG := GG.tg G
  clear G
  clear eg3
  refine nr ?_; intro U h; simp only [z0, z1] at h; subst h
  refine ja 9 rfl rfl (iK 0) (rfl) ?_
  refine nr ?_; intro U h; simp only [z0, z1] at h; subst h
  refine qL (qE (qS ?_))
  refine ja 13 rfl rfl (vP vp 0) (rfl) ?_
  refine ja 14 rfl rfl (vF) (zg 37 _ _ _ rfl _ rfl rfl Try.underlying37 _) ?_
  refine nr ?_; intro U h; simp only [z0, z1] at h; subst h
  refine qL (qF rfl (qK (qE (qS ?_))))
  refine ja 16 rfl rfl (.slice ao l.length cap) (rfl) ?_
  refine ja 17 rfl rfl (nK l.length) (jA Try.underlying30 _ rfl _ _ _ rfl _) ?_
  refine ja 18 rfl rfl (vF) (jJ 3 _ _ _ rfl ((l.length : Nat) : Int) 64 rfl rfl false t1 _) ?_
  refine nr ?_; intro U h; simp only [z0, z1] at h; subst h
  refine qL (qF rfl (qK (qE ?_)))
  refine jl (A := ?Ax3) 5 [(0, 20), (1, 21), (2, 22), (3, 23), (4, 24)] [.val (vP vp 0), .val (vP vp 0), .val (vP vp 2), .val (.map (some mb)), .val (.agg (idA k))] follows (by kernel_rfl) rfl ?hAx3 (jb ?o0x3 (jb ?o1x3 (jb ?o2x3 (jb ?o3x3 (jb ?o4x3 jF))))) ?restx3
  case hAx3 =>
    intro ptrs
    simp only [full, foldSlots, filledE, postE, List.foldl_cons, List.foldl_nil, List.getD_cons_zero, List.getD_cons_succ, jI, List.set_cons_zero, List.set_cons_succ]
    exact rfl
  case o0x3 => exact fun _ _ _ _ => jg (v := vP vp 0) _ rfl rfl rfl
  case o1x3 => exact fun _ _ _ _ => jd (v := vP vp 0) rfl (jn _ rfl _ rfl)
  case o2x3 => exact fun _ _ _ _ => jd (v := vP vp 2) rfl (jf 91 _ 2 rfl vp 0 rfl 2 (by kernel_rfl))
  case o3x3 => exact fun _ _ hw _ => jd (v := .map (some mb)) rfl (ldVtm _ rfl vp rfl (hw.has kvp))
  case o4x3 => exact fun _ _ hw _ => jd (v := .agg (idA k)) rfl (ldI0 _ rfl g1 rfl (hw.has kg1))
  intro ptrs w4 GD hxE
  simp only [List.drop_succ_cons, List.drop_zero]
  replace kvp := GD.has kvp
  replace kg1 := GD.has kg1
  replace kg2 := GD.has kg2
  replace kg3 := GD.has kg3
  replace GA := GA.gro ((Gro.refl _).drew.trans GD)
  replace GG := GG.drew.tg GD
  clear GD
  refine ja 25 rfl rfl (.agg (itA (getK M k))) (Uv (H.vb.map.gro (GA)) _ _ rfl rfl k rfl hk) ?_
  refine ja 26 rfl rfl (.agg (veA (getK M k).ver)) (Ux _ rfl (getK M k) rfl _) ?_
  refine ja 27 rfl rfl (iK (getK M k).ver.n) (Uw _ rfl (getK M k).ver rfl _) ?_
  refine ja 10 rfl rfl (iK (getK M k).ver.n) (rfl) ?_
  refine nr ?_; intro U h; simp only [z0, z1] at h; subst h
  refine qL (qE (qS ?_))
  refine ja 28 rfl rfl (iK (getK M k).ver.n) (rfl) ?_
  refine ja 29 rfl rfl (vF) (jB 2 .i64 _ _ _ rfl Try.underlying2 (getK M k).ver.n 4611686018427387903 rfl rfl false t2 _) ?_
  refine nr ?_; intro U h; simp only [z0, z1] at h; subst h
  refine qL (qF rfl (qK (qS ?_)))
  refine ja 31 rfl rfl (.agg (idA k)) (ldI0 _ rfl g1 rfl (kg1)) ?_
  refine ja 32 rfl rfl (iK (getK M k).ver.n) (rfl) ?_
  refine ja 33 rfl rfl (iK ((getK M k).ver.n + 1)) (zm 2 _ _ _ rfl (getK M k).ver.n 1 ((getK M k).ver.n + 1) rfl rfl (by omega) (by omega) (by omega) _) ?_
  refine ja 34 rfl rfl (.agg (idA z)) (ldI0 _ rfl g2 rfl (kg2)) ?_
  refine ja 35 rfl rfl (.agg (veA (mkV ((getK M k).ver.n + 1) z))) (jN 54 _ rfl [(0, iK ((getK M k).ver.n + 1)), (1, .agg (idA z))] rfl _ (bdV01 ((getK M k).ver.n + 1) z _)) ?_
  refine ja 36 rfl rfl (.slice ao l.length cap) (rfl) ?_
  refine ja 37 rfl rfl (.agg (itA (mkI k (mkV ((getK M k).ver.n + 1) z) ao cap l))) (jN 56 _ rfl [(0, .agg (idA k)), (1, .agg (veA (mkV ((getK M k).ver.n + 1) z))), (2, .slice ao l.length cap)] rfl _ (bdI012 k (mkV ((getK M k).ver.n + 1) z) ao cap l _)) ?_
  refine nr ?_; intro U h; simp only [z0, z1] at h; subst h
  refine jU 11 rfl rfl 56 rfl _ zeroIt (itA zM) rfl ?_
  intro w5 g4 G eg4 kg4
  have bg4 := jO GG eg4
  have dvpg4 := jH kvp eg4
  have dg1g4 := jH kg1 eg4
  have dg2g4 := jH kg2 eg4
  have dg3g4 := jH kg3 eg4
  have dGAg4 := GA.ne eg4
  replace kvp := G.has kvp
  replace kg1 := G.has kg1
  replace kg2 := G.has kg2
  replace kg3 := G.has kg3
  replace GA := GA.gro G
  replace GG := GG.tg G
  clear G
  clear eg4
  refine nr ?_; intro U h; simp only [z0, z1] at h; subst h
  refine jt rfl rfl 56 _ _ rfl g4 0 rfl (.agg (itA (mkI k (mkV ((getK M k).ver.n + 1) z) ao cap l))) rfl 56 _ kg4 (itA (mkI k (mkV ((getK M k).ver.n + 1) z) ao cap l)) rfl (siIt' _) (jT _ _) (jQ _) (itA (mkI k (mkV ((getK M k).ver.n + 1) z) ao cap l)) (jm _ _ (jZ _ _)) ?_
  intro w6 St
  replace kvp := St.has (by omega) kvp
  replace kg1 := St.has (by omega) kg1
  replace kg2 := St.has (by omega) kg2
  replace kg3 := St.has (by omega) kg3
  replace GA := GA.st St dGAg4
  replace GG := GG.st St (.inl bg4)
  replace kg4 := St.new
  clear St
  refine qL (qE (qS ?_))
  refine ja 38 rfl rfl (vP vp 0) (rfl) ?_
  refine ja 39 rfl rfl (.agg (itA (mkI k (mkV ((getK M k).ver.n + 1) z) ao cap l))) (ldIt0 _ rfl g4 rfl (kg4)) ?_
  refine nr ?_; intro U h; simp only [z0, z1] at h; subst h
  refine jx 40 rfl rfl _ 55 Try.call55 rfl rfl _ rfl [vP vp 0, .agg (itA (mkI k (mkV ((getK M k).ver.n + 1) z) ao cap l))] rfl (Jf (g3 :: U) _ vp lp p sg mb n L pw dn h dw inc M (H.cons GA bg3 (ji kg3)) (mkI k (mkV ((getK M k).ver.n + 1) z) ao cap l) (Zq hk (Jp hI hz)) (by show 1 ≤ (getK M k).n + 1; omega) (by show (getK M k).n + 1 ≤ 4611686018427387903; omega) hl (HX.cons GA bg3) rs err L2 pw2 h2 dw2 rs2 HO SA hd1 hd2) (by rintro _ _ ⟨_, _, he, _, _, _, _, _⟩; exact ⟨_, he⟩) ?_
  rintro v w7 ⟨dn2, M2, he, G, HV2, hd3, hd4, hres⟩
  cases he
  replace GG := GG.trans G
  have hlt : ∀ k, k ∈ [vp, lp, p, sg, mb] → k < w.heap.size := fun k hk => H.lt k (H.sub k hk)
  replace kg1 := G.has kg1 (fun hm => by have := hlt _ hm; omega)
  replace kg2 := G.has kg2 (fun hm => by have := hlt _ hm; omega)
  replace kg3 := G.has kg3 (fun hm => by have := hlt _ hm; omega)
  replace kg4 := G.has kg4 (fun hm => by have := hlt _ hm; omega)
  have HXn := (HX.cons GA bg3).gros (G.mono (fun k hk => List.mem_cons_of_mem _ (H.sub k hk)))
  clear kvp
  have dHV2g3 : g3 ∈ g3 :: U ∧ g3 ∉ [vp, lp, p, sg, mb] := ⟨List.mem_cons_self, fun hm => by have := hlt _ hm; omega⟩
  have hBd := HV2.bd
  refine nr ?_; intro U h; simp only [z0, z1] at h; subst h
  refine ja 12 rfl rfl (iK err) (rfl) ?_
  refine nr ?_; intro U h; simp only [z0, z1] at h; subst h
  refine qA ?_
  refine ja 41 rfl rfl (iK err) (rfl) ?_
  refine ja 42 rfl rfl (vT) (jh 26 .i64 _ _ _ rfl Try.underlying26 err 0 rfl rfl true t3 _) ?_
  refine nr ?_; intro U h; simp only [z0, z1] at h; subst h
  refine qL (qT rfl (qS ?_))
  refine ja 43 rfl rfl (.agg (itA zM)) (jN 56 _ rfl [] rfl _ (bdI0 _)) ?_
  refine ja 44 rfl rfl (iK err) (rfl) ?_
  refine nr ?_; intro U h; simp only [z0, z1] at h; subst h
  refine jt rfl rfl 56 _ _ rfl g3 0 rfl (.agg (itA zM)) rfl 56 _ kg3 (itA zM) rfl (siIt' _) (jT _ _) (jQ _) (itA zM) (jm _ _ (jZ _ _)) ?_
  intro w8 St
  replace kg1 := St.has (by omega) kg1
  replace kg2 := St.has (by omega) kg2
  replace kg4 := St.has (by omega) kg4
  replace HV2 := HV2.st St dHV2g3
  clear HXn
  replace GG := GG.st St (.inl bg3)
  replace kg3 := St.new
  clear St
  refine ja 9 rfl rfl (iK err) (rfl) ?_
  refine nr ?_; intro U h; simp only [z0, z1] at h; subst h
  refine qL (qR (jr ?_))
  refine bodyPost_ret (za Try.results28 _ _ g3 56 _ (0, 0) _ rfl (iK err) rfl kg3 Try.underlying56 rfl (siIt' _)) rfl ?_
  rcases hres with ⟨e0, _⟩ | ⟨_, rfl⟩
  exact absurd e0 he1
  exact .inl ⟨he1, dn2, rfl, GG, HV2.tail H.sub, hd3, hd4⟩
theorem QN (U : List Nat) (w : World) (vp lp p sg mb n : Nat) (L : List Nat) (pw dn : Int) (h : Hd) (dw : Bool) (inc : Int) (M : List (Nat × IM)) (H : VK U w vp lp p sg mb n L pw dn h dw inc M) (x : IM) (hx : x.ok) (hn1 : 1 ≤ x.n) (hn2 : x.n ≤ 4611686018427387903) (hl : x.val.length ≤ 64) (hq : isN M x = false) : Calls Try.prog 29 #[vP vp 0, .agg (itA x)] w (fun e w' => e = .returned (.tuple #[vF, iK 0]) ∧ Gro w w') := by
  have t1 : decide (x.n < 1) = false := decide_eq_false (by omega)
  have t2 : decide (4611686018427387903 < x.n) = false := decide_eq_false (by omega)
  have t3 : decide ((64 : Int) < ((x.val.length : Nat) : Int)) = false := decide_eq_false (by omega)
  refine js Try.func29 rfl Try.ntmps29 [vP vp 0, .agg (itA x)] [vP vp 0, .agg (itA x), uD, uD, uD, uD, uD, uD, uD, uD, uD, uD, uD, uD, uD, uD, uD, uD, uD, uD, uD, uD, uD, uD, uD, uD, uD, uD, uD, uD, uD, uD, uD, uD, uD, uD, uD, uD] rfl ?_
  have GG := Gro.refl w
  have GA := Gro.refl w
  have kvp := H.vb.box
  refine qS ?_
  refine zw 3 rfl rfl 56 _ rfl _ rfl (itA x) rfl ?_
  intro w1 g1 G eg1 kg1
  have bg1 := jk GG eg1
  replace kvp := G.has kvp
  replace GA := GA.gro G
  replace GG := GG.trans G
  clear G
  clear eg1
  refine nr ?_; intro U h; simp only [z0, z1] at h; subst h
  refine ja 4 rfl rfl (vF) (rfl) ?_
  refine ja 5 rfl rfl (iK 0) (rfl) ?_
  refine nr ?_; intro U h; simp only [z0, z1] at h; subst h
  refine qL (qE (qB (qE ?_)))
  refine jj ?_
  intro OPS hY
  have y2 := hY 2 10 rfl
  have y8 := hY 8 16 rfl
  clear hY
  refine ja 8 rfl rfl (vP vp 0) (rfl) ?_
  refine ja 9 rfl rfl (vF) (zg 37 _ _ _ rfl _ rfl rfl Try.underlying37 _) ?_
  refine ja 10 rfl rfl (vF) (rfl) ?_
  refine je 11 rfl rfl y2 rfl (vP g1 16) (jf 56 _ 1 rfl g1 0 rfl 16 (by kernel_rfl)) ?_
  refine je 12 rfl rfl y2 rfl (vP g1 16) (jf 54 _ 0 rfl g1 16 rfl 16 (by kernel_rfl)) ?_
  refine je 13 rfl rfl y2 rfl (iK x.n) (ldItn _ rfl g1 rfl (kg1)) ?_
  refine je 14 rfl rfl y2 rfl (vF) (jE 2 _ _ _ rfl x.n 1 rfl rfl false t1 _) ?_
  refine ja 15 rfl rfl (vF) (rfl) ?_
  refine ja 16 rfl rfl (vF) (rfl) ?_
  refine je 17 rfl rfl y8 rfl (vP g1 16) (jf 56 _ 1 rfl g1 0 rfl 16 (by kernel_rfl)) ?_
  refine je 18 rfl rfl y8 rfl (vP g1 16) (jf 54 _ 0 rfl g1 16 rfl 16 (by kernel_rfl)) ?_
  refine je 19 rfl rfl y8 rfl (iK x.n) (ldItn _ rfl g1 rfl (kg1)) ?_
  refine je 20 rfl rfl y8 rfl (vF) (jJ 2 _ _ _ rfl x.n 4611686018427387903 rfl rfl false t2 _) ?_
  refine nr ?_; intro U h; simp only [z0, z1] at h; subst h
  refine ja 21 rfl rfl (vF) (rfl) ?_
  refine ja 7 rfl rfl (vF) (rfl) ?_
  refine nr ?_; intro U h; simp only [z0, z1] at h; subst h
  refine qL (qF rfl (qS ?_))
  refine ja 23 rfl rfl (vP g1 33) (jf 56 _ 2 rfl g1 0 rfl 33 (by kernel_rfl)) ?_
  refine ja 24 rfl rfl (.slice x.ao x.val.length x.cap) (ldItr _ rfl g1 rfl (kg1)) ?_
  refine ja 25 rfl rfl (nK x.val.length) (jA Try.underlying30 _ rfl _ _ _ rfl _) ?_
  refine ja 26 rfl rfl (vF) (jJ 3 _ _ _ rfl ((x.val.length : Nat) : Int) 64 rfl rfl false t3 _) ?_
  refine ja 22 rfl rfl (vF) (rfl) ?_
  refine nr ?_; intro U h; simp only [z0, z1] at h; subst h
  refine qL (qF rfl (qS ?_))
  refine ja 28 rfl rfl (vP vp 0) (rfl) ?_
  refine ja 29 rfl rfl (.agg (itA x)) (ldIt0 _ rfl g1 rfl (kg1)) ?_
  refine nr ?_; intro U h; simp only [z0, z1] at h; subst h
  refine jy 30 rfl rfl _ 56 Try.call56 rfl rfl _ rfl [vP vp 0, .agg (itA x)] rfl (Calls.bool (vm _ vp lp mb _ M (H.vb.gro GA) x hx) hq) ?_
  intro w2 G
  replace kvp := G.has kvp
  replace kg1 := G.has kg1
  replace GA := GA.gro G
  replace GG := GG.trans G
  clear G
  refine nr ?_; intro U h; simp only [z0, z1] at h; subst h
  refine ja 31 rfl rfl (vT) (zi _ _ rfl false rfl) ?_
  refine ja 27 rfl rfl (vT) (rfl) ?_
  refine nr ?_; intro U h; simp only [z0, z1] at h; subst h
  refine qL (qT rfl (qS ?_))
  refine ja 4 rfl rfl (vF) (rfl) ?_
  refine ja 5 rfl rfl (iK 0) (rfl) ?_
  refine nr ?_; intro U h; simp only [z0, z1] at h; subst h
  refine qL (qR (zk (jr ?_)))
  refine bodyPost_ret (results_tmp2 Try.results29 _ _ _) rfl ?_
  exact ⟨rfl, GG⟩
def MergeP (U : List Nat) (w : World) (vp lp p sg mb n : Nat) (dn : Int) (inc : Int) (M : List (Nat × IM)) (x : IM) (err : Int) (L2 : List Nat) (pw2 : Int) (h2 : Hd) (dw2 : Bool) (e : Ending) (w' : World) : Prop :=
  (err ≠ 0 ∧ ∃ dn', e = .returned (.tuple #[.bool false, .int .i64 err]) ∧ GroS [vp, lp, p, sg, mb] w w' ∧ VK U w' vp lp p sg mb n L2 pw2 dn' h2 dw2 inc M ∧ dn ≤ dn' ∧ dn' ≤ dn + 20) ∨
  (err = 0 ∧ ∃ dn' ao3 cap3, e = .returned (.tuple #[.bool true, .int .i64 0]) ∧ GroS [vp, lp, p, sg, mb] w w' ∧ VK U w' vp lp p sg mb n L2 pw2 dn' h2 dw2 inc (putM M x.key (x.re ao3 cap3)) ∧ dn ≤ dn' ∧ dn' ≤ dn + 20)
theorem jar (U : List Nat) (w : World) (vp lp p sg mb n : Nat) (L : List Nat) (pw dn : Int) (h : Hd) (dw : Bool) (inc : Int) (M : List (Nat × IM)) (H : VK U w vp lp p sg mb n L pw dn h dw inc M) (x : IM) (hx : x.ok) (hn1 : 1 ≤ x.n) (hn2 : x.n ≤ 4611686018427387903) (hl : x.val.length ≤ 64) (hq : isN M x = true) (HX : BS U w x.ao x.cap x.val) (rs : List (List Nat)) (err : Int) (L2 : List Nat) (pw2 : Int) (h2 : Hd) (dw2 : Bool) (rs2 : List (List Nat)) (HO : Out n L pw h dw rs (formV x.it) err L2 pw2 h2 dw2 rs2) (SA : SideA n L pw h dw (formV x.it) err L2 pw2 h2 dw2) (hd1 : 0 ≤ dn) (hd2 : dn < 9223372036854760000) : Calls Try.prog 29 #[vP vp 0, .agg (itA x)] w (MergeP U w vp lp p sg mb n dn inc M x err L2 pw2 h2 dw2) := by
  have t1 : decide (x.n < 1) = false := decide_eq_false (by omega)
  have t2 : decide (4611686018427387903 < x.n) = false := decide_eq_false (by omega)
  have t3 : decide ((64 : Int) < ((x.val.length : Nat) : Int)) = false := decide_eq_false (by omega)
  rcases HO.res with ⟨rfl, hrs⟩ | ⟨he1, hrs⟩
  clear hrs
  refine js Try.func29 rfl Try.ntmps29 [vP vp 0, .agg (itA x)] [vP vp 0, .agg (itA x), uD, uD, uD, uD, uD, uD, uD, uD, uD, uD, uD, uD, uD, uD, uD, uD, uD, uD, uD, uD, uD, uD, uD, uD, uD, uD, uD, uD, uD, uD, uD, uD, uD, uD, uD, uD] rfl ?_
  have GG := GroS.refl [vp, lp, p, sg, mb] w
  have GA := Gro.refl w
  have kvp := H.vb.box
  refine qS ?_
  refine zw 3 rfl rfl 56 _ rfl _ rfl (itA x) rfl ?_
  intro w1 g1 G eg1 kg1
  have bg1 := jO GG eg1
  replace kvp := G.has kvp
  replace GA := GA.gro G
  replace GG := GG.tg G
  clear G
  clear eg1
  refine nr ?_; intro U h; simp only [z0, z1] at h; subst h
  refine ja 4 rfl rfl (vF) (rfl) ?_
  refine ja 5 rfl rfl (iK 0) (rfl) ?_
  refine nr ?_; intro U h; simp only [z0, z1] at h; subst h
  refine qL (qE (qB (qE ?_)))
  refine jj ?_
  intro OPS hY
  have y2 := hY 2 10 rfl
  have y8 := hY 8 16 rfl
  clear hY
  refine ja 8 rfl rfl (vP vp 0) (rfl) ?_
  refine ja 9 rfl rfl (vF) (zg 37 _ _ _ rfl _ rfl rfl Try.underlying37 _) ?_
  refine ja 10 rfl rfl (vF) (rfl) ?_
  refine je 11 rfl rfl y2 rfl (vP g1 16) (jf 56 _ 1 rfl g1 0 rfl 16 (by kernel_rfl)) ?_
  refine je 12 rfl rfl y2 rfl (vP g1 16) (jf 54 _ 0 rfl g1 16 rfl 16 (by kernel_rfl)) ?_
  refine je 13 rfl rfl y2 rfl (iK x.n) (ldItn _ rfl g1 rfl (kg1)) ?_
  refine je 14 rfl rfl y2 rfl (vF) (jE 2 _ _ _ rfl x.n 1 rfl rfl false t1 _) ?_
  refine ja 15 rfl rfl (vF) (rfl) ?_
  refine ja 16 rfl rfl (vF) (rfl) ?_
  refine je 17 rfl rfl y8 rfl (vP g1 16) (jf 56 _ 1 rfl g1 0 rfl 16 (by kernel_rfl)) ?_
  refine je 18 rfl rfl y8 rfl (vP g1 16) (jf 54 _ 0 rfl g1 16 rfl 16 (by kernel_rfl)) ?_
  refine je 19 rfl rfl y8 rfl (iK x.n) (ldItn _ rfl g1 rfl (kg1)) ?_
  refine je 20 rfl rfl y8 rfl (vF) (jJ 2 _ _ _ rfl x.n 4611686018427387903 rfl rfl false t2 _) ?_
  refine nr ?_; intro U h; simp only [z0, z1] at h; subst h
  refine ja 21 rfl rfl (vF) (rfl) ?_
  refine ja 7 rfl rfl (vF) (rfl) ?_
  refine nr ?_; intro U h; simp only [z0, z1] at h; subst h
  refine qL (qF rfl (qS ?_))
  refine ja 23 rfl rfl (vP g1 33) (jf 56 _ 2 rfl g1 0 rfl 33 (by kernel_rfl)) ?_
  refine ja 24 rfl rfl (.slice x.ao x.val.length x.cap) (ldItr _ rfl g1 rfl (kg1)) ?_
  refine ja 25 rfl rfl (nK x.val.length) (jA Try.underlying30 _ rfl _ _ _ rfl _) ?_
  refine ja 26 rfl rfl (vF) (jJ 3 _ _ _ rfl ((x.val.length : Nat) : Int) 64 rfl rfl false t3 _) ?_
  refine ja 22 rfl rfl (vF) (rfl) ?_
  refine nr ?_; intro U h; simp only [z0, z1] at h; subst h
  refine qL (qF rfl (qS ?_))
  refine ja 28 rfl rfl (vP vp 0) (rfl) ?_
  refine ja 29 rfl rfl (.agg (itA x)) (ldIt0 _ rfl g1 rfl (kg1)) ?_
  refine nr ?_; intro U h; simp only [z0, z1] at h; subst h
  refine jy 30 rfl rfl _ 56 Try.call56 rfl rfl _ rfl [vP vp 0, .agg (itA x)] rfl (Calls.bool (vm _ vp lp mb _ M (H.vb.gro GA) x hx) hq) ?_
  intro w2 G
  replace kvp := G.has kvp
  replace kg1 := G.has kg1
  replace GA := GA.gro G
  replace GG := GG.tg G
  clear G
  refine nr ?_; intro U h; simp only [z0, z1] at h; subst h
  refine ja 31 rfl rfl (vF) (zi _ _ rfl true rfl) ?_
  refine ja 27 rfl rfl (vF) (rfl) ?_
  refine nr ?_; intro U h; simp only [z0, z1] at h; subst h
  refine qL (qF rfl (wp_skip (zh (jG (qS ?_)))))
  refine ja 32 rfl rfl (vP vp 0) (rfl) ?_
  refine ja 33 rfl rfl (.agg (itA x)) (ldIt0 _ rfl g1 rfl (kg1)) ?_
  refine nr ?_; intro U h; simp only [z0, z1] at h; subst h
  refine jx 34 rfl rfl _ 55 Try.call55 rfl rfl _ rfl [vP vp 0, .agg (itA x)] rfl (Jf U _ vp lp p sg mb n L pw dn h dw inc M (H.gro GA) x hx hn1 hn2 hl (HX.gro GA) rs 0 L2 pw2 h2 dw2 rs2 HO SA hd1 hd2) (by rintro _ _ ⟨_, _, he, _, _, _, _, _⟩; exact ⟨_, he⟩) ?_
  rintro v w3 ⟨dn2, M2, he, G, HV2, hd3, hd4, hres⟩
  cases he
  replace GG := GG.trans G
  clear kvp GA
  refine nr ?_; intro U h; simp only [z0, z1] at h; subst h
  refine ja 6 rfl rfl (iK 0) (rfl) ?_
  refine nr ?_; intro U h; simp only [z0, z1] at h; subst h
  refine qA ?_
  refine ja 35 rfl rfl (iK 0) (rfl) ?_
  refine ja 36 rfl rfl (vT) (jB 26 .i64 _ _ _ rfl Try.underlying26 0 0 rfl rfl true (decide_eq_true rfl) _) ?_
  refine ja 37 rfl rfl (iK 0) (rfl) ?_
  refine ja 4 rfl rfl (vT) (rfl) ?_
  refine ja 5 rfl rfl (iK 0) (rfl) ?_
  refine nr ?_; intro U h; simp only [z0, z1] at h; subst h
  refine qL (qR ?_)
  refine bodyPost_ret (results_tmp2 Try.results29 _ _ _) rfl ?_
  rcases hres with ⟨_, ao3, cap3, rfl⟩ | ⟨e0, _⟩
  exact .inr ⟨rfl, dn2, ao3, cap3, rfl, GG, HV2, hd3, hd4⟩
  exact absurd rfl e0
  clear hrs
  have t5 : decide (err = 0) = false := decide_eq_false he1
  refine js Try.func29 rfl Try.ntmps29 [vP vp 0, .agg (itA x)] [vP vp 0, .agg (itA x), uD, uD, uD, uD, uD, uD, uD, uD, uD, uD, uD, uD, uD, uD, uD, uD, uD, uD, uD, uD, uD, uD, uD, uD, uD, uD, uD, uD, uD, uD, uD, uD, uD, uD, uD, uD] rfl ?_
  have GG := GroS.refl [vp, lp, p, sg, mb] w
  have GA := Gro.refl w
  have kvp := H.vb.box
  refine qS ?_
  refine zw 3 rfl rfl 56 _ rfl _ rfl (itA x) rfl ?_
  intro w1 g1 G eg1 kg1
  have bg1 := jO GG eg1
  replace kvp := G.has kvp
  replace GA := GA.gro G
  replace GG := GG.tg G
  clear G
  clear eg1
  refine nr ?_; intro U h; simp only [z0, z1] at h; subst h
  refine ja 4 rfl rfl (vF) (rfl) ?_
  refine ja 5 rfl rfl (iK 0) (rfl) ?_
  refine nr ?_; intro U h; simp only [z0, z1] at h; subst h
  refine qL (qE (qB (qE ?_)))
  refine jj ?_
  intro OPS hY
  have y2 := hY 2 10 rfl
  have y8 := hY 8 16 rfl
  clear hY
  refine ja 8 rfl rfl (vP vp 0) (rfl) ?_
  refine ja 9 rfl rfl (vF) (zg 37 _ _ _ rfl _ rfl rfl Try.underlying37 _) ?_
  refine ja 10 rfl rfl (vF) (rfl) ?_
  refine je 11 rfl rfl y2 rfl (vP g1 16) (jf 56 _ 1 rfl g1 0 rfl 16 (by kernel_rfl)) ?_
  refine je 12 rfl rfl y2 rfl (vP g1 16) (jf 54 _ 0 rfl g1 16 rfl 16 (by kernel_rfl)) ?_
  refine je 13 rfl rfl y2 rfl (iK x.n) (ldItn _ rfl g1 rfl (kg1)) ?_
  refine je 14 rfl rfl y2 rfl (vF) (jE 2 _ _ _ rfl x.n 1 rfl rfl false t1 _) ?_
  refine ja 15 rfl rfl (vF) (rfl) ?_
  refine ja 16 rfl rfl (vF) (rfl) ?_
  refine je 17 rfl rfl y8 rfl (vP g1 16) (jf 56 _ 1 rfl g1 0 rfl 16 (by kernel_rfl)) ?_
  refine je 18 rfl rfl y8 rfl (vP g1 16) (jf 54 _ 0 rfl g1 16 rfl 16 (by kernel_rfl)) ?_
  refine je 19 rfl rfl y8 rfl (iK x.n) (ldItn _ rfl g1 rfl (kg1)) ?_
  refine je 20 rfl rfl y8 rfl (vF) (jJ 2 _ _ _ rfl x.n 4611686018427387903 rfl rfl false t2 _) ?_
  refine nr ?_; intro U h; simp only [z0, z1] at h; subst h
  refine ja 21 rfl rfl (vF) (rfl) ?_
  refine ja 7 rfl rfl (vF) (rfl) ?_
  refine nr ?_; intro U h; simp only [z0, z1] at h; subst h
  refine qL (qF rfl (qS ?_))
  refine ja 23 rfl rfl (vP g1 33) (jf 56 _ 2 rfl g1 0 rfl 33 (by kernel_rfl)) ?_
  refine ja 24 rfl rfl (.slice x.ao x.val.length x.cap) (ldItr _ rfl g1 rfl (kg1)) ?_
  refine ja 25 rfl rfl (nK x.val.length) (jA Try.underlying30 _ rfl _ _ _ rfl _) ?_
  refine ja 26 rfl rfl (vF) (jJ 3 _ _ _ rfl ((x.val.length : Nat) : Int) 64 rfl rfl false t3 _) ?_
  refine ja 22 rfl rfl (vF) (rfl) ?_
  refine nr ?_; intro U h; simp only [z0, z1] at h; subst h
  refine qL (qF rfl (qS ?_))
  refine ja 28 rfl rfl (vP vp 0) (rfl) ?_
  refine ja 29 rfl rfl (.agg (itA x)) (ldIt0 _ rfl g1 rfl (kg1)) ?_
  refine nr ?_; intro U h; simp only [z0, z1] at h; subst h
  refine jy 30 rfl rfl _ 56 Try.call56 rfl rfl _ rfl [vP vp 0, .agg (itA x)] rfl (Calls.bool (vm _ vp lp mb _ M (H.vb.gro GA) x hx) hq) ?_
  intro w2 G
  replace kvp := G.has kvp
  replace kg1 := G.has kg1
  replace GA := GA.gro G
  replace GG := GG.tg G
  clear G
  refine nr ?_; intro U h; simp only [z0, z1] at h; subst h
  refine ja 31 rfl rfl (vF) (zi _ _ rfl true rfl) ?_
  refine ja 27 rfl rfl (vF) (rfl) ?_
  refine nr ?_; intro U h; simp only [z0, z1] at h; subst h
  refine qL (qF rfl (wp_skip (zh (jG (qS ?_)))))
  refine ja 32 rfl rfl (vP vp 0) (rfl) ?_
  refine ja 33 rfl rfl (.agg (itA x)) (ldIt0 _ rfl g1 rfl (kg1)) ?_
  refine nr ?_; intro U h; simp only [z0, z1] at h; subst h
  refine jx 34 rfl rfl _ 55 Try.call55 rfl rfl _ rfl [vP vp 0, .agg (itA x)] rfl (Jf U _ vp lp p sg mb n L pw dn h dw inc M (H.gro GA) x hx hn1 hn2 hl (HX.gro GA) rs err L2 pw2 h2 dw2 rs2 HO SA hd1 hd2) (by rintro _ _ ⟨_, _, he, _, _, _, _, _⟩; exact ⟨_, he⟩) ?_
  rintro v w3 ⟨dn2, M2, he, G, HV2, hd3, hd4, hres⟩
  cases he
  replace GG := GG.trans G
  clear kvp GA
  refine nr ?_; intro U h; simp only [z0, z1] at h; subst h
  refine ja 6 rfl rfl (iK err) (rfl) ?_
  refine nr ?_; intro U h; simp only [z0, z1] at h; subst h
  refine qA ?_
  refine ja 35 rfl rfl (iK err) (rfl) ?_
  refine ja 36 rfl rfl (vF) (jB 26 .i64 _ _ _ rfl Try.underlying26 err 0 rfl rfl false t5 _) ?_
  refine ja 37 rfl rfl (iK err) (rfl) ?_
  refine ja 4 rfl rfl (vF) (rfl) ?_
  refine ja 5 rfl rfl (iK err) (rfl) ?_
  refine nr ?_; intro U h; simp only [z0, z1] at h; subst h
  refine qL (qR ?_)
  refine bodyPost_ret (results_tmp2 Try.results29 _ _ _) rfl ?_
  rcases hres with ⟨e0, _⟩ | ⟨_, rfl⟩
  exact absurd e0 he1
  exact .inl ⟨he1, dn2, rfl, GG, HV2, hd3, hd4⟩
end Go.Proofs.Ytgfnjekpafempaa
