import Derived.Test.YtgfnjekpafempaaGreatBV4
import Derived.Test.YtgfnjekpafempaaGreatBAb
namespace Go.Proofs.YtgfnjekpafempaaGreat
open Go.Proofs.Tryz
set_option maxHeartbeats 4000000
set_option maxRecDepth 100000
open Go.RowKit
theorem jcx (U : List Nat) (w : World) (vp lp p sg mb n : Nat) (L : List Nat) (pw dn : Int) (h : Hd) (dw : Bool) (inc : Int) (M : List (Nat × IM)) (H : VK U w vp lp p sg mb n L pw dn h dw inc M) (k : Nat) (ao : Option Addr) (cap : Nat) (l : List Nat) (z : Nat) (hl : 64 < l.length) : Calls Tryz.prog 11 #[vP vp 0, .agg (idA k), .slice ao l.length cap, .agg (idA z)] w (fun e w' => e = .returned (.tuple #[.agg (itA zM), iK 4]) ∧ Gro w w') := by
  have t1 : decide ((64 : Int) < ((l.length : Nat) : Int)) = true := decide_eq_true (by omega)
  refine eN func11 rfl ntmps11 [vP vp 0, eA k, .slice ao l.length cap, eA z] ?_
  have GG := Gro.refl w
  have GA := Gro.refl w
  have kvp := H.vb.box
  refine qS ?_
  refine jW 5 rfl rfl 38 _ rfl _ rfl (idA k) rfl ?_
  intro w1 g1 G eg1 kg1
  have bg1 := jh GG eg1
  replace kvp := G.has kvp
  replace GA := GA.gro G
  replace GG := GG.trans G
  clear G
  clear eg1
  refine nq ?_
  refine jW 7 rfl rfl 38 _ rfl _ rfl (idA z) rfl ?_
  intro w2 g2 G eg2 kg2
  have bg2 := jh GG eg2
  replace kvp := G.has kvp
  replace kg1 := G.has kg1
  replace GA := GA.gro G
  replace GG := GG.trans G
  clear G
  clear eg2
  refine nq ?_
  refine jH 8 rfl rfl 42 rfl _ zeroIt (itA zM) rfl ?_
  intro w3 g3 G eg3 kg3
  have bg3 := jh GG eg3
  have dvpg3 := jn kvp eg3
  have dg1g3 := jn kg1 eg3
  have dg2g3 := jn kg2 eg3
  have dGAg3 := GA.ne eg3
  replace kvp := G.has kvp
  replace kg1 := G.has kg1
  replace kg2 := G.has kg2
  replace GA := GA.gro G
  replace GG := GG.trans G
  clear G
  clear eg3
  refine nq ?_
  refine mv (iK 0) rfl (nq ?_)
  refine qL (qE (qE (qG (mv (vP vp 0) rfl (sv (vF) (jT 30 _ _ _ rfl _ rfl rfl underlying30 _) rfl (nq ?_))))))
  refine qL (qF rfl (qK (qE (qE (qG (mv (.slice ao l.length cap) rfl (sv (nK l.length) (js underlying27 _ rfl _ _ _ rfl _) rfl (sv (vT) (jy 3 _ _ _ rfl ((l.length : Nat) : Int) 64 rfl rfl true t1 _) rfl (nq ?_)))))))))
  refine qL (qT rfl (qE (qG (sv (iA zM) (jK 42 _ rfl [] rfl _ (bdI0 _)) rfl (nq ?_)))))
  refine stI zM rfl rfl rfl kg3 rfl ?_
  intro w4 St
  replace kvp := St.has (by omega) kvp
  replace kg1 := St.has (by omega) kg1
  replace kg2 := St.has (by omega) kg2
  replace GA := GA.st St dGAg3
  replace GG := GG.store St bg3
  replace kg3 := St.new
  clear St
  refine mv (iK 4) rfl (nq ?_)
  refine qL (qR (jm ?_))
  refine bodyPost_ret (jJ results11 _ _ g3 42 _ (0, 0) _ rfl (iK 4) rfl kg3 underlying42 rfl (siIt' _)) rfl ?_
  exact ⟨rfl, GG⟩
theorem jcz (U : List Nat) (w : World) (vp lp p sg mb n : Nat) (L : List Nat) (pw dn : Int) (h : Hd) (dw : Bool) (inc : Int) (M : List (Nat × IM)) (H : VK U w vp lp p sg mb n L pw dn h dw inc M) (k : Nat) (hk : k < top) (ao : Option Addr) (cap : Nat) (l : List Nat) (z : Nat) (hl : l.length ≤ 64) (hf : (getK M k).n = 4611686018427387903) : Calls Tryz.prog 11 #[vP vp 0, .agg (idA k), .slice ao l.length cap, .agg (idA z)] w (fun e w' => e = .returned (.tuple #[.agg (itA zM), iK 5]) ∧ Gro w w') := by
  have t1 : decide ((64 : Int) < ((l.length : Nat) : Int)) = false := decide_eq_false (by omega)
  have t2 : decide ((getK M k).ver.n = 4611686018427387903) = true := decide_eq_true hf
  refine eN func11 rfl ntmps11 [vP vp 0, eA k, .slice ao l.length cap, eA z] ?_
  have GG := Gro.refl w
  have GA := Gro.refl w
  have kvp := H.vb.box
  refine qS ?_
  refine jW 5 rfl rfl 38 _ rfl _ rfl (idA k) rfl ?_
  intro w1 g1 G eg1 kg1
  have bg1 := jh GG eg1
  replace kvp := G.has kvp
  replace GA := GA.gro G
  replace GG := GG.trans G
  clear G
  clear eg1
  refine nq ?_
  refine jW 7 rfl rfl 38 _ rfl _ rfl (idA z) rfl ?_
  intro w2 g2 G eg2 kg2
  have bg2 := jh GG eg2
  replace kvp := G.has kvp
  replace kg1 := G.has kg1
  replace GA := GA.gro G
  replace GG := GG.trans G
  clear G
  clear eg2
  refine nq ?_
  refine jH 8 rfl rfl 42 rfl _ zeroIt (itA zM) rfl ?_
  intro w3 g3 G eg3 kg3
  have bg3 := jh GG eg3
  have dvpg3 := jn kvp eg3
  have dg1g3 := jn kg1 eg3
  have dg2g3 := jn kg2 eg3
  have dGAg3 := GA.ne eg3
  replace kvp := G.has kvp
  replace kg1 := G.has kg1
  replace kg2 := G.has kg2
  replace GA := GA.gro G
  replace GG := GG.trans G
  clear G
  clear eg3
  refine nq ?_
  refine mv (iK 0) rfl (nq ?_)
  refine qL (qE (qE (qG (mv (vP vp 0) rfl (sv (vF) (jT 30 _ _ _ rfl _ rfl rfl underlying30 _) rfl (nq ?_))))))
  refine qL (qF rfl (qK (qE (qE (qG (mv (.slice ao l.length cap) rfl (sv (nK l.length) (js underlying27 _ rfl _ _ _ rfl _) rfl (sv (vF) (jy 3 _ _ _ rfl ((l.length : Nat) : Int) 64 rfl rfl false t1 _) rfl (nq ?_)))))))))
  refine qL (qF rfl (qK (qE ?_)))
  refine exQ 5 [(0, 20), (1, 21), (2, 22), (3, 23), (4, 24)] [.val (vP vp 0), .val (vP vp 0), .val (vP vp 2), .val (.map (some mb)), .val (eA k)] follows (by kernel_rfl) rfl (ja ?_ (ja ?_ (ja ?_ (ja ?_ (ja ?_ jD))))) ?_
  exact fun _ _ _ _ => jf _ rfl rfl rfl
  exact fun _ _ _ _ => jb rfl (jl _ rfl _ rfl)
  exact fun _ _ _ _ => jb rfl (je 78 _ 2 rfl vp 0 rfl 2 (by kernel_rfl))
  exact fun _ _ hw _ => jb rfl (ldVtm _ rfl vp rfl (hw.has kvp))
  exact fun _ _ hw _ => jb rfl (ldI0 _ rfl g1 rfl (hw.has kg1))
  intro ptrs w4 GD hxE
  simp only [List.drop_succ_cons, List.drop_zero]
  replace kvp := GD.has kvp
  replace kg1 := GD.has kg1
  replace kg2 := GD.has kg2
  replace kg3 := GD.has kg3
  replace GA := GA.gro ((Gro.refl _).drew.trans GD)
  replace GG := GG.drew.trans GD
  clear GD
  refine sv (iA (getK M k)) (YW (H.vb.map.gro (GA)) _ _ rfl rfl k rfl hk) rfl (sv (.agg (veA (getK M k).ver)) (YY _ rfl (getK M k) rfl _) rfl (sv (iK (getK M k).ver.n) (YX _ rfl (getK M k).ver rfl _) rfl (mv (iK (getK M k).ver.n) rfl (nq ?_))))
  refine qL (qE (qE (qG (mv (iK (getK M k).ver.n) rfl (sv (vT) (jw 2 .i64 _ _ _ rfl underlying2 (getK M k).ver.n 4611686018427387903 rfl rfl true t2 _) rfl (nq ?_))))))
  refine qL (qT rfl (qE (qG (sv (iA zM) (jK 42 _ rfl [] rfl _ (bdI0 _)) rfl (nq ?_)))))
  refine stI zM rfl rfl rfl kg3 rfl ?_
  intro w5 St
  replace kvp := St.has (by omega) kvp
  replace kg1 := St.has (by omega) kg1
  replace kg2 := St.has (by omega) kg2
  replace GA := GA.st St dGAg3
  replace GG := GG.store St bg3
  replace kg3 := St.new
  clear St
  refine mv (iK 5) rfl (nq ?_)
  refine qL (qR (jm ?_))
  refine bodyPost_ret (jJ results11 _ _ g3 42 _ (0, 0) _ rfl (iK 5) rfl kg3 underlying42 rfl (siIt' _)) rfl ?_
  exact ⟨rfl, GG⟩
def PutP (U : List Nat) (w : World) (vp lp p sg mb n : Nat) (dn : Int) (inc : Int) (M : List (Nat × IM)) (x : IM) (err : Int) (L2 : List Nat) (pw2 : Int) (h2 : Hd) (dw2 : Bool) (e : Ending) (w' : World) : Prop :=
  (err ≠ 0 ∧ ∃ dn', e = .returned (.tuple #[iA zM, .int .i64 err]) ∧ GroS [vp, lp, p, sg, mb] w w' ∧ VK U w' vp lp p sg mb n L2 pw2 dn' h2 dw2 inc M ∧ dn ≤ dn' ∧ dn' ≤ dn + 20) ∨
  (err = 0 ∧ ∃ C dn' ao3 cap3 ao4 cap4, e = .returned (.tuple #[iA (x.re ao4 cap4), .int .i64 0]) ∧ GroS [vp, lp, p, sg, mb] w w' ∧ VK U w' vp lp p sg mb n L2 pw2 dn' h2 dw2 inc (putM M x.key (x.re ao3 cap3)) ∧ (Bd C U (putM M x.key (x.re ao3 cap3)) ∧ w.heap.size ≤ C ∧ Frs w ao3) ∧ OB w' 5 .u8 C ao4 cap4 x.val ∧ dn ≤ dn' ∧ dn' ≤ dn + 20)
theorem Qd (U : List Nat) (w : World) (vp lp p sg mb n : Nat) (L : List Nat) (pw dn : Int) (h : Hd) (dw : Bool) (inc : Int) (M : List (Nat × IM)) (H : VK U w vp lp p sg mb n L pw dn h dw inc M) (k : Nat) (hk : k < top) (ao : Option Addr) (cap : Nat) (l : List Nat) (z : Nat) (hz : z < top) (hl : l.length ≤ 64) (hf : (getK M k).n ≠ 4611686018427387903) (HX : BS U w ao cap l) (rs : List (List Nat)) (err : Int) (L2 : List Nat) (pw2 : Int) (h2 : Hd) (dw2 : Bool) (rs2 : List (List Nat)) (HO : Out n L pw h dw rs (formV (mkI k (mkV ((getK M k).ver.n + 1) z) ao cap l).it) err L2 pw2 h2 dw2 rs2) (SA : SideA n L pw h dw (formV (mkI k (mkV ((getK M k).ver.n + 1) z) ao cap l).it) err L2 pw2 h2 dw2) (hd1 : 0 ≤ dn) (hd2 : dn < 9223372036854760000) : Calls Tryz.prog 11 #[vP vp 0, .agg (idA k), .slice ao l.length cap, .agg (idA z)] w (PutP U w vp lp p sg mb n dn inc M (mkI k (mkV ((getK M k).ver.n + 1) z) ao cap l) err L2 pw2 h2 dw2) := by
  have t1 : decide ((64 : Int) < ((l.length : Nat) : Int)) = false := decide_eq_false (by omega)
  have t2 : decide ((getK M k).ver.n = 4611686018427387903) = false := decide_eq_false hf
  have hgn := getK_n H.mr k
  have hvn : (getK M k).ver.n = (getK M k).n := rfl
  have hf' : (getK M k).n ≠ 4611686018427387903 := hf
  have hI : I64 ((getK M k).ver.n + 1) := ⟨by omega, by omega⟩
  rcases HO.res with ⟨rfl, hrs⟩ | ⟨he1, hrs⟩
  clear hrs
  refine eN func11 rfl ntmps11 [vP vp 0, eA k, .slice ao l.length cap, eA z] ?_
  have GG := GroS.refl [vp, lp, p, sg, mb] w
  have GA := Gro.refl w
  have kvp := H.vb.box
  refine qS ?_
  refine jW 5 rfl rfl 38 _ rfl _ rfl (idA k) rfl ?_
  intro w1 g1 G eg1 kg1
  have bg1 := jN GG eg1
  replace kvp := G.has kvp
  replace GA := GA.gro G
  replace GG := GG.tg G
  clear G
  clear eg1
  refine nq ?_
  refine jW 7 rfl rfl 38 _ rfl _ rfl (idA z) rfl ?_
  intro w2 g2 G eg2 kg2
  have bg2 := jN GG eg2
  replace kvp := G.has kvp
  replace kg1 := G.has kg1
  replace GA := GA.gro G
  replace GG := GG.tg G
  clear G
  clear eg2
  refine nq ?_
  refine jH 8 rfl rfl 42 rfl _ zeroIt (itA zM) rfl ?_
  intro w3 g3 G eg3 kg3
  have bg3 := jN GG eg3
  have dvpg3 := jn kvp eg3
  have dg1g3 := jn kg1 eg3
  have dg2g3 := jn kg2 eg3
  have dGAg3 := GA.ne eg3
  replace kvp := G.has kvp
  replace kg1 := G.has kg1
  replace kg2 := G.has kg2
  replace GA := GA.gro G
  replace GG := GG.tg G
  clear G
  clear eg3
  refine nq ?_
  refine mv (iK 0) rfl (nq ?_)
  refine qL (qE (qE (qG (mv (vP vp 0) rfl (sv (vF) (jT 30 _ _ _ rfl _ rfl rfl underlying30 _) rfl (nq ?_))))))
  refine qL (qF rfl (qK (qE (qE (qG (mv (.slice ao l.length cap) rfl (sv (nK l.length) (js underlying27 _ rfl _ _ _ rfl _) rfl (sv (vF) (jy 3 _ _ _ rfl ((l.length : Nat) : Int) 64 rfl rfl false t1 _) rfl (nq ?_)))))))))
  refine qL (qF rfl (qK (qE ?_)))
  refine exQ 5 [(0, 20), (1, 21), (2, 22), (3, 23), (4, 24)] [.val (vP vp 0), .val (vP vp 0), .val (vP vp 2), .val (.map (some mb)), .val (eA k)] follows (by kernel_rfl) rfl (ja ?_ (ja ?_ (ja ?_ (ja ?_ (ja ?_ jD))))) ?_
  exact fun _ _ _ _ => jf _ rfl rfl rfl
  exact fun _ _ _ _ => jb rfl (jl _ rfl _ rfl)
  exact fun _ _ _ _ => jb rfl (je 78 _ 2 rfl vp 0 rfl 2 (by kernel_rfl))
  exact fun _ _ hw _ => jb rfl (ldVtm _ rfl vp rfl (hw.has kvp))
  exact fun _ _ hw _ => jb rfl (ldI0 _ rfl g1 rfl (hw.has kg1))
  intro ptrs w4 GD hxE
  simp only [List.drop_succ_cons, List.drop_zero]
  replace kvp := GD.has kvp
  replace kg1 := GD.has kg1
  replace kg2 := GD.has kg2
  replace kg3 := GD.has kg3
  replace GA := GA.gro ((Gro.refl _).drew.trans GD)
  replace GG := GG.drew.tg GD
  clear GD
  refine sv (iA (getK M k)) (YW (H.vb.map.gro (GA)) _ _ rfl rfl k rfl hk) rfl (sv (.agg (veA (getK M k).ver)) (YY _ rfl (getK M k) rfl _) rfl (sv (iK (getK M k).ver.n) (YX _ rfl (getK M k).ver rfl _) rfl (mv (iK (getK M k).ver.n) rfl (nq ?_))))
  refine qL (qE (qE (qG (mv (iK (getK M k).ver.n) rfl (sv (vF) (jw 2 .i64 _ _ _ rfl underlying2 (getK M k).ver.n 4611686018427387903 rfl rfl false t2 _) rfl (nq ?_))))))
  refine qL (qF rfl (qK (qE (qG (sv (eA k) (ldI0 _ rfl g1 rfl (kg1)) rfl (mv (iK (getK M k).ver.n) rfl (sv (iK ((getK M k).ver.n + 1)) (jV 2 _ _ _ rfl (getK M k).ver.n 1 ((getK M k).ver.n + 1) rfl rfl (by omega) (by omega) (by omega) _) rfl (sv (eA z) (ldI0 _ rfl g2 rfl (kg2)) rfl (sv (.agg (veA (mkV ((getK M k).ver.n + 1) z))) (jK 40 _ rfl [(0, iK ((getK M k).ver.n + 1)), (1, eA z)] rfl _ (bdV01 ((getK M k).ver.n + 1) z _)) rfl (mv (.slice ao l.length cap) rfl ?_))))))))))
  refine nq ?_
  refine sv (iA (mkI k (mkV ((getK M k).ver.n + 1) z) ao cap l)) (jK 42 _ rfl [(0, eA k), (1, .agg (veA (mkV ((getK M k).ver.n + 1) z))), (2, .slice ao l.length cap)] rfl _ (bdI012 k (mkV ((getK M k).ver.n + 1) z) ao cap l _)) rfl (nq ?_)
  refine jH 11 rfl rfl 42 rfl _ zeroIt (itA zM) rfl ?_
  intro w5 g4 G eg4 kg4
  have bg4 := jN GG eg4
  have dvpg4 := jn kvp eg4
  have dg1g4 := jn kg1 eg4
  have dg2g4 := jn kg2 eg4
  have dg3g4 := jn kg3 eg4
  have dGAg4 := GA.ne eg4
  replace kvp := G.has kvp
  replace kg1 := G.has kg1
  replace kg2 := G.has kg2
  replace kg3 := G.has kg3
  replace GA := GA.gro G
  replace GG := GG.tg G
  clear G
  clear eg4
  refine nq ?_
  refine stI (mkI k (mkV ((getK M k).ver.n + 1) z) ao cap l) rfl rfl rfl kg4 rfl ?_
  intro w6 St
  replace kvp := St.has (by omega) kvp
  replace kg1 := St.has (by omega) kg1
  replace kg2 := St.has (by omega) kg2
  replace kg3 := St.has (by omega) kg3
  replace GA := GA.st St dGAg4
  replace GG := GG.st St (.inl bg4)
  replace kg4 := St.new
  clear St
  refine qL (qE (qE (qG (mv (vP vp 0) rfl (sv (iA (mkI k (mkV ((getK M k).ver.n + 1) z) ao cap l)) (ldIt0 _ rfl g4 rfl (kg4)) rfl (nq ?_))))))
  have bzk := GA.size
  refine jq 40 rfl rfl _ 34 call34 rfl rfl _ rfl [vP vp 0, iA (mkI k (mkV ((getK M k).ver.n + 1) z) ao cap l)] rfl (JC (g3 :: U) _ vp lp p sg mb n L pw dn h dw inc M (H.cons GA bg3 (ji kg3)) (mkI k (mkV ((getK M k).ver.n + 1) z) ao cap l) (vS hk (vr hI hz)) (by show 1 ≤ (getK M k).n + 1; omega) (by show (getK M k).n + 1 ≤ 4611686018427387903; omega) hl (HX.cons GA bg3) rs 0 L2 pw2 h2 dw2 rs2 HO SA hd1 hd2) (by rintro _ _ ⟨_, _, he, _, _, _, _, _⟩; exact ⟨_, he⟩) ?_
  rintro v w7 ⟨dn2, M2, he, G, HV2, hd3, hd4, hres⟩
  cases he
  replace GG := GG.trans G
  have hlt : ∀ k, k ∈ [vp, lp, p, sg, mb] → k < w.heap.size := fun k hk => H.lt k (H.sub k hk)
  replace kg1 := G.has kg1 (fun hm => by have := hlt _ hm; omega)
  replace kg2 := G.has kg2 (fun hm => by have := hlt _ hm; omega)
  replace kg3 := G.has kg3 (fun hm => by have := hlt _ hm; omega)
  replace kg4 := G.has kg4 (fun hm => by have := hlt _ hm; omega)
  have HXn := (HX.cons GA bg3).gros (G.mono (fun k hk => List.mem_cons_of_mem _ (H.sub k hk)))
  clear kvp
  have dHV2g3 : g3 ∈ g3 :: U ∧ g3 ∉ [vp, lp, p, sg, mb] := ⟨List.mem_cons_self, fun hm => by have := hlt _ hm; omega⟩
  have hBd := HV2.bd
  have bzc := GG.size
  refine nq ?_
  refine mv (iK 0) rfl (nq ?_)
  refine qL (qE (qG (mv (iK 0) rfl (sv (vF) (jj 31 .i64 _ _ _ rfl underlying31 0 0 rfl rfl false (decide_eq_true rfl) _) rfl (nq ?_)))))
  refine qL (qF rfl (qK (qE (qG (sv (iA (mkI k (mkV ((getK M k).ver.n + 1) z) ao cap l)) (ldIt0 _ rfl g4 rfl (kg4)) rfl (nq ?_))))))
  refine jq 46 rfl rfl _ 35 call35 rfl rfl _ rfl [iA (mkI k (mkV ((getK M k).ver.n + 1) z) ao cap l)] rfl (vH (mkI k (mkV ((getK M k).ver.n + 1) z) ao cap l) _ HXn.nc (by show l.length ≤ _; omega)) (by rintro _ _ ⟨_, _, he, _, _⟩; exact ⟨_, he⟩) ?_
  rintro v w8 ⟨ao2, cap2, he, G, HO2⟩
  cases he
  have dHO2g3 := HO2.neB (ji kg3)
  replace kg1 := G.has kg1
  replace kg2 := G.has kg2
  replace kg3 := G.has kg3
  replace kg4 := G.has kg4
  replace HV2 := HV2.gro G
  replace HXn := HXn.gro G
  replace GG := GG.tg G
  clear G
  refine nq ?_
  refine stI ((mkI k (mkV ((getK M k).ver.n + 1) z) ao cap l).re ao2 cap2) rfl rfl rfl kg3 rfl ?_
  intro w9 St
  replace kg1 := St.has (by omega) kg1
  replace kg2 := St.has (by omega) kg2
  replace kg4 := St.has (by omega) kg4
  replace HV2 := HV2.st St dHV2g3
  clear HXn
  replace HO2 := HO2.st St dHO2g3
  replace GG := GG.st St (.inl bg3)
  replace kg3 := St.new
  clear St
  refine mv (iK 0) rfl (nq ?_)
  refine qL (qR ?_)
  refine bodyPost_ret (jJ results11 _ _ g3 42 _ (0, 0) _ rfl (iK 0) rfl kg3 underlying42 rfl (siIt' _)) rfl ?_
  rcases hres with ⟨_, ao3, cap3, rfl, hfr⟩ | ⟨e0, _⟩
  exact .inr ⟨rfl, _, dn2, ao3, cap3, _, _, rfl, GG, HV2.tail H.sub, ⟨⟨fun k hk => hBd.1 k (List.mem_cons_of_mem _ hk), hBd.2⟩, bzc, fun ad ha => Nat.le_trans bzk (hfr ad ha)⟩, HO2, hd3, hd4⟩
  exact absurd rfl e0
  clear hrs
  have t3 : decide (err = 0) = false := decide_eq_false he1
  refine eN func11 rfl ntmps11 [vP vp 0, eA k, .slice ao l.length cap, eA z] ?_
  have GG := GroS.refl [vp, lp, p, sg, mb] w
  have GA := Gro.refl w
  have kvp := H.vb.box
  refine qS ?_
  refine jW 5 rfl rfl 38 _ rfl _ rfl (idA k) rfl ?_
  intro w1 g1 G eg1 kg1
  have bg1 := jN GG eg1
  replace kvp := G.has kvp
  replace GA := GA.gro G
  replace GG := GG.tg G
  clear G
  clear eg1
  refine nq ?_
  refine jW 7 rfl rfl 38 _ rfl _ rfl (idA z) rfl ?_
  intro w2 g2 G eg2 kg2
  have bg2 := jN GG eg2
  replace kvp := G.has kvp
  replace kg1 := G.has kg1
  replace GA := GA.gro G
  replace GG := GG.tg G
  clear G
  clear eg2
  refine nq ?_
  refine jH 8 rfl rfl 42 rfl _ zeroIt (itA zM) rfl ?_
  intro w3 g3 G eg3 kg3
  have bg3 := jN GG eg3
  have dvpg3 := jn kvp eg3
  have dg1g3 := jn kg1 eg3
  have dg2g3 := jn kg2 eg3
  have dGAg3 := GA.ne eg3
  replace kvp := G.has kvp
  replace kg1 := G.has kg1
  replace kg2 := G.has kg2
  replace GA := GA.gro G
  replace GG := GG.tg G
  clear G
  clear eg3
  refine nq ?_
  refine mv (iK 0) rfl (nq ?_)
  refine qL (qE (qE (qG (mv (vP vp 0) rfl (sv (vF) (jT 30 _ _ _ rfl _ rfl rfl underlying30 _) rfl (nq ?_))))))
  refine qL (qF rfl (qK (qE (qE (qG (mv (.slice ao l.length cap) rfl (sv (nK l.length) (js underlying27 _ rfl _ _ _ rfl _) rfl (sv (vF) (jy 3 _ _ _ rfl ((l.length : Nat) : Int) 64 rfl rfl false t1 _) rfl (nq ?_)))))))))
  refine qL (qF rfl (qK (qE ?_)))
  refine exQ 5 [(0, 20), (1, 21), (2, 22), (3, 23), (4, 24)] [.val (vP vp 0), .val (vP vp 0), .val (vP vp 2), .val (.map (some mb)), .val (eA k)] follows (by kernel_rfl) rfl (ja ?_ (ja ?_ (ja ?_ (ja ?_ (ja ?_ jD))))) ?_
  exact fun _ _ _ _ => jf _ rfl rfl rfl
  exact fun _ _ _ _ => jb rfl (jl _ rfl _ rfl)
  exact fun _ _ _ _ => jb rfl (je 78 _ 2 rfl vp 0 rfl 2 (by kernel_rfl))
  exact fun _ _ hw _ => jb rfl (ldVtm _ rfl vp rfl (hw.has kvp))
  exact fun _ _ hw _ => jb rfl (ldI0 _ rfl g1 rfl (hw.has kg1))
  intro ptrs w4 GD hxE
  simp only [List.drop_succ_cons, List.drop_zero]
  replace kvp := GD.has kvp
  replace kg1 := GD.has kg1
  replace kg2 := GD.has kg2
  replace kg3 := GD.has kg3
  replace GA := GA.gro ((Gro.refl _).drew.trans GD)
  replace GG := GG.drew.tg GD
  clear GD
  refine sv (iA (getK M k)) (YW (H.vb.map.gro (GA)) _ _ rfl rfl k rfl hk) rfl (sv (.agg (veA (getK M k).ver)) (YY _ rfl (getK M k) rfl _) rfl (sv (iK (getK M k).ver.n) (YX _ rfl (getK M k).ver rfl _) rfl (mv (iK (getK M k).ver.n) rfl (nq ?_))))
  refine qL (qE (qE (qG (mv (iK (getK M k).ver.n) rfl (sv (vF) (jw 2 .i64 _ _ _ rfl underlying2 (getK M k).ver.n 4611686018427387903 rfl rfl false t2 _) rfl (nq ?_))))))
  refine qL (qF rfl (qK (qE (qG (sv (eA k) (ldI0 _ rfl g1 rfl (kg1)) rfl (mv (iK (getK M k).ver.n) rfl (sv (iK ((getK M k).ver.n + 1)) (jV 2 _ _ _ rfl (getK M k).ver.n 1 ((getK M k).ver.n + 1) rfl rfl (by omega) (by omega) (by omega) _) rfl (sv (eA z) (ldI0 _ rfl g2 rfl (kg2)) rfl (sv (.agg (veA (mkV ((getK M k).ver.n + 1) z))) (jK 40 _ rfl [(0, iK ((getK M k).ver.n + 1)), (1, eA z)] rfl _ (bdV01 ((getK M k).ver.n + 1) z _)) rfl (mv (.slice ao l.length cap) rfl ?_))))))))))
  refine nq ?_
  refine sv (iA (mkI k (mkV ((getK M k).ver.n + 1) z) ao cap l)) (jK 42 _ rfl [(0, eA k), (1, .agg (veA (mkV ((getK M k).ver.n + 1) z))), (2, .slice ao l.length cap)] rfl _ (bdI012 k (mkV ((getK M k).ver.n + 1) z) ao cap l _)) rfl (nq ?_)
  refine jH 11 rfl rfl 42 rfl _ zeroIt (itA zM) rfl ?_
  intro w5 g4 G eg4 kg4
  have bg4 := jN GG eg4
  have dvpg4 := jn kvp eg4
  have dg1g4 := jn kg1 eg4
  have dg2g4 := jn kg2 eg4
  have dg3g4 := jn kg3 eg4
  have dGAg4 := GA.ne eg4
  replace kvp := G.has kvp
  replace kg1 := G.has kg1
  replace kg2 := G.has kg2
  replace kg3 := G.has kg3
  replace GA := GA.gro G
  replace GG := GG.tg G
  clear G
  clear eg4
  refine nq ?_
  refine stI (mkI k (mkV ((getK M k).ver.n + 1) z) ao cap l) rfl rfl rfl kg4 rfl ?_
  intro w6 St
  replace kvp := St.has (by omega) kvp
  replace kg1 := St.has (by omega) kg1
  replace kg2 := St.has (by omega) kg2
  replace kg3 := St.has (by omega) kg3
  replace GA := GA.st St dGAg4
  replace GG := GG.st St (.inl bg4)
  replace kg4 := St.new
  clear St
  refine qL (qE (qE (qG (mv (vP vp 0) rfl (sv (iA (mkI k (mkV ((getK M k).ver.n + 1) z) ao cap l)) (ldIt0 _ rfl g4 rfl (kg4)) rfl (nq ?_))))))
  have bzk := GA.size
  refine jq 40 rfl rfl _ 34 call34 rfl rfl _ rfl [vP vp 0, iA (mkI k (mkV ((getK M k).ver.n + 1) z) ao cap l)] rfl (JC (g3 :: U) _ vp lp p sg mb n L pw dn h dw inc M (H.cons GA bg3 (ji kg3)) (mkI k (mkV ((getK M k).ver.n + 1) z) ao cap l) (vS hk (vr hI hz)) (by show 1 ≤ (getK M k).n + 1; omega) (by show (getK M k).n + 1 ≤ 4611686018427387903; omega) hl (HX.cons GA bg3) rs err L2 pw2 h2 dw2 rs2 HO SA hd1 hd2) (by rintro _ _ ⟨_, _, he, _, _, _, _, _⟩; exact ⟨_, he⟩) ?_
  rintro v w7 ⟨dn2, M2, he, G, HV2, hd3, hd4, hres⟩
  cases he
  replace GG := GG.trans G
  have hlt : ∀ k, k ∈ [vp, lp, p, sg, mb] → k < w.heap.size := fun k hk => H.lt k (H.sub k hk)
  replace kg1 := G.has kg1 (fun hm => by have := hlt _ hm; omega)
  replace kg2 := G.has kg2 (fun hm => by have := hlt _ hm; omega)
  replace kg3 := G.has kg3 (fun hm => by have := hlt _ hm; omega)
  replace kg4 := G.has kg4 (fun hm => by have := hlt _ hm; omega)
  have HXn := (HX.cons GA bg3).gros (G.mono (fun k hk => List.mem_cons_of_mem _ (H.sub k hk)))
  clear kvp
  have dHV2g3 : g3 ∈ g3 :: U ∧ g3 ∉ [vp, lp, p, sg, mb] := ⟨List.mem_cons_self, fun hm => by have := hlt _ hm; omega⟩
  have hBd := HV2.bd
  have bzc := GG.size
  refine nq ?_
  refine mv (iK err) rfl (nq ?_)
  refine qL (qE (qG (mv (iK err) rfl (sv (vT) (jj 31 .i64 _ _ _ rfl underlying31 err 0 rfl rfl true t3 _) rfl (nq ?_)))))
  refine qL (qT rfl (qE (qG (sv (iA zM) (jK 42 _ rfl [] rfl _ (bdI0 _)) rfl (mv (iK err) rfl (nq ?_))))))
  refine stI zM rfl rfl rfl kg3 rfl ?_
  intro w8 St
  replace kg1 := St.has (by omega) kg1
  replace kg2 := St.has (by omega) kg2
  replace kg4 := St.has (by omega) kg4
  replace HV2 := HV2.st St dHV2g3
  clear HXn
  replace GG := GG.st St (.inl bg3)
  replace kg3 := St.new
  clear St
  refine mv (iK err) rfl (nq ?_)
  refine qL (qR (jm ?_))
  refine bodyPost_ret (jJ results11 _ _ g3 42 _ (0, 0) _ rfl (iK err) rfl kg3 underlying42 rfl (siIt' _)) rfl ?_
  rcases hres with ⟨e0, _⟩ | ⟨_, rfl⟩
  exact absurd e0 he1
  exact .inl ⟨he1, dn2, rfl, GG, HV2.tail H.sub, hd3, hd4⟩
theorem jaj (U : List Nat) (w : World) (vp lp p sg mb n : Nat) (L : List Nat) (pw dn : Int) (h : Hd) (dw : Bool) (inc : Int) (M : List (Nat × IM)) (H : VK U w vp lp p sg mb n L pw dn h dw inc M) (x : IM) (hn : x.n < 1 ∨ 4611686018427387903 < x.n) : Calls Tryz.prog 14 #[vP vp 0, .agg (itA x)] w (fun e w' => e = .returned (.tuple #[vF, iK 1]) ∧ Gro w w') := by
  cases t1 : decide (x.n < 1)
  have t2 : decide (4611686018427387903 < x.n) = true := decide_eq_true (by have := of_decide_eq_false t1; omega)
  refine eN func14 rfl ntmps14 [vP vp 0, iA x] ?_
  have GG := Gro.refl w
  have GA := Gro.refl w
  have kvp := H.vb.box
  refine qS ?_
  refine jW 3 rfl rfl 42 _ rfl _ rfl (itA x) rfl ?_
  intro w1 g1 G eg1 kg1
  have bg1 := jh GG eg1
  replace kvp := G.has kvp
  replace GA := GA.gro G
  replace GG := GG.trans G
  clear G
  clear eg1
  refine nq ?_
  refine mv (vF) rfl (mv (iK 0) rfl (nq ?_))
  refine qL (qE (qB (qE ?_)))
  refine jg ?_
  intro OPS hY
  have y2 := hY 2 10 rfl
  have y8 := hY 8 16 rfl
  clear hY
  refine mv (vP vp 0) rfl (sv (vF) (jT 30 _ _ _ rfl _ rfl rfl underlying30 _) rfl (mv (vF) rfl (jd 11 rfl rfl y2 rfl (vP g1 16) (je 42 _ 1 rfl g1 0 rfl 16 (by kernel_rfl)) (jd 12 rfl rfl y2 rfl (vP g1 16) (je 40 _ 0 rfl g1 16 rfl 16 (by kernel_rfl)) (jd 13 rfl rfl y2 rfl (iK x.n) (ldItn _ rfl g1 rfl (kg1)) ?_)))))
  refine nq ?_
  refine jd 14 rfl rfl y2 rfl (vF) (jv 2 _ _ _ rfl x.n 1 rfl rfl false t1 _) (mv (vF) rfl (mv (vF) rfl (jd 17 rfl rfl y8 rfl (vP g1 16) (je 42 _ 1 rfl g1 0 rfl 16 (by kernel_rfl)) (jd 18 rfl rfl y8 rfl (vP g1 16) (je 40 _ 0 rfl g1 16 rfl 16 (by kernel_rfl)) (jd 19 rfl rfl y8 rfl (iK x.n) (ldItn _ rfl g1 rfl (kg1)) ?_)))))
  refine nq ?_
  refine jd 20 rfl rfl y8 rfl (vT) (jy 2 _ _ _ rfl x.n 4611686018427387903 rfl rfl true t2 _) (mv (vT) rfl (mv (vT) rfl (nq ?_)))
  refine qL (qT rfl (qE (qG (mv (vF) rfl (mv (iK 1) rfl (nq ?_))))))
  refine qL (qR (ze (jm ?_)))
  refine bodyPost_ret (results_tmp2 results14 _ _ _) rfl ?_
  exact ⟨rfl, GG⟩
  skip
  refine eN func14 rfl ntmps14 [vP vp 0, iA x] ?_
  have GG := Gro.refl w
  have GA := Gro.refl w
  have kvp := H.vb.box
  refine qS ?_
  refine jW 3 rfl rfl 42 _ rfl _ rfl (itA x) rfl ?_
  intro w1 g1 G eg1 kg1
  have bg1 := jh GG eg1
  replace kvp := G.has kvp
  replace GA := GA.gro G
  replace GG := GG.trans G
  clear G
  clear eg1
  refine nq ?_
  refine mv (vF) rfl (mv (iK 0) rfl (nq ?_))
  refine qL (qE (qB (qE ?_)))
  refine jg ?_
  intro OPS hY
  have y2 := hY 2 10 rfl
  have y8 := hY 8 16 rfl
  clear hY
  refine mv (vP vp 0) rfl (sv (vF) (jT 30 _ _ _ rfl _ rfl rfl underlying30 _) rfl (mv (vF) rfl (jd 11 rfl rfl y2 rfl (vP g1 16) (je 42 _ 1 rfl g1 0 rfl 16 (by kernel_rfl)) (jd 12 rfl rfl y2 rfl (vP g1 16) (je 40 _ 0 rfl g1 16 rfl 16 (by kernel_rfl)) (jd 13 rfl rfl y2 rfl (iK x.n) (ldItn _ rfl g1 rfl (kg1)) ?_)))))
  refine nq ?_
  refine jd 14 rfl rfl y2 rfl (vT) (jv 2 _ _ _ rfl x.n 1 rfl rfl true t1 _) (mv (vT) rfl (mv (vT) rfl (jk 17 rfl rfl y8 rfl (jk 18 rfl rfl y8 rfl (jk 19 rfl rfl y8 rfl ?_)))))
  refine nq ?_
  refine jk 20 rfl rfl y8 rfl (mv (vT) rfl (mv (vT) rfl (nq ?_)))
  refine qL (qT rfl (qE (qG (mv (vF) rfl (mv (iK 1) rfl (nq ?_))))))
  refine qL (qR (ze (jm ?_)))
  refine bodyPost_ret (results_tmp2 results14 _ _ _) rfl ?_
  exact ⟨rfl, GG⟩
theorem Qk (U : List Nat) (w : World) (vp lp p sg mb n : Nat) (L : List Nat) (pw dn : Int) (h : Hd) (dw : Bool) (inc : Int) (M : List (Nat × IM)) (H : VK U w vp lp p sg mb n L pw dn h dw inc M) (x : IM) (hn1 : 1 ≤ x.n) (hn2 : x.n ≤ 4611686018427387903) (hl : 64 < x.val.length) : Calls Tryz.prog 14 #[vP vp 0, .agg (itA x)] w (fun e w' => e = .returned (.tuple #[vF, iK 4]) ∧ Gro w w') := by
  have t1 : decide (x.n < 1) = false := decide_eq_false (by omega)
  have t2 : decide (4611686018427387903 < x.n) = false := decide_eq_false (by omega)
  have t3 : decide ((64 : Int) < ((x.val.length : Nat) : Int)) = true := decide_eq_true (by omega)
  refine eN func14 rfl ntmps14 [vP vp 0, iA x] ?_
  have GG := Gro.refl w
  have GA := Gro.refl w
  have kvp := H.vb.box
  refine qS ?_
  refine jW 3 rfl rfl 42 _ rfl _ rfl (itA x) rfl ?_
  intro w1 g1 G eg1 kg1
  have bg1 := jh GG eg1
  replace kvp := G.has kvp
  replace GA := GA.gro G
  replace GG := GG.trans G
  clear G
  clear eg1
  refine nq ?_
  refine mv (vF) rfl (mv (iK 0) rfl (nq ?_))
  refine qL (qE (qB (qE ?_)))
  refine jg ?_
  intro OPS hY
  have y2 := hY 2 10 rfl
  have y8 := hY 8 16 rfl
  clear hY
  refine mv (vP vp 0) rfl (sv (vF) (jT 30 _ _ _ rfl _ rfl rfl underlying30 _) rfl (mv (vF) rfl (jd 11 rfl rfl y2 rfl (vP g1 16) (je 42 _ 1 rfl g1 0 rfl 16 (by kernel_rfl)) (jd 12 rfl rfl y2 rfl (vP g1 16) (je 40 _ 0 rfl g1 16 rfl 16 (by kernel_rfl)) (jd 13 rfl rfl y2 rfl (iK x.n) (ldItn _ rfl g1 rfl (kg1)) ?_)))))
  refine nq ?_
  refine jd 14 rfl rfl y2 rfl (vF) (jv 2 _ _ _ rfl x.n 1 rfl rfl false t1 _) (mv (vF) rfl (mv (vF) rfl (jd 17 rfl rfl y8 rfl (vP g1 16) (je 42 _ 1 rfl g1 0 rfl 16 (by kernel_rfl)) (jd 18 rfl rfl y8 rfl (vP g1 16) (je 40 _ 0 rfl g1 16 rfl 16 (by kernel_rfl)) (jd 19 rfl rfl y8 rfl (iK x.n) (ldItn _ rfl g1 rfl (kg1)) ?_)))))
  refine nq ?_
  refine jd 20 rfl rfl y8 rfl (vF) (jy 2 _ _ _ rfl x.n 4611686018427387903 rfl rfl false t2 _) (mv (vF) rfl (mv (vF) rfl (nq ?_)))
  refine qL (qF rfl (qE (qG (sv (vP g1 33) (je 42 _ 2 rfl g1 0 rfl 33 (by kernel_rfl)) rfl (sv (.slice x.ao x.val.length x.cap) (ldItr _ rfl g1 rfl (kg1)) rfl (sv (nK x.val.length) (js underlying27 _ rfl _ _ _ rfl _) rfl (sv (vT) (jy 3 _ _ _ rfl ((x.val.length : Nat) : Int) 64 rfl rfl true t3 _) rfl (mv (vT) rfl (nq ?_)))))))))
  refine qL (qT rfl (qE (qG (mv (vF) rfl (mv (iK 4) rfl (nq ?_))))))
  refine qL (qR (ze (jm ?_)))
  refine bodyPost_ret (results_tmp2 results14 _ _ _) rfl ?_
  exact ⟨rfl, GG⟩
theorem YD (U : List Nat) (w : World) (vp lp p sg mb n : Nat) (L : List Nat) (pw dn : Int) (h : Hd) (dw : Bool) (inc : Int) (M : List (Nat × IM)) (H : VK U w vp lp p sg mb n L pw dn h dw inc M) (x : IM) (hx : x.ok) (hn1 : 1 ≤ x.n) (hn2 : x.n ≤ 4611686018427387903) (hl : x.val.length ≤ 64) (hq : isN M x = false) : Calls Tryz.prog 14 #[vP vp 0, .agg (itA x)] w (fun e w' => e = .returned (.tuple #[vF, iK 0]) ∧ Gro w w') := by
  have t1 : decide (x.n < 1) = false := decide_eq_false (by omega)
  have t2 : decide (4611686018427387903 < x.n) = false := decide_eq_false (by omega)
  have t3 : decide ((64 : Int) < ((x.val.length : Nat) : Int)) = false := decide_eq_false (by omega)
  refine eN func14 rfl ntmps14 [vP vp 0, iA x] ?_
  have GG := Gro.refl w
  have GA := Gro.refl w
  have kvp := H.vb.box
  refine qS ?_
  refine jW 3 rfl rfl 42 _ rfl _ rfl (itA x) rfl ?_
  intro w1 g1 G eg1 kg1
  have bg1 := jh GG eg1
  replace kvp := G.has kvp
  replace GA := GA.gro G
  replace GG := GG.trans G
  clear G
  clear eg1
  refine nq ?_
  refine mv (vF) rfl (mv (iK 0) rfl (nq ?_))
  refine qL (qE (qB (qE ?_)))
  refine jg ?_
  intro OPS hY
  have y2 := hY 2 10 rfl
  have y8 := hY 8 16 rfl
  clear hY
  refine mv (vP vp 0) rfl (sv (vF) (jT 30 _ _ _ rfl _ rfl rfl underlying30 _) rfl (mv (vF) rfl (jd 11 rfl rfl y2 rfl (vP g1 16) (je 42 _ 1 rfl g1 0 rfl 16 (by kernel_rfl)) (jd 12 rfl rfl y2 rfl (vP g1 16) (je 40 _ 0 rfl g1 16 rfl 16 (by kernel_rfl)) (jd 13 rfl rfl y2 rfl (iK x.n) (ldItn _ rfl g1 rfl (kg1)) ?_)))))
  refine nq ?_
  refine jd 14 rfl rfl y2 rfl (vF) (jv 2 _ _ _ rfl x.n 1 rfl rfl false t1 _) (mv (vF) rfl (mv (vF) rfl (jd 17 rfl rfl y8 rfl (vP g1 16) (je 42 _ 1 rfl g1 0 rfl 16 (by kernel_rfl)) (jd 18 rfl rfl y8 rfl (vP g1 16) (je 40 _ 0 rfl g1 16 rfl 16 (by kernel_rfl)) (jd 19 rfl rfl y8 rfl (iK x.n) (ldItn _ rfl g1 rfl (kg1)) ?_)))))
  refine nq ?_
  refine jd 20 rfl rfl y8 rfl (vF) (jy 2 _ _ _ rfl x.n 4611686018427387903 rfl rfl false t2 _) (mv (vF) rfl (mv (vF) rfl (nq ?_)))
  refine qL (qF rfl (qE (qG (sv (vP g1 33) (je 42 _ 2 rfl g1 0 rfl 33 (by kernel_rfl)) rfl (sv (.slice x.ao x.val.length x.cap) (ldItr _ rfl g1 rfl (kg1)) rfl (sv (nK x.val.length) (js underlying27 _ rfl _ _ _ rfl _) rfl (sv (vF) (jy 3 _ _ _ rfl ((x.val.length : Nat) : Int) 64 rfl rfl false t3 _) rfl (mv (vF) rfl (nq ?_)))))))))
  refine qL (qF rfl (qE (qG (mv (vP vp 0) rfl (sv (iA x) (ldIt0 _ rfl g1 rfl (kg1)) rfl (nq ?_))))))
  refine jr 30 rfl rfl _ 38 call38 rfl rfl _ rfl [vP vp 0, iA x] rfl (Calls.bool (vE _ vp lp mb _ M (H.vb.gro GA) x hx) hq) ?_
  intro w2 G
  replace kvp := G.has kvp
  replace kg1 := G.has kg1
  replace GA := GA.gro G
  replace GG := GG.trans G
  clear G
  refine nq ?_
  refine sv (vT) (jZ _ _ rfl false rfl) rfl (mv (vT) rfl (nq ?_))
  refine qL (qT rfl (qE (qG (mv (vF) rfl (mv (iK 0) rfl (nq ?_))))))
  refine qL (qR (ze (jm ?_)))
  refine bodyPost_ret (results_tmp2 results14 _ _ _) rfl ?_
  exact ⟨rfl, GG⟩
def MergeP (U : List Nat) (w : World) (vp lp p sg mb n : Nat) (dn : Int) (inc : Int) (M : List (Nat × IM)) (x : IM) (err : Int) (L2 : List Nat) (pw2 : Int) (h2 : Hd) (dw2 : Bool) (e : Ending) (w' : World) : Prop :=
  (err ≠ 0 ∧ ∃ dn', e = .returned (.tuple #[.bool false, .int .i64 err]) ∧ GroS [vp, lp, p, sg, mb] w w' ∧ VK U w' vp lp p sg mb n L2 pw2 dn' h2 dw2 inc M ∧ dn ≤ dn' ∧ dn' ≤ dn + 20) ∨
  (err = 0 ∧ ∃ dn' ao3 cap3, e = .returned (.tuple #[.bool true, .int .i64 0]) ∧ GroS [vp, lp, p, sg, mb] w w' ∧ VK U w' vp lp p sg mb n L2 pw2 dn' h2 dw2 inc (putM M x.key (x.re ao3 cap3)) ∧ dn ≤ dn' ∧ dn' ≤ dn + 20 ∧ Frs w ao3)
theorem ZW (U : List Nat) (w : World) (vp lp p sg mb n : Nat) (L : List Nat) (pw dn : Int) (h : Hd) (dw : Bool) (inc : Int) (M : List (Nat × IM)) (H : VK U w vp lp p sg mb n L pw dn h dw inc M) (x : IM) (hx : x.ok) (hn1 : 1 ≤ x.n) (hn2 : x.n ≤ 4611686018427387903) (hl : x.val.length ≤ 64) (hq : isN M x = true) (HX : BS U w x.ao x.cap x.val) (rs : List (List Nat)) (err : Int) (L2 : List Nat) (pw2 : Int) (h2 : Hd) (dw2 : Bool) (rs2 : List (List Nat)) (HO : Out n L pw h dw rs (formV x.it) err L2 pw2 h2 dw2 rs2) (SA : SideA n L pw h dw (formV x.it) err L2 pw2 h2 dw2) (hd1 : 0 ≤ dn) (hd2 : dn < 9223372036854760000) : Calls Tryz.prog 14 #[vP vp 0, .agg (itA x)] w (MergeP U w vp lp p sg mb n dn inc M x err L2 pw2 h2 dw2) := by
  have t1 : decide (x.n < 1) = false := decide_eq_false (by omega)
  have t2 : decide (4611686018427387903 < x.n) = false := decide_eq_false (by omega)
  have t3 : decide ((64 : Int) < ((x.val.length : Nat) : Int)) = false := decide_eq_false (by omega)
  rcases HO.res with ⟨rfl, hrs⟩ | ⟨he1, hrs⟩
  clear hrs
  refine eN func14 rfl ntmps14 [vP vp 0, iA x] ?_
  have GG := GroS.refl [vp, lp, p, sg, mb] w
  have GA := Gro.refl w
  have kvp := H.vb.box
  refine qS ?_
  refine jW 3 rfl rfl 42 _ rfl _ rfl (itA x) rfl ?_
  intro w1 g1 G eg1 kg1
  have bg1 := jN GG eg1
  replace kvp := G.has kvp
  replace GA := GA.gro G
  replace GG := GG.tg G
  clear G
  clear eg1
  refine nq ?_
  refine mv (vF) rfl (mv (iK 0) rfl (nq ?_))
  refine qL (qE (qB (qE ?_)))
  refine jg ?_
  intro OPS hY
  have y2 := hY 2 10 rfl
  have y8 := hY 8 16 rfl
  clear hY
  refine mv (vP vp 0) rfl (sv (vF) (jT 30 _ _ _ rfl _ rfl rfl underlying30 _) rfl (mv (vF) rfl (jd 11 rfl rfl y2 rfl (vP g1 16) (je 42 _ 1 rfl g1 0 rfl 16 (by kernel_rfl)) (jd 12 rfl rfl y2 rfl (vP g1 16) (je 40 _ 0 rfl g1 16 rfl 16 (by kernel_rfl)) (jd 13 rfl rfl y2 rfl (iK x.n) (ldItn _ rfl g1 rfl (kg1)) ?_)))))
  refine nq ?_
  refine jd 14 rfl rfl y2 rfl (vF) (jv 2 _ _ _ rfl x.n 1 rfl rfl false t1 _) (mv (vF) rfl (mv (vF) rfl (jd 17 rfl rfl y8 rfl (vP g1 16) (je 42 _ 1 rfl g1 0 rfl 16 (by kernel_rfl)) (jd 18 rfl rfl y8 rfl (vP g1 16) (je 40 _ 0 rfl g1 16 rfl 16 (by kernel_rfl)) (jd 19 rfl rfl y8 rfl (iK x.n) (ldItn _ rfl g1 rfl (kg1)) ?_)))))
  refine nq ?_
  refine jd 20 rfl rfl y8 rfl (vF) (jy 2 _ _ _ rfl x.n 4611686018427387903 rfl rfl false t2 _) (mv (vF) rfl (mv (vF) rfl (nq ?_)))
  refine qL (qF rfl (qE (qG (sv (vP g1 33) (je 42 _ 2 rfl g1 0 rfl 33 (by kernel_rfl)) rfl (sv (.slice x.ao x.val.length x.cap) (ldItr _ rfl g1 rfl (kg1)) rfl (sv (nK x.val.length) (js underlying27 _ rfl _ _ _ rfl _) rfl (sv (vF) (jy 3 _ _ _ rfl ((x.val.length : Nat) : Int) 64 rfl rfl false t3 _) rfl (mv (vF) rfl (nq ?_)))))))))
  refine qL (qF rfl (qE (qG (mv (vP vp 0) rfl (sv (iA x) (ldIt0 _ rfl g1 rfl (kg1)) rfl (nq ?_))))))
  refine jr 30 rfl rfl _ 38 call38 rfl rfl _ rfl [vP vp 0, iA x] rfl (Calls.bool (vE _ vp lp mb _ M (H.vb.gro GA) x hx) hq) ?_
  intro w2 G
  replace kvp := G.has kvp
  replace kg1 := G.has kg1
  replace GA := GA.gro G
  replace GG := GG.tg G
  clear G
  refine nq ?_
  refine sv (vF) (jZ _ _ rfl true rfl) rfl (mv (vF) rfl (nq ?_))
  refine qL (qF rfl (wp_skip (zb (jC (qE (qG (mv (vP vp 0) rfl (sv (iA x) (ldIt0 _ rfl g1 rfl (kg1)) rfl (nq ?_)))))))))
  have bzk := GA.size
  refine jq 34 rfl rfl _ 34 call34 rfl rfl _ rfl [vP vp 0, iA x] rfl (JC U _ vp lp p sg mb n L pw dn h dw inc M (H.gro GA) x hx hn1 hn2 hl (HX.gro GA) rs 0 L2 pw2 h2 dw2 rs2 HO SA hd1 hd2) (by rintro _ _ ⟨_, _, he, _, _, _, _, _⟩; exact ⟨_, he⟩) ?_
  rintro v w3 ⟨dn2, M2, he, G, HV2, hd3, hd4, hres⟩
  cases he
  replace GG := GG.trans G
  clear kvp GA
  refine nq ?_
  refine mv (iK 0) rfl (nq ?_)
  refine qL (qE (qG (mv (iK 0) rfl (sv (vT) (jw 31 .i64 _ _ _ rfl underlying31 0 0 rfl rfl true (decide_eq_true rfl) _) rfl (mv (iK 0) rfl (mv (vT) rfl (mv (iK 0) rfl (nq ?_))))))))
  refine qL (qR ?_)
  refine bodyPost_ret (results_tmp2 results14 _ _ _) rfl ?_
  rcases hres with ⟨_, ao3, cap3, rfl, hfr⟩ | ⟨e0, _⟩
  exact .inr ⟨rfl, dn2, ao3, cap3, rfl, GG, HV2, hd3, hd4, fun ad ha => Nat.le_trans bzk (hfr ad ha)⟩
  exact absurd rfl e0
  clear hrs
  have t5 : decide (err = 0) = false := decide_eq_false he1
  refine eN func14 rfl ntmps14 [vP vp 0, iA x] ?_
  have GG := GroS.refl [vp, lp, p, sg, mb] w
  have GA := Gro.refl w
  have kvp := H.vb.box
  refine qS ?_
  refine jW 3 rfl rfl 42 _ rfl _ rfl (itA x) rfl ?_
  intro w1 g1 G eg1 kg1
  have bg1 := jN GG eg1
  replace kvp := G.has kvp
  replace GA := GA.gro G
  replace GG := GG.tg G
  clear G
  clear eg1
  refine nq ?_
  refine mv (vF) rfl (mv (iK 0) rfl (nq ?_))
  refine qL (qE (qB (qE ?_)))
  refine jg ?_
  intro OPS hY
  have y2 := hY 2 10 rfl
  have y8 := hY 8 16 rfl
  clear hY
  refine mv (vP vp 0) rfl (sv (vF) (jT 30 _ _ _ rfl _ rfl rfl underlying30 _) rfl (mv (vF) rfl (jd 11 rfl rfl y2 rfl (vP g1 16) (je 42 _ 1 rfl g1 0 rfl 16 (by kernel_rfl)) (jd 12 rfl rfl y2 rfl (vP g1 16) (je 40 _ 0 rfl g1 16 rfl 16 (by kernel_rfl)) (jd 13 rfl rfl y2 rfl (iK x.n) (ldItn _ rfl g1 rfl (kg1)) ?_)))))
  refine nq ?_
  refine jd 14 rfl rfl y2 rfl (vF) (jv 2 _ _ _ rfl x.n 1 rfl rfl false t1 _) (mv (vF) rfl (mv (vF) rfl (jd 17 rfl rfl y8 rfl (vP g1 16) (je 42 _ 1 rfl g1 0 rfl 16 (by kernel_rfl)) (jd 18 rfl rfl y8 rfl (vP g1 16) (je 40 _ 0 rfl g1 16 rfl 16 (by kernel_rfl)) (jd 19 rfl rfl y8 rfl (iK x.n) (ldItn _ rfl g1 rfl (kg1)) ?_)))))
  refine nq ?_
  refine jd 20 rfl rfl y8 rfl (vF) (jy 2 _ _ _ rfl x.n 4611686018427387903 rfl rfl false t2 _) (mv (vF) rfl (mv (vF) rfl (nq ?_)))
  refine qL (qF rfl (qE (qG (sv (vP g1 33) (je 42 _ 2 rfl g1 0 rfl 33 (by kernel_rfl)) rfl (sv (.slice x.ao x.val.length x.cap) (ldItr _ rfl g1 rfl (kg1)) rfl (sv (nK x.val.length) (js underlying27 _ rfl _ _ _ rfl _) rfl (sv (vF) (jy 3 _ _ _ rfl ((x.val.length : Nat) : Int) 64 rfl rfl false t3 _) rfl (mv (vF) rfl (nq ?_)))))))))
  refine qL (qF rfl (qE (qG (mv (vP vp 0) rfl (sv (iA x) (ldIt0 _ rfl g1 rfl (kg1)) rfl (nq ?_))))))
  refine jr 30 rfl rfl _ 38 call38 rfl rfl _ rfl [vP vp 0, iA x] rfl (Calls.bool (vE _ vp lp mb _ M (H.vb.gro GA) x hx) hq) ?_
  intro w2 G
  replace kvp := G.has kvp
  replace kg1 := G.has kg1
  replace GA := GA.gro G
  replace GG := GG.tg G
  clear G
  refine nq ?_
  refine sv (vF) (jZ _ _ rfl true rfl) rfl (mv (vF) rfl (nq ?_))
  refine qL (qF rfl (wp_skip (zb (jC (qE (qG (mv (vP vp 0) rfl (sv (iA x) (ldIt0 _ rfl g1 rfl (kg1)) rfl (nq ?_)))))))))
  have bzk := GA.size
  refine jq 34 rfl rfl _ 34 call34 rfl rfl _ rfl [vP vp 0, iA x] rfl (JC U _ vp lp p sg mb n L pw dn h dw inc M (H.gro GA) x hx hn1 hn2 hl (HX.gro GA) rs err L2 pw2 h2 dw2 rs2 HO SA hd1 hd2) (by rintro _ _ ⟨_, _, he, _, _, _, _, _⟩; exact ⟨_, he⟩) ?_
  rintro v w3 ⟨dn2, M2, he, G, HV2, hd3, hd4, hres⟩
  cases he
  replace GG := GG.trans G
  clear kvp GA
  refine nq ?_
  refine mv (iK err) rfl (nq ?_)
  refine qL (qE (qG (mv (iK err) rfl (sv (vF) (jw 31 .i64 _ _ _ rfl underlying31 err 0 rfl rfl false t5 _) rfl (mv (iK err) rfl (mv (vF) rfl (mv (iK err) rfl (nq ?_))))))))
  refine qL (qR ?_)
  refine bodyPost_ret (results_tmp2 results14 _ _ _) rfl ?_
  rcases hres with ⟨e0, _⟩ | ⟨_, rfl⟩
  exact absurd e0 he1
  exact .inl ⟨he1, dn2, rfl, GG, HV2, hd3, hd4⟩
end Go.Proofs.YtgfnjekpafempaaGreat
