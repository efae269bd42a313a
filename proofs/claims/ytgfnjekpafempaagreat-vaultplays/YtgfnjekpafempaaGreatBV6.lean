import Derived.Test.YtgfnjekpafempaaGreatBV4
import Derived.Test.YtgfnjekpafempaaGreatBAb
namespace Go.Proofs.YtgfnjekpafempaaGreat
open Go.Proofs.Tryz
set_option maxHeartbeats 4000000
set_option maxRecDepth 100000
open Go.RowKit
theorem Uk : ∀ (k : Nat) (l : List Nat) (rs : List (List Nat)), prsF k l = some rs → ∀ r ∈ rs, r.length ≤ 1024
  | 0, l, rs, h => by
    unfold prsF at h
    cases h
  | k + 1, l, rs, h => by
    unfold prsF at h
    split at h
    · cases h
      intro r hr
      cases hr
    split at h
    · cases h
    · rename_i hc
      cases hp : prsF k (l.drop (secN (recM l) * 64)) with
      | none => rw [hp] at h; cases h
      | some rs2 =>
        rw [hp] at h
        cases h
        intro r hr
        rcases List.mem_cons.1 hr with rfl | hr
        · rw [List.length_take]
          omega
        · exact Uk k _ _ hp r hr
theorem Good.lens {L : List Nat} {n : Nat} {h : Hd} {rs : List (List Nat)} (H : Good L n h rs) : ∀ r ∈ rs, r.length ≤ 1024 := Uk _ _ _ H.recs
theorem ui {rs : List (List Nat)} {i : Nat} (h : hld (rs.take i) = none) : hld rs = none := by
  have e : rs = rs.take i ++ rs.drop i := (List.take_append_drop i rs).symm
  unfold hld at *
  rw [e, List.foldlM_append, h]
  rfl
theorem MR.nil (U : List Nat) (w : World) : MR U w [] := ⟨fun _ h => by (cases h), fun _ h => by (cases h), fun _ h => by (cases h), fun _ h => by (cases h)⟩
theorem SKv.nil : SKv [] := List.Pairwise.nil
theorem take_one' {q : List (Nat × List Nat)} {i : Nat} {r : List Nat} (hi : i < q.length) (hr : (q.map (·.2)).getD i [] = r) : (q.map (·.2)).take (i + 1) = (q.map (·.2)).take i ++ [r] := by
  rw [yA (q.map (·.2)) [] i (by rw [List.length_map]; exact hi), hr]
def OpnP (U0 : List Nat) (w : World) (p sg n : Nat) (dn : Int) (L0 : List It) (c0 : Nat) (err : Int) (L2 : List Nat) (pw2 : Int) (h2 : Hd) (e : Ending) (w' : World) : Prop :=
  (err ≠ 0 ∧ ∃ dn', e = .returned (.tuple #[.pointer none, .int .i64 err]) ∧ GroS [p, sg] w w' ∧ DK w' p sg n L2 pw2 dn' ∧ dn ≤ dn' ∧ dn' ≤ dn + 20) ∨
  (err = 0 ∧ ∃ vp lp mb M dn', e = .returned (.tuple #[.pointer (some ⟨vp, 0, none⟩), .int .i64 0]) ∧ GroS [p, sg] w w' ∧ VK (vp :: lp :: mb :: U0) w' vp lp p sg mb n L2 pw2 dn' h2 false ((c0 + 1 : Nat) : Int) M ∧ MRel M L0 ∧ w.heap.size ≤ vp ∧ w.heap.size ≤ lp ∧ w.heap.size ≤ mb ∧ dn ≤ dn' ∧ dn' ≤ dn + 20)
theorem VK.inc {U : List Nat} {w w' : World} {vp lp p sg mb n : Nat} {L : List Nat} {pw dn : Int} {h : Hd} {dw : Bool} {inc inc' : Int} {M : List (Nat × IM)} (H : VK U w vp lp p sg mb n L pw dn h dw inc M) (St : Stored w w' vp (.cells (vtA lp inc' mb) 78 (0, 0))) : VK U w' vp lp p sg mb n L pw dn h dw inc' M :=
  ⟨⟨St.new, H.vb.map.st St (Ne.symm H.n4), H.vb.ok⟩, ⟨St.has (Ne.symm H.n1) H.log.box⟩, ⟨St.has (Ne.symm H.n2) H.dsk.box, St.has (Ne.symm H.n3) H.dsk.sec, H.dsk.len, H.dsk.le, H.dsk.byte, H.dsk.ne⟩, ⟨fun y hy => (H.mr.row y hy).st St (fun ad ha h0 e => (H.mr.row y hy).ne ad ha h0 (e ▸ H.sub vp (by simp))), H.mr.key, H.mr.n1, H.mr.len⟩, H.sub, fun k hk => by rw [St.size]; exact H.lt k hk⟩
theorem ZE (U0 : List Nat) (w : World) (p sg n : Nat) (L : List Nat) (pw dn : Int) (H : DK w p sg n L pw dn) (hn3 : 3 ≤ n) (h : Hd) (rs : List (List Nat)) (HG : Good L n h rs) (hg : h.g < 10000) (hU0 : ∀ k ∈ U0, k < w.heap.size) (hp0 : p ∈ U0) (hs0 : sg ∈ U0) (L0 : List It) (c0 : Nat) (hN : hld rs = some (L0, c0)) (hc : c0 < 1048576) (err : Int) (L2 : List Nat) (pw2 : Int) (h2 : Hd) (dw2 : Bool) (rs2 : List (List Nat)) (HO : Out n L pw h false rs (begV (c0 + 1)) err L2 pw2 h2 dw2 rs2) (SA : SideA n L pw h false (begV (c0 + 1)) err L2 pw2 h2 dw2) (hd1 : 0 ≤ dn) (hd2 : dn < 9223372036854760000) : Calls Tryz.prog 6 #[vP p 0] w (OpnP U0 w p sg n dn L0 c0 err L2 pw2 h2) := by
  have t1 : decide (((c0 : Nat) : Int) = 1048576) = false := decide_eq_false (by omega)
  rcases HO.res with ⟨rfl, hrs⟩ | ⟨he1, hrs⟩
  clear hrs
  refine eN func6 rfl ntmps6 [vP p 0] ?_
  have GG := GroS.refl [p, sg] w
  have GA := Gro.refl w
  refine qE (qG (mv (.pointer none) rfl (mv (iK 0) rfl (nq ?_))))
  refine qL (qE (qG (mv (vP p 0) rfl (nq ?_))))
  refine jq 13 rfl rfl _ 25 call25 rfl rfl _ rfl [vP p 0] rfl (Zx _ p sg n L pw dn (H.gro GA) hn3 rs (HG.opens (by omega))) (by rintro _ _ ⟨_, _, _, _, he, _, _, _, _, _⟩; exact ⟨_, he⟩) ?_
  rintro v w1 ⟨lp, ao1, cap1, q, he, hq, G, hlp, HK, HRS⟩
  cases he
  replace GA := GA.gro G
  replace GG := GG.tg G
  clear G
  have HD1 := H.gro GA
  have GR := Gro.refl w1
  rw [HG.counts] at HK
  have hlp2 := ji HK.box
  have G1R := Gro.refl w1
  clear GA
  have hql : q.length ≤ 4096 := by
    have h1 := HG.num
    rw [hq, List.length_map] at h1
    have h2 := HG.cnt
    have h3 := HG.fit
    have h4 := H.le
    omega
  refine nq ?_
  refine mv (.tuple #[vP lp 0, .slice ao1 q.length cap1, iK 0]) rfl (mv (vP lp 0) rfl (mv (.slice ao1 q.length cap1) rfl (mv (iK 0) rfl (mv (vP lp 0) rfl (mv (.slice ao1 q.length cap1) rfl ?_)))))
  refine nq ?_
  refine mv (iK 0) rfl (nq ?_)
  refine qL (qE (qE (qG (mv (iK 0) rfl (sv (vF) (jj 31 .i64 _ _ _ rfl underlying31 0 0 rfl rfl false (decide_eq_true rfl) _) rfl (nq ?_))))))
  refine qL (qF rfl (qK (qE (qG (mv (vP lp 0) rfl (nq ?_))))))
  refine YT kvM okM evM 21 rfl rfl rfl ?_
  intro w2 mb G emb HM
  have bmb := jN GG emb
  have cmb : w1.heap.size ≤ mb := by rw [← emb]; exact GR.size
  replace GR := GR.gro G
  replace GG := GG.tg G
  clear G
  refine nq ?_
  refine sv (.agg (vtA lp 0 mb)) (jK 78 _ rfl [(0, vP lp 0), (2, .map (some mb))] rfl _ (bdVt lp mb _)) rfl (nq ?_)
  refine jW 23 rfl rfl 78 _ rfl _ rfl (vtA lp 0 mb) rfl ?_
  intro w3 vp G evp kvp
  have bvp := jN GG evp
  have cvp : w1.heap.size ≤ vp := by rw [← evp]; exact GR.size
  replace GR := GR.gro G
  replace HM := HM.gro G
  replace GG := GG.tg G
  clear G
  refine nq ?_
  have hUlt : ∀ k ∈ (vp :: lp :: mb :: U0), k < w3.heap.size := fun k hk => by
    have hz := GR.size
    have hz2 := ji kvp
    have hz3 := HM.lt
    rcases List.mem_cons.1 hk with rfl | hk
    exact hz2
    rcases List.mem_cons.1 hk with rfl | hk
    omega
    rcases List.mem_cons.1 hk with rfl | hk
    exact hz3
    exact Nat.lt_of_lt_of_le (hU0 k hk) GG.size
  have HV : VR (vp :: lp :: mb :: U0) w3 vp lp 0 mb [] [] := ⟨⟨kvp, HM, fun _ h => by (cases h)⟩, MR.nil _ _, MRel.nil, SKv.nil, hUlt, ⟨by simp, by simp⟩, by decide⟩
  clear kvp HM
  refine mv (vP vp 0) rfl (nq ?_)
  refine qL (qE (qE (qG (mv (.slice ao1 q.length cap1) rfl (sv (nK q.length) (js underlying73 _ rfl _ _ _ rfl _) rfl (mv (iK 0) rfl (nq ?_)))))))
  refine qL (qB ?_)
  refine jO (fun mz az wv => ∃ (i : Nat) (c : Nat) (M : List (Nat × IM)) (Lx : List It) (us1 : Nat → Value), mz = q.length - i ∧ az = ⟨[vP p 0, uD, us1 2, us1 3, vP lp 0, .slice ao1 q.length cap1, iK 0, vP vp 0, uD, us1 9, uD, .tuple #[vP lp 0, .slice ao1 q.length cap1, iK 0], vP p 0, .tuple #[vP lp 0, .slice ao1 q.length cap1, iK 0], vP lp 0, .slice ao1 q.length cap1, iK 0, iK 0, vF, uD, vP lp 0, .map (some mb), .agg (vtA lp 0 mb), vP vp 0, .slice ao1 q.length cap1, nK q.length, nK i, us1 27, us1 28, us1 29, us1 30, us1 31, us1 32, us1 33, us1 34, uD, uD, uD, uD, uD, uD, uD, uD, uD, uD, uD, uD, uD, uD, uD, uD, uD, uD, uD, uD, uD, uD, uD, uD].toArray, []⟩ ∧ GroS [p, sg] w wv ∧ Gro w1 wv ∧ VR (vp :: lp :: mb :: U0) wv vp lp c mb M Lx ∧ i ≤ q.length ∧ hld ((q.map (·.2)).take i) = some (Lx, c)) ?_ _ ⟨0, 0, [], [], usK ⟨GG, GR, HV, Nat.zero_le _, rfl⟩⟩
  clear GG GR HV
  rintro mz az wv ⟨i, c, M, Lx, us1, rfl, rfl, GG, GR, HV, hi, hh⟩
  refine qE ?_
  cases h1 : decide (((i : Nat) : Int) < ((q.length : Nat) : Int))
  have hiq : i = q.length := by have := of_decide_eq_false h1; omega
  rw [List.take_of_length_le (by rw [List.length_map]; omega), ← hq] at hh
  have hLc := hN.symm.trans hh
  injection hLc with hLc
  injection hLc with e1 e2
  subst e1 e2
  have kvp := HV.vb.box
  refine qG (sv (vF) (jv 3 _ _ _ rfl ((i : Nat) : Int) ((q.length : Nat) : Int) rfl rfl false h1 _) rfl (nq ?_))
  refine qL (qE (qF rfl (wp_exit (jG (jG (zp (jC (qE (qE (qG (mv (vP vp 0) rfl (sv (vP vp 0) (jl _ rfl _ rfl) rfl (sv (vP vp 1) (je 78 _ 1 rfl vp 0 rfl 1 (by kernel_rfl)) rfl (sv (nK c0) (ldVti _ rfl vp rfl (kvp)) rfl (sv (vF) (jw 2 .i64 _ _ _ rfl underlying2 ((c0 : Nat) : Int) 1048576 rfl rfl false t1 _) rfl (nq ?_))))))))))))))))
  refine qL (qF rfl (qK (qE (qE ?_))))
  have GV := Gro.refl wv
  have hs5 : ∀ k ∈ [vp, lp, p, sg, mb], k ∈ (vp :: lp :: mb :: U0) := fun k hk => by
    simp only [List.mem_cons, List.not_mem_nil, or_false] at hk ⊢
    rcases hk with rfl | rfl | rfl | rfl | rfl
    exact .inl rfl
    exact .inr (.inl rfl)
    exact .inr (.inr (.inr hp0))
    exact .inr (.inr (.inr hs0))
    exact .inr (.inr (.inl rfl))
  have hne1 : lp ≠ p := jB HK.box HD1.box (by decide)
  have hne2 : lp ≠ sg := jB HK.box HD1.sec (by decide)
  refine qG (mv (vP lp 0) rfl (mv (vP vp 0) rfl (sv (vP vp 0) (jl _ rfl _ rfl) rfl (sv (vP vp 1) (je 78 _ 1 rfl vp 0 rfl 1 (by kernel_rfl)) rfl (sv (nK c0) (ldVti _ rfl vp rfl (kvp)) rfl (sv (nK (c0 + 1)) (jV 2 _ _ _ rfl ((c0 : Nat) : Int) 1 ((c0 + 1 : Nat) : Int) rfl rfl (by omega) (by omega) (by omega) _) rfl ?_))))))
  refine nq ?_
  refine jq 46 rfl rfl _ 28 call28 rfl rfl _ rfl [nK (c0 + 1)] rfl (YG (c0 + 1) (by omega) _) (by rintro _ _ ⟨_, _, he, _, _⟩; exact ⟨_, he⟩) ?_
  rintro v w4 ⟨ao3, cap3, he, G, HO3⟩
  cases he
  have hl3 := GR.size
  have hl4 := GG.size
  replace kvp := G.has kvp
  replace GR := GR.gro G
  replace GV := GV.gro G
  replace GG := GG.tg G
  clear G
  refine nq ?_
  refine jq 47 rfl rfl _ 27 call27 rfl rfl _ rfl [vP lp 0, .slice ao3 (begV (c0 + 1)).length cap3] rfl (SA _ lp p sg dn _ _ (HK.gro GR) (HD1.gro (G1R.trans GR)) (HO3.bs (fun k hk => by simp only [List.mem_cons, List.not_mem_nil, or_false] at hk; rcases hk with rfl | rfl; (have := ji HD1.box; omega); (have := ji HD1.sec; omega))) hne1 hne2 hd1 hd2) (by rintro _ _ ⟨_, he, _, _, _, _, _⟩; exact ⟨_, he⟩) ?_
  rintro v w5 ⟨dn2, he, G, hd3, hd4, HD, HK2⟩
  cases he
  replace GG := G.gros GG (fun k hk => by simp only [List.mem_cons, List.not_mem_nil, or_false] at hk ⊢; omega)
  have HV5 : VK (vp :: lp :: mb :: U0) w5 vp lp p sg mb n L2 pw2 dn2 h2 dw2 ((c0 : Nat) : Int) M := VK.app (⟨(HV.gro GV).vb, HK.gro GR, HD1.gro (G1R.trans GR), (HV.gro GV).mr, hs5, (HV.gro GV).lt⟩ : VK (vp :: lp :: mb :: U0) _ vp lp p sg mb n L pw dn h false ((c0 : Nat) : Int) M) G HD HK2
  clear kvp
  have kvp := HV5.vb.box
  refine nq ?_
  refine mv (iK 0) rfl (nq ?_)
  refine qL (qE (qG (mv (iK 0) rfl (sv (vF) (jj 31 .i64 _ _ _ rfl underlying31 0 0 rfl rfl false (decide_eq_true rfl) _) rfl (nq ?_)))))
  refine qL (qF rfl (qK (qE (qG (mv (vP vp 0) rfl (sv (vP vp 0) (jl _ rfl _ rfl) rfl (sv (vP vp 1) (je 78 _ 1 rfl vp 0 rfl 1 (by kernel_rfl)) rfl (sv (nK c0) (ldVti _ rfl vp rfl (kvp)) rfl (sv (nK (c0 + 1)) (jV 2 _ _ _ rfl ((c0 : Nat) : Int) 1 ((c0 + 1 : Nat) : Int) rfl rfl (by omega) (by omega) (by omega) _) rfl (sv (vP vp 0) (jl _ rfl _ rfl) rfl ?_))))))))))
  refine nq ?_
  refine sv (vP vp 1) (je 78 _ 1 rfl vp 0 rfl 1 (by kernel_rfl)) rfl (nq ?_)
  refine jE rfl rfl 2 _ _ rfl vp 1 rfl (nK (c0 + 1)) rfl 78 _ kvp #[nK (c0 + 1)] rfl si64i (by rw [VF]; exact Nat.le_of_ble_eq_true rfl) (jea _) (vtA lp ((c0 + 1 : Nat) : Int) mb) (QG _ _ _ _) ?_
  intro w6 St
  replace GG := GG.st St (.inl bvp)
  have HV6 := HV5.inc St
  clear St kvp
  refine qL (qE (qG (mv (vP vp 0) rfl (mv (vP vp 0) rfl (mv (iK 0) rfl (nq ?_))))))
  refine qL (qR ?_)
  refine bodyPost_ret (results_tmp2 results6 _ _ _) rfl ?_
  have hdw := HO.ok rfl
  subst hdw
  exact .inr ⟨rfl, vp, lp, mb, M, dn2, rfl, GG, HV6, HV.rel, bvp, by omega, bmb, hd3, hd4⟩
  have hlt : i < q.length := by have := of_decide_eq_true h1; omega
  refine qG (sv (vT) (jv 3 _ _ _ rfl ((i : Nat) : Int) ((q.length : Nat) : Int) rfl rfl true h1 _) rfl (nq ?_))
  refine qL (qE (qT rfl (qK (qE (qB (qE ?_))))))
  obtain ⟨ad, ao2, cap2, had, hcell, HR⟩ := (HRS.gro GR).lc.at (j := i) (by rw [List.length_map]; exact hlt)
  obtain ⟨r, hr⟩ : ∃ r, (q.map (·.2)).getD i [] = r := ⟨_, rfl⟩
  rw [hr] at hcell HR
  have hrl : r.length ≤ 1024 := HG.lens r (by rw [hq, ← hr]; exact vG (by rw [List.length_map]; exact hlt))
  have hs : hld ((q.map (·.2)).take (i + 1)) = hldR (Lx, c) r := by rw [take_one' hlt hr, vc, hh]; rfl
  refine qG (sv (.pointer (some (ad.add i))) (yg _ _ rfl ad _ _ i (by rw [← had]; rfl) rfl hlt _) rfl (sv (.slice ao2 r.length cap2) (yB _ rfl (ad.add i) rfl _ _ hcell) rfl (mv (.slice ao2 r.length cap2) rfl (nq ?_))))
  refine qL (qE ?_)
  rcases hx : hldR (Lx, c) r with _ | ⟨Ly, d⟩
  rw [hx] at hs
  exact absurd (hN.symm.trans (hq ▸ ui hs)) (by simp)
  rw [hx] at hs
  refine qG (mv (vP vp 0) rfl (mv (.slice ao2 r.length cap2) rfl (nq ?_)))
  refine jq 32 rfl rfl _ 26 call26 rfl rfl _ rfl [vP vp 0, .slice ao2 r.length cap2] rfl ((yX (vp :: lp :: mb :: U0) _ vp lp mb c M Lx HV ao2 cap2 r HR (by omega)).mono fun e w' HZ => by rw [hx] at HZ; exact HZ) (by rintro _ _ ⟨_, he, _, _⟩; exact ⟨_, he⟩) ?_
  rintro v w4 ⟨M2, he, G, HV2⟩
  cases he
  replace GR := G.gro GR (by simp only [List.mem_cons, List.not_mem_nil, or_false]; omega)
  replace GG := G.gros GG (fun k hk => by simp only [List.mem_cons, List.not_mem_nil, or_false] at hk ⊢; omega)
  have hh2 := hs
  clear HV
  have HV := HV2
  refine nq ?_
  refine sv (vF) (jZ _ _ rfl true rfl) rfl (nq ?_)
  refine qL (qF rfl (wp_skip (zb (jC (qG (sv (nK (i + 1)) (jV 3 _ _ _ rfl ((i : Nat) : Int) 1 ((i + 1 : Nat) : Int) rfl rfl (by omega) (by omega) (by omega) _) rfl (mv (nK (i + 1)) rfl (nq ?_))))))))
  refine qL ?_
  exact ⟨_, by omega, i + 1, d, M2, Ly, usK ⟨GG, GR, HV, by omega, hh2⟩⟩
  clear hrs
  have t2 : decide (err = 0) = false := decide_eq_false he1
  refine eN func6 rfl ntmps6 [vP p 0] ?_
  have GG := GroS.refl [p, sg] w
  have GA := Gro.refl w
  refine qE (qG (mv (.pointer none) rfl (mv (iK 0) rfl (nq ?_))))
  refine qL (qE (qG (mv (vP p 0) rfl (nq ?_))))
  refine jq 13 rfl rfl _ 25 call25 rfl rfl _ rfl [vP p 0] rfl (Zx _ p sg n L pw dn (H.gro GA) hn3 rs (HG.opens (by omega))) (by rintro _ _ ⟨_, _, _, _, he, _, _, _, _, _⟩; exact ⟨_, he⟩) ?_
  rintro v w1 ⟨lp, ao1, cap1, q, he, hq, G, hlp, HK, HRS⟩
  cases he
  replace GA := GA.gro G
  replace GG := GG.tg G
  clear G
  have HD1 := H.gro GA
  have GR := Gro.refl w1
  rw [HG.counts] at HK
  have hlp2 := ji HK.box
  have G1R := Gro.refl w1
  clear GA
  have hql : q.length ≤ 4096 := by
    have h1 := HG.num
    rw [hq, List.length_map] at h1
    have h2 := HG.cnt
    have h3 := HG.fit
    have h4 := H.le
    omega
  refine nq ?_
  refine mv (.tuple #[vP lp 0, .slice ao1 q.length cap1, iK 0]) rfl (mv (vP lp 0) rfl (mv (.slice ao1 q.length cap1) rfl (mv (iK 0) rfl (mv (vP lp 0) rfl (mv (.slice ao1 q.length cap1) rfl ?_)))))
  refine nq ?_
  refine mv (iK 0) rfl (nq ?_)
  refine qL (qE (qE (qG (mv (iK 0) rfl (sv (vF) (jj 31 .i64 _ _ _ rfl underlying31 0 0 rfl rfl false (decide_eq_true rfl) _) rfl (nq ?_))))))
  refine qL (qF rfl (qK (qE (qG (mv (vP lp 0) rfl (nq ?_))))))
  refine YT kvM okM evM 21 rfl rfl rfl ?_
  intro w2 mb G emb HM
  have bmb := jN GG emb
  have cmb : w1.heap.size ≤ mb := by rw [← emb]; exact GR.size
  replace GR := GR.gro G
  replace GG := GG.tg G
  clear G
  refine nq ?_
  refine sv (.agg (vtA lp 0 mb)) (jK 78 _ rfl [(0, vP lp 0), (2, .map (some mb))] rfl _ (bdVt lp mb _)) rfl (nq ?_)
  refine jW 23 rfl rfl 78 _ rfl _ rfl (vtA lp 0 mb) rfl ?_
  intro w3 vp G evp kvp
  have bvp := jN GG evp
  have cvp : w1.heap.size ≤ vp := by rw [← evp]; exact GR.size
  replace GR := GR.gro G
  replace HM := HM.gro G
  replace GG := GG.tg G
  clear G
  refine nq ?_
  have hUlt : ∀ k ∈ (vp :: lp :: mb :: U0), k < w3.heap.size := fun k hk => by
    have hz := GR.size
    have hz2 := ji kvp
    have hz3 := HM.lt
    rcases List.mem_cons.1 hk with rfl | hk
    exact hz2
    rcases List.mem_cons.1 hk with rfl | hk
    omega
    rcases List.mem_cons.1 hk with rfl | hk
    exact hz3
    exact Nat.lt_of_lt_of_le (hU0 k hk) GG.size
  have HV : VR (vp :: lp :: mb :: U0) w3 vp lp 0 mb [] [] := ⟨⟨kvp, HM, fun _ h => by (cases h)⟩, MR.nil _ _, MRel.nil, SKv.nil, hUlt, ⟨by simp, by simp⟩, by decide⟩
  clear kvp HM
  refine mv (vP vp 0) rfl (nq ?_)
  refine qL (qE (qE (qG (mv (.slice ao1 q.length cap1) rfl (sv (nK q.length) (js underlying73 _ rfl _ _ _ rfl _) rfl (mv (iK 0) rfl (nq ?_)))))))
  refine qL (qB ?_)
  refine jO (fun mz az wv => ∃ (i : Nat) (c : Nat) (M : List (Nat × IM)) (Lx : List It) (us1 : Nat → Value), mz = q.length - i ∧ az = ⟨[vP p 0, uD, us1 2, us1 3, vP lp 0, .slice ao1 q.length cap1, iK 0, vP vp 0, uD, us1 9, uD, .tuple #[vP lp 0, .slice ao1 q.length cap1, iK 0], vP p 0, .tuple #[vP lp 0, .slice ao1 q.length cap1, iK 0], vP lp 0, .slice ao1 q.length cap1, iK 0, iK 0, vF, uD, vP lp 0, .map (some mb), .agg (vtA lp 0 mb), vP vp 0, .slice ao1 q.length cap1, nK q.length, nK i, us1 27, us1 28, us1 29, us1 30, us1 31, us1 32, us1 33, us1 34, uD, uD, uD, uD, uD, uD, uD, uD, uD, uD, uD, uD, uD, uD, uD, uD, uD, uD, uD, uD, uD, uD, uD, uD].toArray, []⟩ ∧ GroS [p, sg] w wv ∧ Gro w1 wv ∧ VR (vp :: lp :: mb :: U0) wv vp lp c mb M Lx ∧ i ≤ q.length ∧ hld ((q.map (·.2)).take i) = some (Lx, c)) ?_ _ ⟨0, 0, [], [], usK ⟨GG, GR, HV, Nat.zero_le _, rfl⟩⟩
  clear GG GR HV
  rintro mz az wv ⟨i, c, M, Lx, us1, rfl, rfl, GG, GR, HV, hi, hh⟩
  refine qE ?_
  cases h1 : decide (((i : Nat) : Int) < ((q.length : Nat) : Int))
  have hiq : i = q.length := by have := of_decide_eq_false h1; omega
  rw [List.take_of_length_le (by rw [List.length_map]; omega), ← hq] at hh
  have hLc := hN.symm.trans hh
  injection hLc with hLc
  injection hLc with e1 e2
  subst e1 e2
  have kvp := HV.vb.box
  refine qG (sv (vF) (jv 3 _ _ _ rfl ((i : Nat) : Int) ((q.length : Nat) : Int) rfl rfl false h1 _) rfl (nq ?_))
  refine qL (qE (qF rfl (wp_exit (jG (jG (zp (jC (qE (qE (qG (mv (vP vp 0) rfl (sv (vP vp 0) (jl _ rfl _ rfl) rfl (sv (vP vp 1) (je 78 _ 1 rfl vp 0 rfl 1 (by kernel_rfl)) rfl (sv (nK c0) (ldVti _ rfl vp rfl (kvp)) rfl (sv (vF) (jw 2 .i64 _ _ _ rfl underlying2 ((c0 : Nat) : Int) 1048576 rfl rfl false t1 _) rfl (nq ?_))))))))))))))))
  refine qL (qF rfl (qK (qE (qE ?_))))
  have GV := Gro.refl wv
  have hs5 : ∀ k ∈ [vp, lp, p, sg, mb], k ∈ (vp :: lp :: mb :: U0) := fun k hk => by
    simp only [List.mem_cons, List.not_mem_nil, or_false] at hk ⊢
    rcases hk with rfl | rfl | rfl | rfl | rfl
    exact .inl rfl
    exact .inr (.inl rfl)
    exact .inr (.inr (.inr hp0))
    exact .inr (.inr (.inr hs0))
    exact .inr (.inr (.inl rfl))
  have hne1 : lp ≠ p := jB HK.box HD1.box (by decide)
  have hne2 : lp ≠ sg := jB HK.box HD1.sec (by decide)
  refine qG (mv (vP lp 0) rfl (mv (vP vp 0) rfl (sv (vP vp 0) (jl _ rfl _ rfl) rfl (sv (vP vp 1) (je 78 _ 1 rfl vp 0 rfl 1 (by kernel_rfl)) rfl (sv (nK c0) (ldVti _ rfl vp rfl (kvp)) rfl (sv (nK (c0 + 1)) (jV 2 _ _ _ rfl ((c0 : Nat) : Int) 1 ((c0 + 1 : Nat) : Int) rfl rfl (by omega) (by omega) (by omega) _) rfl ?_))))))
  refine nq ?_
  refine jq 46 rfl rfl _ 28 call28 rfl rfl _ rfl [nK (c0 + 1)] rfl (YG (c0 + 1) (by omega) _) (by rintro _ _ ⟨_, _, he, _, _⟩; exact ⟨_, he⟩) ?_
  rintro v w4 ⟨ao3, cap3, he, G, HO3⟩
  cases he
  have hl3 := GR.size
  have hl4 := GG.size
  replace kvp := G.has kvp
  replace GR := GR.gro G
  replace GV := GV.gro G
  replace GG := GG.tg G
  clear G
  refine nq ?_
  refine jq 47 rfl rfl _ 27 call27 rfl rfl _ rfl [vP lp 0, .slice ao3 (begV (c0 + 1)).length cap3] rfl (SA _ lp p sg dn _ _ (HK.gro GR) (HD1.gro (G1R.trans GR)) (HO3.bs (fun k hk => by simp only [List.mem_cons, List.not_mem_nil, or_false] at hk; rcases hk with rfl | rfl; (have := ji HD1.box; omega); (have := ji HD1.sec; omega))) hne1 hne2 hd1 hd2) (by rintro _ _ ⟨_, he, _, _, _, _, _⟩; exact ⟨_, he⟩) ?_
  rintro v w5 ⟨dn2, he, G, hd3, hd4, HD, HK2⟩
  cases he
  replace GG := G.gros GG (fun k hk => by simp only [List.mem_cons, List.not_mem_nil, or_false] at hk ⊢; omega)
  have HV5 : VK (vp :: lp :: mb :: U0) w5 vp lp p sg mb n L2 pw2 dn2 h2 dw2 ((c0 : Nat) : Int) M := VK.app (⟨(HV.gro GV).vb, HK.gro GR, HD1.gro (G1R.trans GR), (HV.gro GV).mr, hs5, (HV.gro GV).lt⟩ : VK (vp :: lp :: mb :: U0) _ vp lp p sg mb n L pw dn h false ((c0 : Nat) : Int) M) G HD HK2
  clear kvp
  have kvp := HV5.vb.box
  refine nq ?_
  refine mv (iK err) rfl (nq ?_)
  refine qL (qE (qG (mv (iK err) rfl (sv (vT) (jj 31 .i64 _ _ _ rfl underlying31 err 0 rfl rfl true t2 _) rfl (nq ?_)))))
  refine qL (qT rfl (qE (qG (mv (iK err) rfl (mv (.pointer none) rfl (mv (iK err) rfl (nq ?_)))))))
  refine qL (qR (jm ?_))
  refine bodyPost_ret (results_tmp2 results6 _ _ _) rfl ?_
  exact .inl ⟨he1, dn2, rfl, GG, HV5.dsk, hd3, hd4⟩
  have hlt : i < q.length := by have := of_decide_eq_true h1; omega
  refine qG (sv (vT) (jv 3 _ _ _ rfl ((i : Nat) : Int) ((q.length : Nat) : Int) rfl rfl true h1 _) rfl (nq ?_))
  refine qL (qE (qT rfl (qK (qE (qB (qE ?_))))))
  obtain ⟨ad, ao2, cap2, had, hcell, HR⟩ := (HRS.gro GR).lc.at (j := i) (by rw [List.length_map]; exact hlt)
  obtain ⟨r, hr⟩ : ∃ r, (q.map (·.2)).getD i [] = r := ⟨_, rfl⟩
  rw [hr] at hcell HR
  have hrl : r.length ≤ 1024 := HG.lens r (by rw [hq, ← hr]; exact vG (by rw [List.length_map]; exact hlt))
  have hs : hld ((q.map (·.2)).take (i + 1)) = hldR (Lx, c) r := by rw [take_one' hlt hr, vc, hh]; rfl
  refine qG (sv (.pointer (some (ad.add i))) (yg _ _ rfl ad _ _ i (by rw [← had]; rfl) rfl hlt _) rfl (sv (.slice ao2 r.length cap2) (yB _ rfl (ad.add i) rfl _ _ hcell) rfl (mv (.slice ao2 r.length cap2) rfl (nq ?_))))
  refine qL (qE ?_)
  rcases hx : hldR (Lx, c) r with _ | ⟨Ly, d⟩
  rw [hx] at hs
  exact absurd (hN.symm.trans (hq ▸ ui hs)) (by simp)
  rw [hx] at hs
  refine qG (mv (vP vp 0) rfl (mv (.slice ao2 r.length cap2) rfl (nq ?_)))
  refine jq 32 rfl rfl _ 26 call26 rfl rfl _ rfl [vP vp 0, .slice ao2 r.length cap2] rfl ((yX (vp :: lp :: mb :: U0) _ vp lp mb c M Lx HV ao2 cap2 r HR (by omega)).mono fun e w' HZ => by rw [hx] at HZ; exact HZ) (by rintro _ _ ⟨_, he, _, _⟩; exact ⟨_, he⟩) ?_
  rintro v w4 ⟨M2, he, G, HV2⟩
  cases he
  replace GR := G.gro GR (by simp only [List.mem_cons, List.not_mem_nil, or_false]; omega)
  replace GG := G.gros GG (fun k hk => by simp only [List.mem_cons, List.not_mem_nil, or_false] at hk ⊢; omega)
  have hh2 := hs
  clear HV
  have HV := HV2
  refine nq ?_
  refine sv (vF) (jZ _ _ rfl true rfl) rfl (nq ?_)
  refine qL (qF rfl (wp_skip (zb (jC (qG (sv (nK (i + 1)) (jV 3 _ _ _ rfl ((i : Nat) : Int) 1 ((i + 1 : Nat) : Int) rfl rfl (by omega) (by omega) (by omega) _) rfl (mv (nK (i + 1)) rfl (nq ?_))))))))
  refine qL ?_
  exact ⟨_, by omega, i + 1, d, M2, Ly, usK ⟨GG, GR, HV, by omega, hh2⟩⟩
theorem VG (w : World) (p sg n : Nat) (L : List Nat) (pw dn : Int) (H : DK w p sg n L pw dn) (hn : n ≤ 2) : Calls Tryz.prog 6 #[vP p 0] w (fun e w' => e = .returned (.tuple #[.pointer none, iK 1]) ∧ Gro w w') := by
  refine eN func6 rfl ntmps6 [vP p 0] ?_
  have GG := Gro.refl w
  refine qE (qG (mv (.pointer none) rfl (mv (iK 0) rfl (nq ?_))))
  refine qL (qE (qG (mv (vP p 0) rfl (nq ?_))))
  refine jr 13 rfl rfl _ 25 call25 rfl rfl _ rfl [vP p 0] rfl (Qf _ p sg n L pw dn H hn) ?_
  intro w1 G
  replace H := H.gro G
  replace GG := GG.trans G
  clear G
  refine nq ?_
  refine mv (.tuple #[.pointer none, .slice none 0 0, iK 1]) rfl (mv (.pointer none) rfl (mv (.slice none 0 0) rfl (mv (iK 1) rfl (mv (.pointer none) rfl (mv (.slice none 0 0) rfl ?_)))))
  refine nq ?_
  refine mv (iK 1) rfl (nq ?_)
  refine qL (qE (qE (qG (mv (iK 1) rfl (sv (vT) (jj 31 .i64 _ _ _ rfl underlying31 1 0 rfl rfl true (by decide) _) rfl (nq ?_))))))
  refine qL (qT rfl (qE (qG (mv (iK 1) rfl (mv (.pointer none) rfl (mv (iK 1) rfl (nq ?_)))))))
  refine qL (qR (jm ?_))
  refine bodyPost_ret (results_tmp2 results6 _ _ _) rfl ?_
  exact ⟨rfl, GG⟩
end Go.Proofs.YtgfnjekpafempaaGreat
