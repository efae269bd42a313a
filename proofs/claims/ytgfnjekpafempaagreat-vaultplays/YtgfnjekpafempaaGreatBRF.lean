import Derived.Test.YtgfnjekpafempaaGreatBRE
import Derived.Test.YtgfnjekpafempaaGreatBAb
namespace Go.Proofs.YtgfnjekpafempaaGreat
open Go.Proofs.Tryz
set_option maxHeartbeats 4000000
set_option maxRecDepth 100000
open Go.RowKit
theorem pair_n (w : World) (ao : Option Addr) (cap : Nat) (C : List Nat) (HN : NC w .u8 ao cap C) (m n : Nat) (hC : C.length = m * 64) (hm : m ≤ 4096) (hn : n = C.length) : Calls Tryz.prog 4 #[.slice ao n cap] w fun e w' => ∃ p sg rp ro rc, e = .returned (.tuple #[.pointer (some ⟨p, 0, none⟩), .pointer (some ⟨rp, 0, none⟩)]) ∧ Gro w w' ∧ w.heap.size ≤ p ∧ w.heap.size ≤ sg ∧ w.heap.size ≤ rp ∧ DK w' p sg m C (-1) 0 ∧ QK w' rp w.heap.size ro rc m C (-1) 0 := by
  subst hn
  exact jdi w ao cap C HN m hC hm
theorem UG (w : World) (p sg n : Nat) (L : List Nat) (pw dn : Int) (H : DK w p sg n L pw dn) : Calls Tryz.prog 8 #[.pointer (some ⟨p, 0, none⟩)] w fun e w' => ∃ ao cap, e = .returned (.slice ao L.length cap) ∧ Gro w w' ∧ OB w' 5 .u8 w.heap.size ao cap L := by
  refine (jbc w p sg n L pw dn H).mono fun e w' ⟨g, he, G, hg, hb⟩ => ⟨_, _, he, G, OB.made hb hg (Nat.le_refl _) ?_ (by rw [zE]) (by rw [List.take_of_length_le (by simp [bv])]; simp [bv]) (fun x hx => by have := H.byte x hx; rw [yY]; omega)⟩
  have h1 := H.len
  have h2 := H.le
  simp only [maxLen]
  omega
theorem na27q (w : World) : (isAgg 27).run Tryz.prog w = .ok false w := by kernel_rfl
theorem ldQr {o : Oper} {A : Act} {w : World} {rp B : Nat} {ro : Option Addr} {rc n : Nat} {L : List Nat} {pw dn : Int} (H : QK w rp B ro rc n L pw dn) (y : Operand) (ho : o.op = .load 27 y) (hx : A.eval y = .pointer (some ⟨rp, 0, none⟩)) : (execOp A.eval o).run Tryz.prog w = .ok (.value (.slice ro (n * 64) rc)) w :=
  jo 27 y ho rp 0 hx 47 _ H.box (na27q w) _ rfl
section
variable {w w' : World} {rp mp B p sg n n2 : Nat} {ro : Option Addr} {rc : Nat} {L L2 : List Nat} {pw dn pw2 dn2 : Int} {h : Hd} {dw : Bool}
theorem QK.ge3 (H : QK w rp B ro rc n L pw dn) (hr : B ≤ rp) (hm : B ≤ mp) : ∀ k ∈ rp :: mp :: blk ro, B ≤ k := fun k hk => by
  rcases List.mem_cons.1 hk with rfl | hk
  · exact hr
  rcases List.mem_cons.1 hk with rfl | hk
  · exact hm
  obtain ⟨ad, ha, rfl⟩ := mem_blk.1 hk
  exact (H.row.ge ad ha).1
theorem QK.nD (H : QK w rp B ro rc n L pw dn) (HD : DK w p sg n2 L2 pw2 dn2) : ∀ k ∈ rp :: blk ro, k ∉ [p, sg] := fun k hk => by
  rcases List.mem_cons.1 hk with rfl | hk
  · exact HD.nin H.box (by decide)
  obtain ⟨ad, ha, rfl⟩ := mem_blk.1 hk
  obtain ⟨cur, hc⟩ := H.row.blk5 ha
  exact HD.nin hc (by decide)
theorem QK.keepD (H : QK w rp B ro rc n L pw dn) (HD : DK w p sg n2 L2 pw2 dn2) (G : GroS [p, sg] w w') : QK w' rp B ro rc n L pw dn :=
  H.gros G (H.nD HD rp (by simp)) (fun ad ha => H.nD HD _ (List.mem_cons.2 (.inr (mem_blk.2 ⟨ad, ha, rfl⟩))))
theorem DK.keepQ (HD : DK w p sg n2 L2 pw2 dn2) (H : QK w rp B ro rc n L pw dn) (G : GroS (rp :: blk ro) w w') : DK w' p sg n2 L2 pw2 dn2 :=
  HD.gros G (fun hm => H.nD HD _ hm (by simp)) (fun hm => H.nD HD _ hm (by simp))
end
theorem VK.keepQ {U : List Nat} {w w' : World} {vp lp p sg mb n : Nat} {L : List Nat} {pw dn : Int} {h : Hd} {dw : Bool} {inc : Int} {M : List (Nat × IM)} (H : VK U w vp lp p sg mb n L pw dn h dw inc M) {rp B : Nat} {ro : Option Addr} {rc n2 : Nat} {L2 : List Nat} {pw2 dn2 : Int} (HQ : QK w rp B ro rc n2 L2 pw2 dn2) (G : GroS (rp :: blk ro) w w') (hU : ∀ k ∈ blk ro, k ∈ U) : VK U w' vp lp p sg mb n L pw dn h dw inc M :=
  H.gros G fun k hk => by
    rcases List.mem_cons.1 hk with rfl | hk
    · exact ⟨H.nin HQ.box (by decide), H.nrow HQ.box (by decide)⟩
    · obtain ⟨ad, ha, rfl⟩ := mem_blk.1 hk
      obtain ⟨cur, hc⟩ := HQ.row.blk5 ha
      exact ⟨H.nin hc (by decide), fun x hx ad2 ha2 h0 e => (H.mr.row x hx).ne ad2 ha2 h0 (e ▸ hU _ hk)⟩
theorem VD.gro {C : Nat} {w w' : World} {vq mp rp B : Nat} {ro : Option Addr} {rc n : Nat} {L : List Nat} {pw dn : Int} {h : Hd} {dw : Bool} {inc : Int} {ao : Option Addr} {cap : Nat} {R : List IM} (H : VD C w vq mp rp B ro rc n L pw dn h dw inc ao cap R) (G : Gro w w') : VD C w' vq mp rp B ro rc n L pw dn h dw inc ao cap R := ⟨G.has H.box, H.log.gro G, H.dsk.gro G, H.row.gro G, H.byt.gro G, H.n0, H.lt⟩
def sgf (x : It) : Sg := ⟨x.key, x.n, x.who, x.val⟩
theorem VL {x : IM} (h : 1 ≤ x.it.n) : x.sg = sgf x.it := by
  unfold IM.sg sgf IM.it at *
  simp only at *
  rw [show ((x.n.toNat : Nat) : Int) = x.n by omega]
theorem jbr {Z R : List IM} {L : List It} (hZ : Z.map IM.it = L) (hR : R.map IM.it = L) (hn : ∀ y ∈ R, 1 ≤ y.n) : sameM Z R := by
  have hL : ∀ z ∈ L, 1 ≤ z.n := fun z hz => by
    rw [← hR] at hz
    obtain ⟨y, hy, rfl⟩ := List.mem_map.1 hz
    have := hn y hy
    unfold IM.it
    simp only
    omega
  have key : ∀ W : List IM, W.map IM.it = L → W.map IM.sg = L.map sgf := fun W hW => by
    rw [← hW, List.map_map]
    exact List.map_congr_left fun x hx => VL (hL _ (by rw [← hW]; exact List.mem_map_of_mem hx))
  exact (key Z hZ).trans (key R hR).symm
def itsE (B : Nat) (L : List It) : PostE := PostE.ex (fun v x => ∃ ao cap Z, v = .slice ao (List.length Z) cap ∧ OW kM 42 x B ao cap Z ∧ OBs x B Z ∧ Z.map IM.it = L) (fun _ _ _ G ⟨a, c, Z, h1, h2, h3, h4⟩ => ⟨a, c, Z, h1, h2.gro G, h3.gro G, h4⟩)
theorem jaw (B : Nat) (L : List It) (v : Value) : (itsE B L).fill v = v := rfl
theorem UK (U0 : List Nat) (w : World) (p sg n : Nat) (L : List Nat) (pw dn : Int) (H : DK w p sg n L pw dn) (hn3 : 3 ≤ n) (h : Hd) (rs : List (List Nat)) (HG : Good L n h rs) (hg : h.g < 10000) (hU0 : ∀ k ∈ U0, k < w.heap.size) (hN : hld rs = none) : Calls Tryz.prog 6 #[vP p 0] w (fun e w' => e = .returned (.tuple #[.pointer none, iK 2]) ∧ GroS [p, sg] w w' ∧ DK w' p sg n L pw dn) := by
  refine eN func6 rfl ntmps6 [vP p 0] ?_
  have GG := GroS.refl [p, sg] w
  have GA := Gro.refl w
  refine qE (qG (mv (.pointer none) rfl (mv (iK 0) rfl (nq ?_))))
  refine qL (qE (qG (mv (vP p 0) rfl (nq ?_))))
  refine jq 13 rfl rfl _ 25 call25 rfl rfl _ rfl [vP p 0] rfl (Zx _ p sg n L pw dn (H.gro GA) hn3 rs (HG.opens (by omega))) (by rintro _ _ ⟨_, _, _, _, he, _, _, _, _, _⟩; exact ⟨_, he⟩) ?_
  rintro v w1 ⟨lp, ao1, cap1, q, he, hq, G, hlp, HK, HRS⟩
  cases he
  replace GA := GA.gro G
  replace GG := GG.tg G
  clear G
  have HD1 := H.gro GA
  have GR := Gro.refl w1
  rw [HG.counts] at HK
  have hlp2 := ji HK.box
  have G1R := Gro.refl w1
  clear GA
  have hql : q.length ≤ 4096 := by
    have h1 := HG.num
    rw [hq, List.length_map] at h1
    have h2 := HG.cnt
    have h3 := HG.fit
    have h4 := H.le
    omega
  refine nq ?_
  refine mv (.tuple #[vP lp 0, .slice ao1 q.length cap1, iK 0]) rfl (mv (vP lp 0) rfl (mv (.slice ao1 q.length cap1) rfl (mv (iK 0) rfl (mv (vP lp 0) rfl (mv (.slice ao1 q.length cap1) rfl ?_)))))
  refine nq ?_
  refine mv (iK 0) rfl (nq ?_)
  refine qL (qE (qE (qG (mv (iK 0) rfl (sv (vF) (jj 31 .i64 _ _ _ rfl underlying31 0 0 rfl rfl false (decide_eq_true rfl) _) rfl (nq ?_))))))
  refine qL (qF rfl (qK (qE (qG (mv (vP lp 0) rfl (nq ?_))))))
  refine YT kvM okM evM 21 rfl rfl rfl ?_
  intro w2 mb G emb HM
  have bmb := jN GG emb
  have cmb : w1.heap.size ≤ mb := by rw [← emb]; exact GR.size
  replace GR := GR.gro G
  replace GG := GG.tg G
  clear G
  refine nq ?_
  refine sv (.agg (vtA lp 0 mb)) (jK 78 _ rfl [(0, vP lp 0), (2, .map (some mb))] rfl _ (bdVt lp mb _)) rfl (nq ?_)
  refine jW 23 rfl rfl 78 _ rfl _ rfl (vtA lp 0 mb) rfl ?_
  intro w3 vp G evp kvp
  have bvp := jN GG evp
  have cvp : w1.heap.size ≤ vp := by rw [← evp]; exact GR.size
  replace GR := GR.gro G
  replace HM := HM.gro G
  replace GG := GG.tg G
  clear G
  refine nq ?_
  have hUlt : ∀ k ∈ (vp :: lp :: mb :: U0), k < w3.heap.size := fun k hk => by
    have hz := GR.size
    have hz2 := ji kvp
    have hz3 := HM.lt
    rcases List.mem_cons.1 hk with rfl | hk
    exact hz2
    rcases List.mem_cons.1 hk with rfl | hk
    omega
    rcases List.mem_cons.1 hk with rfl | hk
    exact hz3
    exact Nat.lt_of_lt_of_le (hU0 k hk) GG.size
  have HV : VR (vp :: lp :: mb :: U0) w3 vp lp 0 mb [] [] := ⟨⟨kvp, HM, fun _ h => by (cases h)⟩, MR.nil _ _, MRel.nil, SKv.nil, hUlt, ⟨by simp, by simp⟩, by decide⟩
  clear kvp HM
  refine mv (vP vp 0) rfl (nq ?_)
  refine qL (qE (qE (qG (mv (.slice ao1 q.length cap1) rfl (sv (nK q.length) (js underlying73 _ rfl _ _ _ rfl _) rfl (mv (iK 0) rfl (nq ?_)))))))
  refine qL (qB ?_)
  refine jO (fun mz az wv => ∃ (i : Nat) (c : Nat) (M : List (Nat × IM)) (Lx : List It) (us1 : Nat → Value), mz = q.length - i ∧ az = ⟨[vP p 0, uD, us1 2, us1 3, vP lp 0, .slice ao1 q.length cap1, iK 0, vP vp 0, uD, us1 9, uD, .tuple #[vP lp 0, .slice ao1 q.length cap1, iK 0], vP p 0, .tuple #[vP lp 0, .slice ao1 q.length cap1, iK 0], vP lp 0, .slice ao1 q.length cap1, iK 0, iK 0, vF, uD, vP lp 0, .map (some mb), .agg (vtA lp 0 mb), vP vp 0, .slice ao1 q.length cap1, nK q.length, nK i, us1 27, us1 28, us1 29, us1 30, us1 31, us1 32, us1 33, us1 34, uD, uD, uD, uD, uD, uD, uD, uD, uD, uD, uD, uD, uD, uD, uD, uD, uD, uD, uD, uD, uD, uD, uD, uD].toArray, []⟩ ∧ GroS [p, sg] w wv ∧ Gro w1 wv ∧ VR (vp :: lp :: mb :: U0) wv vp lp c mb M Lx ∧ i ≤ q.length ∧ hld ((q.map (·.2)).take i) = some (Lx, c)) ?_ _ ⟨0, 0, [], [], usK ⟨GG, GR, HV, Nat.zero_le _, rfl⟩⟩
  clear GG GR HV
  rintro mz az wv ⟨i, c, M, Lx, us1, rfl, rfl, GG, GR, HV, hi, hh⟩
  refine qE ?_
  cases h1 : decide (((i : Nat) : Int) < ((q.length : Nat) : Int))
  have hiq : i = q.length := by have := of_decide_eq_false h1; omega
  rw [List.take_of_length_le (by rw [List.length_map]; omega), ← hq] at hh
  exact absurd (hN.symm.trans hh) (by simp)
  have hlt : i < q.length := by have := of_decide_eq_true h1; omega
  refine qG (sv (vT) (jv 3 _ _ _ rfl ((i : Nat) : Int) ((q.length : Nat) : Int) rfl rfl true h1 _) rfl (nq ?_))
  refine qL (qE (qT rfl (qK (qE (qB (qE ?_))))))
  obtain ⟨ad, ao2, cap2, had, hcell, HR⟩ := (HRS.gro GR).lc.at (j := i) (by rw [List.length_map]; exact hlt)
  obtain ⟨r, hr⟩ : ∃ r, (q.map (·.2)).getD i [] = r := ⟨_, rfl⟩
  rw [hr] at hcell HR
  have hrl : r.length ≤ 1024 := HG.lens r (by rw [hq, ← hr]; exact vG (by rw [List.length_map]; exact hlt))
  have hs : hld ((q.map (·.2)).take (i + 1)) = hldR (Lx, c) r := by rw [take_one' hlt hr, vc, hh]; rfl
  refine qG (sv (.pointer (some (ad.add i))) (yg _ _ rfl ad _ _ i (by rw [← had]; rfl) rfl hlt _) rfl (sv (.slice ao2 r.length cap2) (yB _ rfl (ad.add i) rfl _ _ hcell) rfl (mv (.slice ao2 r.length cap2) rfl (nq ?_))))
  refine qL (qE ?_)
  rcases hx : hldR (Lx, c) r with _ | ⟨Ly, d⟩
  rw [hx] at hs
  refine qG (mv (vP vp 0) rfl (mv (.slice ao2 r.length cap2) rfl (nq ?_)))
  refine jq 32 rfl rfl _ 26 call26 rfl rfl _ rfl [vP vp 0, .slice ao2 r.length cap2] rfl ((yX (vp :: lp :: mb :: U0) _ vp lp mb c M Lx HV ao2 cap2 r HR (by omega)).mono fun e w' HZ => by rw [hx] at HZ; exact HZ) (by rintro _ _ ⟨he, _⟩; exact ⟨_, he⟩) ?_
  rintro v w4 ⟨he, G⟩
  cases he
  replace GR := G.gro GR (by simp only [List.mem_cons, List.not_mem_nil, or_false]; omega)
  replace GG := G.gros GG (fun k hk => by simp only [List.mem_cons, List.not_mem_nil, or_false] at hk ⊢; omega)
  refine nq ?_
  refine sv (vT) (jZ _ _ rfl false rfl) rfl (nq ?_)
  refine qL (qT rfl (qE (qG (mv (.pointer none) rfl (mv (iK 2) rfl (nq ?_))))))
  refine qL (qR (ze (jm (jm (ze (jm ?_))))))
  refine bodyPost_ret (results_tmp2 results6 _ _ _) rfl ?_
  exact ⟨rfl, GG, HD1.gro (G1R.trans GR)⟩
  rw [hx] at hs
  refine qG (mv (vP vp 0) rfl (mv (.slice ao2 r.length cap2) rfl (nq ?_)))
  refine jq 32 rfl rfl _ 26 call26 rfl rfl _ rfl [vP vp 0, .slice ao2 r.length cap2] rfl ((yX (vp :: lp :: mb :: U0) _ vp lp mb c M Lx HV ao2 cap2 r HR (by omega)).mono fun e w' HZ => by rw [hx] at HZ; exact HZ) (by rintro _ _ ⟨_, he, _, _⟩; exact ⟨_, he⟩) ?_
  rintro v w4 ⟨M2, he, G, HV2⟩
  cases he
  replace GR := G.gro GR (by simp only [List.mem_cons, List.not_mem_nil, or_false]; omega)
  replace GG := G.gros GG (fun k hk => by simp only [List.mem_cons, List.not_mem_nil, or_false] at hk ⊢; omega)
  have hh2 := hs
  clear HV
  have HV := HV2
  refine nq ?_
  refine sv (vF) (jZ _ _ rfl true rfl) rfl (nq ?_)
  refine qL (qF rfl (wp_skip (zb (jC (qG (sv (nK (i + 1)) (jV 3 _ _ _ rfl ((i : Nat) : Int) 1 ((i + 1 : Nat) : Int) rfl rfl (by omega) (by omega) (by omega) _) rfl (mv (nK (i + 1)) rfl (nq ?_))))))))
  refine qL ?_
  exact ⟨_, by omega, i + 1, d, M2, Ly, usK ⟨GG, GR, HV, by omega, hh2⟩⟩
theorem VH (U0 : List Nat) (w : World) (p sg n : Nat) (L : List Nat) (pw dn : Int) (H : DK w p sg n L pw dn) (hn3 : 3 ≤ n) (h : Hd) (rs : List (List Nat)) (HG : Good L n h rs) (hg : h.g < 10000) (hU0 : ∀ k ∈ U0, k < w.heap.size) (L0 : List It) (c0 : Nat) (hN : hld rs = some (L0, c0)) (hc : c0 = 1048576) : Calls Tryz.prog 6 #[vP p 0] w (fun e w' => e = .returned (.tuple #[.pointer none, iK 5]) ∧ GroS [p, sg] w w' ∧ DK w' p sg n L pw dn) := by
  have t1 : decide (((c0 : Nat) : Int) = 1048576) = true := decide_eq_true (by omega)
  refine eN func6 rfl ntmps6 [vP p 0] ?_
  have GG := GroS.refl [p, sg] w
  have GA := Gro.refl w
  refine qE (qG (mv (.pointer none) rfl (mv (iK 0) rfl (nq ?_))))
  refine qL (qE (qG (mv (vP p 0) rfl (nq ?_))))
  refine jq 13 rfl rfl _ 25 call25 rfl rfl _ rfl [vP p 0] rfl (Zx _ p sg n L pw dn (H.gro GA) hn3 rs (HG.opens (by omega))) (by rintro _ _ ⟨_, _, _, _, he, _, _, _, _, _⟩; exact ⟨_, he⟩) ?_
  rintro v w1 ⟨lp, ao1, cap1, q, he, hq, G, hlp, HK, HRS⟩
  cases he
  replace GA := GA.gro G
  replace GG := GG.tg G
  clear G
  have HD1 := H.gro GA
  have GR := Gro.refl w1
  rw [HG.counts] at HK
  have hlp2 := ji HK.box
  have G1R := Gro.refl w1
  clear GA
  have hql : q.length ≤ 4096 := by
    have h1 := HG.num
    rw [hq, List.length_map] at h1
    have h2 := HG.cnt
    have h3 := HG.fit
    have h4 := H.le
    omega
  refine nq ?_
  refine mv (.tuple #[vP lp 0, .slice ao1 q.length cap1, iK 0]) rfl (mv (vP lp 0) rfl (mv (.slice ao1 q.length cap1) rfl (mv (iK 0) rfl (mv (vP lp 0) rfl (mv (.slice ao1 q.length cap1) rfl ?_)))))
  refine nq ?_
  refine mv (iK 0) rfl (nq ?_)
  refine qL (qE (qE (qG (mv (iK 0) rfl (sv (vF) (jj 31 .i64 _ _ _ rfl underlying31 0 0 rfl rfl false (decide_eq_true rfl) _) rfl (nq ?_))))))
  refine qL (qF rfl (qK (qE (qG (mv (vP lp 0) rfl (nq ?_))))))
  refine YT kvM okM evM 21 rfl rfl rfl ?_
  intro w2 mb G emb HM
  have bmb := jN GG emb
  have cmb : w1.heap.size ≤ mb := by rw [← emb]; exact GR.size
  replace GR := GR.gro G
  replace GG := GG.tg G
  clear G
  refine nq ?_
  refine sv (.agg (vtA lp 0 mb)) (jK 78 _ rfl [(0, vP lp 0), (2, .map (some mb))] rfl _ (bdVt lp mb _)) rfl (nq ?_)
  refine jW 23 rfl rfl 78 _ rfl _ rfl (vtA lp 0 mb) rfl ?_
  intro w3 vp G evp kvp
  have bvp := jN GG evp
  have cvp : w1.heap.size ≤ vp := by rw [← evp]; exact GR.size
  replace GR := GR.gro G
  replace HM := HM.gro G
  replace GG := GG.tg G
  clear G
  refine nq ?_
  have hUlt : ∀ k ∈ (vp :: lp :: mb :: U0), k < w3.heap.size := fun k hk => by
    have hz := GR.size
    have hz2 := ji kvp
    have hz3 := HM.lt
    rcases List.mem_cons.1 hk with rfl | hk
    exact hz2
    rcases List.mem_cons.1 hk with rfl | hk
    omega
    rcases List.mem_cons.1 hk with rfl | hk
    exact hz3
    exact Nat.lt_of_lt_of_le (hU0 k hk) GG.size
  have HV : VR (vp :: lp :: mb :: U0) w3 vp lp 0 mb [] [] := ⟨⟨kvp, HM, fun _ h => by (cases h)⟩, MR.nil _ _, MRel.nil, SKv.nil, hUlt, ⟨by simp, by simp⟩, by decide⟩
  clear kvp HM
  refine mv (vP vp 0) rfl (nq ?_)
  refine qL (qE (qE (qG (mv (.slice ao1 q.length cap1) rfl (sv (nK q.length) (js underlying73 _ rfl _ _ _ rfl _) rfl (mv (iK 0) rfl (nq ?_)))))))
  refine qL (qB ?_)
  refine jO (fun mz az wv => ∃ (i : Nat) (c : Nat) (M : List (Nat × IM)) (Lx : List It) (us1 : Nat → Value), mz = q.length - i ∧ az = ⟨[vP p 0, uD, us1 2, us1 3, vP lp 0, .slice ao1 q.length cap1, iK 0, vP vp 0, uD, us1 9, uD, .tuple #[vP lp 0, .slice ao1 q.length cap1, iK 0], vP p 0, .tuple #[vP lp 0, .slice ao1 q.length cap1, iK 0], vP lp 0, .slice ao1 q.length cap1, iK 0, iK 0, vF, uD, vP lp 0, .map (some mb), .agg (vtA lp 0 mb), vP vp 0, .slice ao1 q.length cap1, nK q.length, nK i, us1 27, us1 28, us1 29, us1 30, us1 31, us1 32, us1 33, us1 34, uD, uD, uD, uD, uD, uD, uD, uD, uD, uD, uD, uD, uD, uD, uD, uD, uD, uD, uD, uD, uD, uD, uD, uD].toArray, []⟩ ∧ GroS [p, sg] w wv ∧ Gro w1 wv ∧ VR (vp :: lp :: mb :: U0) wv vp lp c mb M Lx ∧ i ≤ q.length ∧ hld ((q.map (·.2)).take i) = some (Lx, c)) ?_ _ ⟨0, 0, [], [], usK ⟨GG, GR, HV, Nat.zero_le _, rfl⟩⟩
  clear GG GR HV
  rintro mz az wv ⟨i, c, M, Lx, us1, rfl, rfl, GG, GR, HV, hi, hh⟩
  refine qE ?_
  cases h1 : decide (((i : Nat) : Int) < ((q.length : Nat) : Int))
  have hiq : i = q.length := by have := of_decide_eq_false h1; omega
  rw [List.take_of_length_le (by rw [List.length_map]; omega), ← hq] at hh
  have hLc := hN.symm.trans hh
  injection hLc with hLc
  injection hLc with e1 e2
  subst e1 e2
  have kvp := HV.vb.box
  refine qG (sv (vF) (jv 3 _ _ _ rfl ((i : Nat) : Int) ((q.length : Nat) : Int) rfl rfl false h1 _) rfl (nq ?_))
  refine qL (qE (qF rfl (wp_exit (jG (jG (zp (jC (qE (qE (qG (mv (vP vp 0) rfl (sv (vP vp 0) (jl _ rfl _ rfl) rfl (sv (vP vp 1) (je 78 _ 1 rfl vp 0 rfl 1 (by kernel_rfl)) rfl (sv (nK c0) (ldVti _ rfl vp rfl (kvp)) rfl (sv (vT) (jw 2 .i64 _ _ _ rfl underlying2 ((c0 : Nat) : Int) 1048576 rfl rfl true t1 _) rfl (nq ?_))))))))))))))))
  refine qL (qT rfl (qE (qG (mv (.pointer none) rfl (mv (iK 5) rfl (nq ?_))))))
  refine qL (qR (jm ?_))
  refine bodyPost_ret (results_tmp2 results6 _ _ _) rfl ?_
  exact ⟨rfl, GG, HD1.gro (G1R.trans GR)⟩
  have hlt : i < q.length := by have := of_decide_eq_true h1; omega
  refine qG (sv (vT) (jv 3 _ _ _ rfl ((i : Nat) : Int) ((q.length : Nat) : Int) rfl rfl true h1 _) rfl (nq ?_))
  refine qL (qE (qT rfl (qK (qE (qB (qE ?_))))))
  obtain ⟨ad, ao2, cap2, had, hcell, HR⟩ := (HRS.gro GR).lc.at (j := i) (by rw [List.length_map]; exact hlt)
  obtain ⟨r, hr⟩ : ∃ r, (q.map (·.2)).getD i [] = r := ⟨_, rfl⟩
  rw [hr] at hcell HR
  have hrl : r.length ≤ 1024 := HG.lens r (by rw [hq, ← hr]; exact vG (by rw [List.length_map]; exact hlt))
  have hs : hld ((q.map (·.2)).take (i + 1)) = hldR (Lx, c) r := by rw [take_one' hlt hr, vc, hh]; rfl
  refine qG (sv (.pointer (some (ad.add i))) (yg _ _ rfl ad _ _ i (by rw [← had]; rfl) rfl hlt _) rfl (sv (.slice ao2 r.length cap2) (yB _ rfl (ad.add i) rfl _ _ hcell) rfl (mv (.slice ao2 r.length cap2) rfl (nq ?_))))
  refine qL (qE ?_)
  rcases hx : hldR (Lx, c) r with _ | ⟨Ly, d⟩
  rw [hx] at hs
  exact absurd (hN.symm.trans (hq ▸ ui hs)) (by simp)
  rw [hx] at hs
  refine qG (mv (vP vp 0) rfl (mv (.slice ao2 r.length cap2) rfl (nq ?_)))
  refine jq 32 rfl rfl _ 26 call26 rfl rfl _ rfl [vP vp 0, .slice ao2 r.length cap2] rfl ((yX (vp :: lp :: mb :: U0) _ vp lp mb c M Lx HV ao2 cap2 r HR (by omega)).mono fun e w' HZ => by rw [hx] at HZ; exact HZ) (by rintro _ _ ⟨_, he, _, _⟩; exact ⟨_, he⟩) ?_
  rintro v w4 ⟨M2, he, G, HV2⟩
  cases he
  replace GR := G.gro GR (by simp only [List.mem_cons, List.not_mem_nil, or_false]; omega)
  replace GG := G.gros GG (fun k hk => by simp only [List.mem_cons, List.not_mem_nil, or_false] at hk ⊢; omega)
  have hh2 := hs
  clear HV
  have HV := HV2
  refine nq ?_
  refine sv (vF) (jZ _ _ rfl true rfl) rfl (nq ?_)
  refine qL (qF rfl (wp_skip (zb (jC (qG (sv (nK (i + 1)) (jV 3 _ _ _ rfl ((i : Nat) : Int) 1 ((i + 1 : Nat) : Int) rfl rfl (by omega) (by omega) (by omega) _) rfl (mv (nK (i + 1)) rfl (nq ?_))))))))
  refine qL ?_
  exact ⟨_, by omega, i + 1, d, M2, Ly, usK ⟨GG, GR, HV, by omega, hh2⟩⟩
theorem Yy : ∀ (k : Nat) (l : List Nat) (rs : List (List Nat)), (∀ x ∈ l, x < 256) → prsF k l = some rs → ∀ r ∈ rs, ∀ b ∈ r, b < 256
  | 0, l, rs, _, h => by
    unfold prsF at h
    cases h
  | k + 1, l, rs, hl, h => by
    unfold prsF at h
    split at h
    · cases h
      intro r hr
      cases hr
    split at h
    · cases h
    · cases hp : prsF k (l.drop (secN (recM l) * 64)) with
      | none => rw [hp] at h; cases h
      | some rs2 =>
        rw [hp] at h
        cases h
        intro r hr
        rcases List.mem_cons.1 hr with rfl | hr
        · intro b hb
          exact hl b (List.mem_of_mem_drop (List.mem_of_mem_take hb))
        · exact Yy k _ _ (fun x hx => hl x (List.mem_of_mem_drop hx)) hp r hr
theorem Good.bytes {L : List Nat} {n : Nat} {h : Hd} {rs : List (List Nat)} (H : Good L n h rs) (hL : ∀ x ∈ L, x < 256) : ∀ r ∈ rs, ∀ b ∈ r, b < 256 := Yy _ _ _ (fun x hx => hL x (List.mem_of_mem_drop (List.mem_of_mem_take hx))) H.recs
end Go.Proofs.YtgfnjekpafempaaGreat
