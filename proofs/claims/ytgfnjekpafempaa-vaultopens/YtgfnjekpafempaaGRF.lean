/- What VaultOpens needs of both sides. -/
import Derived.Test.YtgfnjekpafempaaGRE
import Derived.Test.YtgfnjekpafempaaGAb
namespace Go.Proofs.Ytgfnjekpafempaa
set_option maxHeartbeats 4000000
set_option maxRecDepth 100000
open Go.RowKit
theorem jcb (n : Nat) (L : List Nat) (h : Hd) (rs : List (List Nat)) (l : List Nat) (HG : Good L n h rs) (hg : h.g < 10000) (hn : n ≤ 4096) : ∃ (err : Int) (L2 : List Nat) (h2 : Hd) (rs2 : List (List Nat)), Good L2 n h2 rs2 ∧ h2.g ≤ h.g + 1 ∧ SideB n L (-1) h false l err L2 (-1) h2 false := by
  have hf := HG.fit
  have still : ∀ err : Int, (∀ (w : World) (mp rp B : Nat) (ro : Option Addr) (rc : Nat) (dn : Int) (ao : Option Addr) (cap : Nat), MK w mp rp h false → QK w rp B ro rc n L (-1) dn → Calls Try.prog 11 #[.pointer (some ⟨mp, 0, none⟩), .slice ao l.length cap] w fun e w' => e = .returned (.int .i64 err) ∧ Gro w w') → SideB n L (-1) h false l err L (-1) h false := fun err b =>
    fun w mp rp B ro rc dn ao cap h1 h2 _ _ _ => (b w mp rp B ro rc dn ao cap h1 h2).mono fun e w' ⟨he, G⟩ => ⟨dn, he, .of G, Int.le_refl _, by omega, h2.gro G, h1.gro G⟩
  by_cases hl : 1024 < l.length
  · exact ⟨4, L, h, rs, HG, by omega, still 4 (fun w mp rp _ _ _ _ ao cap h1 _ => uY w mp rp h h1 ao cap l hl)⟩
  by_cases hk : n - 2 - h.u < secN l.length
  · exact ⟨5, L, h, rs, HG, by omega, still 5 (fun w mp rp B ro rc dn ao cap h1 h2 => uZ w mp rp h h1 B ro rc n L (-1) dn h2 hf ao cap l (by omega) hk)⟩
  obtain ⟨err, L2, pw2, h2, dw2, rs2, HO, _, SB⟩ := ZW n L (-1) h false rs l HG ZP hg hn
  obtain ⟨rfl, rfl⟩ := HO.go rfl rfl (by omega) (by omega)
  have hd := HO.ok rfl
  subst hd
  exact ⟨0, L2, h2, rs2, HO.good, HO.g, SB⟩
theorem pair_n (w : World) (ao : Option Addr) (cap : Nat) (C : List Nat) (HN : NC w .u8 ao cap C) (m n : Nat) (hC : C.length = m * 64) (hm : m ≤ 4096) (hn : n = C.length) : Calls Try.prog 12 #[.slice ao n cap] w fun e w' => ∃ p sg rp ro rc, e = .returned (.tuple #[.pointer (some ⟨p, 0, none⟩), .pointer (some ⟨rp, 0, none⟩)]) ∧ Gro w w' ∧ w.heap.size ≤ p ∧ w.heap.size ≤ sg ∧ w.heap.size ≤ rp ∧ DK w' p sg m C (-1) 0 ∧ QK w' rp w.heap.size ro rc m C (-1) 0 := by
  subst hn
  exact jak w ao cap C HN m hC hm
theorem Vp (w : World) (p sg n : Nat) (L : List Nat) (pw dn : Int) (H : DK w p sg n L pw dn) : Calls Try.prog 15 #[.pointer (some ⟨p, 0, none⟩)] w fun e w' => ∃ ao cap, e = .returned (.slice ao L.length cap) ∧ Gro w w' ∧ OB w' 5 .u8 w.heap.size ao cap L := by
  refine (Kf w p sg n L pw dn H).mono fun e w' ⟨g, he, G, hg, hb⟩ => ⟨_, _, he, G, OB.made hb hg (Nat.le_refl _) ?_ (by rw [zF]) (by rw [List.take_of_length_le (by simp [bv])]; simp [bv]) (fun x hx => by have := H.byte x hx; rw [yW]; omega)⟩
  have h1 := H.len
  have h2 := H.le
  simp only [maxLen]
  omega
theorem na30q (w : World) : (isAgg 30).run Try.prog w = .ok false w := by kernel_rfl
theorem ldQr {o : Oper} {A : Act} {w : World} {rp B : Nat} {ro : Option Addr} {rc n : Nat} {L : List Nat} {pw dn : Int} (H : QK w rp B ro rc n L pw dn) (y : Operand) (ho : o.op = .load 30 y) (hx : A.eval y = .pointer (some ⟨rp, 0, none⟩)) : (execOp A.eval o).run Try.prog w = .ok (.value (.slice ro (n * 64) rc)) w :=
  jq 30 y ho rp 0 hx 36 _ H.box (na30q w) _ rfl
section
variable {w w' : World} {rp mp B p sg n n2 : Nat} {ro : Option Addr} {rc : Nat} {L L2 : List Nat} {pw dn pw2 dn2 : Int} {h : Hd} {dw : Bool}
theorem QK.ge3 (H : QK w rp B ro rc n L pw dn) (hr : B ≤ rp) (hm : B ≤ mp) : ∀ k ∈ rp :: mp :: blk ro, B ≤ k := fun k hk => by
  rcases List.mem_cons.1 hk with rfl | hk
  · exact hr
  rcases List.mem_cons.1 hk with rfl | hk
  · exact hm
  obtain ⟨ad, ha, rfl⟩ := mem_blk.1 hk
  exact (H.row.ge ad ha).1
theorem QK.nD (H : QK w rp B ro rc n L pw dn) (HD : DK w p sg n2 L2 pw2 dn2) : ∀ k ∈ rp :: blk ro, k ∉ [p, sg] := fun k hk => by
  rcases List.mem_cons.1 hk with rfl | hk
  · exact HD.nin H.box (by decide)
  obtain ⟨ad, ha, rfl⟩ := mem_blk.1 hk
  obtain ⟨cur, hc⟩ := H.row.blk5 ha
  exact HD.nin hc (by decide)
theorem QK.keepD (H : QK w rp B ro rc n L pw dn) (HD : DK w p sg n2 L2 pw2 dn2) (G : GroS [p, sg] w w') : QK w' rp B ro rc n L pw dn :=
  H.gros G (H.nD HD rp (by simp)) (fun ad ha => H.nD HD _ (List.mem_cons.2 (.inr (mem_blk.2 ⟨ad, ha, rfl⟩))))
theorem DK.keepQ (HD : DK w p sg n2 L2 pw2 dn2) (H : QK w rp B ro rc n L pw dn) (G : GroS (rp :: blk ro) w w') : DK w' p sg n2 L2 pw2 dn2 :=
  HD.gros G (fun hm => H.nD HD _ hm (by simp)) (fun hm => H.nD HD _ hm (by simp))
end
theorem VK.keepQ {U : List Nat} {w w' : World} {vp lp p sg mb n : Nat} {L : List Nat} {pw dn : Int} {h : Hd} {dw : Bool} {inc : Int} {M : List (Nat × IM)} (H : VK U w vp lp p sg mb n L pw dn h dw inc M) {rp B : Nat} {ro : Option Addr} {rc n2 : Nat} {L2 : List Nat} {pw2 dn2 : Int} (HQ : QK w rp B ro rc n2 L2 pw2 dn2) (G : GroS (rp :: blk ro) w w') (hU : ∀ k ∈ blk ro, k ∈ U) : VK U w' vp lp p sg mb n L pw dn h dw inc M :=
  H.gros G fun k hk => by
    rcases List.mem_cons.1 hk with rfl | hk
    · exact ⟨H.nin HQ.box (by decide), H.nrow HQ.box (by decide)⟩
    · obtain ⟨ad, ha, rfl⟩ := mem_blk.1 hk
      obtain ⟨cur, hc⟩ := HQ.row.blk5 ha
      exact ⟨H.nin hc (by decide), fun x hx ad2 ha2 h0 e => (H.mr.row x hx).ne ad2 ha2 h0 (e ▸ hU _ hk)⟩
theorem VD.gro {C : Nat} {w w' : World} {vq mp rp B : Nat} {ro : Option Addr} {rc n : Nat} {L : List Nat} {pw dn : Int} {h : Hd} {dw : Bool} {inc : Int} {ao : Option Addr} {cap : Nat} {R : List IM} (H : VD C w vq mp rp B ro rc n L pw dn h dw inc ao cap R) (G : Gro w w') : VD C w' vq mp rp B ro rc n L pw dn h dw inc ao cap R := ⟨G.has H.box, H.log.gro G, H.dsk.gro G, H.row.gro G, H.byt.gro G, H.n0, H.lt⟩
def sgf (x : It) : Sg := ⟨x.key, x.n, x.who, x.val⟩
theorem sg_it {x : IM} (h : 1 ≤ x.it.n) : x.sg = sgf x.it := by
  unfold IM.sg sgf IM.it at *
  simp only at *
  rw [show ((x.n.toNat : Nat) : Int) = x.n by omega]
theorem Kv {Z R : List IM} {L : List It} (hZ : Z.map IM.it = L) (hR : R.map IM.it = L) (hn : ∀ y ∈ R, 1 ≤ y.n) : sameM Z R := by
  have hL : ∀ z ∈ L, 1 ≤ z.n := fun z hz => by
    rw [← hR] at hz
    obtain ⟨y, hy, rfl⟩ := List.mem_map.1 hz
    have := hn y hy
    unfold IM.it
    simp only
    omega
  have key : ∀ W : List IM, W.map IM.it = L → W.map IM.sg = L.map sgf := fun W hW => by
    rw [← hW, List.map_map]
    exact List.map_congr_left fun x hx => sg_it (hL _ (by rw [← hW]; exact List.mem_map_of_mem hx))
  exact (key Z hZ).trans (key R hR).symm
def itsE (B : Nat) (L : List It) : PostE := PostE.ex (fun v x => ∃ ao cap Z, v = .slice ao (List.length Z) cap ∧ OW kM 56 x B ao cap Z ∧ OBs x B Z ∧ Z.map IM.it = L) (fun _ _ _ G ⟨a, c, Z, h1, h2, h3, h4⟩ => ⟨a, c, Z, h1, h2.gro G, h3.gro G, h4⟩)
theorem Ka (B : Nat) (L : List It) (v : Value) : (itsE B L).fill v = v := rfl
theorem Vt (U0 : List Nat) (w : World) (p sg n : Nat) (L : List Nat) (pw dn : Int) (H : DK w p sg n L pw dn) (hn3 : 3 ≤ n) (h : Hd) (rs : List (List Nat)) (HG : Good L n h rs) (hg : h.g < 10000) (hU0 : ∀ k ∈ U0, k < w.heap.size) (hN : hld rs = none) : Calls Try.prog 13 #[vP p 0] w (fun e w' => e = .returned (.tuple #[.pointer none, iK 2]) ∧ GroS [p, sg] w w' ∧ DK w' p sg n L pw dn) := by
  refine js Try.func13 rfl Try.ntmps13 [vP p 0] [vP p 0, uD, uD, uD, uD, uD, uD, uD, uD, uD, uD, uD, uD, uD, uD, uD, uD, uD, uD, uD, uD, uD, uD, uD, uD, uD, uD, uD, uD, uD, uD, uD, uD, uD, uD, uD, uD, uD, uD, uD, uD, uD, uD, uD, uD, uD, uD, uD, uD, uD, uD, uD, uD, uD, uD, uD, uD, uD, uD] rfl ?_
  have GG := GroS.refl [p, sg] w
  have GA := Gro.refl w
  refine qS ?_
  refine ja 2 rfl rfl (.pointer none) (rfl) ?_
  refine ja 3 rfl rfl (iK 0) (rfl) ?_
  refine nr ?_; intro U h; simp only [z0, z1] at h; subst h
  refine qA ?_
  refine ja 12 rfl rfl (vP p 0) (rfl) ?_
  refine nr ?_; intro U h; simp only [z0, z1] at h; subst h
  refine jx 13 rfl rfl _ 37 Try.call37 rfl rfl _ rfl [vP p 0] rfl (JQ _ p sg n L pw dn (H.gro GA) hn3 rs (HG.opens (by omega))) (by rintro _ _ ⟨_, _, _, _, he, _, _, _, _, _⟩; exact ⟨_, he⟩) ?_
  rintro v w1 ⟨lp, ao1, cap1, q, he, hq, G, hlp, HK, HRS⟩
  cases he
  replace GA := GA.gro G
  replace GG := GG.tg G
  clear G
  have HD1 := H.gro GA
  have GR := Gro.refl w1
  rw [HG.counts] at HK
  have hlp2 := ji HK.box
  have G1R := Gro.refl w1
  clear GA
  have hql : q.length ≤ 4096 := by
    have h1 := HG.num
    rw [hq, List.length_map] at h1
    have h2 := HG.cnt
    have h3 := HG.fit
    have h4 := H.le
    omega
  refine nr ?_; intro U h; simp only [z0, z1] at h; subst h
  refine ja 11 rfl rfl (.tuple #[vP lp 0, .slice ao1 q.length cap1, iK 0]) (rfl) ?_
  refine ja 14 rfl rfl (vP lp 0) (rfl) ?_
  refine ja 15 rfl rfl (.slice ao1 q.length cap1) (rfl) ?_
  refine ja 16 rfl rfl (iK 0) (rfl) ?_
  refine ja 4 rfl rfl (vP lp 0) (rfl) ?_
  refine ja 5 rfl rfl (.slice ao1 q.length cap1) (rfl) ?_
  refine nr ?_; intro U h; simp only [z0, z1] at h; subst h
  refine ja 6 rfl rfl (iK 0) (rfl) ?_
  refine nr ?_; intro U h; simp only [z0, z1] at h; subst h
  refine qL (qE (qS ?_))
  refine ja 17 rfl rfl (iK 0) (rfl) ?_
  refine ja 18 rfl rfl (vF) (jh 26 .i64 _ _ _ rfl Try.underlying26 0 0 rfl rfl false (decide_eq_true rfl) _) ?_
  refine nr ?_; intro U h; simp only [z0, z1] at h; subst h
  refine qL (qF rfl (qK (qS ?_)))
  refine ja 20 rfl rfl (vP lp 0) (rfl) ?_
  refine nr ?_; intro U h; simp only [z0, z1] at h; subst h
  refine Yd kvM okM evM 21 rfl rfl rfl ?_
  intro w2 mb G emb HM
  have bmb := jO GG emb
  have cmb : w1.heap.size ≤ mb := by rw [← emb]; exact GR.size
  replace GR := GR.gro G
  replace GG := GG.tg G
  clear G
  refine nr ?_; intro U h; simp only [z0, z1] at h; subst h
  refine ja 22 rfl rfl (.agg (vtA lp 0 mb)) (jN 91 _ rfl [(0, vP lp 0), (2, .map (some mb))] rfl _ (bdVt lp mb _)) ?_
  refine nr ?_; intro U h; simp only [z0, z1] at h; subst h
  refine zw 23 rfl rfl 91 _ rfl _ rfl (vtA lp 0 mb) rfl ?_
  intro w3 vp G evp kvp
  have bvp := jO GG evp
  have cvp : w1.heap.size ≤ vp := by rw [← evp]; exact GR.size
  replace GR := GR.gro G
  replace HM := HM.gro G
  replace GG := GG.tg G
  clear G
  refine nr ?_; intro U h; simp only [z0, z1] at h; subst h
  have hUlt : ∀ k ∈ (vp :: lp :: mb :: U0), k < w3.heap.size := fun k hk => by
    have hz := GR.size
    have hz2 := ji kvp
    have hz3 := HM.lt
    rcases List.mem_cons.1 hk with rfl | hk
    exact hz2
    rcases List.mem_cons.1 hk with rfl | hk
    omega
    rcases List.mem_cons.1 hk with rfl | hk
    exact hz3
    exact Nat.lt_of_lt_of_le (hU0 k hk) GG.size
  have HV : VR (vp :: lp :: mb :: U0) w3 vp lp 0 mb [] [] := ⟨⟨kvp, HM, fun _ h => by (cases h)⟩, MR.nil _ _, MRel.nil, SKv.nil, hUlt, ⟨by simp, by simp⟩, by decide⟩
  clear kvp HM
  refine ja 7 rfl rfl (vP vp 0) (rfl) ?_
  refine nr ?_; intro U h; simp only [z0, z1] at h; subst h
  refine qL (qE (qS ?_))
  refine ja 24 rfl rfl (.slice ao1 q.length cap1) (rfl) ?_
  refine ja 25 rfl rfl (nK q.length) (jA Try.underlying22 _ rfl _ _ _ rfl _) ?_
  refine ja 26 rfl rfl (iK 0) (rfl) ?_
  refine nr ?_; intro U h; simp only [z0, z1] at h; subst h
  refine qL (qB ?_)
  refine jV (fun mz az wv => ∃ (i : Nat) (c : Nat) (M : List (Nat × IM)) (Lx : List It) (us1 : Nat → Value), mz = q.length - i ∧ az = ⟨[vP p 0, uD, us1 0, us1 1, vP lp 0, .slice ao1 q.length cap1, iK 0, vP vp 0, uD, us1 2, uD, .tuple #[vP lp 0, .slice ao1 q.length cap1, iK 0], vP p 0, .tuple #[vP lp 0, .slice ao1 q.length cap1, iK 0], vP lp 0, .slice ao1 q.length cap1, iK 0, iK 0, vF, uD, vP lp 0, .map (some mb), .agg (vtA lp 0 mb), vP vp 0, .slice ao1 q.length cap1, nK q.length, nK i, us1 3, us1 4, us1 5, us1 6, us1 7, us1 8, us1 9, us1 10, uD, uD, uD, uD, uD, uD, uD, uD, uD, uD, uD, uD, uD, uD, uD, uD, uD, uD, uD, uD, uD, uD, uD, uD].toArray, []⟩ ∧ GroS [p, sg] w wv ∧ Gro w1 wv ∧ VR (vp :: lp :: mb :: U0) wv vp lp c mb M Lx ∧ i ≤ q.length ∧ hld ((q.map (·.2)).take i) = some (Lx, c)) ?_ _ ⟨0, 0, [], [], (fun kz => ([.pointer none, iK 0, uD, uD, uD, uD, uD, uD, uD, uD, uD] : List Value).getD kz uD), rfl, rfl, GG, GR, HV, Nat.zero_le _, rfl⟩
  clear GG GR HV
  rintro mz az wv ⟨i, c, M, Lx, us1, rfl, rfl, GG, GR, HV, hi, hh⟩
  refine qE ?_
  cases h1 : decide (((i : Nat) : Int) < ((q.length : Nat) : Int))
  have hiq : i = q.length := by have := of_decide_eq_false h1; omega
  rw [List.take_of_length_le (by rw [List.length_map]; omega), ← hq] at hh
  exact absurd (hN.symm.trans hh) (by simp)
  have hlt : i < q.length := by have := of_decide_eq_true h1; omega
  refine qG ?_
  refine ja 27 rfl rfl (vT) (jE 3 _ _ _ rfl ((i : Nat) : Int) ((q.length : Nat) : Int) rfl rfl true h1 _) ?_
  refine nr ?_; intro U h; simp only [z0, z1] at h; subst h
  refine qL (qE (qT rfl (qK (qE (qB (qE ?_))))))
  obtain ⟨ad, ao2, cap2, had, hcell, HR⟩ := (HRS.gro GR).lc.at (j := i) (by rw [List.length_map]; exact hlt)
  obtain ⟨r, hr⟩ : ∃ r, (q.map (·.2)).getD i [] = r := ⟨_, rfl⟩
  rw [hr] at hcell HR
  have hrl : r.length ≤ 1024 := HG.lens r (by rw [hq, ← hr]; exact vn (by rw [List.length_map]; exact hlt))
  have hs : hld ((q.map (·.2)).take (i + 1)) = hldR (Lx, c) r := by rw [take_one' hlt hr, yQ, hh]; rfl
  refine qG ?_
  refine ja 28 rfl rfl (.pointer (some (ad.add i))) (zT _ _ rfl ad _ _ i (by rw [← had]; rfl) rfl hlt _) ?_
  refine ja 29 rfl rfl (.slice ao2 r.length cap2) (yi _ rfl (ad.add i) rfl _ _ hcell) ?_
  refine ja 9 rfl rfl (.slice ao2 r.length cap2) (rfl) ?_
  refine nr ?_; intro U h; simp only [z0, z1] at h; subst h
  refine qL (qE ?_)
  rcases hx : hldR (Lx, c) r with _ | ⟨Ly, d⟩
  rw [hx] at hs
  refine qG ?_
  refine ja 30 rfl rfl (vP vp 0) (rfl) ?_
  refine ja 31 rfl rfl (.slice ao2 r.length cap2) (rfl) ?_
  refine nr ?_; intro U h; simp only [z0, z1] at h; subst h
  refine jx 32 rfl rfl _ 38 Try.call38 rfl rfl _ rfl [vP vp 0, .slice ao2 r.length cap2] rfl ((yN (vp :: lp :: mb :: U0) _ vp lp mb c M Lx HV ao2 cap2 r HR (by omega)).mono fun e w' HZ => by rw [hx] at HZ; exact HZ) (by rintro _ _ ⟨he, _⟩; exact ⟨_, he⟩) ?_
  rintro v w4 ⟨he, G⟩
  cases he
  replace GR := G.gro GR (by simp only [List.mem_cons, List.not_mem_nil, or_false]; omega)
  replace GG := G.gros GG (fun k hk => by simp only [List.mem_cons, List.not_mem_nil, or_false] at hk ⊢; omega)
  refine nr ?_; intro U h; simp only [z0, z1] at h; subst h
  refine ja 33 rfl rfl (vT) (zi _ _ rfl false rfl) ?_
  refine nr ?_; intro U h; simp only [z0, z1] at h; subst h
  refine qL (qT rfl (qS ?_))
  refine ja 2 rfl rfl (.pointer none) (rfl) ?_
  refine ja 3 rfl rfl (iK 2) (rfl) ?_
  refine nr ?_; intro U h; simp only [z0, z1] at h; subst h
  refine qL (qR (zk (jr (jr (zk (jr ?_))))))
  refine bodyPost_ret (results_tmp2 Try.results13 _ _ _) rfl ?_
  exact ⟨rfl, GG, HD1.gro (G1R.trans GR)⟩
  rw [hx] at hs
  refine qG ?_
  refine ja 30 rfl rfl (vP vp 0) (rfl) ?_
  refine ja 31 rfl rfl (.slice ao2 r.length cap2) (rfl) ?_
  refine nr ?_; intro U h; simp only [z0, z1] at h; subst h
  refine jx 32 rfl rfl _ 38 Try.call38 rfl rfl _ rfl [vP vp 0, .slice ao2 r.length cap2] rfl ((yN (vp :: lp :: mb :: U0) _ vp lp mb c M Lx HV ao2 cap2 r HR (by omega)).mono fun e w' HZ => by rw [hx] at HZ; exact HZ) (by rintro _ _ ⟨_, he, _, _⟩; exact ⟨_, he⟩) ?_
  rintro v w4 ⟨M2, he, G, HV2⟩
  cases he
  replace GR := G.gro GR (by simp only [List.mem_cons, List.not_mem_nil, or_false]; omega)
  replace GG := G.gros GG (fun k hk => by simp only [List.mem_cons, List.not_mem_nil, or_false] at hk ⊢; omega)
  have hh2 := hs
  clear HV
  have HV := HV2
  refine nr ?_; intro U h; simp only [z0, z1] at h; subst h
  refine ja 33 rfl rfl (vF) (zi _ _ rfl true rfl) ?_
  refine nr ?_; intro U h; simp only [z0, z1] at h; subst h
  refine qL (qF rfl (wp_skip (zh (jG (qG ?_)))))
  refine ja 34 rfl rfl (nK (i + 1)) (zm 3 _ _ _ rfl ((i : Nat) : Int) 1 ((i + 1 : Nat) : Int) rfl rfl (by omega) (by omega) (by omega) _) ?_
  refine ja 26 rfl rfl (nK (i + 1)) (rfl) ?_
  refine nr ?_; intro U h; simp only [z0, z1] at h; subst h
  refine qL ?_
  exact ⟨_, by omega, i + 1, d, M2, Ly, (fun kz => ([us1 0, us1 1, .slice ao2 r.length cap2, vT, .pointer (some (ad.add i)), .slice ao2 r.length cap2, vP vp 0, .slice ao2 r.length cap2, vT, vF, nK (i + 1)] : List Value).getD kz uD), rfl, rfl, GG, GR, HV, by omega, hh2⟩
theorem YC (U0 : List Nat) (w : World) (p sg n : Nat) (L : List Nat) (pw dn : Int) (H : DK w p sg n L pw dn) (hn3 : 3 ≤ n) (h : Hd) (rs : List (List Nat)) (HG : Good L n h rs) (hg : h.g < 10000) (hU0 : ∀ k ∈ U0, k < w.heap.size) (L0 : List It) (c0 : Nat) (hN : hld rs = some (L0, c0)) (hc : c0 = 1048576) : Calls Try.prog 13 #[vP p 0] w (fun e w' => e = .returned (.tuple #[.pointer none, iK 5]) ∧ GroS [p, sg] w w' ∧ DK w' p sg n L pw dn) := by
  have t1 : decide (((c0 : Nat) : Int) = 1048576) = true := decide_eq_true (by omega)
  refine js Try.func13 rfl Try.ntmps13 [vP p 0] [vP p 0, uD, uD, uD, uD, uD, uD, uD, uD, uD, uD, uD, uD, uD, uD, uD, uD, uD, uD, uD, uD, uD, uD, uD, uD, uD, uD, uD, uD, uD, uD, uD, uD, uD, uD, uD, uD, uD, uD, uD, uD, uD, uD, uD, uD, uD, uD, uD, uD, uD, uD, uD, uD, uD, uD, uD, uD, uD, uD] rfl ?_
  have GG := GroS.refl [p, sg] w
  have GA := Gro.refl w
  refine qS ?_
  refine ja 2 rfl rfl (.pointer none) (rfl) ?_
  refine ja 3 rfl rfl (iK 0) (rfl) ?_
  refine nr ?_; intro U h; simp only [z0, z1] at h; subst h
  refine qA ?_
  refine ja 12 rfl rfl (vP p 0) (rfl) ?_
  refine nr ?_; intro U h; simp only [z0, z1] at h; subst h
  refine jx 13 rfl rfl _ 37 Try.call37 rfl rfl _ rfl [vP p 0] rfl (JQ _ p sg n L pw dn (H.gro GA) hn3 rs (HG.opens (by omega))) (by rintro _ _ ⟨_, _, _, _, he, _, _, _, _, _⟩; exact ⟨_, he⟩) ?_
  rintro v w1 ⟨lp, ao1, cap1, q, he, hq, G, hlp, HK, HRS⟩
  cases he
  replace GA := GA.gro G
  replace GG := GG.tg G
  clear G
  have HD1 := H.gro GA
  have GR := Gro.refl w1
  rw [HG.counts] at HK
  have hlp2 := ji HK.box
  have G1R := Gro.refl w1
  clear GA
  have hql : q.length ≤ 4096 := by
    have h1 := HG.num
    rw [hq, List.length_map] at h1
    have h2 := HG.cnt
    have h3 := HG.fit
    have h4 := H.le
    omega
  refine nr ?_; intro U h; simp only [z0, z1] at h; subst h
  refine ja 11 rfl rfl (.tuple #[vP lp 0, .slice ao1 q.length cap1, iK 0]) (rfl) ?_
  refine ja 14 rfl rfl (vP lp 0) (rfl) ?_
  refine ja 15 rfl rfl (.slice ao1 q.length cap1) (rfl) ?_
  refine ja 16 rfl rfl (iK 0) (rfl) ?_
  refine ja 4 rfl rfl (vP lp 0) (rfl) ?_
  refine ja 5 rfl rfl (.slice ao1 q.length cap1) (rfl) ?_
  refine nr ?_; intro U h; simp only [z0, z1] at h; subst h
  refine ja 6 rfl rfl (iK 0) (rfl) ?_
  refine nr ?_; intro U h; simp only [z0, z1] at h; subst h
  refine qL (qE (qS ?_))
  refine ja 17 rfl rfl (iK 0) (rfl) ?_
  refine ja 18 rfl rfl (vF) (jh 26 .i64 _ _ _ rfl Try.underlying26 0 0 rfl rfl false (decide_eq_true rfl) _) ?_
  refine nr ?_; intro U h; simp only [z0, z1] at h; subst h
  refine qL (qF rfl (qK (qS ?_)))
  refine ja 20 rfl rfl (vP lp 0) (rfl) ?_
  refine nr ?_; intro U h; simp only [z0, z1] at h; subst h
  refine Yd kvM okM evM 21 rfl rfl rfl ?_
  intro w2 mb G emb HM
  have bmb := jO GG emb
  have cmb : w1.heap.size ≤ mb := by rw [← emb]; exact GR.size
  replace GR := GR.gro G
  replace GG := GG.tg G
  clear G
  refine nr ?_; intro U h; simp only [z0, z1] at h; subst h
  refine ja 22 rfl rfl (.agg (vtA lp 0 mb)) (jN 91 _ rfl [(0, vP lp 0), (2, .map (some mb))] rfl _ (bdVt lp mb _)) ?_
  refine nr ?_; intro U h; simp only [z0, z1] at h; subst h
  refine zw 23 rfl rfl 91 _ rfl _ rfl (vtA lp 0 mb) rfl ?_
  intro w3 vp G evp kvp
  have bvp := jO GG evp
  have cvp : w1.heap.size ≤ vp := by rw [← evp]; exact GR.size
  replace GR := GR.gro G
  replace HM := HM.gro G
  replace GG := GG.tg G
  clear G
  refine nr ?_; intro U h; simp only [z0, z1] at h; subst h
  have hUlt : ∀ k ∈ (vp :: lp :: mb :: U0), k < w3.heap.size := fun k hk => by
    have hz := GR.size
    have hz2 := ji kvp
    have hz3 := HM.lt
    rcases List.mem_cons.1 hk with rfl | hk
    exact hz2
    rcases List.mem_cons.1 hk with rfl | hk
    omega
    rcases List.mem_cons.1 hk with rfl | hk
    exact hz3
    exact Nat.lt_of_lt_of_le (hU0 k hk) GG.size
  have HV : VR (vp :: lp :: mb :: U0) w3 vp lp 0 mb [] [] := ⟨⟨kvp, HM, fun _ h => by (cases h)⟩, MR.nil _ _, MRel.nil, SKv.nil, hUlt, ⟨by simp, by simp⟩, by decide⟩
  clear kvp HM
  refine ja 7 rfl rfl (vP vp 0) (rfl) ?_
  refine nr ?_; intro U h; simp only [z0, z1] at h; subst h
  refine qL (qE (qS ?_))
  refine ja 24 rfl rfl (.slice ao1 q.length cap1) (rfl) ?_
  refine ja 25 rfl rfl (nK q.length) (jA Try.underlying22 _ rfl _ _ _ rfl _) ?_
  refine ja 26 rfl rfl (iK 0) (rfl) ?_
  refine nr ?_; intro U h; simp only [z0, z1] at h; subst h
  refine qL (qB ?_)
  refine jV (fun mz az wv => ∃ (i : Nat) (c : Nat) (M : List (Nat × IM)) (Lx : List It) (us1 : Nat → Value), mz = q.length - i ∧ az = ⟨[vP p 0, uD, us1 0, us1 1, vP lp 0, .slice ao1 q.length cap1, iK 0, vP vp 0, uD, us1 2, uD, .tuple #[vP lp 0, .slice ao1 q.length cap1, iK 0], vP p 0, .tuple #[vP lp 0, .slice ao1 q.length cap1, iK 0], vP lp 0, .slice ao1 q.length cap1, iK 0, iK 0, vF, uD, vP lp 0, .map (some mb), .agg (vtA lp 0 mb), vP vp 0, .slice ao1 q.length cap1, nK q.length, nK i, us1 3, us1 4, us1 5, us1 6, us1 7, us1 8, us1 9, us1 10, uD, uD, uD, uD, uD, uD, uD, uD, uD, uD, uD, uD, uD, uD, uD, uD, uD, uD, uD, uD, uD, uD, uD, uD].toArray, []⟩ ∧ GroS [p, sg] w wv ∧ Gro w1 wv ∧ VR (vp :: lp :: mb :: U0) wv vp lp c mb M Lx ∧ i ≤ q.length ∧ hld ((q.map (·.2)).take i) = some (Lx, c)) ?_ _ ⟨0, 0, [], [], (fun kz => ([.pointer none, iK 0, uD, uD, uD, uD, uD, uD, uD, uD, uD] : List Value).getD kz uD), rfl, rfl, GG, GR, HV, Nat.zero_le _, rfl⟩
  clear GG GR HV
  rintro mz az wv ⟨i, c, M, Lx, us1, rfl, rfl, GG, GR, HV, hi, hh⟩
  refine qE ?_
  cases h1 : decide (((i : Nat) : Int) < ((q.length : Nat) : Int))
  have hiq : i = q.length := by have := of_decide_eq_false h1; omega
  rw [List.take_of_length_le (by rw [List.length_map]; omega), ← hq] at hh
  have hLc := hN.symm.trans hh
  injection hLc with hLc
  injection hLc with e1 e2
  subst e1 e2
  have kvp := HV.vb.box
  refine qG ?_
  refine ja 27 rfl rfl (vF) (jE 3 _ _ _ rfl ((i : Nat) : Int) ((q.length : Nat) : Int) rfl rfl false h1 _) ?_
  refine nr ?_; intro U h; simp only [z0, z1] at h; subst h
  refine qL (qE (qF rfl (wp_exit (jL (jL (zC (jG (qE (qS ?_)))))))))
  refine ja 35 rfl rfl (vP vp 0) (rfl) ?_
  refine ja 36 rfl rfl (vP vp 0) (jn _ rfl _ rfl) ?_
  refine ja 37 rfl rfl (vP vp 1) (jf 91 _ 1 rfl vp 0 rfl 1 (by kernel_rfl)) ?_
  refine ja 38 rfl rfl (nK c0) (ldVti _ rfl vp rfl (kvp)) ?_
  refine ja 39 rfl rfl (vT) (jB 2 .i64 _ _ _ rfl Try.underlying2 ((c0 : Nat) : Int) 1048576 rfl rfl true t1 _) ?_
  refine nr ?_; intro U h; simp only [z0, z1] at h; subst h
  refine qL (qT rfl (qS ?_))
  refine ja 2 rfl rfl (.pointer none) (rfl) ?_
  refine ja 3 rfl rfl (iK 5) (rfl) ?_
  refine nr ?_; intro U h; simp only [z0, z1] at h; subst h
  refine qL (qR (jr ?_))
  refine bodyPost_ret (results_tmp2 Try.results13 _ _ _) rfl ?_
  exact ⟨rfl, GG, HD1.gro (G1R.trans GR)⟩
  have hlt : i < q.length := by have := of_decide_eq_true h1; omega
  refine qG ?_
  refine ja 27 rfl rfl (vT) (jE 3 _ _ _ rfl ((i : Nat) : Int) ((q.length : Nat) : Int) rfl rfl true h1 _) ?_
  refine nr ?_; intro U h; simp only [z0, z1] at h; subst h
  refine qL (qE (qT rfl (qK (qE (qB (qE ?_))))))
  obtain ⟨ad, ao2, cap2, had, hcell, HR⟩ := (HRS.gro GR).lc.at (j := i) (by rw [List.length_map]; exact hlt)
  obtain ⟨r, hr⟩ : ∃ r, (q.map (·.2)).getD i [] = r := ⟨_, rfl⟩
  rw [hr] at hcell HR
  have hrl : r.length ≤ 1024 := HG.lens r (by rw [hq, ← hr]; exact vn (by rw [List.length_map]; exact hlt))
  have hs : hld ((q.map (·.2)).take (i + 1)) = hldR (Lx, c) r := by rw [take_one' hlt hr, yQ, hh]; rfl
  refine qG ?_
  refine ja 28 rfl rfl (.pointer (some (ad.add i))) (zT _ _ rfl ad _ _ i (by rw [← had]; rfl) rfl hlt _) ?_
  refine ja 29 rfl rfl (.slice ao2 r.length cap2) (yi _ rfl (ad.add i) rfl _ _ hcell) ?_
  refine ja 9 rfl rfl (.slice ao2 r.length cap2) (rfl) ?_
  refine nr ?_; intro U h; simp only [z0, z1] at h; subst h
  refine qL (qE ?_)
  rcases hx : hldR (Lx, c) r with _ | ⟨Ly, d⟩
  rw [hx] at hs
  exact absurd (hN.symm.trans (hq ▸ vR hs)) (by simp)
  rw [hx] at hs
  refine qG ?_
  refine ja 30 rfl rfl (vP vp 0) (rfl) ?_
  refine ja 31 rfl rfl (.slice ao2 r.length cap2) (rfl) ?_
  refine nr ?_; intro U h; simp only [z0, z1] at h; subst h
  refine jx 32 rfl rfl _ 38 Try.call38 rfl rfl _ rfl [vP vp 0, .slice ao2 r.length cap2] rfl ((yN (vp :: lp :: mb :: U0) _ vp lp mb c M Lx HV ao2 cap2 r HR (by omega)).mono fun e w' HZ => by rw [hx] at HZ; exact HZ) (by rintro _ _ ⟨_, he, _, _⟩; exact ⟨_, he⟩) ?_
  rintro v w4 ⟨M2, he, G, HV2⟩
  cases he
  replace GR := G.gro GR (by simp only [List.mem_cons, List.not_mem_nil, or_false]; omega)
  replace GG := G.gros GG (fun k hk => by simp only [List.mem_cons, List.not_mem_nil, or_false] at hk ⊢; omega)
  have hh2 := hs
  clear HV
  have HV := HV2
  refine nr ?_; intro U h; simp only [z0, z1] at h; subst h
  refine ja 33 rfl rfl (vF) (zi _ _ rfl true rfl) ?_
  refine nr ?_; intro U h; simp only [z0, z1] at h; subst h
  refine qL (qF rfl (wp_skip (zh (jG (qG ?_)))))
  refine ja 34 rfl rfl (nK (i + 1)) (zm 3 _ _ _ rfl ((i : Nat) : Int) 1 ((i + 1 : Nat) : Int) rfl rfl (by omega) (by omega) (by omega) _) ?_
  refine ja 26 rfl rfl (nK (i + 1)) (rfl) ?_
  refine nr ?_; intro U h; simp only [z0, z1] at h; subst h
  refine qL ?_
  exact ⟨_, by omega, i + 1, d, M2, Ly, (fun kz => ([us1 0, us1 1, .slice ao2 r.length cap2, vT, .pointer (some (ad.add i)), .slice ao2 r.length cap2, vP vp 0, .slice ao2 r.length cap2, vT, vF, nK (i + 1)] : List Value).getD kz uD), rfl, rfl, GG, GR, HV, by omega, hh2⟩
theorem ZL : ∀ (k : Nat) (l : List Nat) (rs : List (List Nat)), (∀ x ∈ l, x < 256) → prsF k l = some rs → ∀ r ∈ rs, ∀ b ∈ r, b < 256
  | 0, l, rs, _, h => by
    unfold prsF at h
    cases h
  | k + 1, l, rs, hl, h => by
    unfold prsF at h
    split at h
    · cases h
      intro r hr
      cases hr
    split at h
    · cases h
    · cases hp : prsF k (l.drop (secN (recM l) * 64)) with
      | none => rw [hp] at h; cases h
      | some rs2 =>
        rw [hp] at h
        cases h
        intro r hr
        rcases List.mem_cons.1 hr with rfl | hr
        · intro b hb
          exact hl b (List.mem_of_mem_drop (List.mem_of_mem_take hb))
        · exact ZL k _ _ (fun x hx => hl x (List.mem_of_mem_drop hx)) hp r hr
theorem Good.bytes {L : List Nat} {n : Nat} {h : Hd} {rs : List (List Nat)} (H : Good L n h rs) (hL : ∀ x ∈ L, x < 256) : ∀ r ∈ rs, ∀ b ∈ r, b < 256 := ZL _ _ _ (fun x hx => hL x (List.mem_of_mem_drop (List.mem_of_mem_take hx))) H.recs
def OpA (n : Nat) (L : List Nat) (pw er : Int) (L2 : List Nat) (pw2 : Int) : Prop :=
  ∀ (w : World) (p sg : Nat) (dn : Int), DK w p sg n L pw dn → 0 ≤ dn → dn < 9223372036854760000 → Calls Try.prog 13 #[.pointer (some ⟨p, 0, none⟩)] w fun e w' => ∃ dn', e = .returned (.tuple #[.pointer none, .int .i64 er]) ∧ GroS [p, sg] w w' ∧ DK w' p sg n L2 pw2 dn' ∧ dn ≤ dn' ∧ dn' ≤ dn + 20
def OpB (n : Nat) (L : List Nat) (pw er : Int) (L2 : List Nat) (pw2 : Int) : Prop :=
  ∀ (w : World) (rp B : Nat) (ro : Option Addr) (rc : Nat) (dn : Int), QK w rp B ro rc n L pw dn → 0 ≤ dn → dn < 9223372036854760000 → Calls Try.prog 14 #[.pointer (some ⟨rp, 0, none⟩)] w fun e w' => ∃ dn', e = .returned (.tuple #[.pointer none, .int .i64 er]) ∧ GroS (rp :: blk ro) w w' ∧ QK w' rp B ro rc n L2 pw2 dn' ∧ dn ≤ dn' ∧ dn' ≤ dn + 20
theorem QG (n : Nat) (hn3 : 3 ≤ n) (hn : n ≤ 4096) (L : List Nat) (pw : Int) (h : Hd) (rs : List (List Nat)) (HG : Good L n h rs) (hg : h.g < 10000) (hP : okP pw) (hL : ∀ x ∈ L, x < 256) :
    (∃ (er : Int) (L2 : List Nat) (pw2 : Int) (h2 : Hd), er ≠ 0 ∧ okP pw2 ∧ Good L2 n h2 rs ∧ h2.g ≤ h.g + 1 ∧ OpA n L pw er L2 pw2 ∧ OpB n L pw er L2 pw2) ∨
    (∃ (Lx : List It) (c : Nat) (L2 : List Nat) (pw2 : Int) (h2 : Hd) (rs2 : List (List Nat)), hld rs = some (Lx, c) ∧ c < 1048576 ∧ Out n L pw h false rs (begV (c + 1)) 0 L2 pw2 h2 false rs2 ∧ SideA n L pw h false (begV (c + 1)) 0 L2 pw2 h2 false ∧ SideB n L pw h false (begV (c + 1)) 0 L2 pw2 h2 false) := by
  cases hN : hld rs with
  | none => exact .inl ⟨2, L, pw, h, by decide, hP, HG, by omega, fun w p sg dn HD h1 h2 => (Vt [p, sg] w p sg n L pw dn HD hn3 h rs HG hg HD.lt2 hN).mono fun e w' ⟨he, G, HD2⟩ => ⟨dn, he, G, HD2, Int.le_refl _, by omega⟩, fun w rp B ro rc dn HQ h1 h2 => (Vw w rp B ro rc n L pw dn HQ hn3 h rs HG hg hN).mono fun e w' ⟨he, G⟩ => ⟨dn, he, .of G, HQ.gro G, Int.le_refl _, by omega⟩⟩
  | some s =>
    obtain ⟨Lx, c⟩ := s
    have hcl := (hld_ok JK (s := ([], 0)) (HG.bytes hL) (fun _ h => by (cases h)) (Nat.zero_le _) hN).2.1
    rcases Nat.lt_or_ge c 1048576 with hc | hc
    · obtain ⟨err, L2, pw2, h2, dw2, rs2, HO, SA, SB⟩ := ZW n L pw h false rs (begV (c + 1)) HG hP hg hn
      rcases HO.res with ⟨rfl, hrs⟩ | ⟨he1, hrs⟩
      · have hd := HO.ok rfl
        subst hd
        exact .inr ⟨Lx, c, L2, pw2, h2, rs2, rfl, hc, HO, SA, SB⟩
      · subst hrs
        exact .inl ⟨err, L2, pw2, h2, he1, HO.okp, HO.good, HO.g, fun w p sg dn HD h1 h3 => (uL [p, sg] w p sg n L pw dn HD hn3 h _ HG hg HD.lt2 (by simp) (by simp) Lx c hN hc err L2 pw2 h2 dw2 _ HO SA h1 h3).mono fun e w' h => h.no he1, fun w rp B ro rc dn HQ h1 h3 => (ZF w rp B ro rc n L pw dn HQ hn3 h _ HG hg Lx c hN hc err L2 pw2 h2 dw2 _ HO SB h1 h3).mono fun e w' h => h.no he1⟩
    · have hc2 : c = 1048576 := by simp only at hcl; omega
      exact .inl ⟨5, L, pw, h, by decide, hP, HG, by omega, fun w p sg dn HD h1 h2 => (YC [p, sg] w p sg n L pw dn HD hn3 h rs HG hg HD.lt2 Lx c hN hc2).mono fun e w' ⟨he, G, HD2⟩ => ⟨dn, he, G, HD2, Int.le_refl _, by omega⟩, fun w rp B ro rc dn HQ h1 h2 => (YF w rp B ro rc n L pw dn HQ hn3 h rs HG hg Lx c hN hc2).mono fun e w' ⟨he, G⟩ => ⟨dn, he, .of G, HQ.gro G, Int.le_refl _, by omega⟩⟩
end Go.Proofs.Ytgfnjekpafempaa
