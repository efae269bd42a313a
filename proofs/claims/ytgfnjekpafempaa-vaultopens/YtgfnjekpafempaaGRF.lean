/- What VaultOpens needs of both sides. -/
import Derived.Test.YtgfnjekpafempaaGRE
namespace Go.Proofs.Ytgfnjekpafempaa
open Go.RowKit
theorem append_m (n : Nat) (L : List Nat) (h : Hd) (rs : List (List Nat)) (l : List Nat) (HG : Good L n h rs) (hg : h.g < 10000) (hn : n ≤ 4096) : ∃ (err : Int) (L2 : List Nat) (h2 : Hd) (rs2 : List (List Nat)), Good L2 n h2 rs2 ∧ h2.g ≤ h.g + 1 ∧ SideB n L (-1) h false l err L2 (-1) h2 false := by
  have hf := HG.fit
  have still : ∀ err : Int, (∀ (w : World) (mp rp B : Nat) (ro : Option Addr) (rc : Nat) (dn : Int) (ao : Option Addr) (cap : Nat), MK w mp rp h false → QK w rp B ro rc n L (-1) dn → Calls Try.prog 11 #[.pointer (some ⟨mp, 0, none⟩), .slice ao l.length cap] w fun e w' => e = .returned (.int .i64 err) ∧ Gro w w') → SideB n L (-1) h false l err L (-1) h false := fun err b =>
    fun w mp rp B ro rc dn ao cap h1 h2 _ _ _ => (b w mp rp B ro rc dn ao cap h1 h2).mono fun e w' ⟨he, G⟩ => ⟨dn, he, .of G, Int.le_refl _, by omega, h2.gro G, h1.gro G⟩
  by_cases hl : 1024 < l.length
  · exact ⟨4, L, h, rs, HG, by omega, still 4 (fun w mp rp _ _ _ _ ao cap h1 _ => rappend_long w mp rp h h1 ao cap l hl)⟩
  by_cases hk : n - 2 - h.u < secN l.length
  · exact ⟨5, L, h, rs, HG, by omega, still 5 (fun w mp rp B ro rc dn ao cap h1 h2 => rappend_full w mp rp h h1 B ro rc n L (-1) dn h2 hf ao cap l (by omega) hk)⟩
  obtain ⟨err, L2, pw2, h2, dw2, rs2, HO, _, SB⟩ := append_ab n L (-1) h false rs l HG ok_m1 hg hn
  obtain ⟨rfl, rfl⟩ := HO.go rfl rfl (by omega) (by omega)
  have hd := HO.ok rfl
  subst hd
  exact ⟨0, L2, h2, rs2, HO.good, HO.g, SB⟩
theorem pair_n (w : World) (ao : Option Addr) (cap : Nat) (C : List Nat) (HN : NC w .u8 ao cap C) (m n : Nat) (hC : C.length = m * 64) (hm : m ≤ 4096) (hn : n = C.length) : Calls Try.prog 12 #[.slice ao n cap] w fun e w' => ∃ p sg rp ro rc, e = .returned (.tuple #[.pointer (some ⟨p, 0, none⟩), .pointer (some ⟨rp, 0, none⟩)]) ∧ Gro w w' ∧ w.heap.size ≤ p ∧ w.heap.size ≤ sg ∧ w.heap.size ≤ rp ∧ DK w' p sg m C (-1) 0 ∧ QK w' rp w.heap.size ro rc m C (-1) 0 := by
  subst hn
  exact pair_any w ao cap C HN m hC hm
theorem bytes_ob (w : World) (p sg n : Nat) (L : List Nat) (pw dn : Int) (H : DK w p sg n L pw dn) : Calls Try.prog 15 #[.pointer (some ⟨p, 0, none⟩)] w fun e w' => ∃ ao cap, e = .returned (.slice ao L.length cap) ∧ Gro w w' ∧ OB w' 5 .u8 w.heap.size ao cap L := by
  refine (bytes_len w p sg n L pw dn H).mono fun e w' ⟨g, he, G, hg, hb⟩ => ⟨_, _, he, G, OB.made hb hg (Nat.le_refl _) ?_ (by rw [bv_size]) (by rw [List.take_of_length_le (by simp [bv])]; simp [bv]) (fun x hx => by have := H.byte x hx; rw [max_u8]; omega)⟩
  have h1 := H.len
  have h2 := H.le
  simp only [maxLen]
  omega
theorem na30q (w : World) : (isAgg 30).run Try.prog w = .ok false w := by kernel_rfl
theorem ldQr {o : Oper} {A : Act} {w : World} {rp B : Nat} {ro : Option Addr} {rc n : Nat} {L : List Nat} {pw dn : Int} (H : QK w rp B ro rc n L pw dn) (y : Operand) (ho : o.op = .load 30 y) (hx : A.eval y = .pointer (some ⟨rp, 0, none⟩)) : (execOp A.eval o).run Try.prog w = .ok (.value (.slice ro (n * 64) rc)) w :=
  run_ldc 30 y ho rp 0 hx 36 _ H.box (na30q w) _ rfl
section
variable {w w' : World} {rp mp B p sg n n2 : Nat} {ro : Option Addr} {rc : Nat} {L L2 : List Nat} {pw dn pw2 dn2 : Int} {h : Hd} {dw : Bool}
theorem QK.ge3 (H : QK w rp B ro rc n L pw dn) (hr : B ≤ rp) (hm : B ≤ mp) : ∀ k ∈ rp :: mp :: blk ro, B ≤ k := fun k hk => by
  rcases List.mem_cons.1 hk with rfl | hk
  · exact hr
  rcases List.mem_cons.1 hk with rfl | hk
  · exact hm
  obtain ⟨ad, ha, rfl⟩ := mem_blk.1 hk
  exact (H.row.ge ad ha).1
/-- The document's blocks are none of the disk's. -/
theorem QK.nD (H : QK w rp B ro rc n L pw dn) (HD : DK w p sg n2 L2 pw2 dn2) : ∀ k ∈ rp :: blk ro, k ∉ [p, sg] := fun k hk => by
  rcases List.mem_cons.1 hk with rfl | hk
  · exact HD.nin H.box (by decide)
  obtain ⟨ad, ha, rfl⟩ := mem_blk.1 hk
  obtain ⟨cur, hc⟩ := H.row.blk5 ha
  exact HD.nin hc (by decide)
theorem QK.keepD (H : QK w rp B ro rc n L pw dn) (HD : DK w p sg n2 L2 pw2 dn2) (G : GroS [p, sg] w w') : QK w' rp B ro rc n L pw dn :=
  H.gros G (H.nD HD rp (by simp)) (fun ad ha => H.nD HD _ (List.mem_cons.2 (.inr (mem_blk.2 ⟨ad, ha, rfl⟩))))
theorem DK.keepQ (HD : DK w p sg n2 L2 pw2 dn2) (H : QK w rp B ro rc n L pw dn) (G : GroS (rp :: blk ro) w w') : DK w' p sg n2 L2 pw2 dn2 :=
  HD.gros G (fun hm => H.nD HD _ hm (by simp)) (fun hm => H.nD HD _ hm (by simp))
end
theorem VK.keepQ {U : List Nat} {w w' : World} {vp lp p sg mb n : Nat} {L : List Nat} {pw dn : Int} {h : Hd} {dw : Bool} {inc : Int} {M : List (Nat × IM)} (H : VK U w vp lp p sg mb n L pw dn h dw inc M) {rp B : Nat} {ro : Option Addr} {rc n2 : Nat} {L2 : List Nat} {pw2 dn2 : Int} (HQ : QK w rp B ro rc n2 L2 pw2 dn2) (G : GroS (rp :: blk ro) w w') (hU : ∀ k ∈ blk ro, k ∈ U) : VK U w' vp lp p sg mb n L pw dn h dw inc M :=
  H.gros G fun k hk => by
    rcases List.mem_cons.1 hk with rfl | hk
    · exact ⟨H.nin HQ.box (by decide), H.nrow HQ.box (by decide)⟩
    · obtain ⟨ad, ha, rfl⟩ := mem_blk.1 hk
      obtain ⟨cur, hc⟩ := HQ.row.blk5 ha
      exact ⟨H.nin hc (by decide), fun x hx ad2 ha2 h0 e => (H.mr.row x hx).ne ad2 ha2 h0 (e ▸ hU _ hk)⟩
theorem VD.gro {C : Nat} {w w' : World} {vq mp rp B : Nat} {ro : Option Addr} {rc n : Nat} {L : List Nat} {pw dn : Int} {h : Hd} {dw : Bool} {inc : Int} {ao : Option Addr} {cap : Nat} {R : List IM} (H : VD C w vq mp rp B ro rc n L pw dn h dw inc ao cap R) (G : Gro w w') : VD C w' vq mp rp B ro rc n L pw dn h dw inc ao cap R := ⟨G.has H.box, H.log.gro G, H.dsk.gro G, H.row.gro G, H.byt.gro G, H.n0, H.lt⟩
def sgf (x : It) : Sg := ⟨x.key, x.n, x.who, x.val⟩
theorem sg_it {x : IM} (h : 1 ≤ x.it.n) : x.sg = sgf x.it := by
  unfold IM.sg sgf IM.it at *
  simp only at *
  rw [show ((x.n.toNat : Nat) : Int) = x.n by omega]
theorem sames_of {Z R : List IM} {L : List It} (hZ : Z.map IM.it = L) (hR : R.map IM.it = L) (hn : ∀ y ∈ R, 1 ≤ y.n) : sameM Z R := by
  have hL : ∀ z ∈ L, 1 ≤ z.n := fun z hz => by
    rw [← hR] at hz
    obtain ⟨y, hy, rfl⟩ := List.mem_map.1 hz
    have := hn y hy
    unfold IM.it
    simp only
    omega
  have key : ∀ W : List IM, W.map IM.it = L → W.map IM.sg = L.map sgf := fun W hW => by
    rw [← hW, List.map_map]
    exact List.map_congr_left fun x hx => sg_it (hL _ (by rw [← hW]; exact List.mem_map_of_mem hx))
  exact (key Z hZ).trans (key R hR).symm
def itsE (B : Nat) (L : List It) : PostE := PostE.ex (fun v x => ∃ ao cap Z, v = .slice ao (List.length Z) cap ∧ OW kM 56 x B ao cap Z ∧ OBs x B Z ∧ Z.map IM.it = L) (fun _ _ _ G ⟨a, c, Z, h1, h2, h3, h4⟩ => ⟨a, c, Z, h1, h2.gro G, h3.gro G, h4⟩)
theorem fill_itsE (B : Nat) (L : List It) (v : Value) : (itsE B L).fill v = v := rfl
set_option maxRecDepth 100000 in
set_option maxHeartbeats 4000000 in
theorem vopen_badD (U0 : List Nat) (w : World) (p sg n : Nat) (L : List Nat) (pw dn : Int) (H : DK w p sg n L pw dn) (hn3 : 3 ≤ n) (h : Hd) (rs : List (List Nat)) (HG : Good L n h rs) (hg : h.g < 10000) (hU0 : ∀ k ∈ U0, k < w.heap.size) (hN : hld rs = none) : Calls Try.prog 13 #[.pointer (some ⟨p, 0, none⟩)] w (fun e w' => e = .returned (.tuple #[.pointer none, .int .i64 2]) ∧ GroS [p, sg] w w' ∧ DK w' p sg n L pw dn) := by
  refine s_enter Try.func13 rfl Try.ntmps13 [.pointer (some ⟨p, 0, none⟩)] [.pointer (some ⟨p, 0, none⟩), undef, undef, undef, undef, undef, undef, undef, undef, undef, undef, undef, undef, undef, undef, undef, undef, undef, undef, undef, undef, undef, undef, undef, undef, undef, undef, undef, undef, undef, undef, undef, undef, undef, undef, undef, undef, undef, undef, undef, undef, undef, undef, undef, undef, undef, undef, undef, undef, undef, undef, undef, undef, undef, undef, undef, undef, undef, undef] rfl ?_
  have GG := GroS.refl [p, sg] w
  have GA := Gro.refl w
  refine wp_seq ?_
  refine wp_region_lit ?_
  refine s_val 2 rfl rfl (.pointer none) (rfl) ?_
  refine nr ?_; intro U h; simp only [z0, z1] at h; subst h
  refine s_val 3 rfl rfl (.int .i64 0) (rfl) ?_
  refine nr ?_; intro U h; simp only [z0, z1] at h; subst h
  refine wpList_nil ?_
  refine then_n ?_
  refine wp_seq ?_
  refine wp_region_lit ?_
  refine s_val 12 rfl rfl (.pointer (some ⟨p, 0, none⟩)) (rfl) ?_
  refine nr ?_; intro U h; simp only [z0, z1] at h; subst h
  refine s_callx 13 rfl rfl _ 37 Try.call37 rfl rfl _ rfl [.pointer (some ⟨p, 0, none⟩)] rfl (open_ok _ p sg n L pw dn (H.gro GA) hn3 rs (HG.opens (by omega))) (by rintro _ _ ⟨_, _, _, _, he, _, _, _, _, _⟩; exact ⟨_, he⟩) ?_
  rintro v w1 ⟨lp, ao1, cap1, q, he, hq, G, hlp, HK, HRS⟩
  cases he
  replace GA := GA.gro G
  replace GG := GG.tg G
  clear G
  have HD1 := H.gro GA
  have GR := Gro.refl w1
  rw [HG.counts] at HK
  have hlp2 := lt_of_heap HK.box
  have G1R := Gro.refl w1
  clear GA
  have hql : q.length ≤ 4096 := by
    have h1 := HG.num
    rw [hq, List.length_map] at h1
    have h2 := HG.cnt
    have h3 := HG.fit
    have h4 := H.le
    omega
  refine nr ?_; intro U h; simp only [z0, z1] at h; subst h
  refine s_val 11 rfl rfl (.tuple #[.pointer (some ⟨lp, 0, none⟩), .slice ao1 q.length cap1, .int .i64 0]) (rfl) ?_
  refine nr ?_; intro U h; simp only [z0, z1] at h; subst h
  refine s_val 14 rfl rfl (.pointer (some ⟨lp, 0, none⟩)) (rfl) ?_
  refine nr ?_; intro U h; simp only [z0, z1] at h; subst h
  refine s_val 15 rfl rfl (.slice ao1 q.length cap1) (rfl) ?_
  refine nr ?_; intro U h; simp only [z0, z1] at h; subst h
  refine s_val 16 rfl rfl (.int .i64 0) (rfl) ?_
  refine nr ?_; intro U h; simp only [z0, z1] at h; subst h
  refine s_val 4 rfl rfl (.pointer (some ⟨lp, 0, none⟩)) (rfl) ?_
  refine nr ?_; intro U h; simp only [z0, z1] at h; subst h
  refine s_val 5 rfl rfl (.slice ao1 q.length cap1) (rfl) ?_
  refine nr ?_; intro U h; simp only [z0, z1] at h; subst h
  refine s_val 6 rfl rfl (.int .i64 0) (rfl) ?_
  refine nr ?_; intro U h; simp only [z0, z1] at h; subst h
  refine wpList_nil ?_
  refine then_n ?_
  refine wp_seq ?_
  refine wp_seq ?_
  refine wp_region_lit ?_
  refine s_val 17 rfl rfl (.int .i64 0) (rfl) ?_
  refine nr ?_; intro U h; simp only [z0, z1] at h; subst h
  refine s_val 18 rfl rfl (.bool false) (run_neq_k 26 .i64 _ _ _ rfl Try.underlying26 0 0 rfl rfl false (decide_eq_true rfl) _) ?_
  refine nr ?_; intro U h; simp only [z0, z1] at h; subst h
  refine wpList_nil ?_
  refine then_n ?_
  refine wp_cond_false rfl ?_
  refine wp_skip ?_
  refine then_n ?_
  refine wp_seq ?_
  refine wp_region_lit ?_
  refine s_val 20 rfl rfl (.pointer (some ⟨lp, 0, none⟩)) (rfl) ?_
  refine nr ?_; intro U h; simp only [z0, z1] at h; subst h
  refine s_mkMM kvM okM evM 21 rfl rfl rfl ?_
  intro w2 mb G emb HM
  have bmb := size_basS GG emb
  have cmb : w1.heap.size ≤ mb := by rw [← emb]; exact GR.size
  replace GR := GR.gro G
  replace GG := GG.tg G
  clear G
  refine nr ?_; intro U h; simp only [z0, z1] at h; subst h
  refine s_val 22 rfl rfl (.agg (vtA lp 0 mb)) (run_bd 91 _ rfl [(0, .pointer (some ⟨lp, 0, none⟩)), (2, .map (some mb))] rfl _ (bdVt lp mb _)) ?_
  refine nr ?_; intro U h; simp only [z0, z1] at h; subst h
  refine s_box 23 rfl rfl 91 _ rfl _ rfl (vtA lp 0 mb) rfl ?_
  intro w3 vp G evp kvp
  have bvp := size_basS GG evp
  have cvp : w1.heap.size ≤ vp := by rw [← evp]; exact GR.size
  replace GR := GR.gro G
  replace HM := HM.gro G
  replace GG := GG.tg G
  clear G
  refine nr ?_; intro U h; simp only [z0, z1] at h; subst h
  have hUlt : ∀ k ∈ (vp :: lp :: mb :: U0), k < w3.heap.size := fun k hk => by
    have hz := GR.size
    have hz2 := lt_of_heap kvp
    have hz3 := HM.lt
    rcases List.mem_cons.1 hk with rfl | hk
    · exact hz2
    rcases List.mem_cons.1 hk with rfl | hk
    · omega
    rcases List.mem_cons.1 hk with rfl | hk
    · exact hz3
    · exact Nat.lt_of_lt_of_le (hU0 k hk) GG.size
  have HV : VR (vp :: lp :: mb :: U0) w3 vp lp 0 mb [] [] := ⟨⟨kvp, HM, fun _ h => by (cases h)⟩, MR.nil _ _, MRel.nil, SKv.nil, hUlt, ⟨by simp, by simp⟩, by decide⟩
  clear kvp HM
  refine s_val 7 rfl rfl (.pointer (some ⟨vp, 0, none⟩)) (rfl) ?_
  refine nr ?_; intro U h; simp only [z0, z1] at h; subst h
  refine wpList_nil ?_
  refine then_n ?_
  refine wp_seq ?_
  refine wp_seq ?_
  refine wp_region_lit ?_
  refine s_val 24 rfl rfl (.slice ao1 q.length cap1) (rfl) ?_
  refine nr ?_; intro U h; simp only [z0, z1] at h; subst h
  refine s_val 25 rfl rfl (.int .i64 ((q.length : Nat) : Int)) (run_len Try.underlying22 _ rfl _ _ _ rfl _) ?_
  refine nr ?_; intro U h; simp only [z0, z1] at h; subst h
  refine s_val 26 rfl rfl (.int .i64 0) (rfl) ?_
  refine nr ?_; intro U h; simp only [z0, z1] at h; subst h
  refine wpList_nil ?_
  refine then_n ?_
  refine wp_block ?_
  refine wp_loopN (fun mz az wv => ∃ (i : Nat) (c : Nat) (M : List (Nat × IM)) (Lx : List It) (us1 : Nat → Value), mz = q.length - i ∧ az = ⟨[.pointer (some ⟨p, 0, none⟩), undef, us1 0, us1 1, .pointer (some ⟨lp, 0, none⟩), .slice ao1 q.length cap1, .int .i64 0, .pointer (some ⟨vp, 0, none⟩), undef, us1 2, undef, .tuple #[.pointer (some ⟨lp, 0, none⟩), .slice ao1 q.length cap1, .int .i64 0], .pointer (some ⟨p, 0, none⟩), .tuple #[.pointer (some ⟨lp, 0, none⟩), .slice ao1 q.length cap1, .int .i64 0], .pointer (some ⟨lp, 0, none⟩), .slice ao1 q.length cap1, .int .i64 0, .int .i64 0, .bool false, undef, .pointer (some ⟨lp, 0, none⟩), .map (some mb), .agg (vtA lp 0 mb), .pointer (some ⟨vp, 0, none⟩), .slice ao1 q.length cap1, .int .i64 ((q.length : Nat) : Int), .int .i64 ((i : Nat) : Int), us1 3, us1 4, us1 5, us1 6, us1 7, us1 8, us1 9, us1 10, undef, undef, undef, undef, undef, undef, undef, undef, undef, undef, undef, undef, undef, undef, undef, undef, undef, undef, undef, undef, undef, undef, undef, undef].toArray, []⟩ ∧ GroS [p, sg] w wv ∧ Gro w1 wv ∧ VR (vp :: lp :: mb :: U0) wv vp lp c mb M Lx ∧ i ≤ q.length ∧ hld ((q.map (·.2)).take i) = some (Lx, c)) ?_ _ ⟨0, 0, [], [], (fun kz => ([.pointer none, .int .i64 0, undef, undef, undef, undef, undef, undef, undef, undef, undef] : List Value).getD kz undef), rfl, rfl, GG, GR, HV, Nat.zero_le _, rfl⟩
  clear GG GR HV
  rintro mz az wv ⟨i, c, M, Lx, us1, rfl, rfl, GG, GR, HV, hi, hh⟩
  refine wp_seq ?_
  cases h1 : decide (((i : Nat) : Int) < ((q.length : Nat) : Int))
  · have hiq : i = q.length := by have := of_decide_eq_false h1; omega
    rw [List.take_of_length_le (by rw [List.length_map]; omega), ← hq] at hh
    exact absurd (hN.symm.trans hh) (by simp)
  · have hlt : i < q.length := by have := of_decide_eq_true h1; omega
    refine wp_region_lit ?_
    refine s_val 27 rfl rfl (.bool true) (run_lssT 3 _ _ _ rfl ((i : Nat) : Int) ((q.length : Nat) : Int) rfl rfl true h1 _) ?_
    refine nr ?_; intro U h; simp only [z0, z1] at h; subst h
    refine wpList_nil ?_
    refine then_n ?_
    refine wp_seq ?_
    refine wp_cond_true rfl ?_
    refine wp_skip ?_
    refine then_n ?_
    refine wp_seq ?_
    refine wp_block ?_
    refine wp_seq ?_
    obtain ⟨ad, ao2, cap2, had, hcell, HR⟩ := (HRS.gro GR).lc.at (j := i) (by rw [List.length_map]; exact hlt)
    obtain ⟨r, hr⟩ : ∃ r, (q.map (·.2)).getD i [] = r := ⟨_, rfl⟩
    rw [hr] at hcell HR
    have hrl : r.length ≤ 1024 := HG.lens r (by rw [hq, ← hr]; exact getD_mem2 (by rw [List.length_map]; exact hlt))
    have hs : hld ((q.map (·.2)).take (i + 1)) = hldR (Lx, c) r := by rw [take_one' hlt hr, hld_snoc, hh]; rfl
    refine wp_region_lit ?_
    refine s_val 28 rfl rfl (.pointer (some (ad.add i))) (run_idx23 _ _ rfl ad _ _ i (by rw [← had]; rfl) rfl hlt _) ?_
    refine nr ?_; intro U h; simp only [z0, z1] at h; subst h
    refine s_val 29 rfl rfl (.slice ao2 r.length cap2) (run_ld24 _ rfl (ad.add i) rfl _ _ hcell) ?_
    refine nr ?_; intro U h; simp only [z0, z1] at h; subst h
    refine s_val 9 rfl rfl (.slice ao2 r.length cap2) (rfl) ?_
    refine nr ?_; intro U h; simp only [z0, z1] at h; subst h
    refine wpList_nil ?_
    refine then_n ?_
    refine wp_seq ?_
    rcases hx : hldR (Lx, c) r with _ | ⟨Ly, d⟩
    · rw [hx] at hs
      refine wp_region_lit ?_
      refine s_val 30 rfl rfl (.pointer (some ⟨vp, 0, none⟩)) (rfl) ?_
      refine nr ?_; intro U h; simp only [z0, z1] at h; subst h
      refine s_val 31 rfl rfl (.slice ao2 r.length cap2) (rfl) ?_
      refine nr ?_; intro U h; simp only [z0, z1] at h; subst h
      refine s_callx 32 rfl rfl _ 38 Try.call38 rfl rfl _ rfl [.pointer (some ⟨vp, 0, none⟩), .slice ao2 r.length cap2] rfl ((replay_any (vp :: lp :: mb :: U0) _ vp lp mb c M Lx HV ao2 cap2 r HR (by omega)).mono fun e w' HZ => by rw [hx] at HZ; exact HZ) (by rintro _ _ ⟨he, _⟩; exact ⟨_, he⟩) ?_
      rintro v w4 ⟨he, G⟩
      cases he
      replace GR := G.gro GR (by simp only [List.mem_cons, List.not_mem_nil, or_false]; omega)
      replace GG := G.gros GG (fun k hk => by simp only [List.mem_cons, List.not_mem_nil, or_false] at hk ⊢; omega)
      refine nr ?_; intro U h; simp only [z0, z1] at h; subst h
      refine s_val 33 rfl rfl (.bool true) (run_nt _ _ rfl false rfl) ?_
      refine nr ?_; intro U h; simp only [z0, z1] at h; subst h
      refine wpList_nil ?_
      refine then_n ?_
      refine wp_cond_true rfl ?_
      refine wp_seq ?_
      refine wp_region_lit ?_
      refine s_val 2 rfl rfl (.pointer none) (rfl) ?_
      refine nr ?_; intro U h; simp only [z0, z1] at h; subst h
      refine s_val 3 rfl rfl (.int .i64 2) (rfl) ?_
      refine nr ?_; intro U h; simp only [z0, z1] at h; subst h
      refine wpList_nil ?_
      refine then_n ?_
      refine wp_ret ?_
      refine blk_r ?_
      refine then_r ?_
      refine then_r ?_
      refine blk_r ?_
      refine then_r ?_
      refine bodyPost_ret (results_tmp2 Try.results13 _ _ _) rfl ?_
      exact ⟨rfl, GG, HD1.gro (G1R.trans GR)⟩
    · rw [hx] at hs
      refine wp_region_lit ?_
      refine s_val 30 rfl rfl (.pointer (some ⟨vp, 0, none⟩)) (rfl) ?_
      refine nr ?_; intro U h; simp only [z0, z1] at h; subst h
      refine s_val 31 rfl rfl (.slice ao2 r.length cap2) (rfl) ?_
      refine nr ?_; intro U h; simp only [z0, z1] at h; subst h
      refine s_callx 32 rfl rfl _ 38 Try.call38 rfl rfl _ rfl [.pointer (some ⟨vp, 0, none⟩), .slice ao2 r.length cap2] rfl ((replay_any (vp :: lp :: mb :: U0) _ vp lp mb c M Lx HV ao2 cap2 r HR (by omega)).mono fun e w' HZ => by rw [hx] at HZ; exact HZ) (by rintro _ _ ⟨_, he, _, _⟩; exact ⟨_, he⟩) ?_
      rintro v w4 ⟨M2, he, G, HV2⟩
      cases he
      replace GR := G.gro GR (by simp only [List.mem_cons, List.not_mem_nil, or_false]; omega)
      replace GG := G.gros GG (fun k hk => by simp only [List.mem_cons, List.not_mem_nil, or_false] at hk ⊢; omega)
      have hh2 := hs
      clear HV
      have HV := HV2
      refine nr ?_; intro U h; simp only [z0, z1] at h; subst h
      refine s_val 33 rfl rfl (.bool false) (run_nt _ _ rfl true rfl) ?_
      refine nr ?_; intro U h; simp only [z0, z1] at h; subst h
      refine wpList_nil ?_
      refine then_n ?_
      refine wp_cond_false rfl ?_
      refine wp_skip ?_
      refine blk_n ?_
      refine then_n ?_
      refine wp_region_lit ?_
      refine s_val 34 rfl rfl (.int .i64 ((i + 1 : Nat) : Int)) (run_addI 3 _ _ _ rfl ((i : Nat) : Int) 1 ((i + 1 : Nat) : Int) rfl rfl (by omega) (by omega) (by omega) _) ?_
      refine nr ?_; intro U h; simp only [z0, z1] at h; subst h
      refine s_val 26 rfl rfl (.int .i64 ((i + 1 : Nat) : Int)) (rfl) ?_
      refine nr ?_; intro U h; simp only [z0, z1] at h; subst h
      refine wpList_nil ?_
      refine then_n ?_
      exact ⟨_, by omega, i + 1, d, M2, Ly, (fun kz => ([us1 0, us1 1, .slice ao2 r.length cap2, .bool true, .pointer (some (ad.add i)), .slice ao2 r.length cap2, .pointer (some ⟨vp, 0, none⟩), .slice ao2 r.length cap2, .bool true, .bool false, .int .i64 ((i + 1 : Nat) : Int)] : List Value).getD kz undef), rfl, rfl, GG, GR, HV, by omega, hh2⟩
set_option maxRecDepth 100000 in
set_option maxHeartbeats 4000000 in
theorem vopen_fullD (U0 : List Nat) (w : World) (p sg n : Nat) (L : List Nat) (pw dn : Int) (H : DK w p sg n L pw dn) (hn3 : 3 ≤ n) (h : Hd) (rs : List (List Nat)) (HG : Good L n h rs) (hg : h.g < 10000) (hU0 : ∀ k ∈ U0, k < w.heap.size) (L0 : List It) (c0 : Nat) (hN : hld rs = some (L0, c0)) (hc : c0 = 1048576) : Calls Try.prog 13 #[.pointer (some ⟨p, 0, none⟩)] w (fun e w' => e = .returned (.tuple #[.pointer none, .int .i64 5]) ∧ GroS [p, sg] w w' ∧ DK w' p sg n L pw dn) := by
  have t1 : decide (((c0 : Nat) : Int) = 1048576) = true := decide_eq_true (by omega)
  refine s_enter Try.func13 rfl Try.ntmps13 [.pointer (some ⟨p, 0, none⟩)] [.pointer (some ⟨p, 0, none⟩), undef, undef, undef, undef, undef, undef, undef, undef, undef, undef, undef, undef, undef, undef, undef, undef, undef, undef, undef, undef, undef, undef, undef, undef, undef, undef, undef, undef, undef, undef, undef, undef, undef, undef, undef, undef, undef, undef, undef, undef, undef, undef, undef, undef, undef, undef, undef, undef, undef, undef, undef, undef, undef, undef, undef, undef, undef, undef] rfl ?_
  have GG := GroS.refl [p, sg] w
  have GA := Gro.refl w
  refine wp_seq ?_
  refine wp_region_lit ?_
  refine s_val 2 rfl rfl (.pointer none) (rfl) ?_
  refine nr ?_; intro U h; simp only [z0, z1] at h; subst h
  refine s_val 3 rfl rfl (.int .i64 0) (rfl) ?_
  refine nr ?_; intro U h; simp only [z0, z1] at h; subst h
  refine wpList_nil ?_
  refine then_n ?_
  refine wp_seq ?_
  refine wp_region_lit ?_
  refine s_val 12 rfl rfl (.pointer (some ⟨p, 0, none⟩)) (rfl) ?_
  refine nr ?_; intro U h; simp only [z0, z1] at h; subst h
  refine s_callx 13 rfl rfl _ 37 Try.call37 rfl rfl _ rfl [.pointer (some ⟨p, 0, none⟩)] rfl (open_ok _ p sg n L pw dn (H.gro GA) hn3 rs (HG.opens (by omega))) (by rintro _ _ ⟨_, _, _, _, he, _, _, _, _, _⟩; exact ⟨_, he⟩) ?_
  rintro v w1 ⟨lp, ao1, cap1, q, he, hq, G, hlp, HK, HRS⟩
  cases he
  replace GA := GA.gro G
  replace GG := GG.tg G
  clear G
  have HD1 := H.gro GA
  have GR := Gro.refl w1
  rw [HG.counts] at HK
  have hlp2 := lt_of_heap HK.box
  have G1R := Gro.refl w1
  clear GA
  have hql : q.length ≤ 4096 := by
    have h1 := HG.num
    rw [hq, List.length_map] at h1
    have h2 := HG.cnt
    have h3 := HG.fit
    have h4 := H.le
    omega
  refine nr ?_; intro U h; simp only [z0, z1] at h; subst h
  refine s_val 11 rfl rfl (.tuple #[.pointer (some ⟨lp, 0, none⟩), .slice ao1 q.length cap1, .int .i64 0]) (rfl) ?_
  refine nr ?_; intro U h; simp only [z0, z1] at h; subst h
  refine s_val 14 rfl rfl (.pointer (some ⟨lp, 0, none⟩)) (rfl) ?_
  refine nr ?_; intro U h; simp only [z0, z1] at h; subst h
  refine s_val 15 rfl rfl (.slice ao1 q.length cap1) (rfl) ?_
  refine nr ?_; intro U h; simp only [z0, z1] at h; subst h
  refine s_val 16 rfl rfl (.int .i64 0) (rfl) ?_
  refine nr ?_; intro U h; simp only [z0, z1] at h; subst h
  refine s_val 4 rfl rfl (.pointer (some ⟨lp, 0, none⟩)) (rfl) ?_
  refine nr ?_; intro U h; simp only [z0, z1] at h; subst h
  refine s_val 5 rfl rfl (.slice ao1 q.length cap1) (rfl) ?_
  refine nr ?_; intro U h; simp only [z0, z1] at h; subst h
  refine s_val 6 rfl rfl (.int .i64 0) (rfl) ?_
  refine nr ?_; intro U h; simp only [z0, z1] at h; subst h
  refine wpList_nil ?_
  refine then_n ?_
  refine wp_seq ?_
  refine wp_seq ?_
  refine wp_region_lit ?_
  refine s_val 17 rfl rfl (.int .i64 0) (rfl) ?_
  refine nr ?_; intro U h; simp only [z0, z1] at h; subst h
  refine s_val 18 rfl rfl (.bool false) (run_neq_k 26 .i64 _ _ _ rfl Try.underlying26 0 0 rfl rfl false (decide_eq_true rfl) _) ?_
  refine nr ?_; intro U h; simp only [z0, z1] at h; subst h
  refine wpList_nil ?_
  refine then_n ?_
  refine wp_cond_false rfl ?_
  refine wp_skip ?_
  refine then_n ?_
  refine wp_seq ?_
  refine wp_region_lit ?_
  refine s_val 20 rfl rfl (.pointer (some ⟨lp, 0, none⟩)) (rfl) ?_
  refine nr ?_; intro U h; simp only [z0, z1] at h; subst h
  refine s_mkMM kvM okM evM 21 rfl rfl rfl ?_
  intro w2 mb G emb HM
  have bmb := size_basS GG emb
  have cmb : w1.heap.size ≤ mb := by rw [← emb]; exact GR.size
  replace GR := GR.gro G
  replace GG := GG.tg G
  clear G
  refine nr ?_; intro U h; simp only [z0, z1] at h; subst h
  refine s_val 22 rfl rfl (.agg (vtA lp 0 mb)) (run_bd 91 _ rfl [(0, .pointer (some ⟨lp, 0, none⟩)), (2, .map (some mb))] rfl _ (bdVt lp mb _)) ?_
  refine nr ?_; intro U h; simp only [z0, z1] at h; subst h
  refine s_box 23 rfl rfl 91 _ rfl _ rfl (vtA lp 0 mb) rfl ?_
  intro w3 vp G evp kvp
  have bvp := size_basS GG evp
  have cvp : w1.heap.size ≤ vp := by rw [← evp]; exact GR.size
  replace GR := GR.gro G
  replace HM := HM.gro G
  replace GG := GG.tg G
  clear G
  refine nr ?_; intro U h; simp only [z0, z1] at h; subst h
  have hUlt : ∀ k ∈ (vp :: lp :: mb :: U0), k < w3.heap.size := fun k hk => by
    have hz := GR.size
    have hz2 := lt_of_heap kvp
    have hz3 := HM.lt
    rcases List.mem_cons.1 hk with rfl | hk
    · exact hz2
    rcases List.mem_cons.1 hk with rfl | hk
    · omega
    rcases List.mem_cons.1 hk with rfl | hk
    · exact hz3
    · exact Nat.lt_of_lt_of_le (hU0 k hk) GG.size
  have HV : VR (vp :: lp :: mb :: U0) w3 vp lp 0 mb [] [] := ⟨⟨kvp, HM, fun _ h => by (cases h)⟩, MR.nil _ _, MRel.nil, SKv.nil, hUlt, ⟨by simp, by simp⟩, by decide⟩
  clear kvp HM
  refine s_val 7 rfl rfl (.pointer (some ⟨vp, 0, none⟩)) (rfl) ?_
  refine nr ?_; intro U h; simp only [z0, z1] at h; subst h
  refine wpList_nil ?_
  refine then_n ?_
  refine wp_seq ?_
  refine wp_seq ?_
  refine wp_region_lit ?_
  refine s_val 24 rfl rfl (.slice ao1 q.length cap1) (rfl) ?_
  refine nr ?_; intro U h; simp only [z0, z1] at h; subst h
  refine s_val 25 rfl rfl (.int .i64 ((q.length : Nat) : Int)) (run_len Try.underlying22 _ rfl _ _ _ rfl _) ?_
  refine nr ?_; intro U h; simp only [z0, z1] at h; subst h
  refine s_val 26 rfl rfl (.int .i64 0) (rfl) ?_
  refine nr ?_; intro U h; simp only [z0, z1] at h; subst h
  refine wpList_nil ?_
  refine then_n ?_
  refine wp_block ?_
  refine wp_loopN (fun mz az wv => ∃ (i : Nat) (c : Nat) (M : List (Nat × IM)) (Lx : List It) (us1 : Nat → Value), mz = q.length - i ∧ az = ⟨[.pointer (some ⟨p, 0, none⟩), undef, us1 0, us1 1, .pointer (some ⟨lp, 0, none⟩), .slice ao1 q.length cap1, .int .i64 0, .pointer (some ⟨vp, 0, none⟩), undef, us1 2, undef, .tuple #[.pointer (some ⟨lp, 0, none⟩), .slice ao1 q.length cap1, .int .i64 0], .pointer (some ⟨p, 0, none⟩), .tuple #[.pointer (some ⟨lp, 0, none⟩), .slice ao1 q.length cap1, .int .i64 0], .pointer (some ⟨lp, 0, none⟩), .slice ao1 q.length cap1, .int .i64 0, .int .i64 0, .bool false, undef, .pointer (some ⟨lp, 0, none⟩), .map (some mb), .agg (vtA lp 0 mb), .pointer (some ⟨vp, 0, none⟩), .slice ao1 q.length cap1, .int .i64 ((q.length : Nat) : Int), .int .i64 ((i : Nat) : Int), us1 3, us1 4, us1 5, us1 6, us1 7, us1 8, us1 9, us1 10, undef, undef, undef, undef, undef, undef, undef, undef, undef, undef, undef, undef, undef, undef, undef, undef, undef, undef, undef, undef, undef, undef, undef, undef].toArray, []⟩ ∧ GroS [p, sg] w wv ∧ Gro w1 wv ∧ VR (vp :: lp :: mb :: U0) wv vp lp c mb M Lx ∧ i ≤ q.length ∧ hld ((q.map (·.2)).take i) = some (Lx, c)) ?_ _ ⟨0, 0, [], [], (fun kz => ([.pointer none, .int .i64 0, undef, undef, undef, undef, undef, undef, undef, undef, undef] : List Value).getD kz undef), rfl, rfl, GG, GR, HV, Nat.zero_le _, rfl⟩
  clear GG GR HV
  rintro mz az wv ⟨i, c, M, Lx, us1, rfl, rfl, GG, GR, HV, hi, hh⟩
  refine wp_seq ?_
  cases h1 : decide (((i : Nat) : Int) < ((q.length : Nat) : Int))
  · have hiq : i = q.length := by have := of_decide_eq_false h1; omega
    rw [List.take_of_length_le (by rw [List.length_map]; omega), ← hq] at hh
    have hLc := hN.symm.trans hh
    injection hLc with hLc
    injection hLc with e1 e2
    subst e1 e2
    have kvp := HV.vb.box
    refine wp_region_lit ?_
    refine s_val 27 rfl rfl (.bool false) (run_lssT 3 _ _ _ rfl ((i : Nat) : Int) ((q.length : Nat) : Int) rfl rfl false h1 _) ?_
    refine nr ?_; intro U h; simp only [z0, z1] at h; subst h
    refine wpList_nil ?_
    refine then_n ?_
    refine wp_seq ?_
    refine wp_cond_false rfl ?_
    refine wp_exit ?_
    refine then_x ?_
    refine then_x ?_
    refine blk_x ?_
    refine then_n ?_
    refine wp_seq ?_
    refine wp_seq ?_
    refine wp_region_lit ?_
    refine s_val 35 rfl rfl (.pointer (some ⟨vp, 0, none⟩)) (rfl) ?_
    refine nr ?_; intro U h; simp only [z0, z1] at h; subst h
    refine s_val 36 rfl rfl (.pointer (some ⟨vp, 0, none⟩)) (run_nc _ rfl _ rfl) ?_
    refine nr ?_; intro U h; simp only [z0, z1] at h; subst h
    refine s_val 37 rfl rfl (.pointer (some ⟨vp, 1, none⟩)) (run_fld 91 _ 1 rfl vp 0 rfl 1 (by kernel_rfl)) ?_
    refine nr ?_; intro U h; simp only [z0, z1] at h; subst h
    refine s_val 38 rfl rfl (.int .i64 ((c0 : Nat) : Int)) (ldVti _ rfl vp rfl (kvp)) ?_
    refine nr ?_; intro U h; simp only [z0, z1] at h; subst h
    refine s_val 39 rfl rfl (.bool true) (run_eq_k 2 .i64 _ _ _ rfl Try.underlying2 ((c0 : Nat) : Int) 1048576 rfl rfl true t1 _) ?_
    refine nr ?_; intro U h; simp only [z0, z1] at h; subst h
    refine wpList_nil ?_
    refine then_n ?_
    refine wp_cond_true rfl ?_
    refine wp_seq ?_
    refine wp_region_lit ?_
    refine s_val 2 rfl rfl (.pointer none) (rfl) ?_
    refine nr ?_; intro U h; simp only [z0, z1] at h; subst h
    refine s_val 3 rfl rfl (.int .i64 5) (rfl) ?_
    refine nr ?_; intro U h; simp only [z0, z1] at h; subst h
    refine wpList_nil ?_
    refine then_n ?_
    refine wp_ret ?_
    refine then_r ?_
    refine bodyPost_ret (results_tmp2 Try.results13 _ _ _) rfl ?_
    exact ⟨rfl, GG, HD1.gro (G1R.trans GR)⟩
  · have hlt : i < q.length := by have := of_decide_eq_true h1; omega
    refine wp_region_lit ?_
    refine s_val 27 rfl rfl (.bool true) (run_lssT 3 _ _ _ rfl ((i : Nat) : Int) ((q.length : Nat) : Int) rfl rfl true h1 _) ?_
    refine nr ?_; intro U h; simp only [z0, z1] at h; subst h
    refine wpList_nil ?_
    refine then_n ?_
    refine wp_seq ?_
    refine wp_cond_true rfl ?_
    refine wp_skip ?_
    refine then_n ?_
    refine wp_seq ?_
    refine wp_block ?_
    refine wp_seq ?_
    obtain ⟨ad, ao2, cap2, had, hcell, HR⟩ := (HRS.gro GR).lc.at (j := i) (by rw [List.length_map]; exact hlt)
    obtain ⟨r, hr⟩ : ∃ r, (q.map (·.2)).getD i [] = r := ⟨_, rfl⟩
    rw [hr] at hcell HR
    have hrl : r.length ≤ 1024 := HG.lens r (by rw [hq, ← hr]; exact getD_mem2 (by rw [List.length_map]; exact hlt))
    have hs : hld ((q.map (·.2)).take (i + 1)) = hldR (Lx, c) r := by rw [take_one' hlt hr, hld_snoc, hh]; rfl
    refine wp_region_lit ?_
    refine s_val 28 rfl rfl (.pointer (some (ad.add i))) (run_idx23 _ _ rfl ad _ _ i (by rw [← had]; rfl) rfl hlt _) ?_
    refine nr ?_; intro U h; simp only [z0, z1] at h; subst h
    refine s_val 29 rfl rfl (.slice ao2 r.length cap2) (run_ld24 _ rfl (ad.add i) rfl _ _ hcell) ?_
    refine nr ?_; intro U h; simp only [z0, z1] at h; subst h
    refine s_val 9 rfl rfl (.slice ao2 r.length cap2) (rfl) ?_
    refine nr ?_; intro U h; simp only [z0, z1] at h; subst h
    refine wpList_nil ?_
    refine then_n ?_
    refine wp_seq ?_
    rcases hx : hldR (Lx, c) r with _ | ⟨Ly, d⟩
    · rw [hx] at hs
      exact absurd (hN.symm.trans (hq ▸ hld_take hs)) (by simp)
    · rw [hx] at hs
      refine wp_region_lit ?_
      refine s_val 30 rfl rfl (.pointer (some ⟨vp, 0, none⟩)) (rfl) ?_
      refine nr ?_; intro U h; simp only [z0, z1] at h; subst h
      refine s_val 31 rfl rfl (.slice ao2 r.length cap2) (rfl) ?_
      refine nr ?_; intro U h; simp only [z0, z1] at h; subst h
      refine s_callx 32 rfl rfl _ 38 Try.call38 rfl rfl _ rfl [.pointer (some ⟨vp, 0, none⟩), .slice ao2 r.length cap2] rfl ((replay_any (vp :: lp :: mb :: U0) _ vp lp mb c M Lx HV ao2 cap2 r HR (by omega)).mono fun e w' HZ => by rw [hx] at HZ; exact HZ) (by rintro _ _ ⟨_, he, _, _⟩; exact ⟨_, he⟩) ?_
      rintro v w4 ⟨M2, he, G, HV2⟩
      cases he
      replace GR := G.gro GR (by simp only [List.mem_cons, List.not_mem_nil, or_false]; omega)
      replace GG := G.gros GG (fun k hk => by simp only [List.mem_cons, List.not_mem_nil, or_false] at hk ⊢; omega)
      have hh2 := hs
      clear HV
      have HV := HV2
      refine nr ?_; intro U h; simp only [z0, z1] at h; subst h
      refine s_val 33 rfl rfl (.bool false) (run_nt _ _ rfl true rfl) ?_
      refine nr ?_; intro U h; simp only [z0, z1] at h; subst h
      refine wpList_nil ?_
      refine then_n ?_
      refine wp_cond_false rfl ?_
      refine wp_skip ?_
      refine blk_n ?_
      refine then_n ?_
      refine wp_region_lit ?_
      refine s_val 34 rfl rfl (.int .i64 ((i + 1 : Nat) : Int)) (run_addI 3 _ _ _ rfl ((i : Nat) : Int) 1 ((i + 1 : Nat) : Int) rfl rfl (by omega) (by omega) (by omega) _) ?_
      refine nr ?_; intro U h; simp only [z0, z1] at h; subst h
      refine s_val 26 rfl rfl (.int .i64 ((i + 1 : Nat) : Int)) (rfl) ?_
      refine nr ?_; intro U h; simp only [z0, z1] at h; subst h
      refine wpList_nil ?_
      refine then_n ?_
      exact ⟨_, by omega, i + 1, d, M2, Ly, (fun kz => ([us1 0, us1 1, .slice ao2 r.length cap2, .bool true, .pointer (some (ad.add i)), .slice ao2 r.length cap2, .pointer (some ⟨vp, 0, none⟩), .slice ao2 r.length cap2, .bool true, .bool false, .int .i64 ((i + 1 : Nat) : Int)] : List Value).getD kz undef), rfl, rfl, GG, GR, HV, by omega, hh2⟩
end Go.Proofs.Ytgfnjekpafempaa
