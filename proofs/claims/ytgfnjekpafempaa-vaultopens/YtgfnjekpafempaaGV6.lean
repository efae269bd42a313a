/- A vault is opened. -/
import Derived.Test.YtgfnjekpafempaaGV4
namespace Go.Proofs.Ytgfnjekpafempaa
open Go.RowKit
theorem prsF_len : ∀ (k : Nat) (l : List Nat) (rs : List (List Nat)), prsF k l = some rs → ∀ r ∈ rs, r.length ≤ 1024
  | 0, l, rs, h => by
    unfold prsF at h
    cases h
  | k + 1, l, rs, h => by
    unfold prsF at h
    split at h
    · cases h
      intro r hr
      cases hr
    split at h
    · cases h
    · rename_i hc
      cases hp : prsF k (l.drop (secN (recM l) * 64)) with
      | none => rw [hp] at h; cases h
      | some rs2 =>
        rw [hp] at h
        cases h
        intro r hr
        rcases List.mem_cons.1 hr with rfl | hr
        · rw [List.length_take]
          omega
        · exact prsF_len k _ _ hp r hr
theorem Good.lens {L : List Nat} {n : Nat} {h : Hd} {rs : List (List Nat)} (H : Good L n h rs) : ∀ r ∈ rs, r.length ≤ 1024 := prsF_len _ _ _ H.recs
theorem hld_take {rs : List (List Nat)} {i : Nat} (h : hld (rs.take i) = none) : hld rs = none := by
  have e : rs = rs.take i ++ rs.drop i := (List.take_append_drop i rs).symm
  unfold hld at *
  rw [e, List.foldlM_append, h]
  rfl
theorem MR.nil (U : List Nat) (w : World) : MR U w [] := ⟨fun _ h => by (cases h), fun _ h => by (cases h), fun _ h => by (cases h), fun _ h => by (cases h)⟩
theorem SKv.nil : SKv [] := List.Pairwise.nil
theorem take_one' {q : List (Nat × List Nat)} {i : Nat} {r : List Nat} (hi : i < q.length) (hr : (q.map (·.2)).getD i [] = r) : (q.map (·.2)).take (i + 1) = (q.map (·.2)).take i ++ [r] := by
  rw [take_one (q.map (·.2)) [] i (by rw [List.length_map]; exact hi), hr]
def OpnP (U0 : List Nat) (w : World) (p sg n : Nat) (dn : Int) (L0 : List It) (c0 : Nat) (err : Int) (L2 : List Nat) (pw2 : Int) (h2 : Hd) (e : Ending) (w' : World) : Prop :=
  (err ≠ 0 ∧ ∃ dn', e = .returned (.tuple #[.pointer none, .int .i64 err]) ∧ GroS [p, sg] w w' ∧ DK w' p sg n L2 pw2 dn' ∧ dn ≤ dn' ∧ dn' ≤ dn + 20) ∨
  (err = 0 ∧ ∃ vp lp mb M dn', e = .returned (.tuple #[.pointer (some ⟨vp, 0, none⟩), .int .i64 0]) ∧ GroS [p, sg] w w' ∧ VK (vp :: lp :: mb :: U0) w' vp lp p sg mb n L2 pw2 dn' h2 false ((c0 + 1 : Nat) : Int) M ∧ MRel M L0 ∧ w.heap.size ≤ vp ∧ w.heap.size ≤ lp ∧ w.heap.size ≤ mb ∧ dn ≤ dn' ∧ dn' ≤ dn + 20)
theorem VK.inc {U : List Nat} {w w' : World} {vp lp p sg mb n : Nat} {L : List Nat} {pw dn : Int} {h : Hd} {dw : Bool} {inc inc' : Int} {M : List (Nat × IM)} (H : VK U w vp lp p sg mb n L pw dn h dw inc M) (St : Stored w w' vp (.cells (vtA lp inc' mb) 91 (0, 0))) : VK U w' vp lp p sg mb n L pw dn h dw inc' M :=
  ⟨⟨St.new, H.vb.map.st St (Ne.symm H.n4), H.vb.ok⟩, ⟨St.has (Ne.symm H.n1) H.log.box⟩, ⟨St.has (Ne.symm H.n2) H.dsk.box, St.has (Ne.symm H.n3) H.dsk.sec, H.dsk.len, H.dsk.le, H.dsk.byte, H.dsk.ne⟩, ⟨fun y hy => (H.mr.row y hy).st St (fun ad ha h0 e => (H.mr.row y hy).ne ad ha h0 (e ▸ H.sub vp (by simp))), H.mr.key, H.mr.n1, H.mr.len⟩, H.sub, fun k hk => by rw [St.size]; exact H.lt k hk⟩
set_option maxRecDepth 100000 in
set_option maxHeartbeats 4000000 in
theorem vopen_go (U0 : List Nat) (w : World) (p sg n : Nat) (L : List Nat) (pw dn : Int) (H : DK w p sg n L pw dn) (hn3 : 3 ≤ n) (h : Hd) (rs : List (List Nat)) (HG : Good L n h rs) (hg : h.g < 10000) (hU0 : ∀ k ∈ U0, k < w.heap.size) (hp0 : p ∈ U0) (hs0 : sg ∈ U0) (L0 : List It) (c0 : Nat) (hN : hld rs = some (L0, c0)) (hc : c0 < 1048576) (err : Int) (L2 : List Nat) (pw2 : Int) (h2 : Hd) (dw2 : Bool) (rs2 : List (List Nat)) (HO : Out n L pw h false rs (begV (c0 + 1)) err L2 pw2 h2 dw2 rs2) (SA : SideA n L pw h false (begV (c0 + 1)) err L2 pw2 h2 dw2) (hd1 : 0 ≤ dn) (hd2 : dn < 9223372036854760000) : Calls Try.prog 13 #[.pointer (some ⟨p, 0, none⟩)] w (OpnP U0 w p sg n dn L0 c0 err L2 pw2 h2) := by
  have t1 : decide (((c0 : Nat) : Int) = 1048576) = false := decide_eq_false (by omega)
  rcases HO.res with ⟨rfl, hrs⟩ | ⟨he1, hrs⟩
  · clear hrs
    refine s_enter Try.func13 rfl Try.ntmps13 [.pointer (some ⟨p, 0, none⟩)] [.pointer (some ⟨p, 0, none⟩), undef, undef, undef, undef, undef, undef, undef, undef, undef, undef, undef, undef, undef, undef, undef, undef, undef, undef, undef, undef, undef, undef, undef, undef, undef, undef, undef, undef, undef, undef, undef, undef, undef, undef, undef, undef, undef, undef, undef, undef, undef, undef, undef, undef, undef, undef, undef, undef, undef, undef, undef, undef, undef, undef, undef, undef, undef, undef] rfl ?_
    have GG := GroS.refl [p, sg] w
    have GA := Gro.refl w
    refine wp_seq ?_
    refine wp_region_lit ?_
    refine s_val 2 rfl rfl (.pointer none) (rfl) ?_
    refine nr ?_; intro U h; simp only [z0, z1] at h; subst h
    refine s_val 3 rfl rfl (.int .i64 0) (rfl) ?_
    refine nr ?_; intro U h; simp only [z0, z1] at h; subst h
    refine wpList_nil ?_
    refine then_n ?_
    refine wp_seq ?_
    refine wp_region_lit ?_
    refine s_val 12 rfl rfl (.pointer (some ⟨p, 0, none⟩)) (rfl) ?_
    refine nr ?_; intro U h; simp only [z0, z1] at h; subst h
    refine s_callx 13 rfl rfl _ 37 Try.call37 rfl rfl _ rfl [.pointer (some ⟨p, 0, none⟩)] rfl (open_ok _ p sg n L pw dn (H.gro GA) hn3 rs (HG.opens (by omega))) (by rintro _ _ ⟨_, _, _, _, he, _, _, _, _, _⟩; exact ⟨_, he⟩) ?_
    rintro v w1 ⟨lp, ao1, cap1, q, he, hq, G, hlp, HK, HRS⟩
    cases he
    replace GA := GA.gro G
    replace GG := GG.tg G
    clear G
    have HD1 := H.gro GA
    have GR := Gro.refl w1
    rw [HG.counts] at HK
    have hlp2 := lt_of_heap HK.box
    have G1R := Gro.refl w1
    clear GA
    have hql : q.length ≤ 4096 := by
      have h1 := HG.num
      rw [hq, List.length_map] at h1
      have h2 := HG.cnt
      have h3 := HG.fit
      have h4 := H.le
      omega
    refine nr ?_; intro U h; simp only [z0, z1] at h; subst h
    refine s_val 11 rfl rfl (.tuple #[.pointer (some ⟨lp, 0, none⟩), .slice ao1 q.length cap1, .int .i64 0]) (rfl) ?_
    refine nr ?_; intro U h; simp only [z0, z1] at h; subst h
    refine s_val 14 rfl rfl (.pointer (some ⟨lp, 0, none⟩)) (rfl) ?_
    refine nr ?_; intro U h; simp only [z0, z1] at h; subst h
    refine s_val 15 rfl rfl (.slice ao1 q.length cap1) (rfl) ?_
    refine nr ?_; intro U h; simp only [z0, z1] at h; subst h
    refine s_val 16 rfl rfl (.int .i64 0) (rfl) ?_
    refine nr ?_; intro U h; simp only [z0, z1] at h; subst h
    refine s_val 4 rfl rfl (.pointer (some ⟨lp, 0, none⟩)) (rfl) ?_
    refine nr ?_; intro U h; simp only [z0, z1] at h; subst h
    refine s_val 5 rfl rfl (.slice ao1 q.length cap1) (rfl) ?_
    refine nr ?_; intro U h; simp only [z0, z1] at h; subst h
    refine s_val 6 rfl rfl (.int .i64 0) (rfl) ?_
    refine nr ?_; intro U h; simp only [z0, z1] at h; subst h
    refine wpList_nil ?_
    refine then_n ?_
    refine wp_seq ?_
    refine wp_seq ?_
    refine wp_region_lit ?_
    refine s_val 17 rfl rfl (.int .i64 0) (rfl) ?_
    refine nr ?_; intro U h; simp only [z0, z1] at h; subst h
    refine s_val 18 rfl rfl (.bool false) (run_neq_k 26 .i64 _ _ _ rfl Try.underlying26 0 0 rfl rfl false (decide_eq_true rfl) _) ?_
    refine nr ?_; intro U h; simp only [z0, z1] at h; subst h
    refine wpList_nil ?_
    refine then_n ?_
    refine wp_cond_false rfl ?_
    refine wp_skip ?_
    refine then_n ?_
    refine wp_seq ?_
    refine wp_region_lit ?_
    refine s_val 20 rfl rfl (.pointer (some ⟨lp, 0, none⟩)) (rfl) ?_
    refine nr ?_; intro U h; simp only [z0, z1] at h; subst h
    refine s_mkMM kvM okM evM 21 rfl rfl rfl ?_
    intro w2 mb G emb HM
    have bmb := size_basS GG emb
    have cmb : w1.heap.size ≤ mb := by rw [← emb]; exact GR.size
    replace GR := GR.gro G
    replace GG := GG.tg G
    clear G
    refine nr ?_; intro U h; simp only [z0, z1] at h; subst h
    refine s_val 22 rfl rfl (.agg (vtA lp 0 mb)) (run_bd 91 _ rfl [(0, .pointer (some ⟨lp, 0, none⟩)), (2, .map (some mb))] rfl _ (bdVt lp mb _)) ?_
    refine nr ?_; intro U h; simp only [z0, z1] at h; subst h
    refine s_box 23 rfl rfl 91 _ rfl _ rfl (vtA lp 0 mb) rfl ?_
    intro w3 vp G evp kvp
    have bvp := size_basS GG evp
    have cvp : w1.heap.size ≤ vp := by rw [← evp]; exact GR.size
    replace GR := GR.gro G
    replace HM := HM.gro G
    replace GG := GG.tg G
    clear G
    refine nr ?_; intro U h; simp only [z0, z1] at h; subst h
    have hUlt : ∀ k ∈ (vp :: lp :: mb :: U0), k < w3.heap.size := fun k hk => by
      have hz := GR.size
      have hz2 := lt_of_heap kvp
      have hz3 := HM.lt
      rcases List.mem_cons.1 hk with rfl | hk
      · exact hz2
      rcases List.mem_cons.1 hk with rfl | hk
      · omega
      rcases List.mem_cons.1 hk with rfl | hk
      · exact hz3
      · exact Nat.lt_of_lt_of_le (hU0 k hk) GG.size
    have HV : VR (vp :: lp :: mb :: U0) w3 vp lp 0 mb [] [] := ⟨⟨kvp, HM, fun _ h => by (cases h)⟩, MR.nil _ _, MRel.nil, SKv.nil, hUlt, ⟨by simp, by simp⟩, by decide⟩
    clear kvp HM
    refine s_val 7 rfl rfl (.pointer (some ⟨vp, 0, none⟩)) (rfl) ?_
    refine nr ?_; intro U h; simp only [z0, z1] at h; subst h
    refine wpList_nil ?_
    refine then_n ?_
    refine wp_seq ?_
    refine wp_seq ?_
    refine wp_region_lit ?_
    refine s_val 24 rfl rfl (.slice ao1 q.length cap1) (rfl) ?_
    refine nr ?_; intro U h; simp only [z0, z1] at h; subst h
    refine s_val 25 rfl rfl (.int .i64 ((q.length : Nat) : Int)) (run_len Try.underlying22 _ rfl _ _ _ rfl _) ?_
    refine nr ?_; intro U h; simp only [z0, z1] at h; subst h
    refine s_val 26 rfl rfl (.int .i64 0) (rfl) ?_
    refine nr ?_; intro U h; simp only [z0, z1] at h; subst h
    refine wpList_nil ?_
    refine then_n ?_
    refine wp_block ?_
    refine wp_loopN (fun mz az wv => ∃ (i : Nat) (c : Nat) (M : List (Nat × IM)) (Lx : List It) (us1 : Nat → Value), mz = q.length - i ∧ az = ⟨[.pointer (some ⟨p, 0, none⟩), undef, us1 0, us1 1, .pointer (some ⟨lp, 0, none⟩), .slice ao1 q.length cap1, .int .i64 0, .pointer (some ⟨vp, 0, none⟩), undef, us1 2, undef, .tuple #[.pointer (some ⟨lp, 0, none⟩), .slice ao1 q.length cap1, .int .i64 0], .pointer (some ⟨p, 0, none⟩), .tuple #[.pointer (some ⟨lp, 0, none⟩), .slice ao1 q.length cap1, .int .i64 0], .pointer (some ⟨lp, 0, none⟩), .slice ao1 q.length cap1, .int .i64 0, .int .i64 0, .bool false, undef, .pointer (some ⟨lp, 0, none⟩), .map (some mb), .agg (vtA lp 0 mb), .pointer (some ⟨vp, 0, none⟩), .slice ao1 q.length cap1, .int .i64 ((q.length : Nat) : Int), .int .i64 ((i : Nat) : Int), us1 3, us1 4, us1 5, us1 6, us1 7, us1 8, us1 9, us1 10, undef, undef, undef, undef, undef, undef, undef, undef, undef, undef, undef, undef, undef, undef, undef, undef, undef, undef, undef, undef, undef, undef, undef, undef].toArray, []⟩ ∧ GroS [p, sg] w wv ∧ Gro w1 wv ∧ VR (vp :: lp :: mb :: U0) wv vp lp c mb M Lx ∧ i ≤ q.length ∧ hld ((q.map (·.2)).take i) = some (Lx, c)) ?_ _ ⟨0, 0, [], [], (fun kz => ([.pointer none, .int .i64 0, undef, undef, undef, undef, undef, undef, undef, undef, undef] : List Value).getD kz undef), rfl, rfl, GG, GR, HV, Nat.zero_le _, rfl⟩
    clear GG GR HV
    rintro mz az wv ⟨i, c, M, Lx, us1, rfl, rfl, GG, GR, HV, hi, hh⟩
    refine wp_seq ?_
    cases h1 : decide (((i : Nat) : Int) < ((q.length : Nat) : Int))
    · have hiq : i = q.length := by have := of_decide_eq_false h1; omega
      rw [List.take_of_length_le (by rw [List.length_map]; omega), ← hq] at hh
      have hLc := hN.symm.trans hh
      injection hLc with hLc
      injection hLc with e1 e2
      subst e1 e2
      have kvp := HV.vb.box
      refine wp_region_lit ?_
      refine s_val 27 rfl rfl (.bool false) (run_lssT 3 _ _ _ rfl ((i : Nat) : Int) ((q.length : Nat) : Int) rfl rfl false h1 _) ?_
      refine nr ?_; intro U h; simp only [z0, z1] at h; subst h
      refine wpList_nil ?_
      refine then_n ?_
      refine wp_seq ?_
      refine wp_cond_false rfl ?_
      refine wp_exit ?_
      refine then_x ?_
      refine then_x ?_
      refine blk_x ?_
      refine then_n ?_
      refine wp_seq ?_
      refine wp_seq ?_
      refine wp_region_lit ?_
      refine s_val 35 rfl rfl (.pointer (some ⟨vp, 0, none⟩)) (rfl) ?_
      refine nr ?_; intro U h; simp only [z0, z1] at h; subst h
      refine s_val 36 rfl rfl (.pointer (some ⟨vp, 0, none⟩)) (run_nc _ rfl _ rfl) ?_
      refine nr ?_; intro U h; simp only [z0, z1] at h; subst h
      refine s_val 37 rfl rfl (.pointer (some ⟨vp, 1, none⟩)) (run_fld 91 _ 1 rfl vp 0 rfl 1 (by kernel_rfl)) ?_
      refine nr ?_; intro U h; simp only [z0, z1] at h; subst h
      refine s_val 38 rfl rfl (.int .i64 ((c0 : Nat) : Int)) (ldVti _ rfl vp rfl (kvp)) ?_
      refine nr ?_; intro U h; simp only [z0, z1] at h; subst h
      refine s_val 39 rfl rfl (.bool false) (run_eq_k 2 .i64 _ _ _ rfl Try.underlying2 ((c0 : Nat) : Int) 1048576 rfl rfl false t1 _) ?_
      refine nr ?_; intro U h; simp only [z0, z1] at h; subst h
      refine wpList_nil ?_
      refine then_n ?_
      refine wp_cond_false rfl ?_
      refine wp_skip ?_
      refine then_n ?_
      refine wp_seq ?_
      refine wp_seq ?_
      have GV := Gro.refl wv
      have hs5 : ∀ k ∈ [vp, lp, p, sg, mb], k ∈ (vp :: lp :: mb :: U0) := fun k hk => by
        simp only [List.mem_cons, List.not_mem_nil, or_false] at hk ⊢
        rcases hk with rfl | rfl | rfl | rfl | rfl
        · exact .inl rfl
        · exact .inr (.inl rfl)
        · exact .inr (.inr (.inr hp0))
        · exact .inr (.inr (.inr hs0))
        · exact .inr (.inr (.inl rfl))
      have hne1 : lp ≠ p := ne_type HK.box HD1.box (by decide)
      have hne2 : lp ≠ sg := ne_type HK.box HD1.sec (by decide)
      refine wp_region_lit ?_
      refine s_val 40 rfl rfl (.pointer (some ⟨lp, 0, none⟩)) (rfl) ?_
      refine nr ?_; intro U h; simp only [z0, z1] at h; subst h
      refine s_val 41 rfl rfl (.pointer (some ⟨vp, 0, none⟩)) (rfl) ?_
      refine nr ?_; intro U h; simp only [z0, z1] at h; subst h
      refine s_val 42 rfl rfl (.pointer (some ⟨vp, 0, none⟩)) (run_nc _ rfl _ rfl) ?_
      refine nr ?_; intro U h; simp only [z0, z1] at h; subst h
      refine s_val 43 rfl rfl (.pointer (some ⟨vp, 1, none⟩)) (run_fld 91 _ 1 rfl vp 0 rfl 1 (by kernel_rfl)) ?_
      refine nr ?_; intro U h; simp only [z0, z1] at h; subst h
      refine s_val 44 rfl rfl (.int .i64 ((c0 : Nat) : Int)) (ldVti _ rfl vp rfl (kvp)) ?_
      refine nr ?_; intro U h; simp only [z0, z1] at h; subst h
      refine s_val 45 rfl rfl (.int .i64 ((c0 + 1 : Nat) : Int)) (run_addI 2 _ _ _ rfl ((c0 : Nat) : Int) 1 ((c0 + 1 : Nat) : Int) rfl rfl (by omega) (by omega) (by omega) _) ?_
      refine nr ?_; intro U h; simp only [z0, z1] at h; subst h
      refine s_callx 46 rfl rfl _ 40 Try.call40 rfl rfl _ rfl [.int .i64 ((c0 + 1 : Nat) : Int)] rfl (bform_any (c0 + 1) (by omega) _) (by rintro _ _ ⟨_, _, he, _, _⟩; exact ⟨_, he⟩) ?_
      rintro v w4 ⟨ao3, cap3, he, G, HO3⟩
      cases he
      have hl3 := GR.size
      have hl4 := GG.size
      replace kvp := G.has kvp
      replace GR := GR.gro G
      replace GV := GV.gro G
      replace GG := GG.tg G
      clear G
      refine nr ?_; intro U h; simp only [z0, z1] at h; subst h
      refine s_callx 47 rfl rfl _ 39 Try.call39 rfl rfl _ rfl [.pointer (some ⟨lp, 0, none⟩), .slice ao3 (begV (c0 + 1)).length cap3] rfl (SA _ lp p sg dn _ _ (HK.gro GR) (HD1.gro (G1R.trans GR)) (HO3.bs (fun k hk => by simp only [List.mem_cons, List.not_mem_nil, or_false] at hk; rcases hk with rfl | rfl; (have := lt_of_heap HD1.box; omega); (have := lt_of_heap HD1.sec; omega))) hne1 hne2 hd1 hd2) (by rintro _ _ ⟨_, he, _, _, _, _, _⟩; exact ⟨_, he⟩) ?_
      rintro v w5 ⟨dn2, he, G, hd3, hd4, HD, HK2⟩
      cases he
      replace GG := G.gros GG (fun k hk => by simp only [List.mem_cons, List.not_mem_nil, or_false] at hk ⊢; omega)
      have HV5 : VK (vp :: lp :: mb :: U0) w5 vp lp p sg mb n L2 pw2 dn2 h2 dw2 ((c0 : Nat) : Int) M := VK.app (⟨(HV.gro GV).vb, HK.gro GR, HD1.gro (G1R.trans GR), (HV.gro GV).mr, hs5, (HV.gro GV).lt⟩ : VK (vp :: lp :: mb :: U0) _ vp lp p sg mb n L pw dn h false ((c0 : Nat) : Int) M) G HD HK2
      clear kvp
      have kvp := HV5.vb.box
      refine nr ?_; intro U h; simp only [z0, z1] at h; subst h
      refine s_val 10 rfl rfl (.int .i64 0) (rfl) ?_
      refine nr ?_; intro U h; simp only [z0, z1] at h; subst h
      refine wpList_nil ?_
      refine then_n ?_
      refine wp_seq ?_
      refine wp_region_lit ?_
      refine s_val 48 rfl rfl (.int .i64 0) (rfl) ?_
      refine nr ?_; intro U h; simp only [z0, z1] at h; subst h
      refine s_val 49 rfl rfl (.bool false) (run_neq_k 26 .i64 _ _ _ rfl Try.underlying26 0 0 rfl rfl false (decide_eq_true rfl) _) ?_
      refine nr ?_; intro U h; simp only [z0, z1] at h; subst h
      refine wpList_nil ?_
      refine then_n ?_
      refine wp_cond_false rfl ?_
      refine wp_skip ?_
      refine then_n ?_
      refine wp_seq ?_
      refine wp_region_lit ?_
      refine s_val 51 rfl rfl (.pointer (some ⟨vp, 0, none⟩)) (rfl) ?_
      refine nr ?_; intro U h; simp only [z0, z1] at h; subst h
      refine s_val 52 rfl rfl (.pointer (some ⟨vp, 0, none⟩)) (run_nc _ rfl _ rfl) ?_
      refine nr ?_; intro U h; simp only [z0, z1] at h; subst h
      refine s_val 53 rfl rfl (.pointer (some ⟨vp, 1, none⟩)) (run_fld 91 _ 1 rfl vp 0 rfl 1 (by kernel_rfl)) ?_
      refine nr ?_; intro U h; simp only [z0, z1] at h; subst h
      refine s_val 54 rfl rfl (.int .i64 ((c0 : Nat) : Int)) (ldVti _ rfl vp rfl (kvp)) ?_
      refine nr ?_; intro U h; simp only [z0, z1] at h; subst h
      refine s_val 55 rfl rfl (.int .i64 ((c0 + 1 : Nat) : Int)) (run_addI 2 _ _ _ rfl ((c0 : Nat) : Int) 1 ((c0 + 1 : Nat) : Int) rfl rfl (by omega) (by omega) (by omega) _) ?_
      refine nr ?_; intro U h; simp only [z0, z1] at h; subst h
      refine s_val 56 rfl rfl (.pointer (some ⟨vp, 0, none⟩)) (run_nc _ rfl _ rfl) ?_
      refine nr ?_; intro U h; simp only [z0, z1] at h; subst h
      refine s_val 57 rfl rfl (.pointer (some ⟨vp, 1, none⟩)) (run_fld 91 _ 1 rfl vp 0 rfl 1 (by kernel_rfl)) ?_
      refine nr ?_; intro U h; simp only [z0, z1] at h; subst h
      refine s_store rfl rfl 2 _ _ rfl vp 1 rfl (.int .i64 ((c0 + 1 : Nat) : Int)) rfl 91 _ kvp #[.int .i64 ((c0 + 1 : Nat) : Int)] rfl si64i (by rw [vtA_size]; exact Nat.le_of_ble_eq_true rfl) (i_one _) (vtA lp ((c0 + 1 : Nat) : Int) mb) (spl_inc _ _ _ _) ?_
      intro w6 St
      replace GG := GG.st St (.inl bvp)
      have HV6 := HV5.inc St
      clear St kvp
      refine wpList_nil ?_
      refine then_n ?_
      refine wp_seq ?_
      refine wp_region_lit ?_
      refine s_val 58 rfl rfl (.pointer (some ⟨vp, 0, none⟩)) (rfl) ?_
      refine nr ?_; intro U h; simp only [z0, z1] at h; subst h
      refine s_val 2 rfl rfl (.pointer (some ⟨vp, 0, none⟩)) (rfl) ?_
      refine nr ?_; intro U h; simp only [z0, z1] at h; subst h
      refine s_val 3 rfl rfl (.int .i64 0) (rfl) ?_
      refine nr ?_; intro U h; simp only [z0, z1] at h; subst h
      refine wpList_nil ?_
      refine then_n ?_
      refine wp_ret ?_
      refine bodyPost_ret (results_tmp2 Try.results13 _ _ _) rfl ?_
      have hdw := HO.ok rfl
      subst hdw
      exact .inr ⟨rfl, vp, lp, mb, M, dn2, rfl, GG, HV6, HV.rel, bvp, by omega, bmb, hd3, hd4⟩
    · have hlt : i < q.length := by have := of_decide_eq_true h1; omega
      refine wp_region_lit ?_
      refine s_val 27 rfl rfl (.bool true) (run_lssT 3 _ _ _ rfl ((i : Nat) : Int) ((q.length : Nat) : Int) rfl rfl true h1 _) ?_
      refine nr ?_; intro U h; simp only [z0, z1] at h; subst h
      refine wpList_nil ?_
      refine then_n ?_
      refine wp_seq ?_
      refine wp_cond_true rfl ?_
      refine wp_skip ?_
      refine then_n ?_
      refine wp_seq ?_
      refine wp_block ?_
      refine wp_seq ?_
      obtain ⟨ad, ao2, cap2, had, hcell, HR⟩ := (HRS.gro GR).lc.at (j := i) (by rw [List.length_map]; exact hlt)
      obtain ⟨r, hr⟩ : ∃ r, (q.map (·.2)).getD i [] = r := ⟨_, rfl⟩
      rw [hr] at hcell HR
      have hrl : r.length ≤ 1024 := HG.lens r (by rw [hq, ← hr]; exact getD_mem2 (by rw [List.length_map]; exact hlt))
      have hs : hld ((q.map (·.2)).take (i + 1)) = hldR (Lx, c) r := by rw [take_one' hlt hr, hld_snoc, hh]; rfl
      refine wp_region_lit ?_
      refine s_val 28 rfl rfl (.pointer (some (ad.add i))) (run_idx23 _ _ rfl ad _ _ i (by rw [← had]; rfl) rfl hlt _) ?_
      refine nr ?_; intro U h; simp only [z0, z1] at h; subst h
      refine s_val 29 rfl rfl (.slice ao2 r.length cap2) (run_ld24 _ rfl (ad.add i) rfl _ _ hcell) ?_
      refine nr ?_; intro U h; simp only [z0, z1] at h; subst h
      refine s_val 9 rfl rfl (.slice ao2 r.length cap2) (rfl) ?_
      refine nr ?_; intro U h; simp only [z0, z1] at h; subst h
      refine wpList_nil ?_
      refine then_n ?_
      refine wp_seq ?_
      rcases hx : hldR (Lx, c) r with _ | ⟨Ly, d⟩
      · rw [hx] at hs
        exact absurd (hN.symm.trans (hq ▸ hld_take hs)) (by simp)
      · rw [hx] at hs
        refine wp_region_lit ?_
        refine s_val 30 rfl rfl (.pointer (some ⟨vp, 0, none⟩)) (rfl) ?_
        refine nr ?_; intro U h; simp only [z0, z1] at h; subst h
        refine s_val 31 rfl rfl (.slice ao2 r.length cap2) (rfl) ?_
        refine nr ?_; intro U h; simp only [z0, z1] at h; subst h
        refine s_callx 32 rfl rfl _ 38 Try.call38 rfl rfl _ rfl [.pointer (some ⟨vp, 0, none⟩), .slice ao2 r.length cap2] rfl ((replay_any (vp :: lp :: mb :: U0) _ vp lp mb c M Lx HV ao2 cap2 r HR (by omega)).mono fun e w' HZ => by rw [hx] at HZ; exact HZ) (by rintro _ _ ⟨_, he, _, _⟩; exact ⟨_, he⟩) ?_
        rintro v w4 ⟨M2, he, G, HV2⟩
        cases he
        replace GR := G.gro GR (by simp only [List.mem_cons, List.not_mem_nil, or_false]; omega)
        replace GG := G.gros GG (fun k hk => by simp only [List.mem_cons, List.not_mem_nil, or_false] at hk ⊢; omega)
        have hh2 := hs
        clear HV
        have HV := HV2
        refine nr ?_; intro U h; simp only [z0, z1] at h; subst h
        refine s_val 33 rfl rfl (.bool false) (run_nt _ _ rfl true rfl) ?_
        refine nr ?_; intro U h; simp only [z0, z1] at h; subst h
        refine wpList_nil ?_
        refine then_n ?_
        refine wp_cond_false rfl ?_
        refine wp_skip ?_
        refine blk_n ?_
        refine then_n ?_
        refine wp_region_lit ?_
        refine s_val 34 rfl rfl (.int .i64 ((i + 1 : Nat) : Int)) (run_addI 3 _ _ _ rfl ((i : Nat) : Int) 1 ((i + 1 : Nat) : Int) rfl rfl (by omega) (by omega) (by omega) _) ?_
        refine nr ?_; intro U h; simp only [z0, z1] at h; subst h
        refine s_val 26 rfl rfl (.int .i64 ((i + 1 : Nat) : Int)) (rfl) ?_
        refine nr ?_; intro U h; simp only [z0, z1] at h; subst h
        refine wpList_nil ?_
        refine then_n ?_
        exact ⟨_, by omega, i + 1, d, M2, Ly, (fun kz => ([us1 0, us1 1, .slice ao2 r.length cap2, .bool true, .pointer (some (ad.add i)), .slice ao2 r.length cap2, .pointer (some ⟨vp, 0, none⟩), .slice ao2 r.length cap2, .bool true, .bool false, .int .i64 ((i + 1 : Nat) : Int)] : List Value).getD kz undef), rfl, rfl, GG, GR, HV, by omega, hh2⟩
  · clear hrs
    have t2 : decide (err = 0) = false := decide_eq_false he1
    refine s_enter Try.func13 rfl Try.ntmps13 [.pointer (some ⟨p, 0, none⟩)] [.pointer (some ⟨p, 0, none⟩), undef, undef, undef, undef, undef, undef, undef, undef, undef, undef, undef, undef, undef, undef, undef, undef, undef, undef, undef, undef, undef, undef, undef, undef, undef, undef, undef, undef, undef, undef, undef, undef, undef, undef, undef, undef, undef, undef, undef, undef, undef, undef, undef, undef, undef, undef, undef, undef, undef, undef, undef, undef, undef, undef, undef, undef, undef, undef] rfl ?_
    have GG := GroS.refl [p, sg] w
    have GA := Gro.refl w
    refine wp_seq ?_
    refine wp_region_lit ?_
    refine s_val 2 rfl rfl (.pointer none) (rfl) ?_
    refine nr ?_; intro U h; simp only [z0, z1] at h; subst h
    refine s_val 3 rfl rfl (.int .i64 0) (rfl) ?_
    refine nr ?_; intro U h; simp only [z0, z1] at h; subst h
    refine wpList_nil ?_
    refine then_n ?_
    refine wp_seq ?_
    refine wp_region_lit ?_
    refine s_val 12 rfl rfl (.pointer (some ⟨p, 0, none⟩)) (rfl) ?_
    refine nr ?_; intro U h; simp only [z0, z1] at h; subst h
    refine s_callx 13 rfl rfl _ 37 Try.call37 rfl rfl _ rfl [.pointer (some ⟨p, 0, none⟩)] rfl (open_ok _ p sg n L pw dn (H.gro GA) hn3 rs (HG.opens (by omega))) (by rintro _ _ ⟨_, _, _, _, he, _, _, _, _, _⟩; exact ⟨_, he⟩) ?_
    rintro v w1 ⟨lp, ao1, cap1, q, he, hq, G, hlp, HK, HRS⟩
    cases he
    replace GA := GA.gro G
    replace GG := GG.tg G
    clear G
    have HD1 := H.gro GA
    have GR := Gro.refl w1
    rw [HG.counts] at HK
    have hlp2 := lt_of_heap HK.box
    have G1R := Gro.refl w1
    clear GA
    have hql : q.length ≤ 4096 := by
      have h1 := HG.num
      rw [hq, List.length_map] at h1
      have h2 := HG.cnt
      have h3 := HG.fit
      have h4 := H.le
      omega
    refine nr ?_; intro U h; simp only [z0, z1] at h; subst h
    refine s_val 11 rfl rfl (.tuple #[.pointer (some ⟨lp, 0, none⟩), .slice ao1 q.length cap1, .int .i64 0]) (rfl) ?_
    refine nr ?_; intro U h; simp only [z0, z1] at h; subst h
    refine s_val 14 rfl rfl (.pointer (some ⟨lp, 0, none⟩)) (rfl) ?_
    refine nr ?_; intro U h; simp only [z0, z1] at h; subst h
    refine s_val 15 rfl rfl (.slice ao1 q.length cap1) (rfl) ?_
    refine nr ?_; intro U h; simp only [z0, z1] at h; subst h
    refine s_val 16 rfl rfl (.int .i64 0) (rfl) ?_
    refine nr ?_; intro U h; simp only [z0, z1] at h; subst h
    refine s_val 4 rfl rfl (.pointer (some ⟨lp, 0, none⟩)) (rfl) ?_
    refine nr ?_; intro U h; simp only [z0, z1] at h; subst h
    refine s_val 5 rfl rfl (.slice ao1 q.length cap1) (rfl) ?_
    refine nr ?_; intro U h; simp only [z0, z1] at h; subst h
    refine s_val 6 rfl rfl (.int .i64 0) (rfl) ?_
    refine nr ?_; intro U h; simp only [z0, z1] at h; subst h
    refine wpList_nil ?_
    refine then_n ?_
    refine wp_seq ?_
    refine wp_seq ?_
    refine wp_region_lit ?_
    refine s_val 17 rfl rfl (.int .i64 0) (rfl) ?_
    refine nr ?_; intro U h; simp only [z0, z1] at h; subst h
    refine s_val 18 rfl rfl (.bool false) (run_neq_k 26 .i64 _ _ _ rfl Try.underlying26 0 0 rfl rfl false (decide_eq_true rfl) _) ?_
    refine nr ?_; intro U h; simp only [z0, z1] at h; subst h
    refine wpList_nil ?_
    refine then_n ?_
    refine wp_cond_false rfl ?_
    refine wp_skip ?_
    refine then_n ?_
    refine wp_seq ?_
    refine wp_region_lit ?_
    refine s_val 20 rfl rfl (.pointer (some ⟨lp, 0, none⟩)) (rfl) ?_
    refine nr ?_; intro U h; simp only [z0, z1] at h; subst h
    refine s_mkMM kvM okM evM 21 rfl rfl rfl ?_
    intro w2 mb G emb HM
    have bmb := size_basS GG emb
    have cmb : w1.heap.size ≤ mb := by rw [← emb]; exact GR.size
    replace GR := GR.gro G
    replace GG := GG.tg G
    clear G
    refine nr ?_; intro U h; simp only [z0, z1] at h; subst h
    refine s_val 22 rfl rfl (.agg (vtA lp 0 mb)) (run_bd 91 _ rfl [(0, .pointer (some ⟨lp, 0, none⟩)), (2, .map (some mb))] rfl _ (bdVt lp mb _)) ?_
    refine nr ?_; intro U h; simp only [z0, z1] at h; subst h
    refine s_box 23 rfl rfl 91 _ rfl _ rfl (vtA lp 0 mb) rfl ?_
    intro w3 vp G evp kvp
    have bvp := size_basS GG evp
    have cvp : w1.heap.size ≤ vp := by rw [← evp]; exact GR.size
    replace GR := GR.gro G
    replace HM := HM.gro G
    replace GG := GG.tg G
    clear G
    refine nr ?_; intro U h; simp only [z0, z1] at h; subst h
    have hUlt : ∀ k ∈ (vp :: lp :: mb :: U0), k < w3.heap.size := fun k hk => by
      have hz := GR.size
      have hz2 := lt_of_heap kvp
      have hz3 := HM.lt
      rcases List.mem_cons.1 hk with rfl | hk
      · exact hz2
      rcases List.mem_cons.1 hk with rfl | hk
      · omega
      rcases List.mem_cons.1 hk with rfl | hk
      · exact hz3
      · exact Nat.lt_of_lt_of_le (hU0 k hk) GG.size
    have HV : VR (vp :: lp :: mb :: U0) w3 vp lp 0 mb [] [] := ⟨⟨kvp, HM, fun _ h => by (cases h)⟩, MR.nil _ _, MRel.nil, SKv.nil, hUlt, ⟨by simp, by simp⟩, by decide⟩
    clear kvp HM
    refine s_val 7 rfl rfl (.pointer (some ⟨vp, 0, none⟩)) (rfl) ?_
    refine nr ?_; intro U h; simp only [z0, z1] at h; subst h
    refine wpList_nil ?_
    refine then_n ?_
    refine wp_seq ?_
    refine wp_seq ?_
    refine wp_region_lit ?_
    refine s_val 24 rfl rfl (.slice ao1 q.length cap1) (rfl) ?_
    refine nr ?_; intro U h; simp only [z0, z1] at h; subst h
    refine s_val 25 rfl rfl (.int .i64 ((q.length : Nat) : Int)) (run_len Try.underlying22 _ rfl _ _ _ rfl _) ?_
    refine nr ?_; intro U h; simp only [z0, z1] at h; subst h
    refine s_val 26 rfl rfl (.int .i64 0) (rfl) ?_
    refine nr ?_; intro U h; simp only [z0, z1] at h; subst h
    refine wpList_nil ?_
    refine then_n ?_
    refine wp_block ?_
    refine wp_loopN (fun mz az wv => ∃ (i : Nat) (c : Nat) (M : List (Nat × IM)) (Lx : List It) (us1 : Nat → Value), mz = q.length - i ∧ az = ⟨[.pointer (some ⟨p, 0, none⟩), undef, us1 0, us1 1, .pointer (some ⟨lp, 0, none⟩), .slice ao1 q.length cap1, .int .i64 0, .pointer (some ⟨vp, 0, none⟩), undef, us1 2, undef, .tuple #[.pointer (some ⟨lp, 0, none⟩), .slice ao1 q.length cap1, .int .i64 0], .pointer (some ⟨p, 0, none⟩), .tuple #[.pointer (some ⟨lp, 0, none⟩), .slice ao1 q.length cap1, .int .i64 0], .pointer (some ⟨lp, 0, none⟩), .slice ao1 q.length cap1, .int .i64 0, .int .i64 0, .bool false, undef, .pointer (some ⟨lp, 0, none⟩), .map (some mb), .agg (vtA lp 0 mb), .pointer (some ⟨vp, 0, none⟩), .slice ao1 q.length cap1, .int .i64 ((q.length : Nat) : Int), .int .i64 ((i : Nat) : Int), us1 3, us1 4, us1 5, us1 6, us1 7, us1 8, us1 9, us1 10, undef, undef, undef, undef, undef, undef, undef, undef, undef, undef, undef, undef, undef, undef, undef, undef, undef, undef, undef, undef, undef, undef, undef, undef].toArray, []⟩ ∧ GroS [p, sg] w wv ∧ Gro w1 wv ∧ VR (vp :: lp :: mb :: U0) wv vp lp c mb M Lx ∧ i ≤ q.length ∧ hld ((q.map (·.2)).take i) = some (Lx, c)) ?_ _ ⟨0, 0, [], [], (fun kz => ([.pointer none, .int .i64 0, undef, undef, undef, undef, undef, undef, undef, undef, undef] : List Value).getD kz undef), rfl, rfl, GG, GR, HV, Nat.zero_le _, rfl⟩
    clear GG GR HV
    rintro mz az wv ⟨i, c, M, Lx, us1, rfl, rfl, GG, GR, HV, hi, hh⟩
    refine wp_seq ?_
    cases h1 : decide (((i : Nat) : Int) < ((q.length : Nat) : Int))
    · have hiq : i = q.length := by have := of_decide_eq_false h1; omega
      rw [List.take_of_length_le (by rw [List.length_map]; omega), ← hq] at hh
      have hLc := hN.symm.trans hh
      injection hLc with hLc
      injection hLc with e1 e2
      subst e1 e2
      have kvp := HV.vb.box
      refine wp_region_lit ?_
      refine s_val 27 rfl rfl (.bool false) (run_lssT 3 _ _ _ rfl ((i : Nat) : Int) ((q.length : Nat) : Int) rfl rfl false h1 _) ?_
      refine nr ?_; intro U h; simp only [z0, z1] at h; subst h
      refine wpList_nil ?_
      refine then_n ?_
      refine wp_seq ?_
      refine wp_cond_false rfl ?_
      refine wp_exit ?_
      refine then_x ?_
      refine then_x ?_
      refine blk_x ?_
      refine then_n ?_
      refine wp_seq ?_
      refine wp_seq ?_
      refine wp_region_lit ?_
      refine s_val 35 rfl rfl (.pointer (some ⟨vp, 0, none⟩)) (rfl) ?_
      refine nr ?_; intro U h; simp only [z0, z1] at h; subst h
      refine s_val 36 rfl rfl (.pointer (some ⟨vp, 0, none⟩)) (run_nc _ rfl _ rfl) ?_
      refine nr ?_; intro U h; simp only [z0, z1] at h; subst h
      refine s_val 37 rfl rfl (.pointer (some ⟨vp, 1, none⟩)) (run_fld 91 _ 1 rfl vp 0 rfl 1 (by kernel_rfl)) ?_
      refine nr ?_; intro U h; simp only [z0, z1] at h; subst h
      refine s_val 38 rfl rfl (.int .i64 ((c0 : Nat) : Int)) (ldVti _ rfl vp rfl (kvp)) ?_
      refine nr ?_; intro U h; simp only [z0, z1] at h; subst h
      refine s_val 39 rfl rfl (.bool false) (run_eq_k 2 .i64 _ _ _ rfl Try.underlying2 ((c0 : Nat) : Int) 1048576 rfl rfl false t1 _) ?_
      refine nr ?_; intro U h; simp only [z0, z1] at h; subst h
      refine wpList_nil ?_
      refine then_n ?_
      refine wp_cond_false rfl ?_
      refine wp_skip ?_
      refine then_n ?_
      refine wp_seq ?_
      refine wp_seq ?_
      have GV := Gro.refl wv
      have hs5 : ∀ k ∈ [vp, lp, p, sg, mb], k ∈ (vp :: lp :: mb :: U0) := fun k hk => by
        simp only [List.mem_cons, List.not_mem_nil, or_false] at hk ⊢
        rcases hk with rfl | rfl | rfl | rfl | rfl
        · exact .inl rfl
        · exact .inr (.inl rfl)
        · exact .inr (.inr (.inr hp0))
        · exact .inr (.inr (.inr hs0))
        · exact .inr (.inr (.inl rfl))
      have hne1 : lp ≠ p := ne_type HK.box HD1.box (by decide)
      have hne2 : lp ≠ sg := ne_type HK.box HD1.sec (by decide)
      refine wp_region_lit ?_
      refine s_val 40 rfl rfl (.pointer (some ⟨lp, 0, none⟩)) (rfl) ?_
      refine nr ?_; intro U h; simp only [z0, z1] at h; subst h
      refine s_val 41 rfl rfl (.pointer (some ⟨vp, 0, none⟩)) (rfl) ?_
      refine nr ?_; intro U h; simp only [z0, z1] at h; subst h
      refine s_val 42 rfl rfl (.pointer (some ⟨vp, 0, none⟩)) (run_nc _ rfl _ rfl) ?_
      refine nr ?_; intro U h; simp only [z0, z1] at h; subst h
      refine s_val 43 rfl rfl (.pointer (some ⟨vp, 1, none⟩)) (run_fld 91 _ 1 rfl vp 0 rfl 1 (by kernel_rfl)) ?_
      refine nr ?_; intro U h; simp only [z0, z1] at h; subst h
      refine s_val 44 rfl rfl (.int .i64 ((c0 : Nat) : Int)) (ldVti _ rfl vp rfl (kvp)) ?_
      refine nr ?_; intro U h; simp only [z0, z1] at h; subst h
      refine s_val 45 rfl rfl (.int .i64 ((c0 + 1 : Nat) : Int)) (run_addI 2 _ _ _ rfl ((c0 : Nat) : Int) 1 ((c0 + 1 : Nat) : Int) rfl rfl (by omega) (by omega) (by omega) _) ?_
      refine nr ?_; intro U h; simp only [z0, z1] at h; subst h
      refine s_callx 46 rfl rfl _ 40 Try.call40 rfl rfl _ rfl [.int .i64 ((c0 + 1 : Nat) : Int)] rfl (bform_any (c0 + 1) (by omega) _) (by rintro _ _ ⟨_, _, he, _, _⟩; exact ⟨_, he⟩) ?_
      rintro v w4 ⟨ao3, cap3, he, G, HO3⟩
      cases he
      have hl3 := GR.size
      have hl4 := GG.size
      replace kvp := G.has kvp
      replace GR := GR.gro G
      replace GV := GV.gro G
      replace GG := GG.tg G
      clear G
      refine nr ?_; intro U h; simp only [z0, z1] at h; subst h
      refine s_callx 47 rfl rfl _ 39 Try.call39 rfl rfl _ rfl [.pointer (some ⟨lp, 0, none⟩), .slice ao3 (begV (c0 + 1)).length cap3] rfl (SA _ lp p sg dn _ _ (HK.gro GR) (HD1.gro (G1R.trans GR)) (HO3.bs (fun k hk => by simp only [List.mem_cons, List.not_mem_nil, or_false] at hk; rcases hk with rfl | rfl; (have := lt_of_heap HD1.box; omega); (have := lt_of_heap HD1.sec; omega))) hne1 hne2 hd1 hd2) (by rintro _ _ ⟨_, he, _, _, _, _, _⟩; exact ⟨_, he⟩) ?_
      rintro v w5 ⟨dn2, he, G, hd3, hd4, HD, HK2⟩
      cases he
      replace GG := G.gros GG (fun k hk => by simp only [List.mem_cons, List.not_mem_nil, or_false] at hk ⊢; omega)
      have HV5 : VK (vp :: lp :: mb :: U0) w5 vp lp p sg mb n L2 pw2 dn2 h2 dw2 ((c0 : Nat) : Int) M := VK.app (⟨(HV.gro GV).vb, HK.gro GR, HD1.gro (G1R.trans GR), (HV.gro GV).mr, hs5, (HV.gro GV).lt⟩ : VK (vp :: lp :: mb :: U0) _ vp lp p sg mb n L pw dn h false ((c0 : Nat) : Int) M) G HD HK2
      clear kvp
      have kvp := HV5.vb.box
      refine nr ?_; intro U h; simp only [z0, z1] at h; subst h
      refine s_val 10 rfl rfl (.int .i64 err) (rfl) ?_
      refine nr ?_; intro U h; simp only [z0, z1] at h; subst h
      refine wpList_nil ?_
      refine then_n ?_
      refine wp_seq ?_
      refine wp_region_lit ?_
      refine s_val 48 rfl rfl (.int .i64 err) (rfl) ?_
      refine nr ?_; intro U h; simp only [z0, z1] at h; subst h
      refine s_val 49 rfl rfl (.bool true) (run_neq_k 26 .i64 _ _ _ rfl Try.underlying26 err 0 rfl rfl true t2 _) ?_
      refine nr ?_; intro U h; simp only [z0, z1] at h; subst h
      refine wpList_nil ?_
      refine then_n ?_
      refine wp_cond_true rfl ?_
      refine wp_seq ?_
      refine wp_region_lit ?_
      refine s_val 50 rfl rfl (.int .i64 err) (rfl) ?_
      refine nr ?_; intro U h; simp only [z0, z1] at h; subst h
      refine s_val 2 rfl rfl (.pointer none) (rfl) ?_
      refine nr ?_; intro U h; simp only [z0, z1] at h; subst h
      refine s_val 3 rfl rfl (.int .i64 err) (rfl) ?_
      refine nr ?_; intro U h; simp only [z0, z1] at h; subst h
      refine wpList_nil ?_
      refine then_n ?_
      refine wp_ret ?_
      refine then_r ?_
      refine bodyPost_ret (results_tmp2 Try.results13 _ _ _) rfl ?_
      exact .inl ⟨he1, dn2, rfl, GG, HV5.dsk, hd3, hd4⟩
    · have hlt : i < q.length := by have := of_decide_eq_true h1; omega
      refine wp_region_lit ?_
      refine s_val 27 rfl rfl (.bool true) (run_lssT 3 _ _ _ rfl ((i : Nat) : Int) ((q.length : Nat) : Int) rfl rfl true h1 _) ?_
      refine nr ?_; intro U h; simp only [z0, z1] at h; subst h
      refine wpList_nil ?_
      refine then_n ?_
      refine wp_seq ?_
      refine wp_cond_true rfl ?_
      refine wp_skip ?_
      refine then_n ?_
      refine wp_seq ?_
      refine wp_block ?_
      refine wp_seq ?_
      obtain ⟨ad, ao2, cap2, had, hcell, HR⟩ := (HRS.gro GR).lc.at (j := i) (by rw [List.length_map]; exact hlt)
      obtain ⟨r, hr⟩ : ∃ r, (q.map (·.2)).getD i [] = r := ⟨_, rfl⟩
      rw [hr] at hcell HR
      have hrl : r.length ≤ 1024 := HG.lens r (by rw [hq, ← hr]; exact getD_mem2 (by rw [List.length_map]; exact hlt))
      have hs : hld ((q.map (·.2)).take (i + 1)) = hldR (Lx, c) r := by rw [take_one' hlt hr, hld_snoc, hh]; rfl
      refine wp_region_lit ?_
      refine s_val 28 rfl rfl (.pointer (some (ad.add i))) (run_idx23 _ _ rfl ad _ _ i (by rw [← had]; rfl) rfl hlt _) ?_
      refine nr ?_; intro U h; simp only [z0, z1] at h; subst h
      refine s_val 29 rfl rfl (.slice ao2 r.length cap2) (run_ld24 _ rfl (ad.add i) rfl _ _ hcell) ?_
      refine nr ?_; intro U h; simp only [z0, z1] at h; subst h
      refine s_val 9 rfl rfl (.slice ao2 r.length cap2) (rfl) ?_
      refine nr ?_; intro U h; simp only [z0, z1] at h; subst h
      refine wpList_nil ?_
      refine then_n ?_
      refine wp_seq ?_
      rcases hx : hldR (Lx, c) r with _ | ⟨Ly, d⟩
      · rw [hx] at hs
        exact absurd (hN.symm.trans (hq ▸ hld_take hs)) (by simp)
      · rw [hx] at hs
        refine wp_region_lit ?_
        refine s_val 30 rfl rfl (.pointer (some ⟨vp, 0, none⟩)) (rfl) ?_
        refine nr ?_; intro U h; simp only [z0, z1] at h; subst h
        refine s_val 31 rfl rfl (.slice ao2 r.length cap2) (rfl) ?_
        refine nr ?_; intro U h; simp only [z0, z1] at h; subst h
        refine s_callx 32 rfl rfl _ 38 Try.call38 rfl rfl _ rfl [.pointer (some ⟨vp, 0, none⟩), .slice ao2 r.length cap2] rfl ((replay_any (vp :: lp :: mb :: U0) _ vp lp mb c M Lx HV ao2 cap2 r HR (by omega)).mono fun e w' HZ => by rw [hx] at HZ; exact HZ) (by rintro _ _ ⟨_, he, _, _⟩; exact ⟨_, he⟩) ?_
        rintro v w4 ⟨M2, he, G, HV2⟩
        cases he
        replace GR := G.gro GR (by simp only [List.mem_cons, List.not_mem_nil, or_false]; omega)
        replace GG := G.gros GG (fun k hk => by simp only [List.mem_cons, List.not_mem_nil, or_false] at hk ⊢; omega)
        have hh2 := hs
        clear HV
        have HV := HV2
        refine nr ?_; intro U h; simp only [z0, z1] at h; subst h
        refine s_val 33 rfl rfl (.bool false) (run_nt _ _ rfl true rfl) ?_
        refine nr ?_; intro U h; simp only [z0, z1] at h; subst h
        refine wpList_nil ?_
        refine then_n ?_
        refine wp_cond_false rfl ?_
        refine wp_skip ?_
        refine blk_n ?_
        refine then_n ?_
        refine wp_region_lit ?_
        refine s_val 34 rfl rfl (.int .i64 ((i + 1 : Nat) : Int)) (run_addI 3 _ _ _ rfl ((i : Nat) : Int) 1 ((i + 1 : Nat) : Int) rfl rfl (by omega) (by omega) (by omega) _) ?_
        refine nr ?_; intro U h; simp only [z0, z1] at h; subst h
        refine s_val 26 rfl rfl (.int .i64 ((i + 1 : Nat) : Int)) (rfl) ?_
        refine nr ?_; intro U h; simp only [z0, z1] at h; subst h
        refine wpList_nil ?_
        refine then_n ?_
        exact ⟨_, by omega, i + 1, d, M2, Ly, (fun kz => ([us1 0, us1 1, .slice ao2 r.length cap2, .bool true, .pointer (some (ad.add i)), .slice ao2 r.length cap2, .pointer (some ⟨vp, 0, none⟩), .slice ao2 r.length cap2, .bool true, .bool false, .int .i64 ((i + 1 : Nat) : Int)] : List Value).getD kz undef), rfl, rfl, GG, GR, HV, by omega, hh2⟩
end Go.Proofs.Ytgfnjekpafempaa
