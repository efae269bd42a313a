/- Whether a vault holds what it must; of each key the newest is kept (the law). -/
import Derived.Test.YtgfnjekpafempaaEV12
namespace Go.Proofs.Ytgfnjekpafempaa
open Go.RowKit
theorem getD_mem3 {l : List IM} {j : Nat} (h : j < l.length) : l.getD j zM ∈ l := by
  rw [List.getD_eq_getElem?_getD, List.getElem?_eq_getElem h]
  exact List.getElem_mem h
/-- What is sure is kept, or something newer. -/
def SureM (M : List (Nat × IM)) (s : List IM) : Prop := ∀ x ∈ s, ∃ y, getM M x.key = some y ∧ nwV x.ver y.ver = false
def TriedM (L : List It) (t : List IM) : Prop := ∀ z ∈ L, ∃ y ∈ t, y.it = z
theorem tried_sg {L : List It} {t Z : List IM} (hT : TriedM L t) (hZ : Z.map IM.it = L) (hn : ∀ x ∈ L, x.ok) {i : Nat} (hi : i < Z.length) : ∃ k, k < t.length ∧ (Z.getD i zM).sg = (t.getD k zM).sg := by
  have h1 := getD_mem3 hi
  have h2 : (Z.getD i zM).it ∈ L := by rw [← hZ]; exact List.mem_map_of_mem h1
  obtain ⟨y, hy, he⟩ := hT _ h2
  obtain ⟨k, hk, rfl⟩ := List.getElem_of_mem hy
  refine ⟨k, hk, ?_⟩
  have h3 := (hn _ h2).n1
  have e : t.getD k zM = t[k] := by rw [List.getD_eq_getElem?_getD, List.getElem?_eq_getElem hk]; rfl
  rw [e]
  unfold IM.it at he h3
  simp only [It.mk.injEq] at he
  simp only at h3
  unfold IM.sg
  obtain ⟨e1, e2, e3, e4⟩ := he
  rw [e1, e3, e4, show (Z.getD i zM).n = t[k].n by omega]
set_option maxRecDepth 100000 in
set_option maxHeartbeats 4000000 in
theorem holds_any (U : List Nat) (w : World) (vp lp p sg mb n : Nat) (L : List Nat) (pw dn : Int) (h : Hd) (dw : Bool) (inc : Int) (M : List (Nat × IM)) (H : VK U w vp lp p sg mb n L pw dn h dw inc M) (L0 : List It) (hML : MRel M L0) (hL0 : SKv L0) (hfew : L0.length ≤ 4096) (hok : ∀ x ∈ L0, x.ok) (ao bo : Option Addr) (cap bc : Nat) (su tr : List IM) (HA : RK kM w ao cap su) (HB : RK kM w bo bc tr) (NB : NCs w tr) (hsl : su.length ≤ 1000000) (htl : tr.length ≤ 1000000) (hS : SureM M su) (hT : TriedM L0 tr) : Calls Try.prog 25 #[.pointer (some ⟨vp, 0, none⟩), .slice ao su.length cap, .slice bo tr.length bc] w (fun e w' => e = .returned (.bool true) ∧ Gro w w') := by
  refine s_enter Try.func25 rfl Try.ntmps25 [.pointer (some ⟨vp, 0, none⟩), .slice ao su.length cap, .slice bo tr.length bc] [.pointer (some ⟨vp, 0, none⟩), .slice ao su.length cap, .slice bo tr.length bc, undef, undef, undef, undef, undef, undef, undef, undef, undef, undef, undef, undef, undef, undef, undef, undef, undef, undef, undef, undef, undef, undef, undef, undef, undef, undef, undef, undef, undef, undef, undef, undef, undef, undef, undef, undef, undef, undef, undef, undef, undef, undef, undef, undef, undef, undef, undef, undef, undef, undef, undef, undef, undef, undef, undef, undef, undef, undef, undef] rfl ?_
  have GG := Gro.refl w
  have HV0 := H
  refine wp_seq ?_
  refine wp_region_lit ?_
  refine s_val 6 rfl rfl (.bool false) (rfl) ?_
  refine nr ?_; intro U h; simp only [z0, z1] at h; subst h
  refine wpList_nil ?_
  refine then_n ?_
  refine wp_seq ?_
  refine wp_seq ?_
  refine wp_region_lit ?_
  refine s_val 16 rfl rfl (.slice ao su.length cap) (rfl) ?_
  refine nr ?_; intro U h; simp only [z0, z1] at h; subst h
  refine s_val 17 rfl rfl (.int .i64 ((su.length : Nat) : Int)) (run_len Try.underlying45 _ rfl _ _ _ rfl _) ?_
  refine nr ?_; intro U h; simp only [z0, z1] at h; subst h
  refine s_val 18 rfl rfl (.int .i64 0) (rfl) ?_
  refine nr ?_; intro U h; simp only [z0, z1] at h; subst h
  refine wpList_nil ?_
  refine then_n ?_
  refine wp_block ?_
  refine wp_loopN (fun mz az wv => ∃ (i : Nat) (us1 : Nat → Value), mz = su.length - i ∧ az = ⟨[.pointer (some ⟨vp, 0, none⟩), .slice ao su.length cap, .slice bo tr.length bc, undef, undef, undef, us1 0, undef, us1 1, us1 2, us1 3, undef, undef, undef, undef, undef, .slice ao su.length cap, .int .i64 ((su.length : Nat) : Int), .int .i64 ((i : Nat) : Int), us1 4, us1 5, us1 6, us1 7, us1 8, us1 9, us1 10, us1 11, us1 12, us1 13, us1 14, us1 15, us1 16, us1 17, us1 18, us1 19, us1 20, us1 21, us1 22, us1 23, undef, undef, undef, undef, undef, undef, undef, undef, undef, undef, undef, undef, undef, undef, undef, undef, undef, undef, undef, undef, undef, undef, undef].toArray, []⟩ ∧ Gro w wv ∧ i ≤ su.length) ?_ _ ⟨0, (fun kz => ([.bool false, undef, undef, undef, undef, undef, undef, undef, undef, undef, undef, undef, undef, undef, undef, undef, undef, undef, undef, undef, undef, undef, undef, undef] : List Value).getD kz undef), rfl, rfl, GG, Nat.zero_le _⟩
  clear GG
  rintro mz az wv ⟨i, us1, rfl, rfl, GG, hi⟩
  refine wp_seq ?_
  cases t1 : decide (((i : Nat) : Int) < ((su.length : Nat) : Int))
  · refine wp_region_lit ?_
    refine s_val 19 rfl rfl (.bool false) (run_lssT 3 _ _ _ rfl ((i : Nat) : Int) ((su.length : Nat) : Int) rfl rfl false t1 _) ?_
    refine nr ?_; intro U h; simp only [z0, z1] at h; subst h
    refine wpList_nil ?_
    refine then_n ?_
    refine wp_seq ?_
    refine wp_cond_false rfl ?_
    refine wp_exit ?_
    refine then_x ?_
    refine then_x ?_
    refine blk_x ?_
    refine then_n ?_
    refine wp_seq ?_
    refine wp_seq ?_
    refine wp_region_lit ?_
    refine s_val 39 rfl rfl (.pointer (some ⟨vp, 0, none⟩)) (rfl) ?_
    refine nr ?_; intro U h; simp only [z0, z1] at h; subst h
    refine s_callx 40 rfl rfl _ 17 Try.call17 rfl rfl _ rfl [.pointer (some ⟨vp, 0, none⟩)] rfl (all_any U _ vp lp p sg mb n L pw dn h dw inc M (H.gro GG) L0 hML hL0 hfew) (by rintro _ _ ⟨_, _, _, he, _, _, _, _, _⟩; exact ⟨_, he⟩) ?_
    rintro v w1 ⟨zo, zc, Z, he, G, HZ, HS, hRis, hZL⟩
    cases he
    have hZl : Z.length ≤ 4096 := by rw [← List.length_map (f := IM.it), hZL]; exact hfew
    replace HZ := HZ.mono GG.size
    replace HS := HS.mono GG.size
    replace GG := GG.trans G
    clear G
    refine nr ?_; intro U h; simp only [z0, z1] at h; subst h
    refine s_val 41 rfl rfl (.int .i64 ((Z.length : Nat) : Int)) (run_len Try.underlying45 _ rfl _ _ _ rfl _) ?_
    refine nr ?_; intro U h; simp only [z0, z1] at h; subst h
    refine s_val 42 rfl rfl (.int .i64 0) (rfl) ?_
    refine nr ?_; intro U h; simp only [z0, z1] at h; subst h
    refine wpList_nil ?_
    refine then_n ?_
    refine wp_block ?_
    refine wp_loopN (fun mz az wv => ∃ (j : Nat) (us2 : Nat → Value), mz = Z.length - j ∧ az = ⟨[.pointer (some ⟨vp, 0, none⟩), .slice ao su.length cap, .slice bo tr.length bc, undef, undef, undef, us2 0, undef, us1 1, us1 2, us1 3, undef, us2 1, us2 2, undef, us2 3, .slice ao su.length cap, .int .i64 ((su.length : Nat) : Int), .int .i64 ((i : Nat) : Int), .bool false, us1 5, us1 6, us1 7, us1 8, us1 9, us1 10, us1 11, us1 12, us1 13, us1 14, us1 15, us1 16, us1 17, us1 18, us1 19, us1 20, us1 21, us1 22, us1 23, .pointer (some ⟨vp, 0, none⟩), .slice zo Z.length zc, .int .i64 ((Z.length : Nat) : Int), .int .i64 ((j : Nat) : Int), us2 4, us2 5, us2 6, us2 7, us2 8, us2 9, us2 10, us2 11, us2 12, us2 13, us2 14, us2 15, us2 16, us2 17, us2 18, us2 19, us2 20, us2 21, us2 22].toArray, []⟩ ∧ Gro w wv ∧ OW kM 56 wv w.heap.size zo zc Z ∧ OBs wv w.heap.size Z ∧ j ≤ Z.length) ?_ _ ⟨0, (fun kz => ([us1 0, undef, undef, undef, undef, undef, undef, undef, undef, undef, undef, undef, undef, undef, undef, undef, undef, undef, undef, undef, undef, undef, undef] : List Value).getD kz undef), rfl, rfl, GG, HZ, HS, Nat.zero_le _⟩
    clear GG HZ HS
    rintro mz az wv ⟨j, us2, rfl, rfl, GG, HZ, HS, hj⟩
    refine wp_seq ?_
    cases t2 : decide (((j : Nat) : Int) < ((Z.length : Nat) : Int))
    · refine wp_region_lit ?_
      refine s_val 43 rfl rfl (.bool false) (run_lssT 3 _ _ _ rfl ((j : Nat) : Int) ((Z.length : Nat) : Int) rfl rfl false t2 _) ?_
      refine nr ?_; intro U h; simp only [z0, z1] at h; subst h
      refine wpList_nil ?_
      refine then_n ?_
      refine wp_seq ?_
      refine wp_cond_false rfl ?_
      refine wp_exit ?_
      refine then_x ?_
      refine then_x ?_
      refine blk_x ?_
      refine then_n ?_
      refine wp_seq ?_
      refine wp_region_lit ?_
      refine s_val 6 rfl rfl (.bool true) (rfl) ?_
      refine nr ?_; intro U h; simp only [z0, z1] at h; subst h
      refine wpList_nil ?_
      refine then_n ?_
      refine wp_ret ?_
      refine bodyPost_ret (results_tmp Try.results25 _ _ _) rfl ?_
      exact ⟨rfl, GG⟩
    · have hlj : j < Z.length := by have := of_decide_eq_true t2; omega
      refine wp_region_lit ?_
      refine s_val 43 rfl rfl (.bool true) (run_lssT 3 _ _ _ rfl ((j : Nat) : Int) ((Z.length : Nat) : Int) rfl rfl true t2 _) ?_
      refine nr ?_; intro U h; simp only [z0, z1] at h; subst h
      refine wpList_nil ?_
      refine then_n ?_
      refine wp_seq ?_
      refine wp_cond_true rfl ?_
      refine wp_skip ?_
      refine then_n ?_
      refine wp_seq ?_
      refine wp_block ?_
      refine wp_seq ?_
      refine wp_region_lit ?_
      refine s_val 44 rfl rfl (.pointer (pK kM zo j 0)) (run_ixK rM (HZ.re) _ _ rfl rfl j rfl (by omega)) ?_
      refine nr ?_; intro U h; simp only [z0, z1] at h; subst h
      refine s_val 45 rfl rfl (.agg (itA (Z.getD j zM))) (run_ldKM (HZ.re) _ rfl j rfl (by omega)) ?_
      refine nr ?_; intro U h; simp only [z0, z1] at h; subst h
      refine s_alloc 12 rfl rfl 56 rfl _ zeroIt (itA zM) rfl ?_
      intro w2 g1 G eg1 kg1
      have bg1 := size_base GG eg1
      have dHZg1 := HZ.ne eg1
      have dHSg1 := HS.ne eg1
      replace HZ := HZ.gro G
      replace HS := HS.gro G
      replace GG := GG.trans G
      clear G
      clear eg1
      refine nr ?_; intro U h; simp only [z0, z1] at h; subst h
      refine s_store rfl rfl 56 _ _ rfl g1 0 rfl (.agg (itA (Z.getD j zM))) rfl 56 _ kg1 (itA (Z.getD j zM)) rfl (siIt' _) (itA_fit _ _) (itA_one _) (itA (Z.getD j zM)) (splice_whole _ _ (itA_sz _ _)) ?_
      intro w3 St
      replace HZ := HZ.st St dHZg1
      replace HS := HS.st St dHSg1
      replace GG := GG.store St bg1
      replace kg1 := St.new
      clear St
      refine wpList_nil ?_
      refine then_n ?_
      refine wp_seq ?_
      refine wp_region_lit ?_
      refine s_val 13 rfl rfl (.bool false) (rfl) ?_
      refine nr ?_; intro U h; simp only [z0, z1] at h; subst h
      refine wpList_nil ?_
      refine then_n ?_
      refine wp_seq ?_
      refine wp_seq ?_
      refine wp_region_lit ?_
      refine s_val 46 rfl rfl (.slice bo tr.length bc) (rfl) ?_
      refine nr ?_; intro U h; simp only [z0, z1] at h; subst h
      refine s_val 47 rfl rfl (.int .i64 ((tr.length : Nat) : Int)) (run_len Try.underlying45 _ rfl _ _ _ rfl _) ?_
      refine nr ?_; intro U h; simp only [z0, z1] at h; subst h
      refine s_val 48 rfl rfl (.int .i64 0) (rfl) ?_
      refine nr ?_; intro U h; simp only [z0, z1] at h; subst h
      refine wpList_nil ?_
      refine then_n ?_
      refine wp_block ?_
      refine wp_loopN (fun mz az wv => ∃ (k : Nat) (b : Bool) (us3 : Nat → Value), mz = tr.length - k ∧ az = ⟨[.pointer (some ⟨vp, 0, none⟩), .slice ao su.length cap, .slice bo tr.length bc, undef, undef, undef, us2 0, undef, us1 1, us1 2, us1 3, undef, .pointer (some ⟨g1, 0, none⟩), .bool b, undef, us3 0, .slice ao su.length cap, .int .i64 ((su.length : Nat) : Int), .int .i64 ((i : Nat) : Int), .bool false, us1 5, us1 6, us1 7, us1 8, us1 9, us1 10, us1 11, us1 12, us1 13, us1 14, us1 15, us1 16, us1 17, us1 18, us1 19, us1 20, us1 21, us1 22, us1 23, .pointer (some ⟨vp, 0, none⟩), .slice zo Z.length zc, .int .i64 ((Z.length : Nat) : Int), .int .i64 ((j : Nat) : Int), .bool true, .pointer (pK kM zo j 0), .agg (itA (Z.getD j zM)), .slice bo tr.length bc, .int .i64 ((tr.length : Nat) : Int), .int .i64 ((k : Nat) : Int), us3 1, us3 2, us3 3, us3 4, us3 5, us3 6, us3 7, us3 8, us3 9, us3 10, us2 20, us2 21, us2 22].toArray, []⟩ ∧ Gro w wv ∧ OW kM 56 wv w.heap.size zo zc Z ∧ OBs wv w.heap.size Z ∧ wv.heap[g1]? = some (.cells (itA (Z.getD j zM)) 56 (0, 0)) ∧ k ≤ tr.length ∧ (b = false → ∀ q, q < k → ¬ (Z.getD j zM).sg = (tr.getD q zM).sg)) ?_ _ ⟨0, false, (fun kz => ([us2 3, us2 10, us2 11, us2 12, us2 13, us2 14, us2 15, us2 16, us2 17, us2 18, us2 19] : List Value).getD kz undef), rfl, rfl, GG, HZ, HS, kg1, Nat.zero_le _, fun _ _ h => absurd h (Nat.not_lt_zero _)⟩
      clear GG kg1 HZ HS
      rintro mz az wv ⟨k, b, us3, rfl, rfl, GG, HZ, HS, kg1, hk, hb⟩
      refine wp_seq ?_
      cases t3 : decide (((k : Nat) : Int) < ((tr.length : Nat) : Int))
      · refine wp_region_lit ?_
        refine s_val 49 rfl rfl (.bool false) (run_lssT 3 _ _ _ rfl ((k : Nat) : Int) ((tr.length : Nat) : Int) rfl rfl false t3 _) ?_
        refine nr ?_; intro U h; simp only [z0, z1] at h; subst h
        refine wpList_nil ?_
        refine then_n ?_
        refine wp_seq ?_
        refine wp_cond_false rfl ?_
        refine wp_exit ?_
        refine then_x ?_
        refine then_x ?_
        refine blk_x ?_
        refine then_n ?_
        refine wp_seq ?_
        have hbt : b = true := by
          cases hbb : b with
          | true => rfl
          | false =>
            obtain ⟨z, hz, he⟩ := tried_sg hT hZL hok hlj
            have := of_decide_eq_false t3
            exact absurd he (hb hbb z (by omega))
        subst hbt
        refine wp_region_lit ?_
        refine s_val 59 rfl rfl (.bool true) (rfl) ?_
        refine nr ?_; intro U h; simp only [z0, z1] at h; subst h
        refine s_val 60 rfl rfl (.bool false) (run_nt _ _ rfl true rfl) ?_
        refine nr ?_; intro U h; simp only [z0, z1] at h; subst h
        refine wpList_nil ?_
        refine then_n ?_
        refine wp_cond_false rfl ?_
        refine wp_skip ?_
        refine blk_n ?_
        refine then_n ?_
        refine wp_region_lit ?_
        refine s_val 61 rfl rfl (.int .i64 ((j + 1 : Nat) : Int)) (run_addI 3 _ _ _ rfl ((j : Nat) : Int) 1 ((j + 1 : Nat) : Int) rfl rfl (by omega) (by omega) (by omega) _) ?_
        refine nr ?_; intro U h; simp only [z0, z1] at h; subst h
        refine s_val 42 rfl rfl (.int .i64 ((j + 1 : Nat) : Int)) (rfl) ?_
        refine nr ?_; intro U h; simp only [z0, z1] at h; subst h
        refine wpList_nil ?_
        refine then_n ?_
        exact ⟨_, by omega, j + 1, (fun kz => ([us2 0, .pointer (some ⟨g1, 0, none⟩), .bool true, us3 0, .bool true, .pointer (pK kM zo j 0), .agg (itA (Z.getD j zM)), .slice bo tr.length bc, .int .i64 ((tr.length : Nat) : Int), .int .i64 ((k : Nat) : Int), .bool false, us3 2, us3 3, us3 4, us3 5, us3 6, us3 7, us3 8, us3 9, us3 10, .bool true, .bool false, .int .i64 ((j + 1 : Nat) : Int)] : List Value).getD kz undef), rfl, rfl, GG, HZ, HS, by omega⟩
      · have hlk : k < tr.length := by have := of_decide_eq_true t3; omega
        refine wp_region_lit ?_
        refine s_val 49 rfl rfl (.bool true) (run_lssT 3 _ _ _ rfl ((k : Nat) : Int) ((tr.length : Nat) : Int) rfl rfl true t3 _) ?_
        refine nr ?_; intro U h; simp only [z0, z1] at h; subst h
        refine wpList_nil ?_
        refine then_n ?_
        refine wp_seq ?_
        refine wp_cond_true rfl ?_
        refine wp_skip ?_
        refine then_n ?_
        refine wp_seq ?_
        refine wp_block ?_
        refine wp_seq ?_
        refine wp_region_lit ?_
        refine s_val 50 rfl rfl (.pointer (pK kM bo k 0)) (run_ixK rM ((HB.gro GG)) _ _ rfl rfl k rfl (by omega)) ?_
        refine nr ?_; intro U h; simp only [z0, z1] at h; subst h
        refine s_val 51 rfl rfl (.agg (itA (tr.getD k zM))) (run_ldKM ((HB.gro GG)) _ rfl k rfl (by omega)) ?_
        refine nr ?_; intro U h; simp only [z0, z1] at h; subst h
        refine s_alloc 15 rfl rfl 56 rfl _ zeroIt (itA zM) rfl ?_
        intro w4 g2 G eg2 kg2
        have bg2 := size_base GG eg2
        have dg1g2 := lt_new kg1 eg2
        have dHZg2 := HZ.ne eg2
        have dHSg2 := HS.ne eg2
        replace kg1 := G.has kg1
        replace HZ := HZ.gro G
        replace HS := HS.gro G
        replace GG := GG.trans G
        clear G
        clear eg2
        refine nr ?_; intro U h; simp only [z0, z1] at h; subst h
        refine s_store rfl rfl 56 _ _ rfl g2 0 rfl (.agg (itA (tr.getD k zM))) rfl 56 _ kg2 (itA (tr.getD k zM)) rfl (siIt' _) (itA_fit _ _) (itA_one _) (itA (tr.getD k zM)) (splice_whole _ _ (itA_sz _ _)) ?_
        intro w5 St
        replace kg1 := St.has (by omega) kg1
        replace HZ := HZ.st St dHZg2
        replace HS := HS.st St dHSg2
        replace GG := GG.store St bg2
        replace kg2 := St.new
        clear St
        refine wpList_nil ?_
        refine then_n ?_
        cases b
        · skip
          obtain ⟨q, hq1, hq2⟩ : ∃ q : Bool, ((Z.getD j zM).sg = (tr.getD k zM).sg → q = true) ∧ (¬ (Z.getD j zM).sg = (tr.getD k zM).sg → q = false) := by
            by_cases c : (Z.getD j zM).sg = (tr.getD k zM).sg
            · exact ⟨true, fun _ => rfl, fun h => absurd c h⟩
            · exact ⟨false, fun h => absurd h c, fun _ => rfl⟩
          have hb2 : q = false → ∀ z, z < k + 1 → ¬ (Z.getD j zM).sg = (tr.getD z zM).sg := fun hqf z hz => by
            rcases Nat.lt_or_ge z k with c | c
            · exact hb rfl z c
            · rw [show z = k by omega]
              intro e
              rw [hq1 e] at hqf
              cases hqf
          refine wp_region_opq ?_
          intro OPS hY
          have y1 := hY 1 53 rfl
          clear hY
          refine s_val 52 rfl rfl (.bool false) (rfl) ?_
          refine nr ?_; intro U h; simp only [z0, z1] at h; subst h
          refine s_val 53 rfl rfl (.bool false) (rfl) ?_
          refine nr ?_; intro U h; simp only [z0, z1] at h; subst h
          refine s_gvalY 54 rfl rfl y1 rfl (.agg (itA (Z.getD j zM))) (ldIt0 _ rfl g1 rfl (kg1)) ?_
          refine nr ?_; intro U h; simp only [z0, z1] at h; subst h
          refine s_gvalY 55 rfl rfl y1 rfl (.agg (itA (tr.getD k zM))) (ldIt0 _ rfl g2 rfl (kg2)) ?_
          refine nr ?_; intro U h; simp only [z0, z1] at h; subst h
          refine s_gcallvY 56 rfl rfl y1 rfl _ 53 Try.call53 rfl rfl _ rfl [.agg (itA (Z.getD j zM)), .agg (itA (tr.getD k zM))] rfl (one_any (Z.getD j zM) (tr.getD k zM) (atM HZ.re hlj) (atM HB hlk) _ ((HS.nc).at hlj) ((NB.at hlk).gro GG) q hq1 hq2) ?_
          intro w6 G
          replace kg1 := G.has kg1
          replace kg2 := G.has kg2
          replace HZ := HZ.gro G
          replace HS := HS.gro G
          replace GG := GG.trans G
          clear G
          refine nr ?_; intro U h; simp only [z0, z1] at h; subst h
          refine s_val 57 rfl rfl (.bool q) (rfl) ?_
          refine nr ?_; intro U h; simp only [z0, z1] at h; subst h
          refine s_val 13 rfl rfl (.bool q) (rfl) ?_
          refine nr ?_; intro U h; simp only [z0, z1] at h; subst h
          refine wpList_nil ?_
          refine blk_n ?_
          refine then_n ?_
          refine wp_region_lit ?_
          refine s_val 58 rfl rfl (.int .i64 ((k + 1 : Nat) : Int)) (run_addI 3 _ _ _ rfl ((k : Nat) : Int) 1 ((k + 1 : Nat) : Int) rfl rfl (by omega) (by omega) (by omega) _) ?_
          refine nr ?_; intro U h; simp only [z0, z1] at h; subst h
          refine s_val 48 rfl rfl (.int .i64 ((k + 1 : Nat) : Int)) (rfl) ?_
          refine nr ?_; intro U h; simp only [z0, z1] at h; subst h
          refine wpList_nil ?_
          refine then_n ?_
          exact ⟨_, by omega, k + 1, q, (fun kz => ([.pointer (some ⟨g2, 0, none⟩), .bool true, .pointer (pK kM bo k 0), .agg (itA (tr.getD k zM)), .bool false, .bool false, .agg (itA (Z.getD j zM)), .agg (itA (tr.getD k zM)), .bool q, .bool q, .int .i64 ((k + 1 : Nat) : Int)] : List Value).getD kz undef), rfl, rfl, GG, HZ, HS, kg1, by omega, hb2⟩
        · skip
          refine wp_region_opq ?_
          intro OPS hY
          have y1 := hY 1 53 rfl
          clear hY
          refine s_val 52 rfl rfl (.bool true) (rfl) ?_
          refine nr ?_; intro U h; simp only [z0, z1] at h; subst h
          refine s_val 53 rfl rfl (.bool true) (rfl) ?_
          refine nr ?_; intro U h; simp only [z0, z1] at h; subst h
          refine s_skipY 54 rfl rfl y1 rfl ?_
          refine nr ?_; intro U h; simp only [z0, z1] at h; subst h
          refine s_skipY 55 rfl rfl y1 rfl ?_
          refine nr ?_; intro U h; simp only [z0, z1] at h; subst h
          refine s_skipY 56 rfl rfl y1 rfl ?_
          refine nr ?_; intro U h; simp only [z0, z1] at h; subst h
          refine s_val 57 rfl rfl (.bool true) (rfl) ?_
          refine nr ?_; intro U h; simp only [z0, z1] at h; subst h
          refine s_val 13 rfl rfl (.bool true) (rfl) ?_
          refine nr ?_; intro U h; simp only [z0, z1] at h; subst h
          refine wpList_nil ?_
          refine blk_n ?_
          refine then_n ?_
          refine wp_region_lit ?_
          refine s_val 58 rfl rfl (.int .i64 ((k + 1 : Nat) : Int)) (run_addI 3 _ _ _ rfl ((k : Nat) : Int) 1 ((k + 1 : Nat) : Int) rfl rfl (by omega) (by omega) (by omega) _) ?_
          refine nr ?_; intro U h; simp only [z0, z1] at h; subst h
          refine s_val 48 rfl rfl (.int .i64 ((k + 1 : Nat) : Int)) (rfl) ?_
          refine nr ?_; intro U h; simp only [z0, z1] at h; subst h
          refine wpList_nil ?_
          refine then_n ?_
          exact ⟨_, by omega, k + 1, true, (fun kz => ([.pointer (some ⟨g2, 0, none⟩), .bool true, .pointer (pK kM bo k 0), .agg (itA (tr.getD k zM)), .bool true, .bool true, undef, undef, undef, .bool true, .int .i64 ((k + 1 : Nat) : Int)] : List Value).getD kz undef), rfl, rfl, GG, HZ, HS, kg1, by omega, fun h => by (cases h)⟩
  · have hlt : i < su.length := by have := of_decide_eq_true t1; omega
    obtain ⟨y, hy, hny⟩ := hS _ (getD_mem3 hlt)
    have hky : getK M (su.getD i zM).key = y := by unfold getK; rw [hy]; rfl
    have hyo : y.ok := H.vb.ok _ (getM_some hy)
    refine wp_region_lit ?_
    refine s_val 19 rfl rfl (.bool true) (run_lssT 3 _ _ _ rfl ((i : Nat) : Int) ((su.length : Nat) : Int) rfl rfl true t1 _) ?_
    refine nr ?_; intro U h; simp only [z0, z1] at h; subst h
    refine wpList_nil ?_
    refine then_n ?_
    refine wp_seq ?_
    refine wp_cond_true rfl ?_
    refine wp_skip ?_
    refine then_n ?_
    refine wp_seq ?_
    refine wp_block ?_
    refine wp_seq ?_
    refine wp_region_lit ?_
    refine s_val 20 rfl rfl (.pointer (pK kM ao i 0)) (run_ixK rM ((HA.gro GG)) _ _ rfl rfl i rfl (by omega)) ?_
    refine nr ?_; intro U h; simp only [z0, z1] at h; subst h
    refine s_val 21 rfl rfl (.agg (itA (su.getD i zM))) (run_ldKM ((HA.gro GG)) _ rfl i rfl (by omega)) ?_
    refine nr ?_; intro U h; simp only [z0, z1] at h; subst h
    refine s_alloc 8 rfl rfl 56 rfl _ zeroIt (itA zM) rfl ?_
    intro w1 g1 G eg1 kg1
    have bg1 := size_base GG eg1
    replace GG := GG.trans G
    clear G
    clear eg1
    refine nr ?_; intro U h; simp only [z0, z1] at h; subst h
    refine s_store rfl rfl 56 _ _ rfl g1 0 rfl (.agg (itA (su.getD i zM))) rfl 56 _ kg1 (itA (su.getD i zM)) rfl (siIt' _) (itA_fit _ _) (itA_one _) (itA (su.getD i zM)) (splice_whole _ _ (itA_sz _ _)) ?_
    intro w2 St
    replace GG := GG.store St bg1
    replace kg1 := St.new
    clear St
    refine wpList_nil ?_
    refine then_n ?_
    refine wp_seq ?_
    refine wp_region_lit ?_
    refine s_val 23 rfl rfl (.pointer (some ⟨vp, 0, none⟩)) (rfl) ?_
    refine nr ?_; intro U h; simp only [z0, z1] at h; subst h
    refine s_val 24 rfl rfl (.pointer (some ⟨g1, 0, none⟩)) (run_fld 56 _ 0 rfl g1 0 rfl 0 (by kernel_rfl)) ?_
    refine nr ?_; intro U h; simp only [z0, z1] at h; subst h
    refine s_val 25 rfl rfl (.agg (idA (su.getD i zM).key)) (ldItk _ rfl g1 rfl (kg1)) ?_
    refine nr ?_; intro U h; simp only [z0, z1] at h; subst h
    refine s_callx 26 rfl rfl _ 27 Try.call27 rfl rfl _ rfl [.pointer (some ⟨vp, 0, none⟩), .agg (idA (su.getD i zM).key)] rfl ((get_any U _ vp lp p sg mb n L pw dn h dw inc M (H.gro GG) (su.getD i zM).key (atM HA hlt).key).mono fun e w' h => by rw [hky, hy] at h; exact h) (by rintro _ _ ⟨_, _, he, _, _⟩; exact ⟨_, he⟩) ?_
    rintro v w3 ⟨ao2, cap2, he, G, HO2⟩
    cases he
    replace kg1 := G.has kg1
    replace GG := GG.trans G
    clear G
    refine nr ?_; intro U h; simp only [z0, z1] at h; subst h
    refine s_val 22 rfl rfl (.tuple #[.agg (itA (y.re ao2 cap2)), .bool true]) (rfl) ?_
    refine nr ?_; intro U h; simp only [z0, z1] at h; subst h
    refine s_val 27 rfl rfl (.agg (itA (y.re ao2 cap2))) (rfl) ?_
    refine nr ?_; intro U h; simp only [z0, z1] at h; subst h
    refine s_val 28 rfl rfl (.bool true) (rfl) ?_
    refine nr ?_; intro U h; simp only [z0, z1] at h; subst h
    refine s_alloc 9 rfl rfl 56 rfl _ zeroIt (itA zM) rfl ?_
    intro w4 g2 G eg2 kg2
    have bg2 := size_base GG eg2
    have dg1g2 := lt_new kg1 eg2
    replace kg1 := G.has kg1
    replace GG := GG.trans G
    clear G
    clear eg2
    refine nr ?_; intro U h; simp only [z0, z1] at h; subst h
    refine s_store rfl rfl 56 _ _ rfl g2 0 rfl (.agg (itA (y.re ao2 cap2))) rfl 56 _ kg2 (itA (y.re ao2 cap2)) rfl (siIt' _) (itA_fit _ _) (itA_one _) (itA (y.re ao2 cap2)) (splice_whole _ _ (itA_sz _ _)) ?_
    intro w5 St
    replace kg1 := St.has (by omega) kg1
    replace GG := GG.store St bg2
    replace kg2 := St.new
    clear St
    refine s_val 10 rfl rfl (.bool true) (rfl) ?_
    refine nr ?_; intro U h; simp only [z0, z1] at h; subst h
    refine wpList_nil ?_
    refine then_n ?_
    refine wp_seq ?_
    refine wp_region_opq ?_
    intro OPS hY
    have y2 := hY 2 31 rfl
    clear hY
    refine s_val 29 rfl rfl (.bool true) (rfl) ?_
    refine nr ?_; intro U h; simp only [z0, z1] at h; subst h
    refine s_val 30 rfl rfl (.bool false) (run_nt _ _ rfl true rfl) ?_
    refine nr ?_; intro U h; simp only [z0, z1] at h; subst h
    refine s_val 31 rfl rfl (.bool false) (rfl) ?_
    refine nr ?_; intro U h; simp only [z0, z1] at h; subst h
    refine s_gvalY 32 rfl rfl y2 rfl (.pointer (some ⟨g1, 16, none⟩)) (run_fld 56 _ 1 rfl g1 0 rfl 16 (by kernel_rfl)) ?_
    refine nr ?_; intro U h; simp only [z0, z1] at h; subst h
    refine s_gvalY 33 rfl rfl y2 rfl (.agg (veA (su.getD i zM).ver)) (ldItv _ rfl g1 rfl (kg1)) ?_
    refine nr ?_; intro U h; simp only [z0, z1] at h; subst h
    refine s_gvalY 34 rfl rfl y2 rfl (.pointer (some ⟨g2, 16, none⟩)) (run_fld 56 _ 1 rfl g2 0 rfl 16 (by kernel_rfl)) ?_
    refine nr ?_; intro U h; simp only [z0, z1] at h; subst h
    refine s_gvalY 35 rfl rfl y2 rfl (.agg (veA (y.re ao2 cap2).ver)) (ldItv _ rfl g2 rfl (kg2)) ?_
    refine nr ?_; intro U h; simp only [z0, z1] at h; subst h
    refine s_gcallvY 36 rfl rfl y2 rfl _ 22 Try.call22 rfl rfl _ rfl [.agg (veA (su.getD i zM).ver), .agg (veA (y.re ao2 cap2).ver)] rfl (Calls.bool (rnewer_any (su.getD i zM).ver y.ver (atM HA hlt).ver hyo.ver _) hny) ?_
    intro w6 G
    replace kg1 := G.has kg1
    replace kg2 := G.has kg2
    replace GG := GG.trans G
    clear G
    refine nr ?_; intro U h; simp only [z0, z1] at h; subst h
    refine s_val 37 rfl rfl (.bool false) (rfl) ?_
    refine nr ?_; intro U h; simp only [z0, z1] at h; subst h
    refine wpList_nil ?_
    refine then_n ?_
    refine wp_cond_false rfl ?_
    refine wp_skip ?_
    refine blk_n ?_
    refine then_n ?_
    refine wp_region_lit ?_
    refine s_val 38 rfl rfl (.int .i64 ((i + 1 : Nat) : Int)) (run_addI 3 _ _ _ rfl ((i : Nat) : Int) 1 ((i + 1 : Nat) : Int) rfl rfl (by omega) (by omega) (by omega) _) ?_
    refine nr ?_; intro U h; simp only [z0, z1] at h; subst h
    refine s_val 18 rfl rfl (.int .i64 ((i + 1 : Nat) : Int)) (rfl) ?_
    refine nr ?_; intro U h; simp only [z0, z1] at h; subst h
    refine wpList_nil ?_
    refine then_n ?_
    exact ⟨_, by omega, i + 1, (fun kz => ([us1 0, .pointer (some ⟨g1, 0, none⟩), .pointer (some ⟨g2, 0, none⟩), .bool true, .bool true, .pointer (pK kM ao i 0), .agg (itA (su.getD i zM)), .tuple #[.agg (itA (y.re ao2 cap2)), .bool true], .pointer (some ⟨vp, 0, none⟩), .pointer (some ⟨g1, 0, none⟩), .agg (idA (su.getD i zM).key), .tuple #[.agg (itA (y.re ao2 cap2)), .bool true], .agg (itA (y.re ao2 cap2)), .bool true, .bool true, .bool false, .bool false, .pointer (some ⟨g1, 16, none⟩), .agg (veA (su.getD i zM).ver), .pointer (some ⟨g2, 16, none⟩), .agg (veA (y.re ao2 cap2).ver), .bool false, .bool false, .int .i64 ((i + 1 : Nat) : Int)] : List Value).getD kz undef), rfl, rfl, GG, by omega⟩
end Go.Proofs.Ytgfnjekpafempaa
