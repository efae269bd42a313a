/- Calls on keys and entries: less, right, the other end. -/
import Derived.Test.YtmpnepbmpmkmkabBP8
import Derived.Test.YtmpnepbmpmkmkabBW1
namespace Go.Proofs.Ytmpnepbmpmkmkab
open Go.RowKit Go.Maps
theorem D.Gro.old {w w' : World} (h : D.Gro w w') : Go.Proofs.Ytmpnepbmpmkmkab.Gro w w' := h.below
def lessB (p q : Pa) : Bool := decide (ky p < ky q)
set_option maxRecDepth 100000 in
set_option maxHeartbeats 4000000 in
theorem rless_any (p q : Pa) (hp : p.ok) (hq : q.ok) (w : World) : Calls Try.prog 26 #[.agg (paA p), .agg (paA q)] w (fun e w' => e = .returned (.bool (lessB p q)) ∧ Gro w w') := by
  refine s_enter Try.func26 rfl Try.ntmps26 [.agg (paA p), .agg (paA q)] [.agg (paA p), .agg (paA q), undef, undef, undef, undef, undef, undef, undef, undef, undef, undef, undef, undef, undef, undef, undef, undef, undef, undef] rfl ?_
  have GG := Gro.refl w
  refine wp_seq ?_
  refine wp_region_lit ?_
  refine s_box 2 rfl rfl 26 _ rfl _ rfl (paA p) rfl ?_
  intro w1 g1 G eg1 kg1
  have bg1 := size_base GG eg1
  replace GG := GG.trans G
  clear G
  clear eg1
  refine nr ?_; intro U h; simp only [z0, z1] at h; subst h
  refine s_box 3 rfl rfl 26 _ rfl _ rfl (paA q) rfl ?_
  intro w2 g2 G eg2 kg2
  have bg2 := size_base GG eg2
  have dg1g2 := lt_new kg1 eg2
  replace kg1 := G.has kg1
  replace GG := GG.trans G
  clear G
  clear eg2
  refine nr ?_; intro U h; simp only [z0, z1] at h; subst h
  refine s_val 4 rfl rfl (.bool false) (rfl) ?_
  refine nr ?_; intro U h; simp only [z0, z1] at h; subst h
  refine wpList_nil ?_
  refine then_n ?_
  refine wp_seq ?_
  refine wp_seq ?_
  refine wp_region_lit ?_
  refine s_val 5 rfl rfl (.pointer (some ⟨g1, 0, none⟩)) (run_fld 26 _ 0 rfl g1 0 rfl 0 (by kernel_rfl)) ?_
  refine nr ?_; intro U h; simp only [z0, z1] at h; subst h
  refine s_val 6 rfl rfl (.agg (idA p.who)) (ldPw _ rfl g1 rfl (kg1)) ?_
  refine nr ?_; intro U h; simp only [z0, z1] at h; subst h
  refine s_val 7 rfl rfl (.pointer (some ⟨g2, 0, none⟩)) (run_fld 26 _ 0 rfl g2 0 rfl 0 (by kernel_rfl)) ?_
  refine nr ?_; intro U h; simp only [z0, z1] at h; subst h
  refine s_val 8 rfl rfl (.agg (idA q.who)) (ldPw _ rfl g2 rfl (kg2)) ?_
  refine nr ?_; intro U h; simp only [z0, z1] at h; subst h
  cases h1 : decide (p.who = q.who)
  · refine s_val 9 rfl rfl (.bool true) (run_neI _ _ _ rfl _ _ rfl rfl hp.who hq.who true h1) ?_
    refine nr ?_; intro U h; simp only [z0, z1] at h; subst h
    refine wpList_nil ?_
    refine then_n ?_
    refine wp_cond_true rfl ?_
    refine wp_seq ?_
    refine wp_region_lit ?_
    refine s_val 10 rfl rfl (.pointer (some ⟨g1, 0, none⟩)) (run_fld 26 _ 0 rfl g1 0 rfl 0 (by kernel_rfl)) ?_
    refine nr ?_; intro U h; simp only [z0, z1] at h; subst h
    refine s_val 11 rfl rfl (.agg (idA p.who)) (ldPw _ rfl g1 rfl (kg1)) ?_
    refine nr ?_; intro U h; simp only [z0, z1] at h; subst h
    refine s_val 12 rfl rfl (.pointer (some ⟨g2, 0, none⟩)) (run_fld 26 _ 0 rfl g2 0 rfl 0 (by kernel_rfl)) ?_
    refine nr ?_; intro U h; simp only [z0, z1] at h; subst h
    refine s_val 13 rfl rfl (.agg (idA q.who)) (ldPw _ rfl g2 rfl (kg2)) ?_
    refine nr ?_; intro U h; simp only [z0, z1] at h; subst h
    refine s_callv 14 rfl rfl _ 32 Try.call32 rfl rfl _ rfl [.agg (idA p.who), .agg (idA q.who)] rfl (less_any p.who q.who hp.who hq.who _) ?_
    intro w3 G
    replace kg1 := G.has kg1
    replace kg2 := G.has kg2
    replace GG := GG.trans G
    clear G
    refine nr ?_; intro U h; simp only [z0, z1] at h; subst h
    refine s_val 4 rfl rfl (.bool (decide (p.who < q.who))) (rfl) ?_
    refine nr ?_; intro U h; simp only [z0, z1] at h; subst h
    refine wpList_nil ?_
    refine then_n ?_
    refine wp_ret ?_
    refine then_r ?_
    refine bodyPost_ret (results_tmp Try.results26 _ _ _) rfl ?_
    refine ⟨congrArg (fun b => Ending.returned (.bool b)) ?_, GG⟩
    have h0 := of_decide_eq_false h1
    unfold lessB
    rw [decide_eq_decide, ky_lt hp hq]
    omega
  · refine s_val 9 rfl rfl (.bool false) (run_neI _ _ _ rfl _ _ rfl rfl hp.who hq.who false h1) ?_
    refine nr ?_; intro U h; simp only [z0, z1] at h; subst h
    refine wpList_nil ?_
    refine then_n ?_
    refine wp_cond_false rfl ?_
    refine wp_skip ?_
    refine then_n ?_
    refine wp_seq ?_
    refine wp_region_lit ?_
    refine s_val 15 rfl rfl (.pointer (some ⟨g1, 16, none⟩)) (run_fld 26 _ 1 rfl g1 0 rfl 16 (by kernel_rfl)) ?_
    refine nr ?_; intro U h; simp only [z0, z1] at h; subst h
    refine s_val 16 rfl rfl (.int .i64 p.n) (ldPn _ rfl g1 rfl (kg1)) ?_
    refine nr ?_; intro U h; simp only [z0, z1] at h; subst h
    refine s_val 17 rfl rfl (.pointer (some ⟨g2, 16, none⟩)) (run_fld 26 _ 1 rfl g2 0 rfl 16 (by kernel_rfl)) ?_
    refine nr ?_; intro U h; simp only [z0, z1] at h; subst h
    refine s_val 18 rfl rfl (.int .i64 q.n) (ldPn _ rfl g2 rfl (kg2)) ?_
    refine nr ?_; intro U h; simp only [z0, z1] at h; subst h
    cases h2 : decide (p.n < q.n)
    · refine s_val 19 rfl rfl (.bool false) (run_lssT 2 _ _ _ rfl p.n q.n rfl rfl false h2 _) ?_
      refine nr ?_; intro U h; simp only [z0, z1] at h; subst h
      refine s_val 4 rfl rfl (.bool false) (rfl) ?_
      refine nr ?_; intro U h; simp only [z0, z1] at h; subst h
      refine wpList_nil ?_
      refine then_n ?_
      refine wp_ret ?_
      refine bodyPost_ret (results_tmp Try.results26 _ _ _) rfl ?_
      refine ⟨congrArg (fun b => Ending.returned (.bool b)) ?_, GG⟩
      have h0 := of_decide_eq_true h1
      rw [← h2]
      unfold lessB
      rw [decide_eq_decide, ky_lt hp hq]
      omega
    · refine s_val 19 rfl rfl (.bool true) (run_lssT 2 _ _ _ rfl p.n q.n rfl rfl true h2 _) ?_
      refine nr ?_; intro U h; simp only [z0, z1] at h; subst h
      refine s_val 4 rfl rfl (.bool true) (rfl) ?_
      refine nr ?_; intro U h; simp only [z0, z1] at h; subst h
      refine wpList_nil ?_
      refine then_n ?_
      refine wp_ret ?_
      refine bodyPost_ret (results_tmp Try.results26 _ _ _) rfl ?_
      refine ⟨congrArg (fun b => Ending.returned (.bool b)) ?_, GG⟩
      have h0 := of_decide_eq_true h1
      rw [← h2]
      unfold lessB
      rw [decide_eq_decide, ky_lt hp hq]
      omega
set_option maxRecDepth 100000 in
set_option maxHeartbeats 4000000 in
theorem mayBe_any (n : Int) (w : World) : Calls Try.prog 23 #[.int .i64 n] w (fun e w' => e = .returned (.bool (decide (-1 ≤ n ∧ n < 6))) ∧ Gro w w') := by
  refine s_enter Try.func23 rfl Try.ntmps23 [.int .i64 n] [.int .i64 n, undef, undef, undef, undef, undef, undef, undef, undef] rfl ?_
  have GG := Gro.refl w
  refine wp_seq ?_
  refine wp_region_lit ?_
  refine s_val 2 rfl rfl (.bool false) (rfl) ?_
  refine nr ?_; intro U h; simp only [z0, z1] at h; subst h
  refine wpList_nil ?_
  refine then_n ?_
  refine wp_seq ?_
  refine wp_region_opq ?_
  intro OPS hY
  have y2 := hY 2 5 rfl
  clear hY
  refine s_val 3 rfl rfl (.int .i64 n) (rfl) ?_
  refine nr ?_; intro U h; simp only [z0, z1] at h; subst h
  cases h1 : decide (-1 ≤ n)
  · refine s_val 4 rfl rfl (.bool false) (run_leqT 3 _ _ _ rfl (-1) n rfl rfl false h1 _) ?_
    refine nr ?_; intro U h; simp only [z0, z1] at h; subst h
    refine s_val 5 rfl rfl (.bool false) (rfl) ?_
    refine nr ?_; intro U h; simp only [z0, z1] at h; subst h
    refine s_skipY 6 rfl rfl y2 rfl ?_
    refine nr ?_; intro U h; simp only [z0, z1] at h; subst h
    refine s_skipY 7 rfl rfl y2 rfl ?_
    refine nr ?_; intro U h; simp only [z0, z1] at h; subst h
    refine s_val 8 rfl rfl (.bool false) (rfl) ?_
    refine nr ?_; intro U h; simp only [z0, z1] at h; subst h
    refine s_val 2 rfl rfl (.bool false) (rfl) ?_
    refine nr ?_; intro U h; simp only [z0, z1] at h; subst h
    refine wpList_nil ?_
    refine then_n ?_
    refine wp_ret ?_
    refine bodyPost_ret (results_tmp Try.results23 _ _ _) rfl ?_
    refine ⟨congrArg (fun b => Ending.returned (.bool b)) ?_, GG⟩
    simp only [decide_eq_false_iff_not] at *
    symm
    rw [decide_eq_false_iff_not]
    omega
  · refine s_val 4 rfl rfl (.bool true) (run_leqT 3 _ _ _ rfl (-1) n rfl rfl true h1 _) ?_
    refine nr ?_; intro U h; simp only [z0, z1] at h; subst h
    refine s_val 5 rfl rfl (.bool true) (rfl) ?_
    refine nr ?_; intro U h; simp only [z0, z1] at h; subst h
    refine s_gvalY 6 rfl rfl y2 rfl (.int .i64 n) (rfl) ?_
    refine nr ?_; intro U h; simp only [z0, z1] at h; subst h
    cases h2 : decide (n < 6)
    · refine s_gvalY 7 rfl rfl y2 rfl (.bool false) (run_lssT 3 _ _ _ rfl n 6 rfl rfl false h2 _) ?_
      refine nr ?_; intro U h; simp only [z0, z1] at h; subst h
      refine s_val 8 rfl rfl (.bool false) (rfl) ?_
      refine nr ?_; intro U h; simp only [z0, z1] at h; subst h
      refine s_val 2 rfl rfl (.bool false) (rfl) ?_
      refine nr ?_; intro U h; simp only [z0, z1] at h; subst h
      refine wpList_nil ?_
      refine then_n ?_
      refine wp_ret ?_
      refine bodyPost_ret (results_tmp Try.results23 _ _ _) rfl ?_
      refine ⟨congrArg (fun b => Ending.returned (.bool b)) ?_, GG⟩
      simp only [decide_eq_true_eq, decide_eq_false_iff_not] at *
      symm
      rw [decide_eq_false_iff_not]
      omega
    · refine s_gvalY 7 rfl rfl y2 rfl (.bool true) (run_lssT 3 _ _ _ rfl n 6 rfl rfl true h2 _) ?_
      refine nr ?_; intro U h; simp only [z0, z1] at h; subst h
      refine s_val 8 rfl rfl (.bool true) (rfl) ?_
      refine nr ?_; intro U h; simp only [z0, z1] at h; subst h
      refine s_val 2 rfl rfl (.bool true) (rfl) ?_
      refine nr ?_; intro U h; simp only [z0, z1] at h; subst h
      refine wpList_nil ?_
      refine then_n ?_
      refine wp_ret ?_
      refine bodyPost_ret (results_tmp Try.results23 _ _ _) rfl ?_
      refine ⟨congrArg (fun b => Ending.returned (.bool b)) ?_, GG⟩
      simp only [decide_eq_true_eq] at *
      symm
      rw [decide_eq_true_eq]
      omega
set_option maxRecDepth 100000 in
set_option maxHeartbeats 4000000 in
theorem right_any (x : En) (hx : x.ok) (w : World) : Calls Try.prog 16 #[.agg (enA x)] w (fun e w' => e = .returned (.bool (rgt x)) ∧ Gro w w') := by
  refine s_enter Try.func16 rfl Try.ntmps16 [.agg (enA x)] [.agg (enA x), undef, undef, undef, undef, undef, undef, undef, undef, undef, undef, undef, undef, undef, undef, undef, undef, undef, undef, undef, undef, undef, undef, undef, undef] rfl ?_
  have GG := Gro.refl w
  refine wp_seq ?_
  refine wp_region_lit ?_
  refine s_box 1 rfl rfl 39 _ rfl _ rfl (enA x) rfl ?_
  intro w1 g1 G eg1 kg1
  have bg1 := size_base GG eg1
  replace GG := GG.trans G
  clear G
  clear eg1
  refine nr ?_; intro U h; simp only [z0, z1] at h; subst h
  refine s_val 2 rfl rfl (.bool false) (rfl) ?_
  refine nr ?_; intro U h; simp only [z0, z1] at h; subst h
  refine wpList_nil ?_
  refine then_n ?_
  refine wp_seq ?_
  cases h1 : decide (x.a = x.b)
  · cases h2 : decide (-1 ≤ x.na ∧ x.na < 6)
    · refine wp_region_opq ?_
      intro OPS hY
      have y5 := hY 5 8 rfl
      have y10 := hY 10 13 rfl
      have y15 := hY 15 18 rfl
      clear hY
      refine s_val 3 rfl rfl (.pointer (some ⟨g1, 17, none⟩)) (run_fld 39 _ 1 rfl g1 0 rfl 17 (by kernel_rfl)) ?_
      refine nr ?_; intro U h; simp only [z0, z1] at h; subst h
      refine s_val 4 rfl rfl (.agg (idA x.a)) (ldEa _ rfl g1 rfl (kg1)) ?_
      refine nr ?_; intro U h; simp only [z0, z1] at h; subst h
      refine s_val 5 rfl rfl (.pointer (some ⟨g1, 33, none⟩)) (run_fld 39 _ 2 rfl g1 0 rfl 33 (by kernel_rfl)) ?_
      refine nr ?_; intro U h; simp only [z0, z1] at h; subst h
      refine s_val 6 rfl rfl (.agg (idA x.b)) (ldEb _ rfl g1 rfl (kg1)) ?_
      refine nr ?_; intro U h; simp only [z0, z1] at h; subst h
      refine s_val 7 rfl rfl (.bool true) (run_neI _ _ _ rfl _ _ rfl rfl hx.a hx.b true h1) ?_
      refine nr ?_; intro U h; simp only [z0, z1] at h; subst h
      refine s_val 8 rfl rfl (.bool true) (rfl) ?_
      refine nr ?_; intro U h; simp only [z0, z1] at h; subst h
      refine s_gvalY 9 rfl rfl y5 rfl (.pointer (some ⟨g1, 49, none⟩)) (run_fld 39 _ 3 rfl g1 0 rfl 49 (by kernel_rfl)) ?_
      refine nr ?_; intro U h; simp only [z0, z1] at h; subst h
      refine s_gvalY 10 rfl rfl y5 rfl (.int .i64 x.na) (ldEna _ rfl g1 rfl (kg1)) ?_
      refine nr ?_; intro U h; simp only [z0, z1] at h; subst h
      refine s_gcallvY 11 rfl rfl y5 rfl _ 23 Try.call23 rfl rfl _ rfl [.int .i64 x.na] rfl (Calls.bool (mayBe_any x.na _) h2) ?_
      intro w2 G
      replace kg1 := G.has kg1
      replace GG := GG.trans G
      clear G
      refine nr ?_; intro U h; simp only [z0, z1] at h; subst h
      refine s_val 12 rfl rfl (.bool false) (rfl) ?_
      refine nr ?_; intro U h; simp only [z0, z1] at h; subst h
      refine s_val 13 rfl rfl (.bool false) (rfl) ?_
      refine nr ?_; intro U h; simp only [z0, z1] at h; subst h
      refine s_skipY 14 rfl rfl y10 rfl ?_
      refine nr ?_; intro U h; simp only [z0, z1] at h; subst h
      refine s_skipY 15 rfl rfl y10 rfl ?_
      refine nr ?_; intro U h; simp only [z0, z1] at h; subst h
      refine s_skipY 16 rfl rfl y10 rfl ?_
      refine nr ?_; intro U h; simp only [z0, z1] at h; subst h
      refine s_val 17 rfl rfl (.bool false) (rfl) ?_
      refine nr ?_; intro U h; simp only [z0, z1] at h; subst h
      refine s_val 18 rfl rfl (.bool false) (rfl) ?_
      refine nr ?_; intro U h; simp only [z0, z1] at h; subst h
      refine s_skipY 19 rfl rfl y15 rfl ?_
      refine nr ?_; intro U h; simp only [z0, z1] at h; subst h
      refine s_skipY 20 rfl rfl y15 rfl ?_
      refine nr ?_; intro U h; simp only [z0, z1] at h; subst h
      refine s_skipY 21 rfl rfl y15 rfl ?_
      refine nr ?_; intro U h; simp only [z0, z1] at h; subst h
      refine s_skipY 22 rfl rfl y15 rfl ?_
      refine nr ?_; intro U h; simp only [z0, z1] at h; subst h
      refine s_skipY 23 rfl rfl y15 rfl ?_
      refine nr ?_; intro U h; simp only [z0, z1] at h; subst h
      refine s_val 24 rfl rfl (.bool false) (rfl) ?_
      refine nr ?_; intro U h; simp only [z0, z1] at h; subst h
      refine s_val 2 rfl rfl (.bool false) (rfl) ?_
      refine nr ?_; intro U h; simp only [z0, z1] at h; subst h
      refine wpList_nil ?_
      refine then_n ?_
      refine wp_ret ?_
      refine bodyPost_ret (results_tmp Try.results16 _ _ _) rfl ?_
      exact ⟨congrArg (fun b => Ending.returned (.bool b)) (by unfold rgt; rw [h1, h2]; rfl), GG⟩
    · cases h3 : decide (-1 ≤ x.nb ∧ x.nb < 6)
      · refine wp_region_opq ?_
        intro OPS hY
        have y5 := hY 5 8 rfl
        have y10 := hY 10 13 rfl
        have y15 := hY 15 18 rfl
        clear hY
        refine s_val 3 rfl rfl (.pointer (some ⟨g1, 17, none⟩)) (run_fld 39 _ 1 rfl g1 0 rfl 17 (by kernel_rfl)) ?_
        refine nr ?_; intro U h; simp only [z0, z1] at h; subst h
        refine s_val 4 rfl rfl (.agg (idA x.a)) (ldEa _ rfl g1 rfl (kg1)) ?_
        refine nr ?_; intro U h; simp only [z0, z1] at h; subst h
        refine s_val 5 rfl rfl (.pointer (some ⟨g1, 33, none⟩)) (run_fld 39 _ 2 rfl g1 0 rfl 33 (by kernel_rfl)) ?_
        refine nr ?_; intro U h; simp only [z0, z1] at h; subst h
        refine s_val 6 rfl rfl (.agg (idA x.b)) (ldEb _ rfl g1 rfl (kg1)) ?_
        refine nr ?_; intro U h; simp only [z0, z1] at h; subst h
        refine s_val 7 rfl rfl (.bool true) (run_neI _ _ _ rfl _ _ rfl rfl hx.a hx.b true h1) ?_
        refine nr ?_; intro U h; simp only [z0, z1] at h; subst h
        refine s_val 8 rfl rfl (.bool true) (rfl) ?_
        refine nr ?_; intro U h; simp only [z0, z1] at h; subst h
        refine s_gvalY 9 rfl rfl y5 rfl (.pointer (some ⟨g1, 49, none⟩)) (run_fld 39 _ 3 rfl g1 0 rfl 49 (by kernel_rfl)) ?_
        refine nr ?_; intro U h; simp only [z0, z1] at h; subst h
        refine s_gvalY 10 rfl rfl y5 rfl (.int .i64 x.na) (ldEna _ rfl g1 rfl (kg1)) ?_
        refine nr ?_; intro U h; simp only [z0, z1] at h; subst h
        refine s_gcallvY 11 rfl rfl y5 rfl _ 23 Try.call23 rfl rfl _ rfl [.int .i64 x.na] rfl (Calls.bool (mayBe_any x.na _) h2) ?_
        intro w2 G
        replace kg1 := G.has kg1
        replace GG := GG.trans G
        clear G
        refine nr ?_; intro U h; simp only [z0, z1] at h; subst h
        refine s_val 12 rfl rfl (.bool true) (rfl) ?_
        refine nr ?_; intro U h; simp only [z0, z1] at h; subst h
        refine s_val 13 rfl rfl (.bool true) (rfl) ?_
        refine nr ?_; intro U h; simp only [z0, z1] at h; subst h
        refine s_gvalY 14 rfl rfl y10 rfl (.pointer (some ⟨g1, 50, none⟩)) (run_fld 39 _ 4 rfl g1 0 rfl 50 (by kernel_rfl)) ?_
        refine nr ?_; intro U h; simp only [z0, z1] at h; subst h
        refine s_gvalY 15 rfl rfl y10 rfl (.int .i64 x.nb) (ldEnb _ rfl g1 rfl (kg1)) ?_
        refine nr ?_; intro U h; simp only [z0, z1] at h; subst h
        refine s_gcallvY 16 rfl rfl y10 rfl _ 23 Try.call23 rfl rfl _ rfl [.int .i64 x.nb] rfl (Calls.bool (mayBe_any x.nb _) h3) ?_
        intro w3 G
        replace kg1 := G.has kg1
        replace GG := GG.trans G
        clear G
        refine nr ?_; intro U h; simp only [z0, z1] at h; subst h
        refine s_val 17 rfl rfl (.bool false) (rfl) ?_
        refine nr ?_; intro U h; simp only [z0, z1] at h; subst h
        refine s_val 18 rfl rfl (.bool false) (rfl) ?_
        refine nr ?_; intro U h; simp only [z0, z1] at h; subst h
        refine s_skipY 19 rfl rfl y15 rfl ?_
        refine nr ?_; intro U h; simp only [z0, z1] at h; subst h
        refine s_skipY 20 rfl rfl y15 rfl ?_
        refine nr ?_; intro U h; simp only [z0, z1] at h; subst h
        refine s_skipY 21 rfl rfl y15 rfl ?_
        refine nr ?_; intro U h; simp only [z0, z1] at h; subst h
        refine s_skipY 22 rfl rfl y15 rfl ?_
        refine nr ?_; intro U h; simp only [z0, z1] at h; subst h
        refine s_skipY 23 rfl rfl y15 rfl ?_
        refine nr ?_; intro U h; simp only [z0, z1] at h; subst h
        refine s_val 24 rfl rfl (.bool false) (rfl) ?_
        refine nr ?_; intro U h; simp only [z0, z1] at h; subst h
        refine s_val 2 rfl rfl (.bool false) (rfl) ?_
        refine nr ?_; intro U h; simp only [z0, z1] at h; subst h
        refine wpList_nil ?_
        refine then_n ?_
        refine wp_ret ?_
        refine bodyPost_ret (results_tmp Try.results16 _ _ _) rfl ?_
        exact ⟨congrArg (fun b => Ending.returned (.bool b)) (by unfold rgt; rw [h1, h2, h3]; rfl), GG⟩
      · cases h4 : decide (x.na = x.nb)
        · refine wp_region_opq ?_
          intro OPS hY
          have y5 := hY 5 8 rfl
          have y10 := hY 10 13 rfl
          have y15 := hY 15 18 rfl
          clear hY
          refine s_val 3 rfl rfl (.pointer (some ⟨g1, 17, none⟩)) (run_fld 39 _ 1 rfl g1 0 rfl 17 (by kernel_rfl)) ?_
          refine nr ?_; intro U h; simp only [z0, z1] at h; subst h
          refine s_val 4 rfl rfl (.agg (idA x.a)) (ldEa _ rfl g1 rfl (kg1)) ?_
          refine nr ?_; intro U h; simp only [z0, z1] at h; subst h
          refine s_val 5 rfl rfl (.pointer (some ⟨g1, 33, none⟩)) (run_fld 39 _ 2 rfl g1 0 rfl 33 (by kernel_rfl)) ?_
          refine nr ?_; intro U h; simp only [z0, z1] at h; subst h
          refine s_val 6 rfl rfl (.agg (idA x.b)) (ldEb _ rfl g1 rfl (kg1)) ?_
          refine nr ?_; intro U h; simp only [z0, z1] at h; subst h
          refine s_val 7 rfl rfl (.bool true) (run_neI _ _ _ rfl _ _ rfl rfl hx.a hx.b true h1) ?_
          refine nr ?_; intro U h; simp only [z0, z1] at h; subst h
          refine s_val 8 rfl rfl (.bool true) (rfl) ?_
          refine nr ?_; intro U h; simp only [z0, z1] at h; subst h
          refine s_gvalY 9 rfl rfl y5 rfl (.pointer (some ⟨g1, 49, none⟩)) (run_fld 39 _ 3 rfl g1 0 rfl 49 (by kernel_rfl)) ?_
          refine nr ?_; intro U h; simp only [z0, z1] at h; subst h
          refine s_gvalY 10 rfl rfl y5 rfl (.int .i64 x.na) (ldEna _ rfl g1 rfl (kg1)) ?_
          refine nr ?_; intro U h; simp only [z0, z1] at h; subst h
          refine s_gcallvY 11 rfl rfl y5 rfl _ 23 Try.call23 rfl rfl _ rfl [.int .i64 x.na] rfl (Calls.bool (mayBe_any x.na _) h2) ?_
          intro w2 G
          replace kg1 := G.has kg1
          replace GG := GG.trans G
          clear G
          refine nr ?_; intro U h; simp only [z0, z1] at h; subst h
          refine s_val 12 rfl rfl (.bool true) (rfl) ?_
          refine nr ?_; intro U h; simp only [z0, z1] at h; subst h
          refine s_val 13 rfl rfl (.bool true) (rfl) ?_
          refine nr ?_; intro U h; simp only [z0, z1] at h; subst h
          refine s_gvalY 14 rfl rfl y10 rfl (.pointer (some ⟨g1, 50, none⟩)) (run_fld 39 _ 4 rfl g1 0 rfl 50 (by kernel_rfl)) ?_
          refine nr ?_; intro U h; simp only [z0, z1] at h; subst h
          refine s_gvalY 15 rfl rfl y10 rfl (.int .i64 x.nb) (ldEnb _ rfl g1 rfl (kg1)) ?_
          refine nr ?_; intro U h; simp only [z0, z1] at h; subst h
          refine s_gcallvY 16 rfl rfl y10 rfl _ 23 Try.call23 rfl rfl _ rfl [.int .i64 x.nb] rfl (Calls.bool (mayBe_any x.nb _) h3) ?_
          intro w3 G
          replace kg1 := G.has kg1
          replace GG := GG.trans G
          clear G
          refine nr ?_; intro U h; simp only [z0, z1] at h; subst h
          refine s_val 17 rfl rfl (.bool true) (rfl) ?_
          refine nr ?_; intro U h; simp only [z0, z1] at h; subst h
          refine s_val 18 rfl rfl (.bool true) (rfl) ?_
          refine nr ?_; intro U h; simp only [z0, z1] at h; subst h
          refine s_gvalY 19 rfl rfl y15 rfl (.pointer (some ⟨g1, 49, none⟩)) (run_fld 39 _ 3 rfl g1 0 rfl 49 (by kernel_rfl)) ?_
          refine nr ?_; intro U h; simp only [z0, z1] at h; subst h
          refine s_gvalY 20 rfl rfl y15 rfl (.int .i64 x.na) (ldEna _ rfl g1 rfl (kg1)) ?_
          refine nr ?_; intro U h; simp only [z0, z1] at h; subst h
          refine s_gvalY 21 rfl rfl y15 rfl (.pointer (some ⟨g1, 50, none⟩)) (run_fld 39 _ 4 rfl g1 0 rfl 50 (by kernel_rfl)) ?_
          refine nr ?_; intro U h; simp only [z0, z1] at h; subst h
          refine s_gvalY 22 rfl rfl y15 rfl (.int .i64 x.nb) (ldEnb _ rfl g1 rfl (kg1)) ?_
          refine nr ?_; intro U h; simp only [z0, z1] at h; subst h
          refine s_gvalY 23 rfl rfl y15 rfl (.bool true) (run_neq_k 3 .i64 _ _ _ rfl Try.underlying3 x.na x.nb rfl rfl true h4 _) ?_
          refine nr ?_; intro U h; simp only [z0, z1] at h; subst h
          refine s_val 24 rfl rfl (.bool true) (rfl) ?_
          refine nr ?_; intro U h; simp only [z0, z1] at h; subst h
          refine s_val 2 rfl rfl (.bool true) (rfl) ?_
          refine nr ?_; intro U h; simp only [z0, z1] at h; subst h
          refine wpList_nil ?_
          refine then_n ?_
          refine wp_ret ?_
          refine bodyPost_ret (results_tmp Try.results16 _ _ _) rfl ?_
          exact ⟨congrArg (fun b => Ending.returned (.bool b)) (by unfold rgt; rw [h1, h2, h3, h4]; rfl), GG⟩
        · refine wp_region_opq ?_
          intro OPS hY
          have y5 := hY 5 8 rfl
          have y10 := hY 10 13 rfl
          have y15 := hY 15 18 rfl
          clear hY
          refine s_val 3 rfl rfl (.pointer (some ⟨g1, 17, none⟩)) (run_fld 39 _ 1 rfl g1 0 rfl 17 (by kernel_rfl)) ?_
          refine nr ?_; intro U h; simp only [z0, z1] at h; subst h
          refine s_val 4 rfl rfl (.agg (idA x.a)) (ldEa _ rfl g1 rfl (kg1)) ?_
          refine nr ?_; intro U h; simp only [z0, z1] at h; subst h
          refine s_val 5 rfl rfl (.pointer (some ⟨g1, 33, none⟩)) (run_fld 39 _ 2 rfl g1 0 rfl 33 (by kernel_rfl)) ?_
          refine nr ?_; intro U h; simp only [z0, z1] at h; subst h
          refine s_val 6 rfl rfl (.agg (idA x.b)) (ldEb _ rfl g1 rfl (kg1)) ?_
          refine nr ?_; intro U h; simp only [z0, z1] at h; subst h
          refine s_val 7 rfl rfl (.bool true) (run_neI _ _ _ rfl _ _ rfl rfl hx.a hx.b true h1) ?_
          refine nr ?_; intro U h; simp only [z0, z1] at h; subst h
          refine s_val 8 rfl rfl (.bool true) (rfl) ?_
          refine nr ?_; intro U h; simp only [z0, z1] at h; subst h
          refine s_gvalY 9 rfl rfl y5 rfl (.pointer (some ⟨g1, 49, none⟩)) (run_fld 39 _ 3 rfl g1 0 rfl 49 (by kernel_rfl)) ?_
          refine nr ?_; intro U h; simp only [z0, z1] at h; subst h
          refine s_gvalY 10 rfl rfl y5 rfl (.int .i64 x.na) (ldEna _ rfl g1 rfl (kg1)) ?_
          refine nr ?_; intro U h; simp only [z0, z1] at h; subst h
          refine s_gcallvY 11 rfl rfl y5 rfl _ 23 Try.call23 rfl rfl _ rfl [.int .i64 x.na] rfl (Calls.bool (mayBe_any x.na _) h2) ?_
          intro w2 G
          replace kg1 := G.has kg1
          replace GG := GG.trans G
          clear G
          refine nr ?_; intro U h; simp only [z0, z1] at h; subst h
          refine s_val 12 rfl rfl (.bool true) (rfl) ?_
          refine nr ?_; intro U h; simp only [z0, z1] at h; subst h
          refine s_val 13 rfl rfl (.bool true) (rfl) ?_
          refine nr ?_; intro U h; simp only [z0, z1] at h; subst h
          refine s_gvalY 14 rfl rfl y10 rfl (.pointer (some ⟨g1, 50, none⟩)) (run_fld 39 _ 4 rfl g1 0 rfl 50 (by kernel_rfl)) ?_
          refine nr ?_; intro U h; simp only [z0, z1] at h; subst h
          refine s_gvalY 15 rfl rfl y10 rfl (.int .i64 x.nb) (ldEnb _ rfl g1 rfl (kg1)) ?_
          refine nr ?_; intro U h; simp only [z0, z1] at h; subst h
          refine s_gcallvY 16 rfl rfl y10 rfl _ 23 Try.call23 rfl rfl _ rfl [.int .i64 x.nb] rfl (Calls.bool (mayBe_any x.nb _) h3) ?_
          intro w3 G
          replace kg1 := G.has kg1
          replace GG := GG.trans G
          clear G
          refine nr ?_; intro U h; simp only [z0, z1] at h; subst h
          refine s_val 17 rfl rfl (.bool true) (rfl) ?_
          refine nr ?_; intro U h; simp only [z0, z1] at h; subst h
          refine s_val 18 rfl rfl (.bool true) (rfl) ?_
          refine nr ?_; intro U h; simp only [z0, z1] at h; subst h
          refine s_gvalY 19 rfl rfl y15 rfl (.pointer (some ⟨g1, 49, none⟩)) (run_fld 39 _ 3 rfl g1 0 rfl 49 (by kernel_rfl)) ?_
          refine nr ?_; intro U h; simp only [z0, z1] at h; subst h
          refine s_gvalY 20 rfl rfl y15 rfl (.int .i64 x.na) (ldEna _ rfl g1 rfl (kg1)) ?_
          refine nr ?_; intro U h; simp only [z0, z1] at h; subst h
          refine s_gvalY 21 rfl rfl y15 rfl (.pointer (some ⟨g1, 50, none⟩)) (run_fld 39 _ 4 rfl g1 0 rfl 50 (by kernel_rfl)) ?_
          refine nr ?_; intro U h; simp only [z0, z1] at h; subst h
          refine s_gvalY 22 rfl rfl y15 rfl (.int .i64 x.nb) (ldEnb _ rfl g1 rfl (kg1)) ?_
          refine nr ?_; intro U h; simp only [z0, z1] at h; subst h
          refine s_gvalY 23 rfl rfl y15 rfl (.bool false) (run_neq_k 3 .i64 _ _ _ rfl Try.underlying3 x.na x.nb rfl rfl false h4 _) ?_
          refine nr ?_; intro U h; simp only [z0, z1] at h; subst h
          refine s_val 24 rfl rfl (.bool false) (rfl) ?_
          refine nr ?_; intro U h; simp only [z0, z1] at h; subst h
          refine s_val 2 rfl rfl (.bool false) (rfl) ?_
          refine nr ?_; intro U h; simp only [z0, z1] at h; subst h
          refine wpList_nil ?_
          refine then_n ?_
          refine wp_ret ?_
          refine bodyPost_ret (results_tmp Try.results16 _ _ _) rfl ?_
          exact ⟨congrArg (fun b => Ending.returned (.bool b)) (by unfold rgt; rw [h1, h2, h3, h4]; rfl), GG⟩
  · refine wp_region_opq ?_
    intro OPS hY
    have y5 := hY 5 8 rfl
    have y10 := hY 10 13 rfl
    have y15 := hY 15 18 rfl
    clear hY
    refine s_val 3 rfl rfl (.pointer (some ⟨g1, 17, none⟩)) (run_fld 39 _ 1 rfl g1 0 rfl 17 (by kernel_rfl)) ?_
    refine nr ?_; intro U h; simp only [z0, z1] at h; subst h
    refine s_val 4 rfl rfl (.agg (idA x.a)) (ldEa _ rfl g1 rfl (kg1)) ?_
    refine nr ?_; intro U h; simp only [z0, z1] at h; subst h
    refine s_val 5 rfl rfl (.pointer (some ⟨g1, 33, none⟩)) (run_fld 39 _ 2 rfl g1 0 rfl 33 (by kernel_rfl)) ?_
    refine nr ?_; intro U h; simp only [z0, z1] at h; subst h
    refine s_val 6 rfl rfl (.agg (idA x.b)) (ldEb _ rfl g1 rfl (kg1)) ?_
    refine nr ?_; intro U h; simp only [z0, z1] at h; subst h
    refine s_val 7 rfl rfl (.bool false) (run_neI _ _ _ rfl _ _ rfl rfl hx.a hx.b false h1) ?_
    refine nr ?_; intro U h; simp only [z0, z1] at h; subst h
    refine s_val 8 rfl rfl (.bool false) (rfl) ?_
    refine nr ?_; intro U h; simp only [z0, z1] at h; subst h
    refine s_skipY 9 rfl rfl y5 rfl ?_
    refine nr ?_; intro U h; simp only [z0, z1] at h; subst h
    refine s_skipY 10 rfl rfl y5 rfl ?_
    refine nr ?_; intro U h; simp only [z0, z1] at h; subst h
    refine s_skipY 11 rfl rfl y5 rfl ?_
    refine nr ?_; intro U h; simp only [z0, z1] at h; subst h
    refine s_val 12 rfl rfl (.bool false) (rfl) ?_
    refine nr ?_; intro U h; simp only [z0, z1] at h; subst h
    refine s_val 13 rfl rfl (.bool false) (rfl) ?_
    refine nr ?_; intro U h; simp only [z0, z1] at h; subst h
    refine s_skipY 14 rfl rfl y10 rfl ?_
    refine nr ?_; intro U h; simp only [z0, z1] at h; subst h
    refine s_skipY 15 rfl rfl y10 rfl ?_
    refine nr ?_; intro U h; simp only [z0, z1] at h; subst h
    refine s_skipY 16 rfl rfl y10 rfl ?_
    refine nr ?_; intro U h; simp only [z0, z1] at h; subst h
    refine s_val 17 rfl rfl (.bool false) (rfl) ?_
    refine nr ?_; intro U h; simp only [z0, z1] at h; subst h
    refine s_val 18 rfl rfl (.bool false) (rfl) ?_
    refine nr ?_; intro U h; simp only [z0, z1] at h; subst h
    refine s_skipY 19 rfl rfl y15 rfl ?_
    refine nr ?_; intro U h; simp only [z0, z1] at h; subst h
    refine s_skipY 20 rfl rfl y15 rfl ?_
    refine nr ?_; intro U h; simp only [z0, z1] at h; subst h
    refine s_skipY 21 rfl rfl y15 rfl ?_
    refine nr ?_; intro U h; simp only [z0, z1] at h; subst h
    refine s_skipY 22 rfl rfl y15 rfl ?_
    refine nr ?_; intro U h; simp only [z0, z1] at h; subst h
    refine s_skipY 23 rfl rfl y15 rfl ?_
    refine nr ?_; intro U h; simp only [z0, z1] at h; subst h
    refine s_val 24 rfl rfl (.bool false) (rfl) ?_
    refine nr ?_; intro U h; simp only [z0, z1] at h; subst h
    refine s_val 2 rfl rfl (.bool false) (rfl) ?_
    refine nr ?_; intro U h; simp only [z0, z1] at h; subst h
    refine wpList_nil ?_
    refine then_n ?_
    refine wp_ret ?_
    refine bodyPost_ret (results_tmp Try.results16 _ _ _) rfl ?_
    exact ⟨congrArg (fun b => Ending.returned (.bool b)) (by unfold rgt; rw [h1]; rfl), GG⟩
set_option maxRecDepth 100000 in
set_option maxHeartbeats 4000000 in
theorem rright_any (x : En) (hx : x.ok) (w : World) : Calls Try.prog 24 #[.agg (enA x)] w (fun e w' => e = .returned (.bool (rgt x)) ∧ Gro w w') := by
  refine s_enter Try.func24 rfl Try.ntmps24 [.agg (enA x)] [.agg (enA x), undef, undef, undef, undef, undef, undef, undef, undef, undef, undef, undef, undef, undef, undef, undef, undef, undef, undef, undef, undef, undef, undef, undef, undef, undef, undef, undef, undef, undef, undef, undef, undef, undef, undef] rfl ?_
  have GG := Gro.refl w
  refine wp_seq ?_
  refine wp_region_lit ?_
  refine s_box 1 rfl rfl 39 _ rfl _ rfl (enA x) rfl ?_
  intro w1 g1 G eg1 kg1
  have bg1 := size_base GG eg1
  replace GG := GG.trans G
  clear G
  clear eg1
  refine nr ?_; intro U h; simp only [z0, z1] at h; subst h
  refine s_val 2 rfl rfl (.bool false) (rfl) ?_
  refine nr ?_; intro U h; simp only [z0, z1] at h; subst h
  refine wpList_nil ?_
  refine then_n ?_
  refine wp_seq ?_
  cases h1 : decide (x.a = x.b)
  · cases h2 : decide (x.na = x.nb)
    · cases h3 : decide (-1 ≤ x.na)
      · refine wp_region_opq ?_
        intro OPS hY
        have y5 := hY 5 8 rfl
        have y12 := hY 12 15 rfl
        have y17 := hY 17 20 rfl
        have y22 := hY 22 25 rfl
        have y27 := hY 27 30 rfl
        clear hY
        refine s_val 3 rfl rfl (.pointer (some ⟨g1, 17, none⟩)) (run_fld 39 _ 1 rfl g1 0 rfl 17 (by kernel_rfl)) ?_
        refine nr ?_; intro U h; simp only [z0, z1] at h; subst h
        refine s_val 4 rfl rfl (.agg (idA x.a)) (ldEa _ rfl g1 rfl (kg1)) ?_
        refine nr ?_; intro U h; simp only [z0, z1] at h; subst h
        refine s_val 5 rfl rfl (.pointer (some ⟨g1, 33, none⟩)) (run_fld 39 _ 2 rfl g1 0 rfl 33 (by kernel_rfl)) ?_
        refine nr ?_; intro U h; simp only [z0, z1] at h; subst h
        refine s_val 6 rfl rfl (.agg (idA x.b)) (ldEb _ rfl g1 rfl (kg1)) ?_
        refine nr ?_; intro U h; simp only [z0, z1] at h; subst h
        refine s_val 7 rfl rfl (.bool true) (run_neI _ _ _ rfl _ _ rfl rfl hx.a hx.b true h1) ?_
        refine nr ?_; intro U h; simp only [z0, z1] at h; subst h
        refine s_val 8 rfl rfl (.bool true) (rfl) ?_
        refine nr ?_; intro U h; simp only [z0, z1] at h; subst h
        refine s_gvalY 9 rfl rfl y5 rfl (.pointer (some ⟨g1, 49, none⟩)) (run_fld 39 _ 3 rfl g1 0 rfl 49 (by kernel_rfl)) ?_
        refine nr ?_; intro U h; simp only [z0, z1] at h; subst h
        refine s_gvalY 10 rfl rfl y5 rfl (.int .i64 x.na) (ldEna _ rfl g1 rfl (kg1)) ?_
        refine nr ?_; intro U h; simp only [z0, z1] at h; subst h
        refine s_gvalY 11 rfl rfl y5 rfl (.pointer (some ⟨g1, 50, none⟩)) (run_fld 39 _ 4 rfl g1 0 rfl 50 (by kernel_rfl)) ?_
        refine nr ?_; intro U h; simp only [z0, z1] at h; subst h
        refine s_gvalY 12 rfl rfl y5 rfl (.int .i64 x.nb) (ldEnb _ rfl g1 rfl (kg1)) ?_
        refine nr ?_; intro U h; simp only [z0, z1] at h; subst h
        refine s_gvalY 13 rfl rfl y5 rfl (.bool true) (run_neq_k 3 .i64 _ _ _ rfl Try.underlying3 x.na x.nb rfl rfl true h2 _) ?_
        refine nr ?_; intro U h; simp only [z0, z1] at h; subst h
        refine s_val 14 rfl rfl (.bool true) (rfl) ?_
        refine nr ?_; intro U h; simp only [z0, z1] at h; subst h
        refine s_val 15 rfl rfl (.bool true) (rfl) ?_
        refine nr ?_; intro U h; simp only [z0, z1] at h; subst h
        refine s_gvalY 16 rfl rfl y12 rfl (.pointer (some ⟨g1, 49, none⟩)) (run_fld 39 _ 3 rfl g1 0 rfl 49 (by kernel_rfl)) ?_
        refine nr ?_; intro U h; simp only [z0, z1] at h; subst h
        refine s_gvalY 17 rfl rfl y12 rfl (.int .i64 x.na) (ldEna _ rfl g1 rfl (kg1)) ?_
        refine nr ?_; intro U h; simp only [z0, z1] at h; subst h
        refine s_gvalY 18 rfl rfl y12 rfl (.bool false) (run_geqT 3 _ _ _ rfl x.na (-1) rfl rfl false h3 _) ?_
        refine nr ?_; intro U h; simp only [z0, z1] at h; subst h
        refine s_val 19 rfl rfl (.bool false) (rfl) ?_
        refine nr ?_; intro U h; simp only [z0, z1] at h; subst h
        refine s_val 20 rfl rfl (.bool false) (rfl) ?_
        refine nr ?_; intro U h; simp only [z0, z1] at h; subst h
        refine s_skipY 21 rfl rfl y17 rfl ?_
        refine nr ?_; intro U h; simp only [z0, z1] at h; subst h
        refine s_skipY 22 rfl rfl y17 rfl ?_
        refine nr ?_; intro U h; simp only [z0, z1] at h; subst h
        refine s_skipY 23 rfl rfl y17 rfl ?_
        refine nr ?_; intro U h; simp only [z0, z1] at h; subst h
        refine s_val 24 rfl rfl (.bool false) (rfl) ?_
        refine nr ?_; intro U h; simp only [z0, z1] at h; subst h
        refine s_val 25 rfl rfl (.bool false) (rfl) ?_
        refine nr ?_; intro U h; simp only [z0, z1] at h; subst h
        refine s_skipY 26 rfl rfl y22 rfl ?_
        refine nr ?_; intro U h; simp only [z0, z1] at h; subst h
        refine s_skipY 27 rfl rfl y22 rfl ?_
        refine nr ?_; intro U h; simp only [z0, z1] at h; subst h
        refine s_skipY 28 rfl rfl y22 rfl ?_
        refine nr ?_; intro U h; simp only [z0, z1] at h; subst h
        refine s_val 29 rfl rfl (.bool false) (rfl) ?_
        refine nr ?_; intro U h; simp only [z0, z1] at h; subst h
        refine s_val 30 rfl rfl (.bool false) (rfl) ?_
        refine nr ?_; intro U h; simp only [z0, z1] at h; subst h
        refine s_skipY 31 rfl rfl y27 rfl ?_
        refine nr ?_; intro U h; simp only [z0, z1] at h; subst h
        refine s_skipY 32 rfl rfl y27 rfl ?_
        refine nr ?_; intro U h; simp only [z0, z1] at h; subst h
        refine s_skipY 33 rfl rfl y27 rfl ?_
        refine nr ?_; intro U h; simp only [z0, z1] at h; subst h
        refine s_val 34 rfl rfl (.bool false) (rfl) ?_
        refine nr ?_; intro U h; simp only [z0, z1] at h; subst h
        refine s_val 2 rfl rfl (.bool false) (rfl) ?_
        refine nr ?_; intro U h; simp only [z0, z1] at h; subst h
        refine wpList_nil ?_
        refine then_n ?_
        refine wp_ret ?_
        refine bodyPost_ret (results_tmp Try.results24 _ _ _) rfl ?_
        refine ⟨congrArg (fun b => Ending.returned (.bool b)) ?_, GG⟩
        simp only [decide_eq_false_iff_not] at *
        symm
        rw [Bool.eq_false_iff]
        intro h
        have h0 := rgt_iff.1 h
        omega
      · cases h4 : decide (x.na ≤ 5)
        · refine wp_region_opq ?_
          intro OPS hY
          have y5 := hY 5 8 rfl
          have y12 := hY 12 15 rfl
          have y17 := hY 17 20 rfl
          have y22 := hY 22 25 rfl
          have y27 := hY 27 30 rfl
          clear hY
          refine s_val 3 rfl rfl (.pointer (some ⟨g1, 17, none⟩)) (run_fld 39 _ 1 rfl g1 0 rfl 17 (by kernel_rfl)) ?_
          refine nr ?_; intro U h; simp only [z0, z1] at h; subst h
          refine s_val 4 rfl rfl (.agg (idA x.a)) (ldEa _ rfl g1 rfl (kg1)) ?_
          refine nr ?_; intro U h; simp only [z0, z1] at h; subst h
          refine s_val 5 rfl rfl (.pointer (some ⟨g1, 33, none⟩)) (run_fld 39 _ 2 rfl g1 0 rfl 33 (by kernel_rfl)) ?_
          refine nr ?_; intro U h; simp only [z0, z1] at h; subst h
          refine s_val 6 rfl rfl (.agg (idA x.b)) (ldEb _ rfl g1 rfl (kg1)) ?_
          refine nr ?_; intro U h; simp only [z0, z1] at h; subst h
          refine s_val 7 rfl rfl (.bool true) (run_neI _ _ _ rfl _ _ rfl rfl hx.a hx.b true h1) ?_
          refine nr ?_; intro U h; simp only [z0, z1] at h; subst h
          refine s_val 8 rfl rfl (.bool true) (rfl) ?_
          refine nr ?_; intro U h; simp only [z0, z1] at h; subst h
          refine s_gvalY 9 rfl rfl y5 rfl (.pointer (some ⟨g1, 49, none⟩)) (run_fld 39 _ 3 rfl g1 0 rfl 49 (by kernel_rfl)) ?_
          refine nr ?_; intro U h; simp only [z0, z1] at h; subst h
          refine s_gvalY 10 rfl rfl y5 rfl (.int .i64 x.na) (ldEna _ rfl g1 rfl (kg1)) ?_
          refine nr ?_; intro U h; simp only [z0, z1] at h; subst h
          refine s_gvalY 11 rfl rfl y5 rfl (.pointer (some ⟨g1, 50, none⟩)) (run_fld 39 _ 4 rfl g1 0 rfl 50 (by kernel_rfl)) ?_
          refine nr ?_; intro U h; simp only [z0, z1] at h; subst h
          refine s_gvalY 12 rfl rfl y5 rfl (.int .i64 x.nb) (ldEnb _ rfl g1 rfl (kg1)) ?_
          refine nr ?_; intro U h; simp only [z0, z1] at h; subst h
          refine s_gvalY 13 rfl rfl y5 rfl (.bool true) (run_neq_k 3 .i64 _ _ _ rfl Try.underlying3 x.na x.nb rfl rfl true h2 _) ?_
          refine nr ?_; intro U h; simp only [z0, z1] at h; subst h
          refine s_val 14 rfl rfl (.bool true) (rfl) ?_
          refine nr ?_; intro U h; simp only [z0, z1] at h; subst h
          refine s_val 15 rfl rfl (.bool true) (rfl) ?_
          refine nr ?_; intro U h; simp only [z0, z1] at h; subst h
          refine s_gvalY 16 rfl rfl y12 rfl (.pointer (some ⟨g1, 49, none⟩)) (run_fld 39 _ 3 rfl g1 0 rfl 49 (by kernel_rfl)) ?_
          refine nr ?_; intro U h; simp only [z0, z1] at h; subst h
          refine s_gvalY 17 rfl rfl y12 rfl (.int .i64 x.na) (ldEna _ rfl g1 rfl (kg1)) ?_
          refine nr ?_; intro U h; simp only [z0, z1] at h; subst h
          refine s_gvalY 18 rfl rfl y12 rfl (.bool true) (run_geqT 3 _ _ _ rfl x.na (-1) rfl rfl true h3 _) ?_
          refine nr ?_; intro U h; simp only [z0, z1] at h; subst h
          refine s_val 19 rfl rfl (.bool true) (rfl) ?_
          refine nr ?_; intro U h; simp only [z0, z1] at h; subst h
          refine s_val 20 rfl rfl (.bool true) (rfl) ?_
          refine nr ?_; intro U h; simp only [z0, z1] at h; subst h
          refine s_gvalY 21 rfl rfl y17 rfl (.pointer (some ⟨g1, 49, none⟩)) (run_fld 39 _ 3 rfl g1 0 rfl 49 (by kernel_rfl)) ?_
          refine nr ?_; intro U h; simp only [z0, z1] at h; subst h
          refine s_gvalY 22 rfl rfl y17 rfl (.int .i64 x.na) (ldEna _ rfl g1 rfl (kg1)) ?_
          refine nr ?_; intro U h; simp only [z0, z1] at h; subst h
          refine s_gvalY 23 rfl rfl y17 rfl (.bool false) (run_leqT 3 _ _ _ rfl x.na 5 rfl rfl false h4 _) ?_
          refine nr ?_; intro U h; simp only [z0, z1] at h; subst h
          refine s_val 24 rfl rfl (.bool false) (rfl) ?_
          refine nr ?_; intro U h; simp only [z0, z1] at h; subst h
          refine s_val 25 rfl rfl (.bool false) (rfl) ?_
          refine nr ?_; intro U h; simp only [z0, z1] at h; subst h
          refine s_skipY 26 rfl rfl y22 rfl ?_
          refine nr ?_; intro U h; simp only [z0, z1] at h; subst h
          refine s_skipY 27 rfl rfl y22 rfl ?_
          refine nr ?_; intro U h; simp only [z0, z1] at h; subst h
          refine s_skipY 28 rfl rfl y22 rfl ?_
          refine nr ?_; intro U h; simp only [z0, z1] at h; subst h
          refine s_val 29 rfl rfl (.bool false) (rfl) ?_
          refine nr ?_; intro U h; simp only [z0, z1] at h; subst h
          refine s_val 30 rfl rfl (.bool false) (rfl) ?_
          refine nr ?_; intro U h; simp only [z0, z1] at h; subst h
          refine s_skipY 31 rfl rfl y27 rfl ?_
          refine nr ?_; intro U h; simp only [z0, z1] at h; subst h
          refine s_skipY 32 rfl rfl y27 rfl ?_
          refine nr ?_; intro U h; simp only [z0, z1] at h; subst h
          refine s_skipY 33 rfl rfl y27 rfl ?_
          refine nr ?_; intro U h; simp only [z0, z1] at h; subst h
          refine s_val 34 rfl rfl (.bool false) (rfl) ?_
          refine nr ?_; intro U h; simp only [z0, z1] at h; subst h
          refine s_val 2 rfl rfl (.bool false) (rfl) ?_
          refine nr ?_; intro U h; simp only [z0, z1] at h; subst h
          refine wpList_nil ?_
          refine then_n ?_
          refine wp_ret ?_
          refine bodyPost_ret (results_tmp Try.results24 _ _ _) rfl ?_
          refine ⟨congrArg (fun b => Ending.returned (.bool b)) ?_, GG⟩
          simp only [decide_eq_true_eq, decide_eq_false_iff_not] at *
          symm
          rw [Bool.eq_false_iff]
          intro h
          have h0 := rgt_iff.1 h
          omega
        · cases h5 : decide (-1 ≤ x.nb)
          · refine wp_region_opq ?_
            intro OPS hY
            have y5 := hY 5 8 rfl
            have y12 := hY 12 15 rfl
            have y17 := hY 17 20 rfl
            have y22 := hY 22 25 rfl
            have y27 := hY 27 30 rfl
            clear hY
            refine s_val 3 rfl rfl (.pointer (some ⟨g1, 17, none⟩)) (run_fld 39 _ 1 rfl g1 0 rfl 17 (by kernel_rfl)) ?_
            refine nr ?_; intro U h; simp only [z0, z1] at h; subst h
            refine s_val 4 rfl rfl (.agg (idA x.a)) (ldEa _ rfl g1 rfl (kg1)) ?_
            refine nr ?_; intro U h; simp only [z0, z1] at h; subst h
            refine s_val 5 rfl rfl (.pointer (some ⟨g1, 33, none⟩)) (run_fld 39 _ 2 rfl g1 0 rfl 33 (by kernel_rfl)) ?_
            refine nr ?_; intro U h; simp only [z0, z1] at h; subst h
            refine s_val 6 rfl rfl (.agg (idA x.b)) (ldEb _ rfl g1 rfl (kg1)) ?_
            refine nr ?_; intro U h; simp only [z0, z1] at h; subst h
            refine s_val 7 rfl rfl (.bool true) (run_neI _ _ _ rfl _ _ rfl rfl hx.a hx.b true h1) ?_
            refine nr ?_; intro U h; simp only [z0, z1] at h; subst h
            refine s_val 8 rfl rfl (.bool true) (rfl) ?_
            refine nr ?_; intro U h; simp only [z0, z1] at h; subst h
            refine s_gvalY 9 rfl rfl y5 rfl (.pointer (some ⟨g1, 49, none⟩)) (run_fld 39 _ 3 rfl g1 0 rfl 49 (by kernel_rfl)) ?_
            refine nr ?_; intro U h; simp only [z0, z1] at h; subst h
            refine s_gvalY 10 rfl rfl y5 rfl (.int .i64 x.na) (ldEna _ rfl g1 rfl (kg1)) ?_
            refine nr ?_; intro U h; simp only [z0, z1] at h; subst h
            refine s_gvalY 11 rfl rfl y5 rfl (.pointer (some ⟨g1, 50, none⟩)) (run_fld 39 _ 4 rfl g1 0 rfl 50 (by kernel_rfl)) ?_
            refine nr ?_; intro U h; simp only [z0, z1] at h; subst h
            refine s_gvalY 12 rfl rfl y5 rfl (.int .i64 x.nb) (ldEnb _ rfl g1 rfl (kg1)) ?_
            refine nr ?_; intro U h; simp only [z0, z1] at h; subst h
            refine s_gvalY 13 rfl rfl y5 rfl (.bool true) (run_neq_k 3 .i64 _ _ _ rfl Try.underlying3 x.na x.nb rfl rfl true h2 _) ?_
            refine nr ?_; intro U h; simp only [z0, z1] at h; subst h
            refine s_val 14 rfl rfl (.bool true) (rfl) ?_
            refine nr ?_; intro U h; simp only [z0, z1] at h; subst h
            refine s_val 15 rfl rfl (.bool true) (rfl) ?_
            refine nr ?_; intro U h; simp only [z0, z1] at h; subst h
            refine s_gvalY 16 rfl rfl y12 rfl (.pointer (some ⟨g1, 49, none⟩)) (run_fld 39 _ 3 rfl g1 0 rfl 49 (by kernel_rfl)) ?_
            refine nr ?_; intro U h; simp only [z0, z1] at h; subst h
            refine s_gvalY 17 rfl rfl y12 rfl (.int .i64 x.na) (ldEna _ rfl g1 rfl (kg1)) ?_
            refine nr ?_; intro U h; simp only [z0, z1] at h; subst h
            refine s_gvalY 18 rfl rfl y12 rfl (.bool true) (run_geqT 3 _ _ _ rfl x.na (-1) rfl rfl true h3 _) ?_
            refine nr ?_; intro U h; simp only [z0, z1] at h; subst h
            refine s_val 19 rfl rfl (.bool true) (rfl) ?_
            refine nr ?_; intro U h; simp only [z0, z1] at h; subst h
            refine s_val 20 rfl rfl (.bool true) (rfl) ?_
            refine nr ?_; intro U h; simp only [z0, z1] at h; subst h
            refine s_gvalY 21 rfl rfl y17 rfl (.pointer (some ⟨g1, 49, none⟩)) (run_fld 39 _ 3 rfl g1 0 rfl 49 (by kernel_rfl)) ?_
            refine nr ?_; intro U h; simp only [z0, z1] at h; subst h
            refine s_gvalY 22 rfl rfl y17 rfl (.int .i64 x.na) (ldEna _ rfl g1 rfl (kg1)) ?_
            refine nr ?_; intro U h; simp only [z0, z1] at h; subst h
            refine s_gvalY 23 rfl rfl y17 rfl (.bool true) (run_leqT 3 _ _ _ rfl x.na 5 rfl rfl true h4 _) ?_
            refine nr ?_; intro U h; simp only [z0, z1] at h; subst h
            refine s_val 24 rfl rfl (.bool true) (rfl) ?_
            refine nr ?_; intro U h; simp only [z0, z1] at h; subst h
            refine s_val 25 rfl rfl (.bool true) (rfl) ?_
            refine nr ?_; intro U h; simp only [z0, z1] at h; subst h
            refine s_gvalY 26 rfl rfl y22 rfl (.pointer (some ⟨g1, 50, none⟩)) (run_fld 39 _ 4 rfl g1 0 rfl 50 (by kernel_rfl)) ?_
            refine nr ?_; intro U h; simp only [z0, z1] at h; subst h
            refine s_gvalY 27 rfl rfl y22 rfl (.int .i64 x.nb) (ldEnb _ rfl g1 rfl (kg1)) ?_
            refine nr ?_; intro U h; simp only [z0, z1] at h; subst h
            refine s_gvalY 28 rfl rfl y22 rfl (.bool false) (run_geqT 3 _ _ _ rfl x.nb (-1) rfl rfl false h5 _) ?_
            refine nr ?_; intro U h; simp only [z0, z1] at h; subst h
            refine s_val 29 rfl rfl (.bool false) (rfl) ?_
            refine nr ?_; intro U h; simp only [z0, z1] at h; subst h
            refine s_val 30 rfl rfl (.bool false) (rfl) ?_
            refine nr ?_; intro U h; simp only [z0, z1] at h; subst h
            refine s_skipY 31 rfl rfl y27 rfl ?_
            refine nr ?_; intro U h; simp only [z0, z1] at h; subst h
            refine s_skipY 32 rfl rfl y27 rfl ?_
            refine nr ?_; intro U h; simp only [z0, z1] at h; subst h
            refine s_skipY 33 rfl rfl y27 rfl ?_
            refine nr ?_; intro U h; simp only [z0, z1] at h; subst h
            refine s_val 34 rfl rfl (.bool false) (rfl) ?_
            refine nr ?_; intro U h; simp only [z0, z1] at h; subst h
            refine s_val 2 rfl rfl (.bool false) (rfl) ?_
            refine nr ?_; intro U h; simp only [z0, z1] at h; subst h
            refine wpList_nil ?_
            refine then_n ?_
            refine wp_ret ?_
            refine bodyPost_ret (results_tmp Try.results24 _ _ _) rfl ?_
            refine ⟨congrArg (fun b => Ending.returned (.bool b)) ?_, GG⟩
            simp only [decide_eq_true_eq, decide_eq_false_iff_not] at *
            symm
            rw [Bool.eq_false_iff]
            intro h
            have h0 := rgt_iff.1 h
            omega
          · cases h6 : decide (x.nb ≤ 5)
            · refine wp_region_opq ?_
              intro OPS hY
              have y5 := hY 5 8 rfl
              have y12 := hY 12 15 rfl
              have y17 := hY 17 20 rfl
              have y22 := hY 22 25 rfl
              have y27 := hY 27 30 rfl
              clear hY
              refine s_val 3 rfl rfl (.pointer (some ⟨g1, 17, none⟩)) (run_fld 39 _ 1 rfl g1 0 rfl 17 (by kernel_rfl)) ?_
              refine nr ?_; intro U h; simp only [z0, z1] at h; subst h
              refine s_val 4 rfl rfl (.agg (idA x.a)) (ldEa _ rfl g1 rfl (kg1)) ?_
              refine nr ?_; intro U h; simp only [z0, z1] at h; subst h
              refine s_val 5 rfl rfl (.pointer (some ⟨g1, 33, none⟩)) (run_fld 39 _ 2 rfl g1 0 rfl 33 (by kernel_rfl)) ?_
              refine nr ?_; intro U h; simp only [z0, z1] at h; subst h
              refine s_val 6 rfl rfl (.agg (idA x.b)) (ldEb _ rfl g1 rfl (kg1)) ?_
              refine nr ?_; intro U h; simp only [z0, z1] at h; subst h
              refine s_val 7 rfl rfl (.bool true) (run_neI _ _ _ rfl _ _ rfl rfl hx.a hx.b true h1) ?_
              refine nr ?_; intro U h; simp only [z0, z1] at h; subst h
              refine s_val 8 rfl rfl (.bool true) (rfl) ?_
              refine nr ?_; intro U h; simp only [z0, z1] at h; subst h
              refine s_gvalY 9 rfl rfl y5 rfl (.pointer (some ⟨g1, 49, none⟩)) (run_fld 39 _ 3 rfl g1 0 rfl 49 (by kernel_rfl)) ?_
              refine nr ?_; intro U h; simp only [z0, z1] at h; subst h
              refine s_gvalY 10 rfl rfl y5 rfl (.int .i64 x.na) (ldEna _ rfl g1 rfl (kg1)) ?_
              refine nr ?_; intro U h; simp only [z0, z1] at h; subst h
              refine s_gvalY 11 rfl rfl y5 rfl (.pointer (some ⟨g1, 50, none⟩)) (run_fld 39 _ 4 rfl g1 0 rfl 50 (by kernel_rfl)) ?_
              refine nr ?_; intro U h; simp only [z0, z1] at h; subst h
              refine s_gvalY 12 rfl rfl y5 rfl (.int .i64 x.nb) (ldEnb _ rfl g1 rfl (kg1)) ?_
              refine nr ?_; intro U h; simp only [z0, z1] at h; subst h
              refine s_gvalY 13 rfl rfl y5 rfl (.bool true) (run_neq_k 3 .i64 _ _ _ rfl Try.underlying3 x.na x.nb rfl rfl true h2 _) ?_
              refine nr ?_; intro U h; simp only [z0, z1] at h; subst h
              refine s_val 14 rfl rfl (.bool true) (rfl) ?_
              refine nr ?_; intro U h; simp only [z0, z1] at h; subst h
              refine s_val 15 rfl rfl (.bool true) (rfl) ?_
              refine nr ?_; intro U h; simp only [z0, z1] at h; subst h
              refine s_gvalY 16 rfl rfl y12 rfl (.pointer (some ⟨g1, 49, none⟩)) (run_fld 39 _ 3 rfl g1 0 rfl 49 (by kernel_rfl)) ?_
              refine nr ?_; intro U h; simp only [z0, z1] at h; subst h
              refine s_gvalY 17 rfl rfl y12 rfl (.int .i64 x.na) (ldEna _ rfl g1 rfl (kg1)) ?_
              refine nr ?_; intro U h; simp only [z0, z1] at h; subst h
              refine s_gvalY 18 rfl rfl y12 rfl (.bool true) (run_geqT 3 _ _ _ rfl x.na (-1) rfl rfl true h3 _) ?_
              refine nr ?_; intro U h; simp only [z0, z1] at h; subst h
              refine s_val 19 rfl rfl (.bool true) (rfl) ?_
              refine nr ?_; intro U h; simp only [z0, z1] at h; subst h
              refine s_val 20 rfl rfl (.bool true) (rfl) ?_
              refine nr ?_; intro U h; simp only [z0, z1] at h; subst h
              refine s_gvalY 21 rfl rfl y17 rfl (.pointer (some ⟨g1, 49, none⟩)) (run_fld 39 _ 3 rfl g1 0 rfl 49 (by kernel_rfl)) ?_
              refine nr ?_; intro U h; simp only [z0, z1] at h; subst h
              refine s_gvalY 22 rfl rfl y17 rfl (.int .i64 x.na) (ldEna _ rfl g1 rfl (kg1)) ?_
              refine nr ?_; intro U h; simp only [z0, z1] at h; subst h
              refine s_gvalY 23 rfl rfl y17 rfl (.bool true) (run_leqT 3 _ _ _ rfl x.na 5 rfl rfl true h4 _) ?_
              refine nr ?_; intro U h; simp only [z0, z1] at h; subst h
              refine s_val 24 rfl rfl (.bool true) (rfl) ?_
              refine nr ?_; intro U h; simp only [z0, z1] at h; subst h
              refine s_val 25 rfl rfl (.bool true) (rfl) ?_
              refine nr ?_; intro U h; simp only [z0, z1] at h; subst h
              refine s_gvalY 26 rfl rfl y22 rfl (.pointer (some ⟨g1, 50, none⟩)) (run_fld 39 _ 4 rfl g1 0 rfl 50 (by kernel_rfl)) ?_
              refine nr ?_; intro U h; simp only [z0, z1] at h; subst h
              refine s_gvalY 27 rfl rfl y22 rfl (.int .i64 x.nb) (ldEnb _ rfl g1 rfl (kg1)) ?_
              refine nr ?_; intro U h; simp only [z0, z1] at h; subst h
              refine s_gvalY 28 rfl rfl y22 rfl (.bool true) (run_geqT 3 _ _ _ rfl x.nb (-1) rfl rfl true h5 _) ?_
              refine nr ?_; intro U h; simp only [z0, z1] at h; subst h
              refine s_val 29 rfl rfl (.bool true) (rfl) ?_
              refine nr ?_; intro U h; simp only [z0, z1] at h; subst h
              refine s_val 30 rfl rfl (.bool true) (rfl) ?_
              refine nr ?_; intro U h; simp only [z0, z1] at h; subst h
              refine s_gvalY 31 rfl rfl y27 rfl (.pointer (some ⟨g1, 50, none⟩)) (run_fld 39 _ 4 rfl g1 0 rfl 50 (by kernel_rfl)) ?_
              refine nr ?_; intro U h; simp only [z0, z1] at h; subst h
              refine s_gvalY 32 rfl rfl y27 rfl (.int .i64 x.nb) (ldEnb _ rfl g1 rfl (kg1)) ?_
              refine nr ?_; intro U h; simp only [z0, z1] at h; subst h
              refine s_gvalY 33 rfl rfl y27 rfl (.bool false) (run_leqT 3 _ _ _ rfl x.nb 5 rfl rfl false h6 _) ?_
              refine nr ?_; intro U h; simp only [z0, z1] at h; subst h
              refine s_val 34 rfl rfl (.bool false) (rfl) ?_
              refine nr ?_; intro U h; simp only [z0, z1] at h; subst h
              refine s_val 2 rfl rfl (.bool false) (rfl) ?_
              refine nr ?_; intro U h; simp only [z0, z1] at h; subst h
              refine wpList_nil ?_
              refine then_n ?_
              refine wp_ret ?_
              refine bodyPost_ret (results_tmp Try.results24 _ _ _) rfl ?_
              refine ⟨congrArg (fun b => Ending.returned (.bool b)) ?_, GG⟩
              simp only [decide_eq_true_eq, decide_eq_false_iff_not] at *
              symm
              rw [Bool.eq_false_iff]
              intro h
              have h0 := rgt_iff.1 h
              omega
            · refine wp_region_opq ?_
              intro OPS hY
              have y5 := hY 5 8 rfl
              have y12 := hY 12 15 rfl
              have y17 := hY 17 20 rfl
              have y22 := hY 22 25 rfl
              have y27 := hY 27 30 rfl
              clear hY
              refine s_val 3 rfl rfl (.pointer (some ⟨g1, 17, none⟩)) (run_fld 39 _ 1 rfl g1 0 rfl 17 (by kernel_rfl)) ?_
              refine nr ?_; intro U h; simp only [z0, z1] at h; subst h
              refine s_val 4 rfl rfl (.agg (idA x.a)) (ldEa _ rfl g1 rfl (kg1)) ?_
              refine nr ?_; intro U h; simp only [z0, z1] at h; subst h
              refine s_val 5 rfl rfl (.pointer (some ⟨g1, 33, none⟩)) (run_fld 39 _ 2 rfl g1 0 rfl 33 (by kernel_rfl)) ?_
              refine nr ?_; intro U h; simp only [z0, z1] at h; subst h
              refine s_val 6 rfl rfl (.agg (idA x.b)) (ldEb _ rfl g1 rfl (kg1)) ?_
              refine nr ?_; intro U h; simp only [z0, z1] at h; subst h
              refine s_val 7 rfl rfl (.bool true) (run_neI _ _ _ rfl _ _ rfl rfl hx.a hx.b true h1) ?_
              refine nr ?_; intro U h; simp only [z0, z1] at h; subst h
              refine s_val 8 rfl rfl (.bool true) (rfl) ?_
              refine nr ?_; intro U h; simp only [z0, z1] at h; subst h
              refine s_gvalY 9 rfl rfl y5 rfl (.pointer (some ⟨g1, 49, none⟩)) (run_fld 39 _ 3 rfl g1 0 rfl 49 (by kernel_rfl)) ?_
              refine nr ?_; intro U h; simp only [z0, z1] at h; subst h
              refine s_gvalY 10 rfl rfl y5 rfl (.int .i64 x.na) (ldEna _ rfl g1 rfl (kg1)) ?_
              refine nr ?_; intro U h; simp only [z0, z1] at h; subst h
              refine s_gvalY 11 rfl rfl y5 rfl (.pointer (some ⟨g1, 50, none⟩)) (run_fld 39 _ 4 rfl g1 0 rfl 50 (by kernel_rfl)) ?_
              refine nr ?_; intro U h; simp only [z0, z1] at h; subst h
              refine s_gvalY 12 rfl rfl y5 rfl (.int .i64 x.nb) (ldEnb _ rfl g1 rfl (kg1)) ?_
              refine nr ?_; intro U h; simp only [z0, z1] at h; subst h
              refine s_gvalY 13 rfl rfl y5 rfl (.bool true) (run_neq_k 3 .i64 _ _ _ rfl Try.underlying3 x.na x.nb rfl rfl true h2 _) ?_
              refine nr ?_; intro U h; simp only [z0, z1] at h; subst h
              refine s_val 14 rfl rfl (.bool true) (rfl) ?_
              refine nr ?_; intro U h; simp only [z0, z1] at h; subst h
              refine s_val 15 rfl rfl (.bool true) (rfl) ?_
              refine nr ?_; intro U h; simp only [z0, z1] at h; subst h
              refine s_gvalY 16 rfl rfl y12 rfl (.pointer (some ⟨g1, 49, none⟩)) (run_fld 39 _ 3 rfl g1 0 rfl 49 (by kernel_rfl)) ?_
              refine nr ?_; intro U h; simp only [z0, z1] at h; subst h
              refine s_gvalY 17 rfl rfl y12 rfl (.int .i64 x.na) (ldEna _ rfl g1 rfl (kg1)) ?_
              refine nr ?_; intro U h; simp only [z0, z1] at h; subst h
              refine s_gvalY 18 rfl rfl y12 rfl (.bool true) (run_geqT 3 _ _ _ rfl x.na (-1) rfl rfl true h3 _) ?_
              refine nr ?_; intro U h; simp only [z0, z1] at h; subst h
              refine s_val 19 rfl rfl (.bool true) (rfl) ?_
              refine nr ?_; intro U h; simp only [z0, z1] at h; subst h
              refine s_val 20 rfl rfl (.bool true) (rfl) ?_
              refine nr ?_; intro U h; simp only [z0, z1] at h; subst h
              refine s_gvalY 21 rfl rfl y17 rfl (.pointer (some ⟨g1, 49, none⟩)) (run_fld 39 _ 3 rfl g1 0 rfl 49 (by kernel_rfl)) ?_
              refine nr ?_; intro U h; simp only [z0, z1] at h; subst h
              refine s_gvalY 22 rfl rfl y17 rfl (.int .i64 x.na) (ldEna _ rfl g1 rfl (kg1)) ?_
              refine nr ?_; intro U h; simp only [z0, z1] at h; subst h
              refine s_gvalY 23 rfl rfl y17 rfl (.bool true) (run_leqT 3 _ _ _ rfl x.na 5 rfl rfl true h4 _) ?_
              refine nr ?_; intro U h; simp only [z0, z1] at h; subst h
              refine s_val 24 rfl rfl (.bool true) (rfl) ?_
              refine nr ?_; intro U h; simp only [z0, z1] at h; subst h
              refine s_val 25 rfl rfl (.bool true) (rfl) ?_
              refine nr ?_; intro U h; simp only [z0, z1] at h; subst h
              refine s_gvalY 26 rfl rfl y22 rfl (.pointer (some ⟨g1, 50, none⟩)) (run_fld 39 _ 4 rfl g1 0 rfl 50 (by kernel_rfl)) ?_
              refine nr ?_; intro U h; simp only [z0, z1] at h; subst h
              refine s_gvalY 27 rfl rfl y22 rfl (.int .i64 x.nb) (ldEnb _ rfl g1 rfl (kg1)) ?_
              refine nr ?_; intro U h; simp only [z0, z1] at h; subst h
              refine s_gvalY 28 rfl rfl y22 rfl (.bool true) (run_geqT 3 _ _ _ rfl x.nb (-1) rfl rfl true h5 _) ?_
              refine nr ?_; intro U h; simp only [z0, z1] at h; subst h
              refine s_val 29 rfl rfl (.bool true) (rfl) ?_
              refine nr ?_; intro U h; simp only [z0, z1] at h; subst h
              refine s_val 30 rfl rfl (.bool true) (rfl) ?_
              refine nr ?_; intro U h; simp only [z0, z1] at h; subst h
              refine s_gvalY 31 rfl rfl y27 rfl (.pointer (some ⟨g1, 50, none⟩)) (run_fld 39 _ 4 rfl g1 0 rfl 50 (by kernel_rfl)) ?_
              refine nr ?_; intro U h; simp only [z0, z1] at h; subst h
              refine s_gvalY 32 rfl rfl y27 rfl (.int .i64 x.nb) (ldEnb _ rfl g1 rfl (kg1)) ?_
              refine nr ?_; intro U h; simp only [z0, z1] at h; subst h
              refine s_gvalY 33 rfl rfl y27 rfl (.bool true) (run_leqT 3 _ _ _ rfl x.nb 5 rfl rfl true h6 _) ?_
              refine nr ?_; intro U h; simp only [z0, z1] at h; subst h
              refine s_val 34 rfl rfl (.bool true) (rfl) ?_
              refine nr ?_; intro U h; simp only [z0, z1] at h; subst h
              refine s_val 2 rfl rfl (.bool true) (rfl) ?_
              refine nr ?_; intro U h; simp only [z0, z1] at h; subst h
              refine wpList_nil ?_
              refine then_n ?_
              refine wp_ret ?_
              refine bodyPost_ret (results_tmp Try.results24 _ _ _) rfl ?_
              refine ⟨congrArg (fun b => Ending.returned (.bool b)) ?_, GG⟩
              simp only [decide_eq_true_eq, decide_eq_false_iff_not] at *
              symm
              rw [rgt_iff]
              omega
    · refine wp_region_opq ?_
      intro OPS hY
      have y5 := hY 5 8 rfl
      have y12 := hY 12 15 rfl
      have y17 := hY 17 20 rfl
      have y22 := hY 22 25 rfl
      have y27 := hY 27 30 rfl
      clear hY
      refine s_val 3 rfl rfl (.pointer (some ⟨g1, 17, none⟩)) (run_fld 39 _ 1 rfl g1 0 rfl 17 (by kernel_rfl)) ?_
      refine nr ?_; intro U h; simp only [z0, z1] at h; subst h
      refine s_val 4 rfl rfl (.agg (idA x.a)) (ldEa _ rfl g1 rfl (kg1)) ?_
      refine nr ?_; intro U h; simp only [z0, z1] at h; subst h
      refine s_val 5 rfl rfl (.pointer (some ⟨g1, 33, none⟩)) (run_fld 39 _ 2 rfl g1 0 rfl 33 (by kernel_rfl)) ?_
      refine nr ?_; intro U h; simp only [z0, z1] at h; subst h
      refine s_val 6 rfl rfl (.agg (idA x.b)) (ldEb _ rfl g1 rfl (kg1)) ?_
      refine nr ?_; intro U h; simp only [z0, z1] at h; subst h
      refine s_val 7 rfl rfl (.bool true) (run_neI _ _ _ rfl _ _ rfl rfl hx.a hx.b true h1) ?_
      refine nr ?_; intro U h; simp only [z0, z1] at h; subst h
      refine s_val 8 rfl rfl (.bool true) (rfl) ?_
      refine nr ?_; intro U h; simp only [z0, z1] at h; subst h
      refine s_gvalY 9 rfl rfl y5 rfl (.pointer (some ⟨g1, 49, none⟩)) (run_fld 39 _ 3 rfl g1 0 rfl 49 (by kernel_rfl)) ?_
      refine nr ?_; intro U h; simp only [z0, z1] at h; subst h
      refine s_gvalY 10 rfl rfl y5 rfl (.int .i64 x.na) (ldEna _ rfl g1 rfl (kg1)) ?_
      refine nr ?_; intro U h; simp only [z0, z1] at h; subst h
      refine s_gvalY 11 rfl rfl y5 rfl (.pointer (some ⟨g1, 50, none⟩)) (run_fld 39 _ 4 rfl g1 0 rfl 50 (by kernel_rfl)) ?_
      refine nr ?_; intro U h; simp only [z0, z1] at h; subst h
      refine s_gvalY 12 rfl rfl y5 rfl (.int .i64 x.nb) (ldEnb _ rfl g1 rfl (kg1)) ?_
      refine nr ?_; intro U h; simp only [z0, z1] at h; subst h
      refine s_gvalY 13 rfl rfl y5 rfl (.bool false) (run_neq_k 3 .i64 _ _ _ rfl Try.underlying3 x.na x.nb rfl rfl false h2 _) ?_
      refine nr ?_; intro U h; simp only [z0, z1] at h; subst h
      refine s_val 14 rfl rfl (.bool false) (rfl) ?_
      refine nr ?_; intro U h; simp only [z0, z1] at h; subst h
      refine s_val 15 rfl rfl (.bool false) (rfl) ?_
      refine nr ?_; intro U h; simp only [z0, z1] at h; subst h
      refine s_skipY 16 rfl rfl y12 rfl ?_
      refine nr ?_; intro U h; simp only [z0, z1] at h; subst h
      refine s_skipY 17 rfl rfl y12 rfl ?_
      refine nr ?_; intro U h; simp only [z0, z1] at h; subst h
      refine s_skipY 18 rfl rfl y12 rfl ?_
      refine nr ?_; intro U h; simp only [z0, z1] at h; subst h
      refine s_val 19 rfl rfl (.bool false) (rfl) ?_
      refine nr ?_; intro U h; simp only [z0, z1] at h; subst h
      refine s_val 20 rfl rfl (.bool false) (rfl) ?_
      refine nr ?_; intro U h; simp only [z0, z1] at h; subst h
      refine s_skipY 21 rfl rfl y17 rfl ?_
      refine nr ?_; intro U h; simp only [z0, z1] at h; subst h
      refine s_skipY 22 rfl rfl y17 rfl ?_
      refine nr ?_; intro U h; simp only [z0, z1] at h; subst h
      refine s_skipY 23 rfl rfl y17 rfl ?_
      refine nr ?_; intro U h; simp only [z0, z1] at h; subst h
      refine s_val 24 rfl rfl (.bool false) (rfl) ?_
      refine nr ?_; intro U h; simp only [z0, z1] at h; subst h
      refine s_val 25 rfl rfl (.bool false) (rfl) ?_
      refine nr ?_; intro U h; simp only [z0, z1] at h; subst h
      refine s_skipY 26 rfl rfl y22 rfl ?_
      refine nr ?_; intro U h; simp only [z0, z1] at h; subst h
      refine s_skipY 27 rfl rfl y22 rfl ?_
      refine nr ?_; intro U h; simp only [z0, z1] at h; subst h
      refine s_skipY 28 rfl rfl y22 rfl ?_
      refine nr ?_; intro U h; simp only [z0, z1] at h; subst h
      refine s_val 29 rfl rfl (.bool false) (rfl) ?_
      refine nr ?_; intro U h; simp only [z0, z1] at h; subst h
      refine s_val 30 rfl rfl (.bool false) (rfl) ?_
      refine nr ?_; intro U h; simp only [z0, z1] at h; subst h
      refine s_skipY 31 rfl rfl y27 rfl ?_
      refine nr ?_; intro U h; simp only [z0, z1] at h; subst h
      refine s_skipY 32 rfl rfl y27 rfl ?_
      refine nr ?_; intro U h; simp only [z0, z1] at h; subst h
      refine s_skipY 33 rfl rfl y27 rfl ?_
      refine nr ?_; intro U h; simp only [z0, z1] at h; subst h
      refine s_val 34 rfl rfl (.bool false) (rfl) ?_
      refine nr ?_; intro U h; simp only [z0, z1] at h; subst h
      refine s_val 2 rfl rfl (.bool false) (rfl) ?_
      refine nr ?_; intro U h; simp only [z0, z1] at h; subst h
      refine wpList_nil ?_
      refine then_n ?_
      refine wp_ret ?_
      refine bodyPost_ret (results_tmp Try.results24 _ _ _) rfl ?_
      refine ⟨congrArg (fun b => Ending.returned (.bool b)) ?_, GG⟩
      simp only [decide_eq_true_eq, decide_eq_false_iff_not] at *
      symm
      rw [Bool.eq_false_iff]
      intro h
      have h0 := rgt_iff.1 h
      omega
  · refine wp_region_opq ?_
    intro OPS hY
    have y5 := hY 5 8 rfl
    have y12 := hY 12 15 rfl
    have y17 := hY 17 20 rfl
    have y22 := hY 22 25 rfl
    have y27 := hY 27 30 rfl
    clear hY
    refine s_val 3 rfl rfl (.pointer (some ⟨g1, 17, none⟩)) (run_fld 39 _ 1 rfl g1 0 rfl 17 (by kernel_rfl)) ?_
    refine nr ?_; intro U h; simp only [z0, z1] at h; subst h
    refine s_val 4 rfl rfl (.agg (idA x.a)) (ldEa _ rfl g1 rfl (kg1)) ?_
    refine nr ?_; intro U h; simp only [z0, z1] at h; subst h
    refine s_val 5 rfl rfl (.pointer (some ⟨g1, 33, none⟩)) (run_fld 39 _ 2 rfl g1 0 rfl 33 (by kernel_rfl)) ?_
    refine nr ?_; intro U h; simp only [z0, z1] at h; subst h
    refine s_val 6 rfl rfl (.agg (idA x.b)) (ldEb _ rfl g1 rfl (kg1)) ?_
    refine nr ?_; intro U h; simp only [z0, z1] at h; subst h
    refine s_val 7 rfl rfl (.bool false) (run_neI _ _ _ rfl _ _ rfl rfl hx.a hx.b false h1) ?_
    refine nr ?_; intro U h; simp only [z0, z1] at h; subst h
    refine s_val 8 rfl rfl (.bool false) (rfl) ?_
    refine nr ?_; intro U h; simp only [z0, z1] at h; subst h
    refine s_skipY 9 rfl rfl y5 rfl ?_
    refine nr ?_; intro U h; simp only [z0, z1] at h; subst h
    refine s_skipY 10 rfl rfl y5 rfl ?_
    refine nr ?_; intro U h; simp only [z0, z1] at h; subst h
    refine s_skipY 11 rfl rfl y5 rfl ?_
    refine nr ?_; intro U h; simp only [z0, z1] at h; subst h
    refine s_skipY 12 rfl rfl y5 rfl ?_
    refine nr ?_; intro U h; simp only [z0, z1] at h; subst h
    refine s_skipY 13 rfl rfl y5 rfl ?_
    refine nr ?_; intro U h; simp only [z0, z1] at h; subst h
    refine s_val 14 rfl rfl (.bool false) (rfl) ?_
    refine nr ?_; intro U h; simp only [z0, z1] at h; subst h
    refine s_val 15 rfl rfl (.bool false) (rfl) ?_
    refine nr ?_; intro U h; simp only [z0, z1] at h; subst h
    refine s_skipY 16 rfl rfl y12 rfl ?_
    refine nr ?_; intro U h; simp only [z0, z1] at h; subst h
    refine s_skipY 17 rfl rfl y12 rfl ?_
    refine nr ?_; intro U h; simp only [z0, z1] at h; subst h
    refine s_skipY 18 rfl rfl y12 rfl ?_
    refine nr ?_; intro U h; simp only [z0, z1] at h; subst h
    refine s_val 19 rfl rfl (.bool false) (rfl) ?_
    refine nr ?_; intro U h; simp only [z0, z1] at h; subst h
    refine s_val 20 rfl rfl (.bool false) (rfl) ?_
    refine nr ?_; intro U h; simp only [z0, z1] at h; subst h
    refine s_skipY 21 rfl rfl y17 rfl ?_
    refine nr ?_; intro U h; simp only [z0, z1] at h; subst h
    refine s_skipY 22 rfl rfl y17 rfl ?_
    refine nr ?_; intro U h; simp only [z0, z1] at h; subst h
    refine s_skipY 23 rfl rfl y17 rfl ?_
    refine nr ?_; intro U h; simp only [z0, z1] at h; subst h
    refine s_val 24 rfl rfl (.bool false) (rfl) ?_
    refine nr ?_; intro U h; simp only [z0, z1] at h; subst h
    refine s_val 25 rfl rfl (.bool false) (rfl) ?_
    refine nr ?_; intro U h; simp only [z0, z1] at h; subst h
    refine s_skipY 26 rfl rfl y22 rfl ?_
    refine nr ?_; intro U h; simp only [z0, z1] at h; subst h
    refine s_skipY 27 rfl rfl y22 rfl ?_
    refine nr ?_; intro U h; simp only [z0, z1] at h; subst h
    refine s_skipY 28 rfl rfl y22 rfl ?_
    refine nr ?_; intro U h; simp only [z0, z1] at h; subst h
    refine s_val 29 rfl rfl (.bool false) (rfl) ?_
    refine nr ?_; intro U h; simp only [z0, z1] at h; subst h
    refine s_val 30 rfl rfl (.bool false) (rfl) ?_
    refine nr ?_; intro U h; simp only [z0, z1] at h; subst h
    refine s_skipY 31 rfl rfl y27 rfl ?_
    refine nr ?_; intro U h; simp only [z0, z1] at h; subst h
    refine s_skipY 32 rfl rfl y27 rfl ?_
    refine nr ?_; intro U h; simp only [z0, z1] at h; subst h
    refine s_skipY 33 rfl rfl y27 rfl ?_
    refine nr ?_; intro U h; simp only [z0, z1] at h; subst h
    refine s_val 34 rfl rfl (.bool false) (rfl) ?_
    refine nr ?_; intro U h; simp only [z0, z1] at h; subst h
    refine s_val 2 rfl rfl (.bool false) (rfl) ?_
    refine nr ?_; intro U h; simp only [z0, z1] at h; subst h
    refine wpList_nil ?_
    refine then_n ?_
    refine wp_ret ?_
    refine bodyPost_ret (results_tmp Try.results24 _ _ _) rfl ?_
    refine ⟨congrArg (fun b => Ending.returned (.bool b)) ?_, GG⟩
    simp only [decide_eq_true_eq] at *
    symm
    rw [Bool.eq_false_iff]
    intro h
    have h0 := rgt_iff.1 h
    omega
end Go.Proofs.Ytmpnepbmpmkmkab
