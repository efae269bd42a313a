/- Calls on keys and entries: less, right, the other end. -/
import Derived.Test.YtkjnefgenffhcaaGP7
import Derived.Test.YtkjnefgenffhcaaGBase
import Derived.Test.YtkjnefgenffhcaaGNum
namespace Go.Proofs.Ytkjnefgenffhcaa
open Go.RowKit Go.Maps
theorem D.Gro.old {w w' : World} (h : D.Gro w w') : Go.Proofs.Ytkjnefgenffhcaa.Gro w w' := h.below
set_option maxRecDepth 100000 in
set_option maxHeartbeats 4000000 in
theorem mayBe_any (n : Int) (w : World) : Calls Try.prog 54 #[.int .i64 n] w (fun e w' => e = .returned (.bool (decide (-1 ≤ n ∧ n < 6))) ∧ Gro w w') := by
  refine s_enter Try.func54 rfl Try.ntmps54 [.int .i64 n] [.int .i64 n, undef, undef, undef, undef, undef, undef, undef, undef] rfl ?_
  have GG := Gro.refl w
  refine wp_seq ?_
  refine wp_region_lit ?_
  refine s_val 2 rfl rfl (.bool false) (rfl) ?_
  refine nr ?_; intro U h; simp only [z0, z1] at h; subst h
  refine wpList_nil ?_
  refine then_n ?_
  refine wp_seq ?_
  refine wp_region_opq ?_
  intro OPS hY
  have y2 := hY 2 5 rfl
  clear hY
  refine s_val 3 rfl rfl (.int .i64 n) (rfl) ?_
  refine nr ?_; intro U h; simp only [z0, z1] at h; subst h
  cases h1 : decide (-1 ≤ n)
  · refine s_val 4 rfl rfl (.bool false) (run_leqT 3 _ _ _ rfl (-1) n rfl rfl false h1 _) ?_
    refine nr ?_; intro U h; simp only [z0, z1] at h; subst h
    refine s_val 5 rfl rfl (.bool false) (rfl) ?_
    refine nr ?_; intro U h; simp only [z0, z1] at h; subst h
    refine s_skipY 6 rfl rfl y2 rfl ?_
    refine nr ?_; intro U h; simp only [z0, z1] at h; subst h
    refine s_skipY 7 rfl rfl y2 rfl ?_
    refine nr ?_; intro U h; simp only [z0, z1] at h; subst h
    refine s_val 8 rfl rfl (.bool false) (rfl) ?_
    refine nr ?_; intro U h; simp only [z0, z1] at h; subst h
    refine s_val 2 rfl rfl (.bool false) (rfl) ?_
    refine nr ?_; intro U h; simp only [z0, z1] at h; subst h
    refine wpList_nil ?_
    refine then_n ?_
    refine wp_ret ?_
    refine bodyPost_ret (results_tmp Try.results54 _ _ _) rfl ?_
    refine ⟨congrArg (fun b => Ending.returned (.bool b)) ?_, GG⟩
    simp only [decide_eq_false_iff_not] at *
    symm
    rw [decide_eq_false_iff_not]
    omega
  · refine s_val 4 rfl rfl (.bool true) (run_leqT 3 _ _ _ rfl (-1) n rfl rfl true h1 _) ?_
    refine nr ?_; intro U h; simp only [z0, z1] at h; subst h
    refine s_val 5 rfl rfl (.bool true) (rfl) ?_
    refine nr ?_; intro U h; simp only [z0, z1] at h; subst h
    refine s_gvalY 6 rfl rfl y2 rfl (.int .i64 n) (rfl) ?_
    refine nr ?_; intro U h; simp only [z0, z1] at h; subst h
    cases h2 : decide (n < 6)
    · refine s_gvalY 7 rfl rfl y2 rfl (.bool false) (run_lssT 3 _ _ _ rfl n 6 rfl rfl false h2 _) ?_
      refine nr ?_; intro U h; simp only [z0, z1] at h; subst h
      refine s_val 8 rfl rfl (.bool false) (rfl) ?_
      refine nr ?_; intro U h; simp only [z0, z1] at h; subst h
      refine s_val 2 rfl rfl (.bool false) (rfl) ?_
      refine nr ?_; intro U h; simp only [z0, z1] at h; subst h
      refine wpList_nil ?_
      refine then_n ?_
      refine wp_ret ?_
      refine bodyPost_ret (results_tmp Try.results54 _ _ _) rfl ?_
      refine ⟨congrArg (fun b => Ending.returned (.bool b)) ?_, GG⟩
      simp only [decide_eq_true_eq, decide_eq_false_iff_not] at *
      symm
      rw [decide_eq_false_iff_not]
      omega
    · refine s_gvalY 7 rfl rfl y2 rfl (.bool true) (run_lssT 3 _ _ _ rfl n 6 rfl rfl true h2 _) ?_
      refine nr ?_; intro U h; simp only [z0, z1] at h; subst h
      refine s_val 8 rfl rfl (.bool true) (rfl) ?_
      refine nr ?_; intro U h; simp only [z0, z1] at h; subst h
      refine s_val 2 rfl rfl (.bool true) (rfl) ?_
      refine nr ?_; intro U h; simp only [z0, z1] at h; subst h
      refine wpList_nil ?_
      refine then_n ?_
      refine wp_ret ?_
      refine bodyPost_ret (results_tmp Try.results54 _ _ _) rfl ?_
      refine ⟨congrArg (fun b => Ending.returned (.bool b)) ?_, GG⟩
      simp only [decide_eq_true_eq] at *
      symm
      rw [decide_eq_true_eq]
      omega
set_option maxRecDepth 100000 in
set_option maxHeartbeats 4000000 in
theorem right_any (x : En) (hx : x.ok) (w : World) : Calls Try.prog 40 #[.agg (enA x)] w (fun e w' => e = .returned (.bool (rgt x)) ∧ Gro w w') := by
  refine s_enter Try.func40 rfl Try.ntmps40 [.agg (enA x)] [.agg (enA x), undef, undef, undef, undef, undef, undef, undef, undef, undef, undef, undef, undef, undef, undef, undef, undef, undef, undef, undef, undef, undef, undef, undef, undef] rfl ?_
  have GG := Gro.refl w
  refine wp_seq ?_
  refine wp_region_lit ?_
  refine s_box 1 rfl rfl 73 _ rfl _ rfl (enA x) rfl ?_
  intro w1 g1 G eg1 kg1
  have bg1 := size_base GG eg1
  replace GG := GG.trans G
  clear G
  clear eg1
  refine nr ?_; intro U h; simp only [z0, z1] at h; subst h
  refine s_val 2 rfl rfl (.bool false) (rfl) ?_
  refine nr ?_; intro U h; simp only [z0, z1] at h; subst h
  refine wpList_nil ?_
  refine then_n ?_
  refine wp_seq ?_
  cases h1 : decide (x.a = x.b)
  · cases h2 : decide (-1 ≤ x.na ∧ x.na < 6)
    · refine wp_region_opq ?_
      intro OPS hY
      have y5 := hY 5 8 rfl
      have y10 := hY 10 13 rfl
      have y15 := hY 15 18 rfl
      clear hY
      refine s_val 3 rfl rfl (.pointer (some ⟨g1, 17, none⟩)) (run_fld 73 _ 1 rfl g1 0 rfl 17 (by kernel_rfl)) ?_
      refine nr ?_; intro U h; simp only [z0, z1] at h; subst h
      refine s_val 4 rfl rfl (.agg (idA x.a)) (ldEa _ rfl g1 rfl (kg1)) ?_
      refine nr ?_; intro U h; simp only [z0, z1] at h; subst h
      refine s_val 5 rfl rfl (.pointer (some ⟨g1, 33, none⟩)) (run_fld 73 _ 2 rfl g1 0 rfl 33 (by kernel_rfl)) ?_
      refine nr ?_; intro U h; simp only [z0, z1] at h; subst h
      refine s_val 6 rfl rfl (.agg (idA x.b)) (ldEb _ rfl g1 rfl (kg1)) ?_
      refine nr ?_; intro U h; simp only [z0, z1] at h; subst h
      refine s_val 7 rfl rfl (.bool true) (run_neI _ _ _ rfl _ _ rfl rfl hx.a hx.b true h1) ?_
      refine nr ?_; intro U h; simp only [z0, z1] at h; subst h
      refine s_val 8 rfl rfl (.bool true) (rfl) ?_
      refine nr ?_; intro U h; simp only [z0, z1] at h; subst h
      refine s_gvalY 9 rfl rfl y5 rfl (.pointer (some ⟨g1, 49, none⟩)) (run_fld 73 _ 3 rfl g1 0 rfl 49 (by kernel_rfl)) ?_
      refine nr ?_; intro U h; simp only [z0, z1] at h; subst h
      refine s_gvalY 10 rfl rfl y5 rfl (.int .i64 x.na) (ldEna _ rfl g1 rfl (kg1)) ?_
      refine nr ?_; intro U h; simp only [z0, z1] at h; subst h
      refine s_gcallvY 11 rfl rfl y5 rfl _ 54 Try.call54 rfl rfl _ rfl [.int .i64 x.na] rfl (Calls.bool (mayBe_any x.na _) h2) ?_
      intro w2 G
      replace kg1 := G.has kg1
      replace GG := GG.trans G
      clear G
      refine nr ?_; intro U h; simp only [z0, z1] at h; subst h
      refine s_val 12 rfl rfl (.bool false) (rfl) ?_
      refine nr ?_; intro U h; simp only [z0, z1] at h; subst h
      refine s_val 13 rfl rfl (.bool false) (rfl) ?_
      refine nr ?_; intro U h; simp only [z0, z1] at h; subst h
      refine s_skipY 14 rfl rfl y10 rfl ?_
      refine nr ?_; intro U h; simp only [z0, z1] at h; subst h
      refine s_skipY 15 rfl rfl y10 rfl ?_
      refine nr ?_; intro U h; simp only [z0, z1] at h; subst h
      refine s_skipY 16 rfl rfl y10 rfl ?_
      refine nr ?_; intro U h; simp only [z0, z1] at h; subst h
      refine s_val 17 rfl rfl (.bool false) (rfl) ?_
      refine nr ?_; intro U h; simp only [z0, z1] at h; subst h
      refine s_val 18 rfl rfl (.bool false) (rfl) ?_
      refine nr ?_; intro U h; simp only [z0, z1] at h; subst h
      refine s_skipY 19 rfl rfl y15 rfl ?_
      refine nr ?_; intro U h; simp only [z0, z1] at h; subst h
      refine s_skipY 20 rfl rfl y15 rfl ?_
      refine nr ?_; intro U h; simp only [z0, z1] at h; subst h
      refine s_skipY 21 rfl rfl y15 rfl ?_
      refine nr ?_; intro U h; simp only [z0, z1] at h; subst h
      refine s_skipY 22 rfl rfl y15 rfl ?_
      refine nr ?_; intro U h; simp only [z0, z1] at h; subst h
      refine s_skipY 23 rfl rfl y15 rfl ?_
      refine nr ?_; intro U h; simp only [z0, z1] at h; subst h
      refine s_val 24 rfl rfl (.bool false) (rfl) ?_
      refine nr ?_; intro U h; simp only [z0, z1] at h; subst h
      refine s_val 2 rfl rfl (.bool false) (rfl) ?_
      refine nr ?_; intro U h; simp only [z0, z1] at h; subst h
      refine wpList_nil ?_
      refine then_n ?_
      refine wp_ret ?_
      refine bodyPost_ret (results_tmp Try.results40 _ _ _) rfl ?_
      exact ⟨congrArg (fun b => Ending.returned (.bool b)) (by unfold rgt; rw [h1, h2]; rfl), GG⟩
    · cases h3 : decide (-1 ≤ x.nb ∧ x.nb < 6)
      · refine wp_region_opq ?_
        intro OPS hY
        have y5 := hY 5 8 rfl
        have y10 := hY 10 13 rfl
        have y15 := hY 15 18 rfl
        clear hY
        refine s_val 3 rfl rfl (.pointer (some ⟨g1, 17, none⟩)) (run_fld 73 _ 1 rfl g1 0 rfl 17 (by kernel_rfl)) ?_
        refine nr ?_; intro U h; simp only [z0, z1] at h; subst h
        refine s_val 4 rfl rfl (.agg (idA x.a)) (ldEa _ rfl g1 rfl (kg1)) ?_
        refine nr ?_; intro U h; simp only [z0, z1] at h; subst h
        refine s_val 5 rfl rfl (.pointer (some ⟨g1, 33, none⟩)) (run_fld 73 _ 2 rfl g1 0 rfl 33 (by kernel_rfl)) ?_
        refine nr ?_; intro U h; simp only [z0, z1] at h; subst h
        refine s_val 6 rfl rfl (.agg (idA x.b)) (ldEb _ rfl g1 rfl (kg1)) ?_
        refine nr ?_; intro U h; simp only [z0, z1] at h; subst h
        refine s_val 7 rfl rfl (.bool true) (run_neI _ _ _ rfl _ _ rfl rfl hx.a hx.b true h1) ?_
        refine nr ?_; intro U h; simp only [z0, z1] at h; subst h
        refine s_val 8 rfl rfl (.bool true) (rfl) ?_
        refine nr ?_; intro U h; simp only [z0, z1] at h; subst h
        refine s_gvalY 9 rfl rfl y5 rfl (.pointer (some ⟨g1, 49, none⟩)) (run_fld 73 _ 3 rfl g1 0 rfl 49 (by kernel_rfl)) ?_
        refine nr ?_; intro U h; simp only [z0, z1] at h; subst h
        refine s_gvalY 10 rfl rfl y5 rfl (.int .i64 x.na) (ldEna _ rfl g1 rfl (kg1)) ?_
        refine nr ?_; intro U h; simp only [z0, z1] at h; subst h
        refine s_gcallvY 11 rfl rfl y5 rfl _ 54 Try.call54 rfl rfl _ rfl [.int .i64 x.na] rfl (Calls.bool (mayBe_any x.na _) h2) ?_
        intro w2 G
        replace kg1 := G.has kg1
        replace GG := GG.trans G
        clear G
        refine nr ?_; intro U h; simp only [z0, z1] at h; subst h
        refine s_val 12 rfl rfl (.bool true) (rfl) ?_
        refine nr ?_; intro U h; simp only [z0, z1] at h; subst h
        refine s_val 13 rfl rfl (.bool true) (rfl) ?_
        refine nr ?_; intro U h; simp only [z0, z1] at h; subst h
        refine s_gvalY 14 rfl rfl y10 rfl (.pointer (some ⟨g1, 50, none⟩)) (run_fld 73 _ 4 rfl g1 0 rfl 50 (by kernel_rfl)) ?_
        refine nr ?_; intro U h; simp only [z0, z1] at h; subst h
        refine s_gvalY 15 rfl rfl y10 rfl (.int .i64 x.nb) (ldEnb _ rfl g1 rfl (kg1)) ?_
        refine nr ?_; intro U h; simp only [z0, z1] at h; subst h
        refine s_gcallvY 16 rfl rfl y10 rfl _ 54 Try.call54 rfl rfl _ rfl [.int .i64 x.nb] rfl (Calls.bool (mayBe_any x.nb _) h3) ?_
        intro w3 G
        replace kg1 := G.has kg1
        replace GG := GG.trans G
        clear G
        refine nr ?_; intro U h; simp only [z0, z1] at h; subst h
        refine s_val 17 rfl rfl (.bool false) (rfl) ?_
        refine nr ?_; intro U h; simp only [z0, z1] at h; subst h
        refine s_val 18 rfl rfl (.bool false) (rfl) ?_
        refine nr ?_; intro U h; simp only [z0, z1] at h; subst h
        refine s_skipY 19 rfl rfl y15 rfl ?_
        refine nr ?_; intro U h; simp only [z0, z1] at h; subst h
        refine s_skipY 20 rfl rfl y15 rfl ?_
        refine nr ?_; intro U h; simp only [z0, z1] at h; subst h
        refine s_skipY 21 rfl rfl y15 rfl ?_
        refine nr ?_; intro U h; simp only [z0, z1] at h; subst h
        refine s_skipY 22 rfl rfl y15 rfl ?_
        refine nr ?_; intro U h; simp only [z0, z1] at h; subst h
        refine s_skipY 23 rfl rfl y15 rfl ?_
        refine nr ?_; intro U h; simp only [z0, z1] at h; subst h
        refine s_val 24 rfl rfl (.bool false) (rfl) ?_
        refine nr ?_; intro U h; simp only [z0, z1] at h; subst h
        refine s_val 2 rfl rfl (.bool false) (rfl) ?_
        refine nr ?_; intro U h; simp only [z0, z1] at h; subst h
        refine wpList_nil ?_
        refine then_n ?_
        refine wp_ret ?_
        refine bodyPost_ret (results_tmp Try.results40 _ _ _) rfl ?_
        exact ⟨congrArg (fun b => Ending.returned (.bool b)) (by unfold rgt; rw [h1, h2, h3]; rfl), GG⟩
      · cases h4 : decide (x.na = x.nb)
        · refine wp_region_opq ?_
          intro OPS hY
          have y5 := hY 5 8 rfl
          have y10 := hY 10 13 rfl
          have y15 := hY 15 18 rfl
          clear hY
          refine s_val 3 rfl rfl (.pointer (some ⟨g1, 17, none⟩)) (run_fld 73 _ 1 rfl g1 0 rfl 17 (by kernel_rfl)) ?_
          refine nr ?_; intro U h; simp only [z0, z1] at h; subst h
          refine s_val 4 rfl rfl (.agg (idA x.a)) (ldEa _ rfl g1 rfl (kg1)) ?_
          refine nr ?_; intro U h; simp only [z0, z1] at h; subst h
          refine s_val 5 rfl rfl (.pointer (some ⟨g1, 33, none⟩)) (run_fld 73 _ 2 rfl g1 0 rfl 33 (by kernel_rfl)) ?_
          refine nr ?_; intro U h; simp only [z0, z1] at h; subst h
          refine s_val 6 rfl rfl (.agg (idA x.b)) (ldEb _ rfl g1 rfl (kg1)) ?_
          refine nr ?_; intro U h; simp only [z0, z1] at h; subst h
          refine s_val 7 rfl rfl (.bool true) (run_neI _ _ _ rfl _ _ rfl rfl hx.a hx.b true h1) ?_
          refine nr ?_; intro U h; simp only [z0, z1] at h; subst h
          refine s_val 8 rfl rfl (.bool true) (rfl) ?_
          refine nr ?_; intro U h; simp only [z0, z1] at h; subst h
          refine s_gvalY 9 rfl rfl y5 rfl (.pointer (some ⟨g1, 49, none⟩)) (run_fld 73 _ 3 rfl g1 0 rfl 49 (by kernel_rfl)) ?_
          refine nr ?_; intro U h; simp only [z0, z1] at h; subst h
          refine s_gvalY 10 rfl rfl y5 rfl (.int .i64 x.na) (ldEna _ rfl g1 rfl (kg1)) ?_
          refine nr ?_; intro U h; simp only [z0, z1] at h; subst h
          refine s_gcallvY 11 rfl rfl y5 rfl _ 54 Try.call54 rfl rfl _ rfl [.int .i64 x.na] rfl (Calls.bool (mayBe_any x.na _) h2) ?_
          intro w2 G
          replace kg1 := G.has kg1
          replace GG := GG.trans G
          clear G
          refine nr ?_; intro U h; simp only [z0, z1] at h; subst h
          refine s_val 12 rfl rfl (.bool true) (rfl) ?_
          refine nr ?_; intro U h; simp only [z0, z1] at h; subst h
          refine s_val 13 rfl rfl (.bool true) (rfl) ?_
          refine nr ?_; intro U h; simp only [z0, z1] at h; subst h
          refine s_gvalY 14 rfl rfl y10 rfl (.pointer (some ⟨g1, 50, none⟩)) (run_fld 73 _ 4 rfl g1 0 rfl 50 (by kernel_rfl)) ?_
          refine nr ?_; intro U h; simp only [z0, z1] at h; subst h
          refine s_gvalY 15 rfl rfl y10 rfl (.int .i64 x.nb) (ldEnb _ rfl g1 rfl (kg1)) ?_
          refine nr ?_; intro U h; simp only [z0, z1] at h; subst h
          refine s_gcallvY 16 rfl rfl y10 rfl _ 54 Try.call54 rfl rfl _ rfl [.int .i64 x.nb] rfl (Calls.bool (mayBe_any x.nb _) h3) ?_
          intro w3 G
          replace kg1 := G.has kg1
          replace GG := GG.trans G
          clear G
          refine nr ?_; intro U h; simp only [z0, z1] at h; subst h
          refine s_val 17 rfl rfl (.bool true) (rfl) ?_
          refine nr ?_; intro U h; simp only [z0, z1] at h; subst h
          refine s_val 18 rfl rfl (.bool true) (rfl) ?_
          refine nr ?_; intro U h; simp only [z0, z1] at h; subst h
          refine s_gvalY 19 rfl rfl y15 rfl (.pointer (some ⟨g1, 49, none⟩)) (run_fld 73 _ 3 rfl g1 0 rfl 49 (by kernel_rfl)) ?_
          refine nr ?_; intro U h; simp only [z0, z1] at h; subst h
          refine s_gvalY 20 rfl rfl y15 rfl (.int .i64 x.na) (ldEna _ rfl g1 rfl (kg1)) ?_
          refine nr ?_; intro U h; simp only [z0, z1] at h; subst h
          refine s_gvalY 21 rfl rfl y15 rfl (.pointer (some ⟨g1, 50, none⟩)) (run_fld 73 _ 4 rfl g1 0 rfl 50 (by kernel_rfl)) ?_
          refine nr ?_; intro U h; simp only [z0, z1] at h; subst h
          refine s_gvalY 22 rfl rfl y15 rfl (.int .i64 x.nb) (ldEnb _ rfl g1 rfl (kg1)) ?_
          refine nr ?_; intro U h; simp only [z0, z1] at h; subst h
          refine s_gvalY 23 rfl rfl y15 rfl (.bool true) (run_neq_k 3 .i64 _ _ _ rfl Try.underlying3 x.na x.nb rfl rfl true h4 _) ?_
          refine nr ?_; intro U h; simp only [z0, z1] at h; subst h
          refine s_val 24 rfl rfl (.bool true) (rfl) ?_
          refine nr ?_; intro U h; simp only [z0, z1] at h; subst h
          refine s_val 2 rfl rfl (.bool true) (rfl) ?_
          refine nr ?_; intro U h; simp only [z0, z1] at h; subst h
          refine wpList_nil ?_
          refine then_n ?_
          refine wp_ret ?_
          refine bodyPost_ret (results_tmp Try.results40 _ _ _) rfl ?_
          exact ⟨congrArg (fun b => Ending.returned (.bool b)) (by unfold rgt; rw [h1, h2, h3, h4]; rfl), GG⟩
        · refine wp_region_opq ?_
          intro OPS hY
          have y5 := hY 5 8 rfl
          have y10 := hY 10 13 rfl
          have y15 := hY 15 18 rfl
          clear hY
          refine s_val 3 rfl rfl (.pointer (some ⟨g1, 17, none⟩)) (run_fld 73 _ 1 rfl g1 0 rfl 17 (by kernel_rfl)) ?_
          refine nr ?_; intro U h; simp only [z0, z1] at h; subst h
          refine s_val 4 rfl rfl (.agg (idA x.a)) (ldEa _ rfl g1 rfl (kg1)) ?_
          refine nr ?_; intro U h; simp only [z0, z1] at h; subst h
          refine s_val 5 rfl rfl (.pointer (some ⟨g1, 33, none⟩)) (run_fld 73 _ 2 rfl g1 0 rfl 33 (by kernel_rfl)) ?_
          refine nr ?_; intro U h; simp only [z0, z1] at h; subst h
          refine s_val 6 rfl rfl (.agg (idA x.b)) (ldEb _ rfl g1 rfl (kg1)) ?_
          refine nr ?_; intro U h; simp only [z0, z1] at h; subst h
          refine s_val 7 rfl rfl (.bool true) (run_neI _ _ _ rfl _ _ rfl rfl hx.a hx.b true h1) ?_
          refine nr ?_; intro U h; simp only [z0, z1] at h; subst h
          refine s_val 8 rfl rfl (.bool true) (rfl) ?_
          refine nr ?_; intro U h; simp only [z0, z1] at h; subst h
          refine s_gvalY 9 rfl rfl y5 rfl (.pointer (some ⟨g1, 49, none⟩)) (run_fld 73 _ 3 rfl g1 0 rfl 49 (by kernel_rfl)) ?_
          refine nr ?_; intro U h; simp only [z0, z1] at h; subst h
          refine s_gvalY 10 rfl rfl y5 rfl (.int .i64 x.na) (ldEna _ rfl g1 rfl (kg1)) ?_
          refine nr ?_; intro U h; simp only [z0, z1] at h; subst h
          refine s_gcallvY 11 rfl rfl y5 rfl _ 54 Try.call54 rfl rfl _ rfl [.int .i64 x.na] rfl (Calls.bool (mayBe_any x.na _) h2) ?_
          intro w2 G
          replace kg1 := G.has kg1
          replace GG := GG.trans G
          clear G
          refine nr ?_; intro U h; simp only [z0, z1] at h; subst h
          refine s_val 12 rfl rfl (.bool true) (rfl) ?_
          refine nr ?_; intro U h; simp only [z0, z1] at h; subst h
          refine s_val 13 rfl rfl (.bool true) (rfl) ?_
          refine nr ?_; intro U h; simp only [z0, z1] at h; subst h
          refine s_gvalY 14 rfl rfl y10 rfl (.pointer (some ⟨g1, 50, none⟩)) (run_fld 73 _ 4 rfl g1 0 rfl 50 (by kernel_rfl)) ?_
          refine nr ?_; intro U h; simp only [z0, z1] at h; subst h
          refine s_gvalY 15 rfl rfl y10 rfl (.int .i64 x.nb) (ldEnb _ rfl g1 rfl (kg1)) ?_
          refine nr ?_; intro U h; simp only [z0, z1] at h; subst h
          refine s_gcallvY 16 rfl rfl y10 rfl _ 54 Try.call54 rfl rfl _ rfl [.int .i64 x.nb] rfl (Calls.bool (mayBe_any x.nb _) h3) ?_
          intro w3 G
          replace kg1 := G.has kg1
          replace GG := GG.trans G
          clear G
          refine nr ?_; intro U h; simp only [z0, z1] at h; subst h
          refine s_val 17 rfl rfl (.bool true) (rfl) ?_
          refine nr ?_; intro U h; simp only [z0, z1] at h; subst h
          refine s_val 18 rfl rfl (.bool true) (rfl) ?_
          refine nr ?_; intro U h; simp only [z0, z1] at h; subst h
          refine s_gvalY 19 rfl rfl y15 rfl (.pointer (some ⟨g1, 49, none⟩)) (run_fld 73 _ 3 rfl g1 0 rfl 49 (by kernel_rfl)) ?_
          refine nr ?_; intro U h; simp only [z0, z1] at h; subst h
          refine s_gvalY 20 rfl rfl y15 rfl (.int .i64 x.na) (ldEna _ rfl g1 rfl (kg1)) ?_
          refine nr ?_; intro U h; simp only [z0, z1] at h; subst h
          refine s_gvalY 21 rfl rfl y15 rfl (.pointer (some ⟨g1, 50, none⟩)) (run_fld 73 _ 4 rfl g1 0 rfl 50 (by kernel_rfl)) ?_
          refine nr ?_; intro U h; simp only [z0, z1] at h; subst h
          refine s_gvalY 22 rfl rfl y15 rfl (.int .i64 x.nb) (ldEnb _ rfl g1 rfl (kg1)) ?_
          refine nr ?_; intro U h; simp only [z0, z1] at h; subst h
          refine s_gvalY 23 rfl rfl y15 rfl (.bool false) (run_neq_k 3 .i64 _ _ _ rfl Try.underlying3 x.na x.nb rfl rfl false h4 _) ?_
          refine nr ?_; intro U h; simp only [z0, z1] at h; subst h
          refine s_val 24 rfl rfl (.bool false) (rfl) ?_
          refine nr ?_; intro U h; simp only [z0, z1] at h; subst h
          refine s_val 2 rfl rfl (.bool false) (rfl) ?_
          refine nr ?_; intro U h; simp only [z0, z1] at h; subst h
          refine wpList_nil ?_
          refine then_n ?_
          refine wp_ret ?_
          refine bodyPost_ret (results_tmp Try.results40 _ _ _) rfl ?_
          exact ⟨congrArg (fun b => Ending.returned (.bool b)) (by unfold rgt; rw [h1, h2, h3, h4]; rfl), GG⟩
  · refine wp_region_opq ?_
    intro OPS hY
    have y5 := hY 5 8 rfl
    have y10 := hY 10 13 rfl
    have y15 := hY 15 18 rfl
    clear hY
    refine s_val 3 rfl rfl (.pointer (some ⟨g1, 17, none⟩)) (run_fld 73 _ 1 rfl g1 0 rfl 17 (by kernel_rfl)) ?_
    refine nr ?_; intro U h; simp only [z0, z1] at h; subst h
    refine s_val 4 rfl rfl (.agg (idA x.a)) (ldEa _ rfl g1 rfl (kg1)) ?_
    refine nr ?_; intro U h; simp only [z0, z1] at h; subst h
    refine s_val 5 rfl rfl (.pointer (some ⟨g1, 33, none⟩)) (run_fld 73 _ 2 rfl g1 0 rfl 33 (by kernel_rfl)) ?_
    refine nr ?_; intro U h; simp only [z0, z1] at h; subst h
    refine s_val 6 rfl rfl (.agg (idA x.b)) (ldEb _ rfl g1 rfl (kg1)) ?_
    refine nr ?_; intro U h; simp only [z0, z1] at h; subst h
    refine s_val 7 rfl rfl (.bool false) (run_neI _ _ _ rfl _ _ rfl rfl hx.a hx.b false h1) ?_
    refine nr ?_; intro U h; simp only [z0, z1] at h; subst h
    refine s_val 8 rfl rfl (.bool false) (rfl) ?_
    refine nr ?_; intro U h; simp only [z0, z1] at h; subst h
    refine s_skipY 9 rfl rfl y5 rfl ?_
    refine nr ?_; intro U h; simp only [z0, z1] at h; subst h
    refine s_skipY 10 rfl rfl y5 rfl ?_
    refine nr ?_; intro U h; simp only [z0, z1] at h; subst h
    refine s_skipY 11 rfl rfl y5 rfl ?_
    refine nr ?_; intro U h; simp only [z0, z1] at h; subst h
    refine s_val 12 rfl rfl (.bool false) (rfl) ?_
    refine nr ?_; intro U h; simp only [z0, z1] at h; subst h
    refine s_val 13 rfl rfl (.bool false) (rfl) ?_
    refine nr ?_; intro U h; simp only [z0, z1] at h; subst h
    refine s_skipY 14 rfl rfl y10 rfl ?_
    refine nr ?_; intro U h; simp only [z0, z1] at h; subst h
    refine s_skipY 15 rfl rfl y10 rfl ?_
    refine nr ?_; intro U h; simp only [z0, z1] at h; subst h
    refine s_skipY 16 rfl rfl y10 rfl ?_
    refine nr ?_; intro U h; simp only [z0, z1] at h; subst h
    refine s_val 17 rfl rfl (.bool false) (rfl) ?_
    refine nr ?_; intro U h; simp only [z0, z1] at h; subst h
    refine s_val 18 rfl rfl (.bool false) (rfl) ?_
    refine nr ?_; intro U h; simp only [z0, z1] at h; subst h
    refine s_skipY 19 rfl rfl y15 rfl ?_
    refine nr ?_; intro U h; simp only [z0, z1] at h; subst h
    refine s_skipY 20 rfl rfl y15 rfl ?_
    refine nr ?_; intro U h; simp only [z0, z1] at h; subst h
    refine s_skipY 21 rfl rfl y15 rfl ?_
    refine nr ?_; intro U h; simp only [z0, z1] at h; subst h
    refine s_skipY 22 rfl rfl y15 rfl ?_
    refine nr ?_; intro U h; simp only [z0, z1] at h; subst h
    refine s_skipY 23 rfl rfl y15 rfl ?_
    refine nr ?_; intro U h; simp only [z0, z1] at h; subst h
    refine s_val 24 rfl rfl (.bool false) (rfl) ?_
    refine nr ?_; intro U h; simp only [z0, z1] at h; subst h
    refine s_val 2 rfl rfl (.bool false) (rfl) ?_
    refine nr ?_; intro U h; simp only [z0, z1] at h; subst h
    refine wpList_nil ?_
    refine then_n ?_
    refine wp_ret ?_
    refine bodyPost_ret (results_tmp Try.results40 _ _ _) rfl ?_
    exact ⟨congrArg (fun b => Ending.returned (.bool b)) (by unfold rgt; rw [h1]; rfl), GG⟩
end Go.Proofs.Ytkjnefgenffhcaa
