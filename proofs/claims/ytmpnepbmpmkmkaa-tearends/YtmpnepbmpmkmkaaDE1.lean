/- Two lists compared; lists of a table are new memory. -/
import Derived.Test.YtmpnepbmpmkmkaaDP13
namespace Go.Proofs.Ytmpnepbmpmkmkaa
open Classical
open Go.RowKit Go.Maps
theorem extE_getD {l m : List En} (h : l.length = m.length) (hk : ∀ k, k < l.length → l.getD k zE = m.getD k zE) : l = m := by
  apply List.ext_getElem h
  intro i h1 h2
  have := hk i h1
  simpa [List.getD_eq_getElem?_getD, h1, h2] using this
set_option maxRecDepth 100000 in
set_option maxHeartbeats 4000000 in
theorem sameE_any (w : World) (ao : Option Addr) (cap : Nat) (l : List En) (H : RE w ao cap l) (hl : l.length ≤ maxLen) (bo : Option Addr) (bap : Nat) (m : List En) (HM : RE w bo bap m) : Calls Try.prog 12 #[.slice ao l.length cap, .slice bo m.length bap] w (fun e w' => e = .returned (.bool (decide (l = m))) ∧ Gro w w') := by
  refine s_enter Try.func12 rfl Try.ntmps12 [.slice ao l.length cap, .slice bo m.length bap] [.slice ao l.length cap, .slice bo m.length bap, undef, undef, undef, undef, undef, undef, undef, undef, undef, undef, undef, undef, undef, undef, undef, undef, undef, undef, undef, undef, undef, undef, undef, undef] rfl ?_
  have GG := Gro.refl w
  rw [maxL] at hl
  refine wp_seq ?_
  refine wp_region_lit ?_
  refine s_val 4 rfl rfl (.bool false) (rfl) ?_
  refine nr ?_; intro U h; simp only [z0, z1] at h; subst h
  refine wpList_nil ?_
  refine then_n ?_
  refine wp_seq ?_
  refine wp_seq ?_
  refine wp_region_lit ?_
  refine s_val 6 rfl rfl (.slice ao l.length cap) (rfl) ?_
  refine nr ?_; intro U h; simp only [z0, z1] at h; subst h
  refine s_val 7 rfl rfl (.int .i64 ((l.length : Nat) : Int)) (run_len Try.underlying22 _ rfl _ _ _ rfl _) ?_
  refine nr ?_; intro U h; simp only [z0, z1] at h; subst h
  refine s_val 8 rfl rfl (.slice bo m.length bap) (rfl) ?_
  refine nr ?_; intro U h; simp only [z0, z1] at h; subst h
  refine s_val 9 rfl rfl (.int .i64 ((m.length : Nat) : Int)) (run_len Try.underlying22 _ rfl _ _ _ rfl _) ?_
  refine nr ?_; intro U h; simp only [z0, z1] at h; subst h
  cases hne : decide (((l.length : Nat) : Int) = ((m.length : Nat) : Int))
  · refine s_val 10 rfl rfl (.bool true) (run_neq_k 3 .i64 _ _ _ rfl Try.underlying3 ((l.length : Nat) : Int) ((m.length : Nat) : Int) rfl rfl true hne _) ?_
    refine nr ?_; intro U h; simp only [z0, z1] at h; subst h
    refine wpList_nil ?_
    refine then_n ?_
    refine wp_cond_true rfl ?_
    refine wp_seq ?_
    refine wp_region_lit ?_
    refine s_val 4 rfl rfl (.bool false) (rfl) ?_
    refine nr ?_; intro U h; simp only [z0, z1] at h; subst h
    refine wpList_nil ?_
    refine then_n ?_
    refine wp_ret ?_
    refine then_r ?_
    refine bodyPost_ret (results_tmp Try.results12 _ _ _) rfl ?_
    exact ⟨congrArg (fun b => Ending.returned (.bool b)) ((decide_eq_false (fun e => of_decide_eq_false hne (by rw [e]))).symm), GG⟩
  · have hlm : l.length = m.length := by have := of_decide_eq_true hne; omega
    refine s_val 10 rfl rfl (.bool false) (run_neq_k 3 .i64 _ _ _ rfl Try.underlying3 ((l.length : Nat) : Int) ((m.length : Nat) : Int) rfl rfl false hne _) ?_
    refine nr ?_; intro U h; simp only [z0, z1] at h; subst h
    refine wpList_nil ?_
    refine then_n ?_
    refine wp_cond_false rfl ?_
    refine wp_skip ?_
    refine then_n ?_
    refine wp_seq ?_
    refine wp_seq ?_
    refine wp_region_lit ?_
    refine s_val 5 rfl rfl (.int .i64 0) (rfl) ?_
    refine nr ?_; intro U h; simp only [z0, z1] at h; subst h
    refine wpList_nil ?_
    refine then_n ?_
    refine wp_block ?_
    refine wp_loopN (fun mz az wv => ∃ (i : Nat) (us1 : Nat → Value), mz = l.length + 1 - i ∧ az = ⟨[.slice ao l.length cap, .slice bo m.length bap, undef, undef, us1 0, .int .i64 ((i : Nat) : Int), .slice ao l.length cap, .int .i64 ((l.length : Nat) : Int), .slice bo m.length bap, .int .i64 ((m.length : Nat) : Int), .bool false, us1 1, us1 2, us1 3, us1 4, us1 5, us1 6, us1 7, us1 8, us1 9, us1 10, us1 11, us1 12, us1 13, us1 14, us1 15].toArray, []⟩ ∧ i ≤ l.length ∧ (∀ k, k < i → l.getD k zE = m.getD k zE) ∧ Gro w wv) ?_ _ ⟨0, (fun kz => ([.bool false, undef, undef, undef, undef, undef, undef, undef, undef, undef, undef, undef, undef, undef, undef, undef] : List Value).getD kz undef), rfl, rfl, Nat.zero_le _, fun k hk => absurd hk (by omega), GG⟩
    clear GG
    rintro mz az wv ⟨i, us1, rfl, rfl, hi, hs, GG⟩
    refine wp_seq ?_
    refine wp_seq ?_
    refine wp_region_lit ?_
    refine s_val 11 rfl rfl (.int .i64 ((i : Nat) : Int)) (rfl) ?_
    refine nr ?_; intro U h; simp only [z0, z1] at h; subst h
    refine s_val 12 rfl rfl (.slice ao l.length cap) (rfl) ?_
    refine nr ?_; intro U h; simp only [z0, z1] at h; subst h
    refine s_val 13 rfl rfl (.int .i64 ((l.length : Nat) : Int)) (run_len Try.underlying22 _ rfl _ _ _ rfl _) ?_
    refine nr ?_; intro U h; simp only [z0, z1] at h; subst h
    cases hj1 : decide (((i : Nat) : Int) < ((l.length : Nat) : Int))
    · have hje : i = l.length := by have := of_decide_eq_false hj1; omega
      refine s_val 14 rfl rfl (.bool false) (run_lssT 3 _ _ _ rfl ((i : Nat) : Int) ((l.length : Nat) : Int) rfl rfl false hj1 _) ?_
      refine nr ?_; intro U h; simp only [z0, z1] at h; subst h
      refine wpList_nil ?_
      refine then_n ?_
      refine wp_cond_false rfl ?_
      refine wp_exit ?_
      refine then_x ?_
      refine then_x ?_
      refine blk_x ?_
      refine then_n ?_
      refine wp_seq ?_
      refine wp_region_lit ?_
      refine s_val 4 rfl rfl (.bool true) (rfl) ?_
      refine nr ?_; intro U h; simp only [z0, z1] at h; subst h
      refine wpList_nil ?_
      refine then_n ?_
      refine wp_ret ?_
      refine bodyPost_ret (results_tmp Try.results12 _ _ _) rfl ?_
      exact ⟨congrArg (fun b => Ending.returned (.bool b)) ((decide_eq_true (extE_getD hlm (fun k hk => hs k (by omega)))).symm), GG⟩
    · have hjl : i < l.length := by have := of_decide_eq_true hj1; omega
      refine s_val 14 rfl rfl (.bool true) (run_lssT 3 _ _ _ rfl ((i : Nat) : Int) ((l.length : Nat) : Int) rfl rfl true hj1 _) ?_
      refine nr ?_; intro U h; simp only [z0, z1] at h; subst h
      refine wpList_nil ?_
      refine then_n ?_
      refine wp_cond_true rfl ?_
      refine wp_skip ?_
      refine then_n ?_
      refine wp_seq ?_
      refine wp_block ?_
      refine wp_seq ?_
      cases hx : decide (l.getD i zE = m.getD i zE)
      · refine wp_region_exA (A := ?Ax1) 8 [(0, 17), (1, 18), (2, 19), (3, 20), (4, 21), (5, 22), (6, 23), (7, 24)] [.val (.slice ao l.length cap), .val (.int .i64 ((i : Nat) : Int)), .val (.pointer (pE ao i 0)), .val (.agg (enA (l.getD i zE))), .val (.slice bo m.length bap), .val (.int .i64 ((i : Nat) : Int)), .val (.pointer (pE bo i 0)), .val (.agg (enA (m.getD i zE)))] follows (by kernel_rfl) rfl ?hAx1 (opsA_cons ?o0x1 (opsA_cons ?o1x1 (opsA_cons ?o2x1 (opsA_cons ?o3x1 (opsA_cons ?o4x1 (opsA_cons ?o5x1 (opsA_cons ?o6x1 (opsA_cons ?o7x1 opsA_nil)))))))) ?restx1
        case hAx1 =>
          intro ptrs
          simp only [full, foldSlots, filledE, postE, List.foldl_cons, List.foldl_nil, List.getD_cons_zero, List.getD_cons_succ, fill_val, List.set_cons_zero, List.set_cons_succ]
          exact rfl
        case o0x1 => exact fun _ _ _ _ => opE_move (v := .slice ao l.length cap) _ rfl rfl rfl
        case o1x1 => exact fun _ _ _ _ => opE_move (v := .int .i64 ((i : Nat) : Int)) _ rfl rfl rfl
        case o2x1 => exact fun _ _ hw _ => opE_value (v := .pointer (pE ao i 0)) rfl (run_ixE (H.gro (GG.drew.trans hw)) _ _ rfl rfl i rfl (by omega))
        case o3x1 => exact fun _ _ hw _ => opE_value (v := .agg (enA (l.getD i zE))) rfl (run_ldE (H.gro (GG.drew.trans hw)) _ rfl i rfl (by omega))
        case o4x1 => exact fun _ _ _ _ => opE_move (v := .slice bo m.length bap) _ rfl rfl rfl
        case o5x1 => exact fun _ _ _ _ => opE_move (v := .int .i64 ((i : Nat) : Int)) _ rfl rfl rfl
        case o6x1 => exact fun _ _ hw _ => opE_value (v := .pointer (pE bo i 0)) rfl (run_ixE (HM.gro (GG.drew.trans hw)) _ _ rfl rfl i rfl (by omega))
        case o7x1 => exact fun _ _ hw _ => opE_value (v := .agg (enA (m.getD i zE))) rfl (run_ldE (HM.gro (GG.drew.trans hw)) _ rfl i rfl (by omega))
        intro ptrs w1 GD hxE
        simp only [List.drop_succ_cons, List.drop_zero]
        replace GG := GG.drew.trans GD
        clear GD
        refine s_val 25 rfl rfl (.bool true) (run_neE _ _ _ rfl _ _ rfl rfl (H.all.at (by omega)) (HM.all.at (by omega)) true hx) ?_
        refine nr ?_; intro U h; simp only [z0, z1] at h; subst h
        refine wpList_nil ?_
        refine then_n ?_
        refine wp_cond_true rfl ?_
        refine wp_seq ?_
        refine wp_region_lit ?_
        refine s_val 4 rfl rfl (.bool false) (rfl) ?_
        refine nr ?_; intro U h; simp only [z0, z1] at h; subst h
        refine wpList_nil ?_
        refine then_n ?_
        refine wp_ret ?_
        refine blk_r ?_
        refine then_r ?_
        refine then_r ?_
        refine blk_r ?_
        refine then_r ?_
        refine bodyPost_ret (results_tmp Try.results12 _ _ _) rfl ?_
        exact ⟨congrArg (fun b => Ending.returned (.bool b)) ((decide_eq_false (fun e => of_decide_eq_false hx (by rw [e]))).symm), GG⟩
      · refine wp_region_exA (A := ?Ax2) 8 [(0, 17), (1, 18), (2, 19), (3, 20), (4, 21), (5, 22), (6, 23), (7, 24)] [.val (.slice ao l.length cap), .val (.int .i64 ((i : Nat) : Int)), .val (.pointer (pE ao i 0)), .val (.agg (enA (l.getD i zE))), .val (.slice bo m.length bap), .val (.int .i64 ((i : Nat) : Int)), .val (.pointer (pE bo i 0)), .val (.agg (enA (m.getD i zE)))] follows (by kernel_rfl) rfl ?hAx2 (opsA_cons ?o0x2 (opsA_cons ?o1x2 (opsA_cons ?o2x2 (opsA_cons ?o3x2 (opsA_cons ?o4x2 (opsA_cons ?o5x2 (opsA_cons ?o6x2 (opsA_cons ?o7x2 opsA_nil)))))))) ?restx2
        case hAx2 =>
          intro ptrs
          simp only [full, foldSlots, filledE, postE, List.foldl_cons, List.foldl_nil, List.getD_cons_zero, List.getD_cons_succ, fill_val, List.set_cons_zero, List.set_cons_succ]
          exact rfl
        case o0x2 => exact fun _ _ _ _ => opE_move (v := .slice ao l.length cap) _ rfl rfl rfl
        case o1x2 => exact fun _ _ _ _ => opE_move (v := .int .i64 ((i : Nat) : Int)) _ rfl rfl rfl
        case o2x2 => exact fun _ _ hw _ => opE_value (v := .pointer (pE ao i 0)) rfl (run_ixE (H.gro (GG.drew.trans hw)) _ _ rfl rfl i rfl (by omega))
        case o3x2 => exact fun _ _ hw _ => opE_value (v := .agg (enA (l.getD i zE))) rfl (run_ldE (H.gro (GG.drew.trans hw)) _ rfl i rfl (by omega))
        case o4x2 => exact fun _ _ _ _ => opE_move (v := .slice bo m.length bap) _ rfl rfl rfl
        case o5x2 => exact fun _ _ _ _ => opE_move (v := .int .i64 ((i : Nat) : Int)) _ rfl rfl rfl
        case o6x2 => exact fun _ _ hw _ => opE_value (v := .pointer (pE bo i 0)) rfl (run_ixE (HM.gro (GG.drew.trans hw)) _ _ rfl rfl i rfl (by omega))
        case o7x2 => exact fun _ _ hw _ => opE_value (v := .agg (enA (m.getD i zE))) rfl (run_ldE (HM.gro (GG.drew.trans hw)) _ rfl i rfl (by omega))
        intro ptrs w1 GD hxE
        simp only [List.drop_succ_cons, List.drop_zero]
        replace GG := GG.drew.trans GD
        clear GD
        refine s_val 25 rfl rfl (.bool false) (run_neE _ _ _ rfl _ _ rfl rfl (H.all.at (by omega)) (HM.all.at (by omega)) false hx) ?_
        refine nr ?_; intro U h; simp only [z0, z1] at h; subst h
        refine wpList_nil ?_
        refine then_n ?_
        refine wp_cond_false rfl ?_
        refine wp_skip ?_
        refine blk_n ?_
        refine then_n ?_
        refine wp_region_lit ?_
        refine s_val 15 rfl rfl (.int .i64 ((i : Nat) : Int)) (rfl) ?_
        refine nr ?_; intro U h; simp only [z0, z1] at h; subst h
        refine s_val 16 rfl rfl (.int .i64 ((i + 1 : Nat) : Int)) (run_addI 3 _ _ _ rfl ((i : Nat) : Int) 1 ((i + 1 : Nat) : Int) rfl rfl (by omega) (by omega) (by omega) _) ?_
        refine nr ?_; intro U h; simp only [z0, z1] at h; subst h
        refine s_val 5 rfl rfl (.int .i64 ((i + 1 : Nat) : Int)) (rfl) ?_
        refine nr ?_; intro U h; simp only [z0, z1] at h; subst h
        refine wpList_nil ?_
        refine then_n ?_
        exact ⟨l.length + 1 - (i + 1), by omega, i + 1, (fun kz => ([us1 0, .int .i64 ((i : Nat) : Int), .slice ao l.length cap, .int .i64 ((l.length : Nat) : Int), .bool true, .int .i64 ((i : Nat) : Int), .int .i64 ((i + 1 : Nat) : Int), .slice ao l.length cap, .int .i64 ((i : Nat) : Int), .pointer (pE ao i 0), .agg (enA (l.getD i zE)), .slice bo m.length bap, .int .i64 ((i : Nat) : Int), .pointer (pE bo i 0), .agg (enA (m.getD i zE)), .bool false] : List Value).getD kz undef), rfl, rfl, by omega, fun k hk => (Nat.lt_succ_iff_lt_or_eq.1 hk).elim (hs k) (fun e => e ▸ of_decide_eq_true hx), GG⟩
end Go.Proofs.Ytmpnepbmpmkmkaa
