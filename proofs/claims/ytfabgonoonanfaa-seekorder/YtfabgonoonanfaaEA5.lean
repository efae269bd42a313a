/- The stable sort of at most forty candidates. -/
import Derived.Test.YtfabgonoonanfaaEA4
namespace Go.Proofs.Ytfabgonoonanfaa
open Go.RowKit
theorem run_mulI {P : Program} {o : Oper} {A : Act} (t : TypeId) (x y : Operand) (t2 : TypeId) (ho : o.op = .binOp .mul t x y t2) (a b r : Int) (hx : A.eval x = .int .i64 a) (hy : A.eval y = .int .i64 b) (hr : a * b = r) (h1 : -9223372036854775808 ≤ r) (h2 : r < 9223372036854775808) (w : World) : (execOp A.eval o).run P w = .ok (.value (.int .i64 r)) w := by
  subst hr
  refine run_binop .mul t x y t2 ho _ _ _ hx hy (by simp [eqGuard]) ?_
  simp [go_sem]
  exact wrap_in _ h1 h2
set_option maxRecDepth 100000 in
set_option maxHeartbeats 4000000 in
theorem stable_any (w : World) (B : Nat) (ao : Option Addr) (cap : Nat) (l : List Cd) (c : Nat) (HO : OW kC 33 w B ao cap l) (CK : CloC w c) (hl : l.length ≤ 1000000) (hm : l.length ≤ 40) : Calls Try.prog 39 #[.slice ao l.length cap, .int .i64 ((l.length : Nat) : Int), .func (.func 40) #[] #[.pointer (some ⟨c, 0, none⟩)]] w (SrtP w B ao cap (srt ltC l)) := by
  refine s_enter Try.func39 rfl Try.ntmps39 [.slice ao l.length cap, .int .i64 ((l.length : Nat) : Int), .func (.func 40) #[] #[.pointer (some ⟨c, 0, none⟩)]] [.slice ao l.length cap, .int .i64 ((l.length : Nat) : Int), .func (.func 40) #[] #[.pointer (some ⟨c, 0, none⟩)], undef, undef, undef, undef, undef, undef, undef, undef, undef, undef, undef, undef, undef, undef, undef, undef, undef, undef, undef, undef, undef, undef, undef, undef, undef, undef, undef, undef, undef, undef, undef, undef, undef, undef, undef, undef, undef, undef, undef, undef, undef, undef, undef, undef, undef, undef, undef, undef, undef, undef, undef, undef, undef, undef, undef, undef, undef, undef, undef, undef] rfl ?_
  have GG := GroS.refl (Go.Proofs.Ytfabgonoonanfaa.blk ao) w
  refine wp_seq ?_
  refine wp_region_lit ?_
  refine s_val 6 rfl rfl (.int .i64 20) (rfl) ?_
  refine nr ?_; intro U h; simp only [z0, z1] at h; subst h
  refine wpList_nil ?_
  refine then_n ?_
  refine wp_seq ?_
  refine wp_region_lit ?_
  refine s_val 10 rfl rfl (.int .i64 20) (rfl) ?_
  refine nr ?_; intro U h; simp only [z0, z1] at h; subst h
  refine s_val 7 rfl rfl (.int .i64 0) (rfl) ?_
  refine nr ?_; intro U h; simp only [z0, z1] at h; subst h
  refine s_val 8 rfl rfl (.int .i64 20) (rfl) ?_
  refine nr ?_; intro U h; simp only [z0, z1] at h; subst h
  refine wpList_nil ?_
  refine then_n ?_
  refine wp_seq ?_
  refine wp_block ?_
  refine wp_loopN (fun mz az wv => ∃ (k : Nat) (us1 : Nat → Value), mz = 4 - k ∧ az = ⟨[.slice ao l.length cap, .int .i64 ((l.length : Nat) : Int), .func (.func 40) #[] #[.pointer (some ⟨c, 0, none⟩)], undef, undef, undef, .int .i64 20, .int .i64 ((20 * k : Nat) : Int), .int .i64 ((20 * k + 20 : Nat) : Int), undef, .int .i64 20, us1 0, us1 1, us1 2, us1 3, us1 4, us1 5, us1 6, us1 7, us1 8, us1 9, us1 10, us1 11, undef, undef, undef, undef, undef, undef, undef, undef, undef, undef, undef, undef, undef, undef, undef, undef, undef, undef, undef, undef, undef, undef, undef, undef, undef, undef, undef, undef, undef, undef, undef, undef, undef, undef, undef, undef, undef, undef, undef, undef].toArray, []⟩ ∧ k ≤ 2 ∧ 20 * k ≤ l.length ∧ GroS (Go.Proofs.Ytfabgonoonanfaa.blk ao) w wv ∧ OW kC 33 wv B ao cap (chk ltC l k) ∧ CloC wv c) ?_ _ ⟨0, (fun kz => ([undef, undef, undef, undef, undef, undef, undef, undef, undef, undef, undef, undef] : List Value).getD kz undef), rfl, rfl, by omega, by omega, GG, HO, CK⟩
  clear GG HO CK
  rintro mz az wv ⟨k, us1, rfl, rfl, hk, hkl, GG, HO, CK⟩
  refine wp_seq ?_
  refine wp_seq ?_
  refine wp_region_lit ?_
  refine s_val 11 rfl rfl (.int .i64 ((20 * k + 20 : Nat) : Int)) (rfl) ?_
  refine nr ?_; intro U h; simp only [z0, z1] at h; subst h
  refine s_val 12 rfl rfl (.int .i64 ((l.length : Nat) : Int)) (rfl) ?_
  refine nr ?_; intro U h; simp only [z0, z1] at h; subst h
  cases hb1 : decide (((20 * k + 20 : Nat) : Int) ≤ ((l.length : Nat) : Int))
  · have hk2 : l.length < 20 * k + 20 := by have := of_decide_eq_false hb1; omega
    refine s_val 13 rfl rfl (.bool false) (run_leqT 3 _ _ _ rfl ((20 * k + 20 : Nat) : Int) ((l.length : Nat) : Int) rfl rfl false hb1 _) ?_
    refine nr ?_; intro U h; simp only [z0, z1] at h; subst h
    refine wpList_nil ?_
    refine then_n ?_
    refine wp_cond_false rfl ?_
    refine wp_exit ?_
    refine then_x ?_
    refine then_x ?_
    refine blk_x ?_
    refine then_n ?_
    refine wp_seq ?_
    refine wp_region_lit ?_
    refine s_val 23 rfl rfl (.slice ao l.length cap) (rfl) ?_
    refine nr ?_; intro U h; simp only [z0, z1] at h; subst h
    refine s_val 24 rfl rfl (.int .i64 ((20 * k : Nat) : Int)) (rfl) ?_
    refine nr ?_; intro U h; simp only [z0, z1] at h; subst h
    refine s_val 25 rfl rfl (.int .i64 ((l.length : Nat) : Int)) (rfl) ?_
    refine nr ?_; intro U h; simp only [z0, z1] at h; subst h
    refine s_val 26 rfl rfl (.func (.func 40) #[] #[.pointer (some ⟨c, 0, none⟩)]) (rfl) ?_
    refine nr ?_; intro U h; simp only [z0, z1] at h; subst h
    refine s_callx 27 rfl rfl _ 50 Try.call50 rfl rfl _ rfl [.slice ao l.length cap, .int .i64 ((20 * k : Nat) : Int), .int .i64 ((l.length : Nat) : Int), .func (.func 40) #[] #[.pointer (some ⟨c, 0, none⟩)]] rfl (by have h_ := insertion_any _ B ao cap (chk ltC l k) c HO CK (by rw [chk_len hk hkl]; exact hl) (20 * k) l.length (by omega) (by rw [chk_len hk hkl]; omega); rw [chk_len hk hkl] at h_; exact h_) (by rintro _ _ ⟨he, _⟩; exact ⟨_, he⟩) ?_
    rintro v w1 ⟨he, G2, HO2⟩
    cases he
    replace CK := CK.gros G2 HO.own
    replace GG := GG.trans G2
    clear G2 HO
    have HO := HO2
    clear HO2
    refine nr ?_; intro U h; simp only [z0, z1] at h; subst h
    refine wpList_nil ?_
    refine then_n ?_
    refine wp_block ?_
    rw [chk_end hk hkl hk2 hm] at HO
    refine wp_loopN (fun mz az wv => ∃ (v : Nat) (us2 : Nat → Value), mz = 3 - v ∧ az = ⟨[.slice ao l.length cap, .int .i64 ((l.length : Nat) : Int), .func (.func 40) #[] #[.pointer (some ⟨c, 0, none⟩)], undef, undef, undef, .int .i64 ((20 + 20 * v : Nat) : Int), us2 0, us2 1, us2 2, .int .i64 20, .int .i64 ((20 * k + 20 : Nat) : Int), .int .i64 ((l.length : Nat) : Int), .bool false, us1 3, us1 4, us1 5, us1 6, us1 7, us1 8, us1 9, us1 10, us1 11, .slice ao l.length cap, .int .i64 ((20 * k : Nat) : Int), .int .i64 ((l.length : Nat) : Int), .func (.func 40) #[] #[.pointer (some ⟨c, 0, none⟩)], .tuple #[], us2 3, us2 4, us2 5, us2 6, us2 7, us2 8, us2 9, us2 10, us2 11, us2 12, us2 13, us2 14, us2 15, us2 16, us2 17, us2 18, us2 19, us2 20, us2 21, us2 22, us2 23, us2 24, us2 25, us2 26, us2 27, us2 28, us2 29, us2 30, us2 31, us2 32, us2 33, us2 34, us2 35, us2 36, us2 37].toArray, []⟩ ∧ v ≤ 1 ∧ (v = 0 ∨ 20 < l.length) ∧ GroS (Go.Proofs.Ytfabgonoonanfaa.blk ao) w wv ∧ OW kC 33 wv B ao cap (if v = 0 then fst2 ltC l else srt ltC l) ∧ CloC wv c) ?_ _ ⟨0, (fun kz => ([.int .i64 ((20 * k : Nat) : Int), .int .i64 ((20 * k + 20 : Nat) : Int), undef, undef, undef, undef, undef, undef, undef, undef, undef, undef, undef, undef, undef, undef, undef, undef, undef, undef, undef, undef, undef, undef, undef, undef, undef, undef, undef, undef, undef, undef, undef, undef, undef, undef, undef, undef] : List Value).getD kz undef), rfl, rfl, by omega, .inl rfl, GG, HO, CK⟩
    clear GG HO CK
    rintro mz az wv ⟨v, us2, rfl, rfl, hv, hv1, GG, HO, CK⟩
    have hlv : (if v = 0 then fst2 ltC l else srt ltC l).length = l.length := by split; exact fst2_len; exact srt_len l
    refine wp_seq ?_
    refine wp_seq ?_
    refine wp_region_lit ?_
    refine s_val 28 rfl rfl (.int .i64 ((20 + 20 * v : Nat) : Int)) (rfl) ?_
    refine nr ?_; intro U h; simp only [z0, z1] at h; subst h
    refine s_val 29 rfl rfl (.int .i64 ((l.length : Nat) : Int)) (rfl) ?_
    refine nr ?_; intro U h; simp only [z0, z1] at h; subst h
    cases hb2 : decide (((20 + 20 * v : Nat) : Int) < ((l.length : Nat) : Int))
    · have hd : v = 1 ∨ l.length ≤ 20 := by have := of_decide_eq_false hb2; omega
      refine s_val 30 rfl rfl (.bool false) (run_lssT 3 _ _ _ rfl ((20 + 20 * v : Nat) : Int) ((l.length : Nat) : Int) rfl rfl false hb2 _) ?_
      refine nr ?_; intro U h; simp only [z0, z1] at h; subst h
      refine wpList_nil ?_
      refine then_n ?_
      refine wp_cond_false rfl ?_
      refine wp_exit ?_
      refine then_x ?_
      refine then_x ?_
      refine blk_x ?_
      refine post_n (results_none Try.results39 _ _ _) rfl ?_
      rcases hd with hd | hd
      · subst hd; exact ⟨rfl, GG, HO⟩
      · refine ⟨rfl, GG, ?_⟩
        by_cases hz : v = 0
        · subst hz; rw [← fst2_le hd]; exact HO
        · rw [if_neg hz] at HO; exact HO
    · have hv0 : v = 0 := by have := of_decide_eq_true hb2; omega
      have h20 : 20 < l.length := by have := of_decide_eq_true hb2; omega
      rw [if_pos hv0] at HO
      refine s_val 30 rfl rfl (.bool true) (run_lssT 3 _ _ _ rfl ((20 + 20 * v : Nat) : Int) ((l.length : Nat) : Int) rfl rfl true hb2 _) ?_
      refine nr ?_; intro U h; simp only [z0, z1] at h; subst h
      refine wpList_nil ?_
      refine then_n ?_
      refine wp_cond_true rfl ?_
      refine wp_skip ?_
      refine then_n ?_
      refine wp_block ?_
      refine wp_seq ?_
      refine wp_region_lit ?_
      refine s_val 31 rfl rfl (.int .i64 ((20 + 20 * v : Nat) : Int)) (rfl) ?_
      refine nr ?_; intro U h; simp only [z0, z1] at h; subst h
      refine s_val 32 rfl rfl (.int .i64 ((40 * 0 + 40 : Nat) : Int)) (run_mulI 3 _ _ _ rfl 2 ((20 + 20 * v : Nat) : Int) (((40 * 0 + 40 : Nat)) : Int) rfl rfl (by omega) (by omega) (by omega) _) ?_
      refine nr ?_; intro U h; simp only [z0, z1] at h; subst h
      refine s_val 7 rfl rfl (.int .i64 0) (rfl) ?_
      refine nr ?_; intro U h; simp only [z0, z1] at h; subst h
      refine s_val 8 rfl rfl (.int .i64 ((40 * 0 + 40 : Nat) : Int)) (rfl) ?_
      refine nr ?_; intro U h; simp only [z0, z1] at h; subst h
      refine wpList_nil ?_
      refine then_n ?_
      refine wp_seq ?_
      refine wp_block ?_
      refine wp_loopN (fun mz az wv => ∃ (u : Nat) (us3 : Nat → Value), mz = 3 - u ∧ az = ⟨[.slice ao l.length cap, .int .i64 ((l.length : Nat) : Int), .func (.func 40) #[] #[.pointer (some ⟨c, 0, none⟩)], undef, undef, undef, .int .i64 ((20 + 20 * v : Nat) : Int), .int .i64 ((40 * u : Nat) : Int), .int .i64 ((40 * u + 40 : Nat) : Int), us2 2, .int .i64 20, .int .i64 ((20 * k + 20 : Nat) : Int), .int .i64 ((l.length : Nat) : Int), .bool false, us1 3, us1 4, us1 5, us1 6, us1 7, us1 8, us1 9, us1 10, us1 11, .slice ao l.length cap, .int .i64 ((20 * k : Nat) : Int), .int .i64 ((l.length : Nat) : Int), .func (.func 40) #[] #[.pointer (some ⟨c, 0, none⟩)], .tuple #[], .int .i64 ((20 + 20 * v : Nat) : Int), .int .i64 ((l.length : Nat) : Int), .bool true, .int .i64 ((20 + 20 * v : Nat) : Int), .int .i64 ((40 * 0 + 40 : Nat) : Int), us3 0, us3 1, us3 2, us3 3, us3 4, us3 5, us3 6, us3 7, us3 8, us3 9, us3 10, us3 11, us3 12, us3 13, us3 14, us3 15, us2 24, us2 25, us2 26, us2 27, us2 28, us2 29, us2 30, us2 31, us2 32, us2 33, us2 34, us2 35, us2 36, us2 37].toArray, []⟩ ∧ u ≤ 1 ∧ (u = 0 ∨ l.length = 40) ∧ GroS (Go.Proofs.Ytfabgonoonanfaa.blk ao) w wv ∧ OW kC 33 wv B ao cap (if u = 0 then fst2 ltC l else srt ltC l) ∧ CloC wv c) ?_ _ ⟨0, (fun kz => ([us2 8, us2 9, us2 10, us2 11, us2 12, us2 13, us2 14, us2 15, us2 16, us2 17, us2 18, us2 19, us2 20, us2 21, us2 22, us2 23] : List Value).getD kz undef), rfl, rfl, by omega, .inl rfl, GG, HO, CK⟩
      clear GG HO CK
      rintro mz az wv ⟨u, us3, rfl, rfl, hu, hu1, GG, HO, CK⟩
      have hlu : (if u = 0 then fst2 ltC l else srt ltC l).length = l.length := by split; exact fst2_len; exact srt_len l
      refine wp_seq ?_
      refine wp_seq ?_
      refine wp_region_lit ?_
      refine s_val 33 rfl rfl (.int .i64 ((40 * u + 40 : Nat) : Int)) (rfl) ?_
      refine nr ?_; intro U h; simp only [z0, z1] at h; subst h
      refine s_val 34 rfl rfl (.int .i64 ((l.length : Nat) : Int)) (rfl) ?_
      refine nr ?_; intro U h; simp only [z0, z1] at h; subst h
      cases hb3 : decide (((40 * u + 40 : Nat) : Int) ≤ ((l.length : Nat) : Int))
      · have hu2 : l.length < 40 * u + 40 := by have := of_decide_eq_false hb3; omega
        refine s_val 35 rfl rfl (.bool false) (run_leqT 3 _ _ _ rfl ((40 * u + 40 : Nat) : Int) ((l.length : Nat) : Int) rfl rfl false hb3 _) ?_
        refine nr ?_; intro U h; simp only [z0, z1] at h; subst h
        refine wpList_nil ?_
        refine then_n ?_
        refine wp_cond_false rfl ?_
        refine wp_exit ?_
        refine then_x ?_
        refine then_x ?_
        refine blk_x ?_
        refine then_n ?_
        refine wp_seq ?_
        refine wp_seq ?_
        refine wp_region_lit ?_
        refine s_val 49 rfl rfl (.int .i64 ((40 * u : Nat) : Int)) (rfl) ?_
        refine nr ?_; intro U h; simp only [z0, z1] at h; subst h
        refine s_val 50 rfl rfl (.int .i64 ((20 + 20 * v : Nat) : Int)) (rfl) ?_
        refine nr ?_; intro U h; simp only [z0, z1] at h; subst h
        refine s_val 51 rfl rfl (.int .i64 ((40 * u + 20 : Nat) : Int)) (run_addI 3 _ _ _ rfl ((40 * u : Nat) : Int) ((20 + 20 * v : Nat) : Int) ((40 * u + 20 : Nat) : Int) rfl rfl (by omega) (by omega) (by omega) _) ?_
        refine nr ?_; intro U h; simp only [z0, z1] at h; subst h
        refine s_val 9 rfl rfl (.int .i64 ((40 * u + 20 : Nat) : Int)) (rfl) ?_
        refine nr ?_; intro U h; simp only [z0, z1] at h; subst h
        refine wpList_nil ?_
        refine then_n ?_
        refine wp_seq ?_
        refine wp_region_lit ?_
        refine s_val 52 rfl rfl (.int .i64 ((40 * u + 20 : Nat) : Int)) (rfl) ?_
        refine nr ?_; intro U h; simp only [z0, z1] at h; subst h
        refine s_val 53 rfl rfl (.int .i64 ((l.length : Nat) : Int)) (rfl) ?_
        refine nr ?_; intro U h; simp only [z0, z1] at h; subst h
        cases hb4 : decide (((40 * u + 20 : Nat) : Int) < ((l.length : Nat) : Int))
        · have hu3 : u = 1 := by have := of_decide_eq_false hb4; omega
          rw [if_neg (by omega)] at HO
          refine s_val 54 rfl rfl (.bool false) (run_lssT 3 _ _ _ rfl ((40 * u + 20 : Nat) : Int) ((l.length : Nat) : Int) rfl rfl false hb4 _) ?_
          refine nr ?_; intro U h; simp only [z0, z1] at h; subst h
          refine wpList_nil ?_
          refine then_n ?_
          refine wp_cond_false rfl ?_
          refine wp_skip ?_
          refine then_n ?_
          refine wp_region_lit ?_
          refine s_val 61 rfl rfl (.int .i64 ((20 + 20 * v : Nat) : Int)) (rfl) ?_
          refine nr ?_; intro U h; simp only [z0, z1] at h; subst h
          refine s_val 62 rfl rfl (.int .i64 ((20 + 20 * (v + 1) : Nat) : Int)) (run_mulI 3 _ _ _ rfl ((20 + 20 * v : Nat) : Int) 2 ((20 + 20 * (v + 1) : Nat) : Int) rfl rfl (by omega) (by omega) (by omega) _) ?_
          refine nr ?_; intro U h; simp only [z0, z1] at h; subst h
          refine s_val 6 rfl rfl (.int .i64 ((20 + 20 * (v + 1) : Nat) : Int)) (rfl) ?_
          refine nr ?_; intro U h; simp only [z0, z1] at h; subst h
          refine wpList_nil ?_
          refine blk_n ?_
          refine then_n ?_
          exact ⟨3 - (v + 1), by omega, v + 1, (fun kz => ([.int .i64 ((40 * u : Nat) : Int), .int .i64 ((40 * u + 40 : Nat) : Int), .int .i64 ((40 * u + 20 : Nat) : Int), .int .i64 ((20 + 20 * v : Nat) : Int), .int .i64 ((l.length : Nat) : Int), .bool true, .int .i64 ((20 + 20 * v : Nat) : Int), .int .i64 ((40 * 0 + 40 : Nat) : Int), .int .i64 ((40 * u + 40 : Nat) : Int), .int .i64 ((l.length : Nat) : Int), .bool false, us3 3, us3 4, us3 5, us3 6, us3 7, us3 8, us3 9, us3 10, us3 11, us3 12, us3 13, us3 14, us3 15, .int .i64 ((40 * u : Nat) : Int), .int .i64 ((20 + 20 * v : Nat) : Int), .int .i64 ((40 * u + 20 : Nat) : Int), .int .i64 ((40 * u + 20 : Nat) : Int), .int .i64 ((l.length : Nat) : Int), .bool false, us2 30, us2 31, us2 32, us2 33, us2 34, us2 35, .int .i64 ((20 + 20 * v : Nat) : Int), .int .i64 ((20 + 20 * (v + 1) : Nat) : Int)] : List Value).getD kz undef), rfl, rfl, by omega, .inr h20, GG, by rw [if_neg (by omega)]; exact HO, CK⟩
        · have hu0 : u = 0 := by have := of_decide_eq_true hb4; omega
          rw [if_pos hu0] at HO
          refine s_val 54 rfl rfl (.bool true) (run_lssT 3 _ _ _ rfl ((40 * u + 20 : Nat) : Int) ((l.length : Nat) : Int) rfl rfl true hb4 _) ?_
          refine nr ?_; intro U h; simp only [z0, z1] at h; subst h
          refine wpList_nil ?_
          refine then_n ?_
          refine wp_cond_true rfl ?_
          refine wp_region_lit ?_
          refine s_val 55 rfl rfl (.slice ao l.length cap) (rfl) ?_
          refine nr ?_; intro U h; simp only [z0, z1] at h; subst h
          refine s_val 56 rfl rfl (.int .i64 ((40 * u : Nat) : Int)) (rfl) ?_
          refine nr ?_; intro U h; simp only [z0, z1] at h; subst h
          refine s_val 57 rfl rfl (.int .i64 ((40 * u + 20 : Nat) : Int)) (rfl) ?_
          refine nr ?_; intro U h; simp only [z0, z1] at h; subst h
          refine s_val 58 rfl rfl (.int .i64 ((l.length : Nat) : Int)) (rfl) ?_
          refine nr ?_; intro U h; simp only [z0, z1] at h; subst h
          refine s_val 59 rfl rfl (.func (.func 40) #[] #[.pointer (some ⟨c, 0, none⟩)]) (rfl) ?_
          refine nr ?_; intro U h; simp only [z0, z1] at h; subst h
          refine s_callx 60 rfl rfl _ 51 Try.call51 rfl rfl _ rfl [.slice ao l.length cap, .int .i64 ((40 * u : Nat) : Int), .int .i64 ((40 * u + 20 : Nat) : Int), .int .i64 ((l.length : Nat) : Int), .func (.func 40) #[] #[.pointer (some ⟨c, 0, none⟩)]] rfl (by have h_ := symMerge_any l.length _ B ao cap (fst2 ltC l) c HO CK (by rw [fst2_len]; exact hl) 0 20 l.length (by omega) (by omega) (by rw [fst2_len]; exact Nat.le_refl _) (by omega) (fst2_sd sw_C h20).1 (fst2_sd sw_C h20).2.1; rw [(fst2_sd sw_C h20).2.2, fst2_len] at h_; exact (by rw [show (40 * u + 20 : Nat) = 20 by omega, show (40 * u : Nat) = 0 by omega]; exact h_)) (by rintro _ _ ⟨he, _⟩; exact ⟨_, he⟩) ?_
          rintro v w2 ⟨he, G2, HO2⟩
          cases he
          replace CK := CK.gros G2 HO.own
          replace GG := GG.trans G2
          clear G2 HO
          have HO := HO2
          clear HO2
          refine nr ?_; intro U h; simp only [z0, z1] at h; subst h
          refine wpList_nil ?_
          refine then_n ?_
          refine wp_region_lit ?_
          refine s_val 61 rfl rfl (.int .i64 ((20 + 20 * v : Nat) : Int)) (rfl) ?_
          refine nr ?_; intro U h; simp only [z0, z1] at h; subst h
          refine s_val 62 rfl rfl (.int .i64 ((20 + 20 * (v + 1) : Nat) : Int)) (run_mulI 3 _ _ _ rfl ((20 + 20 * v : Nat) : Int) 2 ((20 + 20 * (v + 1) : Nat) : Int) rfl rfl (by omega) (by omega) (by omega) _) ?_
          refine nr ?_; intro U h; simp only [z0, z1] at h; subst h
          refine s_val 6 rfl rfl (.int .i64 ((20 + 20 * (v + 1) : Nat) : Int)) (rfl) ?_
          refine nr ?_; intro U h; simp only [z0, z1] at h; subst h
          refine wpList_nil ?_
          refine blk_n ?_
          refine then_n ?_
          exact ⟨3 - (v + 1), by omega, v + 1, (fun kz => ([.int .i64 ((40 * u : Nat) : Int), .int .i64 ((40 * u + 40 : Nat) : Int), .int .i64 ((40 * u + 20 : Nat) : Int), .int .i64 ((20 + 20 * v : Nat) : Int), .int .i64 ((l.length : Nat) : Int), .bool true, .int .i64 ((20 + 20 * v : Nat) : Int), .int .i64 ((40 * 0 + 40 : Nat) : Int), .int .i64 ((40 * u + 40 : Nat) : Int), .int .i64 ((l.length : Nat) : Int), .bool false, us3 3, us3 4, us3 5, us3 6, us3 7, us3 8, us3 9, us3 10, us3 11, us3 12, us3 13, us3 14, us3 15, .int .i64 ((40 * u : Nat) : Int), .int .i64 ((20 + 20 * v : Nat) : Int), .int .i64 ((40 * u + 20 : Nat) : Int), .int .i64 ((40 * u + 20 : Nat) : Int), .int .i64 ((l.length : Nat) : Int), .bool true, .slice ao l.length cap, .int .i64 ((40 * u : Nat) : Int), .int .i64 ((40 * u + 20 : Nat) : Int), .int .i64 ((l.length : Nat) : Int), .func (.func 40) #[] #[.pointer (some ⟨c, 0, none⟩)], .tuple #[], .int .i64 ((20 + 20 * v : Nat) : Int), .int .i64 ((20 + 20 * (v + 1) : Nat) : Int)] : List Value).getD kz undef), rfl, rfl, by omega, .inr h20, GG, by rw [if_neg (by omega)]; exact HO, CK⟩
      · have hu0 : u = 0 := by have := of_decide_eq_true hb3; omega
        have hu40 : l.length = 40 := by have := of_decide_eq_true hb3; omega
        rw [if_pos hu0] at HO
        refine s_val 35 rfl rfl (.bool true) (run_leqT 3 _ _ _ rfl ((40 * u + 40 : Nat) : Int) ((l.length : Nat) : Int) rfl rfl true hb3 _) ?_
        refine nr ?_; intro U h; simp only [z0, z1] at h; subst h
        refine wpList_nil ?_
        refine then_n ?_
        refine wp_cond_true rfl ?_
        refine wp_skip ?_
        refine then_n ?_
        refine wp_block ?_
        refine wp_seq ?_
        refine wp_region_lit ?_
        refine s_val 36 rfl rfl (.slice ao l.length cap) (rfl) ?_
        refine nr ?_; intro U h; simp only [z0, z1] at h; subst h
        refine s_val 37 rfl rfl (.int .i64 ((40 * u : Nat) : Int)) (rfl) ?_
        refine nr ?_; intro U h; simp only [z0, z1] at h; subst h
        refine s_val 38 rfl rfl (.int .i64 ((40 * u : Nat) : Int)) (rfl) ?_
        refine nr ?_; intro U h; simp only [z0, z1] at h; subst h
        refine s_val 39 rfl rfl (.int .i64 ((20 + 20 * v : Nat) : Int)) (rfl) ?_
        refine nr ?_; intro U h; simp only [z0, z1] at h; subst h
        refine s_val 40 rfl rfl (.int .i64 ((20 : Nat) : Int)) (run_addI 3 _ _ _ rfl ((40 * u : Nat) : Int) ((20 + 20 * v : Nat) : Int) ((20 : Nat) : Int) rfl rfl (by omega) (by omega) (by omega) _) ?_
        refine nr ?_; intro U h; simp only [z0, z1] at h; subst h
        refine s_val 41 rfl rfl (.int .i64 ((40 * u + 40 : Nat) : Int)) (rfl) ?_
        refine nr ?_; intro U h; simp only [z0, z1] at h; subst h
        refine s_val 42 rfl rfl (.func (.func 40) #[] #[.pointer (some ⟨c, 0, none⟩)]) (rfl) ?_
        refine nr ?_; intro U h; simp only [z0, z1] at h; subst h
        refine s_callx 43 rfl rfl _ 51 Try.call51 rfl rfl _ rfl [.slice ao l.length cap, .int .i64 ((40 * u : Nat) : Int), .int .i64 ((20 : Nat) : Int), .int .i64 ((40 * u + 40 : Nat) : Int), .func (.func 40) #[] #[.pointer (some ⟨c, 0, none⟩)]] rfl (by have h_ := symMerge_any l.length _ B ao cap (fst2 ltC l) c HO CK (by rw [fst2_len]; exact hl) 0 20 l.length (by omega) (by omega) (by rw [fst2_len]; exact Nat.le_refl _) (by omega) (fst2_sd sw_C h20).1 (fst2_sd sw_C h20).2.1; rw [(fst2_sd sw_C h20).2.2, fst2_len] at h_; exact (by rw [show (40 * u + 40 : Nat) = l.length by omega, show (40 * u : Nat) = 0 by omega]; exact h_)) (by rintro _ _ ⟨he, _⟩; exact ⟨_, he⟩) ?_
        rintro v w2 ⟨he, G2, HO2⟩
        cases he
        replace CK := CK.gros G2 HO.own
        replace GG := GG.trans G2
        clear G2 HO
        have HO := HO2
        clear HO2
        refine nr ?_; intro U h; simp only [z0, z1] at h; subst h
        refine wpList_nil ?_
        refine then_n ?_
        refine wp_seq ?_
        refine wp_region_lit ?_
        refine s_val 44 rfl rfl (.int .i64 ((40 * u + 40 : Nat) : Int)) (rfl) ?_
        refine nr ?_; intro U h; simp only [z0, z1] at h; subst h
        refine s_val 7 rfl rfl (.int .i64 ((40 * u + 40 : Nat) : Int)) (rfl) ?_
        refine nr ?_; intro U h; simp only [z0, z1] at h; subst h
        refine wpList_nil ?_
        refine then_n ?_
        refine wp_region_lit ?_
        refine s_val 45 rfl rfl (.int .i64 ((40 * u + 40 : Nat) : Int)) (rfl) ?_
        refine nr ?_; intro U h; simp only [z0, z1] at h; subst h
        refine s_val 46 rfl rfl (.int .i64 ((20 + 20 * v : Nat) : Int)) (rfl) ?_
        refine nr ?_; intro U h; simp only [z0, z1] at h; subst h
        refine s_val 47 rfl rfl (.int .i64 ((40 : Nat) : Int)) (run_mulI 3 _ _ _ rfl 2 ((20 + 20 * v : Nat) : Int) (((40 : Nat)) : Int) rfl rfl (by omega) (by omega) (by omega) _) ?_
        refine nr ?_; intro U h; simp only [z0, z1] at h; subst h
        refine s_val 48 rfl rfl (.int .i64 ((40 * (u + 1) + 40 : Nat) : Int)) (run_addI 3 _ _ _ rfl ((40 * u + 40 : Nat) : Int) ((40 : Nat) : Int) ((40 * (u + 1) + 40 : Nat) : Int) rfl rfl (by omega) (by omega) (by omega) _) ?_
        refine nr ?_; intro U h; simp only [z0, z1] at h; subst h
        refine s_val 8 rfl rfl (.int .i64 ((40 * (u + 1) + 40 : Nat) : Int)) (rfl) ?_
        refine nr ?_; intro U h; simp only [z0, z1] at h; subst h
        refine wpList_nil ?_
        refine blk_n ?_
        refine then_n ?_
        exact ⟨3 - (u + 1), by omega, u + 1, (fun kz => ([.int .i64 ((40 * u + 40 : Nat) : Int), .int .i64 ((l.length : Nat) : Int), .bool true, .slice ao l.length cap, .int .i64 ((40 * u : Nat) : Int), .int .i64 ((40 * u : Nat) : Int), .int .i64 ((20 + 20 * v : Nat) : Int), .int .i64 ((20 : Nat) : Int), .int .i64 ((40 * u + 40 : Nat) : Int), .func (.func 40) #[] #[.pointer (some ⟨c, 0, none⟩)], .tuple #[], .int .i64 ((40 * u + 40 : Nat) : Int), .int .i64 ((40 * u + 40 : Nat) : Int), .int .i64 ((20 + 20 * v : Nat) : Int), .int .i64 ((40 : Nat) : Int), .int .i64 ((40 * (u + 1) + 40 : Nat) : Int)] : List Value).getD kz undef), rfl, rfl, by omega, .inr hu40, GG, by rw [if_neg (by omega)]; exact HO, CK⟩
  · have hk2 : 20 * k + 20 ≤ l.length := by have := of_decide_eq_true hb1; omega
    refine s_val 13 rfl rfl (.bool true) (run_leqT 3 _ _ _ rfl ((20 * k + 20 : Nat) : Int) ((l.length : Nat) : Int) rfl rfl true hb1 _) ?_
    refine nr ?_; intro U h; simp only [z0, z1] at h; subst h
    refine wpList_nil ?_
    refine then_n ?_
    refine wp_cond_true rfl ?_
    refine wp_skip ?_
    refine then_n ?_
    refine wp_block ?_
    refine wp_seq ?_
    refine wp_region_lit ?_
    refine s_val 14 rfl rfl (.slice ao l.length cap) (rfl) ?_
    refine nr ?_; intro U h; simp only [z0, z1] at h; subst h
    refine s_val 15 rfl rfl (.int .i64 ((20 * k : Nat) : Int)) (rfl) ?_
    refine nr ?_; intro U h; simp only [z0, z1] at h; subst h
    refine s_val 16 rfl rfl (.int .i64 ((20 * k + 20 : Nat) : Int)) (rfl) ?_
    refine nr ?_; intro U h; simp only [z0, z1] at h; subst h
    refine s_val 17 rfl rfl (.func (.func 40) #[] #[.pointer (some ⟨c, 0, none⟩)]) (rfl) ?_
    refine nr ?_; intro U h; simp only [z0, z1] at h; subst h
    refine s_callx 18 rfl rfl _ 50 Try.call50 rfl rfl _ rfl [.slice ao l.length cap, .int .i64 ((20 * k : Nat) : Int), .int .i64 ((20 * k + 20 : Nat) : Int), .func (.func 40) #[] #[.pointer (some ⟨c, 0, none⟩)]] rfl (by have h_ := insertion_any _ B ao cap (chk ltC l k) c HO CK (by rw [chk_len hk hkl]; exact hl) (20 * k) (20 * k + 20) (by omega) (by rw [chk_len hk hkl]; omega); rw [chk_len hk hkl] at h_; exact h_) (by rintro _ _ ⟨he, _⟩; exact ⟨_, he⟩) ?_
    rintro v w1 ⟨he, G2, HO2⟩
    cases he
    replace CK := CK.gros G2 HO.own
    replace GG := GG.trans G2
    clear G2 HO
    have HO := HO2
    clear HO2
    refine nr ?_; intro U h; simp only [z0, z1] at h; subst h
    refine wpList_nil ?_
    refine then_n ?_
    refine wp_seq ?_
    refine wp_region_lit ?_
    refine s_val 19 rfl rfl (.int .i64 ((20 * k + 20 : Nat) : Int)) (rfl) ?_
    refine nr ?_; intro U h; simp only [z0, z1] at h; subst h
    refine s_val 7 rfl rfl (.int .i64 ((20 * k + 20 : Nat) : Int)) (rfl) ?_
    refine nr ?_; intro U h; simp only [z0, z1] at h; subst h
    refine wpList_nil ?_
    refine then_n ?_
    refine wp_region_lit ?_
    refine s_val 20 rfl rfl (.int .i64 ((20 * k + 20 : Nat) : Int)) (rfl) ?_
    refine nr ?_; intro U h; simp only [z0, z1] at h; subst h
    refine s_val 21 rfl rfl (.int .i64 20) (rfl) ?_
    refine nr ?_; intro U h; simp only [z0, z1] at h; subst h
    refine s_val 22 rfl rfl (.int .i64 ((20 * (k + 1) + 20 : Nat) : Int)) (run_addI 3 _ _ _ rfl ((20 * k + 20 : Nat) : Int) ((20 : Nat) : Int) ((20 * (k + 1) + 20 : Nat) : Int) rfl rfl (by omega) (by omega) (by omega) _) ?_
    refine nr ?_; intro U h; simp only [z0, z1] at h; subst h
    refine s_val 8 rfl rfl (.int .i64 ((20 * (k + 1) + 20 : Nat) : Int)) (rfl) ?_
    refine nr ?_; intro U h; simp only [z0, z1] at h; subst h
    refine wpList_nil ?_
    refine blk_n ?_
    refine then_n ?_
    exact ⟨4 - (k + 1), by omega, k + 1, (fun kz => ([.int .i64 ((20 * k + 20 : Nat) : Int), .int .i64 ((l.length : Nat) : Int), .bool true, .slice ao l.length cap, .int .i64 ((20 * k : Nat) : Int), .int .i64 ((20 * k + 20 : Nat) : Int), .func (.func 40) #[] #[.pointer (some ⟨c, 0, none⟩)], .tuple #[], .int .i64 ((20 * k + 20 : Nat) : Int), .int .i64 ((20 * k + 20 : Nat) : Int), .int .i64 20, .int .i64 ((20 * (k + 1) + 20 : Nat) : Int)] : List Value).getD kz undef), rfl, rfl, by omega, by omega, GG, by rw [← chk_next (lt := ltC) (by omega) hk2]; exact HO, CK⟩
set_option maxRecDepth 100000 in
set_option maxHeartbeats 4000000 in
theorem sortStable_any (w : World) (B : Nat) (ao : Option Addr) (cap : Nat) (l : List Cd) (c : Nat) (HO : OW kC 33 w B ao cap l) (CK : CloC w c) (hl : l.length ≤ 1000000) (hm : l.length ≤ 40) : Calls Try.prog 20 #[.slice ao l.length cap, .func (.func 40) #[] #[.pointer (some ⟨c, 0, none⟩)]] w (SrtP w B ao cap (srt ltC l)) := by
  refine s_enter Try.func20 rfl Try.ntmps20 [.slice ao l.length cap, .func (.func 40) #[] #[.pointer (some ⟨c, 0, none⟩)]] [.slice ao l.length cap, .func (.func 40) #[] #[.pointer (some ⟨c, 0, none⟩)], undef, undef, undef, undef, undef, undef, undef] rfl ?_
  have GG := GroS.refl (Go.Proofs.Ytfabgonoonanfaa.blk ao) w
  refine wp_region_lit ?_
  refine s_val 4 rfl rfl (.slice ao l.length cap) (rfl) ?_
  refine nr ?_; intro U h; simp only [z0, z1] at h; subst h
  refine s_val 5 rfl rfl (.slice ao l.length cap) (rfl) ?_
  refine nr ?_; intro U h; simp only [z0, z1] at h; subst h
  refine s_val 6 rfl rfl (.int .i64 ((l.length : Nat) : Int)) (run_len Try.underlying25 _ rfl _ _ _ rfl _) ?_
  refine nr ?_; intro U h; simp only [z0, z1] at h; subst h
  refine s_val 7 rfl rfl (.func (.func 40) #[] #[.pointer (some ⟨c, 0, none⟩)]) (rfl) ?_
  refine nr ?_; intro U h; simp only [z0, z1] at h; subst h
  refine s_callx 8 rfl rfl _ 39 Try.call39 rfl rfl _ rfl [.slice ao l.length cap, .int .i64 ((l.length : Nat) : Int), .func (.func 40) #[] #[.pointer (some ⟨c, 0, none⟩)]] rfl (stable_any _ B ao cap l c HO CK hl hm) (by rintro _ _ ⟨he, _⟩; exact ⟨_, he⟩) ?_
  rintro v w1 ⟨he, G2, HO2⟩
  cases he
  replace CK := CK.gros G2 HO.own
  replace GG := GG.trans G2
  clear G2 HO
  have HO := HO2
  clear HO2
  refine nr ?_; intro U h; simp only [z0, z1] at h; subst h
  refine wpList_nil ?_
  refine post_n (results_none Try.results20 _ _ _) rfl ?_
  exact ⟨rfl, GG, HO⟩
end Go.Proofs.Ytfabgonoonanfaa
