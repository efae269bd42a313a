/- The law of reaching: the same whoever asks. -/
import Derived.Test.YtmjblbgalkjmiaaGreatBE3
import Derived.Test.YtmjblbgalkjmiaaGreatBE4
import Derived.Test.YtmjblbgalkjmiaaGreatBYM
namespace Go.Proofs.YtmjblbgalkjmiaaGreat
open Go.RowKit
theorem fixed_any (w : World) : Calls Tryz.prog 11 #[] w fun e w' => e = .returned (.bool true) ∧ Gro w w' :=
  (fixed_lone w).mono fun _ _ ⟨he, h1, h2, h3, h4, h5⟩ => ⟨he, ⟨h1, h2, h3, h4, h5⟩⟩
def hasB (i : Nat) (l : List Nat) : Bool := l.contains i
theorem hasB_step (i : Nat) (l : List Nat) (j : Nat) (hj : j < l.length) : hasB i (l.take (j + 1)) = (hasB i (l.take j) || decide (((l.getD j 0 : Nat) : Int) = ((i : Nat) : Int))) := by
  rw [take_at 0 l j hj, Bool.eq_iff_iff]
  simp only [hasB, List.contains_iff_mem, List.mem_append, List.mem_singleton, Bool.or_eq_true, decide_eq_true_eq]
  constructor
  · rintro (h | h)
    · exact .inl h
    · exact .inr (by omega)
  · rintro (h | h)
    · exact .inl h
    · exact .inr (by omega)
section
variable {l : List VW} {R : Nat → Nat → Bool} {i : Nat} {X : List Nat}
theorem rch_dec (hX : rch l.length (upF l) R i = X) (hi : i < l.length) : decide ((0 : Int) < ((X.length : Nat) : Int)) = (l.getD i zW).up := by
  have h : 0 < X.length ↔ (l.getD i zW).up = true := hX ▸ rch_pos l.length (upF l) R hi
  cases e : (l.getD i zW).up with
  | true =>
    have := h.2 e
    exact decide_eq_true (by omega)
  | false =>
    refine decide_eq_false fun k => ?_
    have := h.1 (by omega)
    rw [e] at this
    cases this
theorem has_rch (hX : rch l.length (upF l) R i = X) (hi : i < l.length) : hasB i X = (l.getD i zW).up := by
  unfold hasB
  cases e : (l.getD i zW).up with
  | true =>
    rw [List.contains_iff_mem, ← hX]
    exact rch_self l.length (upF l) R hi e
  | false =>
    rw [← hX, rch_no l.length (upF l) R (fun h => by have := h.2; unfold upF at this; rw [e] at this; cases this)]
    rfl
theorem rch_at (hX : rch l.length (upF l) R i = X) {j : Nat} (hj : j < X.length) : X.getD j 0 ∈ rch l.length (upF l) R i := by
  rw [hX, List.getD_eq_getElem?_getD, List.getElem?_eq_getElem hj]
  exact List.getElem_mem hj
theorem rch_back (hR : ∀ x y, R x y = R y x) (hX : rch l.length (upF l) R i = X) {j : Nat} (hj : j < X.length) : rch l.length (upF l) R (X.getD j 0) = X :=
  (rch_same l.length (upF l) R (fun x y _ _ h => (hR y x).trans h) (rch_at hX hj)).trans hX
end
set_option maxRecDepth 100000 in
set_option maxHeartbeats 4000000 in
theorem reaches_any (ao : Option Addr) (cap : Nat) (l : List VW) (ap : Option Addr) (cp : Nat) (Lk : List (Int × Int)) (w : World) (HL : RK kvw w ao cap l) (hV0 : ∀ i, i < l.length → ∃ E, RK ken w (l.getD i zW).no (l.getD i zW).nc E ∧ (l.getD i zW).nn = E.length) (HP : RK kP w ap cp Lk) (hll : Lk.length ≤ 9223372036854775807) : Calls Tryz.prog 8 #[.slice ao l.length cap, .slice ap Lk.length cp] w (fun e w' => e = .returned (.bool true) ∧ Gro w w') := by
  refine s_enter Tryz.func8 rfl Tryz.ntmps8 [.slice ao l.length cap, .slice ap Lk.length cp] [.slice ao l.length cap, .slice ap Lk.length cp, undef, undef, undef, undef, undef, undef, undef, undef, undef, undef, undef, undef, undef, undef, undef, undef, undef, undef, undef, undef, undef, undef, undef, undef, undef, undef, undef, undef, undef, undef, undef, undef, undef, undef, undef, undef, undef, undef, undef, undef, undef, undef, undef, undef, undef, undef, undef, undef, undef, undef, undef, undef, undef, undef, undef, undef, undef, undef, undef, undef, undef, undef, undef, undef, undef, undef, undef, undef, undef, undef, undef, undef, undef, undef, undef, undef, undef, undef, undef, undef, undef] rfl ?_
  have GG := Gro.refl w
  refine wp_seq ?_
  refine wp_region_lit ?_
  refine s_val 4 rfl rfl (.bool false) (rfl) ?_
  refine nr ?_; intro U h; simp only [z0, z1] at h; subst h
  refine wpList_nil ?_
  refine then_n ?_
  refine wp_seq ?_
  refine wp_region_lit ?_
  refine s_val 13 rfl rfl (.slice ao l.length cap) (rfl) ?_
  refine nr ?_; intro U h; simp only [z0, z1] at h; subst h
  refine s_callx 14 rfl rfl _ 9 Tryz.call9 rfl rfl _ rfl [.slice ao l.length cap] rfl (small_any ao cap l _ (HL.gro GG) (fun i hi => by obtain ⟨E, h1, h2⟩ := hV0 i hi; exact ⟨E, h1.gro GG, h2⟩)) (by rintro _ _ ⟨_, _, _, he, _, _, _⟩; exact ⟨_, he⟩) ?_
  rintro v w1 ⟨a1, c1, L, he, G, HV, hL6⟩
  cases he
  replace GG := GG.trans G
  clear G
  refine nr ?_; intro U h; simp only [z0, z1] at h; subst h
  refine s_val 0 rfl rfl (.slice a1 L.length c1) (rfl) ?_
  refine nr ?_; intro U h; simp only [z0] at h; subst h
  refine wpList_nil ?_
  refine then_n ?_
  refine wp_seq ?_
  refine wp_region_lit ?_
  refine s_val 15 rfl rfl (.slice ap Lk.length cp) (rfl) ?_
  refine nr ?_; intro U h; simp only [z0, z1] at h; subst h
  refine s_callx 16 rfl rfl _ 20 Tryz.call20 rfl rfl _ rfl [.slice ap Lk.length cp] rfl (links_any ap cp Lk _ (HP.gro GG) hll) (by rintro _ _ ⟨_, he, _, _⟩; exact ⟨_, he⟩) ?_
  rintro v w2 ⟨M, he, G, hM⟩
  cases he
  replace HV := HV.gro G
  replace GG := GG.trans G
  clear G
  refine nr ?_; intro U h; simp only [z0, z1] at h; subst h
  refine s_alloc 5 rfl rfl 46 rfl _ zeroM (mxA mx0) rfl ?_
  intro w3 g5 G eg5 kg5
  have bg5 := size_base GG eg5
  have dHVg5 := HV.ne eg5
  replace HV := HV.gro G
  replace GG := GG.trans G
  clear G
  clear eg5
  refine nr ?_; intro U h; simp only [z0, z1] at h; subst h
  refine s_store rfl rfl 46 _ _ rfl g5 0 rfl (.agg (mxA M)) rfl 46 _ kg5 (mxA M) rfl (siM' _) (mxA_fit _ _) (mxA_one _) (mxA M) (splice_whole _ _ (mxA_sz _ _)) ?_
  intro w4 St
  replace HV := HV.st St dHVg5
  replace GG := GG.store St bg5
  replace kg5 := St.new
  clear St
  refine wpList_nil ?_
  refine then_n ?_
  refine wp_seq ?_
  refine wp_seq ?_
  refine wp_region_lit ?_
  refine s_val 17 rfl rfl (.slice a1 L.length c1) (rfl) ?_
  refine nr ?_; intro U h; simp only [z0, z1] at h; subst h
  refine s_val 18 rfl rfl (.int .i64 ((L.length : Nat) : Int)) (run_len Tryz.underlying22 _ rfl _ _ _ rfl _) ?_
  refine nr ?_; intro U h; simp only [z0, z1] at h; subst h
  refine s_val 19 rfl rfl (.int .i64 0) (rfl) ?_
  refine nr ?_; intro U h; simp only [z0, z1] at h; subst h
  refine wpList_nil ?_
  refine then_n ?_
  refine wp_block ?_
  refine wp_loopN (fun mz az wv => ∃ (i : Nat) (us1 : Nat → Value), mz = L.length - i ∧ az = ⟨[.slice a1 L.length c1, .slice ap Lk.length cp, undef, undef, us1 0, .pointer (some ⟨g5, 0, none⟩), us1 1, us1 2, us1 3, undef, us1 4, us1 5, us1 6, .slice ao l.length cap, .slice a1 L.length c1, .slice ap Lk.length cp, .agg (mxA M), .slice a1 L.length c1, .int .i64 ((L.length : Nat) : Int), .int .i64 ((i : Nat) : Int), us1 7, us1 8, us1 9, us1 10, us1 11, us1 12, us1 13, us1 14, us1 15, us1 16, us1 17, us1 18, us1 19, us1 20, us1 21, us1 22, us1 23, us1 24, us1 25, us1 26, us1 27, us1 28, us1 29, us1 30, us1 31, us1 32, us1 33, us1 34, us1 35, us1 36, us1 37, us1 38, us1 39, us1 40, us1 41, us1 42, us1 43, us1 44, us1 45, us1 46, us1 47, us1 48, us1 49, us1 50, us1 51, us1 52, us1 53, us1 54, us1 55, us1 56, us1 57, us1 58, us1 59, us1 60, us1 61, us1 62, us1 63, us1 64, us1 65, us1 66, us1 67, us1 68, undef].toArray, []⟩ ∧ Gro w wv ∧ RK kvw wv a1 c1 L ∧ wv.heap[g5]? = some (.cells (mxA M) 46 (0, 0)) ∧ i ≤ L.length) ?_ _ ⟨0, (fun kz => ([.bool false, undef, undef, undef, undef, undef, undef, undef, undef, undef, undef, undef, undef, undef, undef, undef, undef, undef, undef, undef, undef, undef, undef, undef, undef, undef, undef, undef, undef, undef, undef, undef, undef, undef, undef, undef, undef, undef, undef, undef, undef, undef, undef, undef, undef, undef, undef, undef, undef, undef, undef, undef, undef, undef, undef, undef, undef, undef, undef, undef, undef, undef, undef, undef, undef, undef, undef, undef, undef] : List Value).getD kz undef), rfl, rfl, GG, HV, kg5, Nat.zero_le _⟩
  clear GG kg5 HV
  rintro mz az wv ⟨i, us1, rfl, rfl, GG, HV, kg5, hi⟩
  refine wp_seq ?_
  cases hi1 : decide (((i : Nat) : Int) < ((L.length : Nat) : Int))
  · have hi1e : i = L.length := by have := of_decide_eq_false hi1; omega
    refine wp_region_lit ?_
    refine s_val 20 rfl rfl (.bool false) (run_lssT 3 _ _ _ rfl ((i : Nat) : Int) ((L.length : Nat) : Int) rfl rfl false hi1 _) ?_
    refine nr ?_; intro U h; simp only [z0, z1] at h; subst h
    refine wpList_nil ?_
    refine then_n ?_
    refine wp_seq ?_
    refine wp_cond_false rfl ?_
    refine wp_exit ?_
    refine then_x ?_
    refine then_x ?_
    refine blk_x ?_
    refine then_n ?_
    refine wp_seq ?_
    refine wp_region_lit ?_
    refine s_callv 82 rfl rfl _ 11 Tryz.call11 rfl rfl _ rfl [] rfl (fixed_any _) ?_
    intro w5 G
    replace kg5 := G.has kg5
    replace HV := HV.gro G
    replace GG := GG.trans G
    clear G
    refine nr ?_; intro U h; simp only [z0, z1] at h; subst h
    refine s_val 4 rfl rfl (.bool true) (rfl) ?_
    refine nr ?_; intro U h; simp only [z0, z1] at h; subst h
    refine wpList_nil ?_
    refine then_n ?_
    refine wp_ret ?_
    refine bodyPost_ret (results_tmp Tryz.results8 _ _ _) rfl ?_
    exact ⟨rfl, GG⟩
  · have hi1l : i < L.length := by have := of_decide_eq_true hi1; omega
    refine wp_region_lit ?_
    refine s_val 20 rfl rfl (.bool true) (run_lssT 3 _ _ _ rfl ((i : Nat) : Int) ((L.length : Nat) : Int) rfl rfl true hi1 _) ?_
    refine nr ?_; intro U h; simp only [z0, z1] at h; subst h
    refine wpList_nil ?_
    refine then_n ?_
    refine wp_seq ?_
    refine wp_cond_true rfl ?_
    refine wp_skip ?_
    refine then_n ?_
    refine wp_seq ?_
    refine wp_block ?_
    refine wp_seq ?_
    refine wp_region_lit ?_
    refine s_val 21 rfl rfl (.int .i64 ((i : Nat) : Int)) (rfl) ?_
    refine nr ?_; intro U h; simp only [z0, z1] at h; subst h
    refine s_val 6 rfl rfl (.int .i64 ((i : Nat) : Int)) (rfl) ?_
    refine nr ?_; intro U h; simp only [z0, z1] at h; subst h
    refine wpList_nil ?_
    refine then_n ?_
    refine wp_seq ?_
    obtain ⟨X, hX⟩ : ∃ X, rch L.length (upF L) M i = X := ⟨_, rfl⟩
    have hXn : X.length ≤ 6 := hX ▸ Nat.le_trans (rch_len _ _ _ _) hL6
    refine wp_region_lit ?_
    refine s_val 22 rfl rfl (.slice a1 L.length c1) (rfl) ?_
    refine nr ?_; intro U h; simp only [z0, z1] at h; subst h
    refine s_val 23 rfl rfl (.agg (mxA M)) (ldM0 _ rfl g5 rfl (kg5)) ?_
    refine nr ?_; intro U h; simp only [z0, z1] at h; subst h
    refine s_val 24 rfl rfl (.func (.func 22) #[.agg (mxA M)] #[]) (run_mkB 22 _ rfl _ rfl) ?_
    refine nr ?_; intro U h; simp only [z0, z1] at h; subst h
    refine s_val 25 rfl rfl (.int .i64 ((i : Nat) : Int)) (rfl) ?_
    refine nr ?_; intro U h; simp only [z0, z1] at h; subst h
    refine s_callx 26 rfl rfl _ 26 Tryz.call26 rfl rfl _ rfl [.slice a1 L.length c1, .func (.func 22) #[.agg (mxA M)] #[], .int .i64 ((i : Nat) : Int)] rfl (RowZ.to hX (reach_any a1 c1 L M i _ HV hL6 hi1l)) (by rintro _ _ ⟨_, _, he, _, _⟩; exact ⟨_, he⟩) ?_
    rintro v w5 ⟨ax, cx, he, G, HX⟩
    cases he
    replace kg5 := G.has kg5
    replace HV := HV.gro G
    replace GG := GG.trans G
    clear G
    refine nr ?_; intro U h; simp only [z0, z1] at h; subst h
    refine s_val 7 rfl rfl (.slice ax X.length cx) (rfl) ?_
    refine nr ?_; intro U h; simp only [z0, z1] at h; subst h
    refine wpList_nil ?_
    refine then_n ?_
    refine wp_seq ?_
    refine wp_seq ?_
    refine wp_region_lit ?_
    refine s_val 27 rfl rfl (.slice ax X.length cx) (rfl) ?_
    refine nr ?_; intro U h; simp only [z0, z1] at h; subst h
    refine s_val 28 rfl rfl (.int .i64 ((X.length : Nat) : Int)) (run_len Tryz.underlying53 _ rfl _ _ _ rfl _) ?_
    refine nr ?_; intro U h; simp only [z0, z1] at h; subst h
    refine s_val 29 rfl rfl (.bool ((L.getD i zW).up)) (run_gtrT 3 _ _ _ rfl ((X.length : Nat) : Int) 0 rfl rfl _ (rch_dec hX hi1l) _) ?_
    refine nr ?_; intro U h; simp only [z0, z1] at h; subst h
    refine s_val 30 rfl rfl (.slice a1 L.length c1) (rfl) ?_
    refine nr ?_; intro U h; simp only [z0, z1] at h; subst h
    refine s_val 31 rfl rfl (.int .i64 ((i : Nat) : Int)) (rfl) ?_
    refine nr ?_; intro U h; simp only [z0, z1] at h; subst h
    refine s_val 32 rfl rfl (.pointer (pK kvw a1 i 0)) (run_ixK rvw22 (HV) _ _ rfl rfl i rfl hi1l) ?_
    refine nr ?_; intro U h; simp only [z0, z1] at h; subst h
    refine s_val 33 rfl rfl (.pointer (pK kvw a1 i 0)) (run_fdK (HV) 63 _ 0 0 (fdvw_0 _) rfl i rfl hi1l) ?_
    refine nr ?_; intro U h; simp only [z0, z1] at h; subst h
    refine s_val 34 rfl rfl (.bool (L.getD i zW).up) (rldVwu (HV) _ rfl i rfl hi1l) ?_
    refine nr ?_; intro U h; simp only [z0, z1] at h; subst h
    refine s_val 35 rfl rfl (.bool false) (run_neB 4 _ _ _ rfl ((L.getD i zW).up) ((L.getD i zW).up) rfl rfl Tryz.underlying4 false (decide_eq_true rfl) _) ?_
    refine nr ?_; intro U h; simp only [z0, z1] at h; subst h
    refine wpList_nil ?_
    refine then_n ?_
    refine wp_cond_false rfl ?_
    refine wp_skip ?_
    refine then_n ?_
    refine wp_seq ?_
    refine wp_region_lit ?_
    refine s_val 8 rfl rfl (.bool false) (rfl) ?_
    refine nr ?_; intro U h; simp only [z0, z1] at h; subst h
    refine wpList_nil ?_
    refine then_n ?_
    refine wp_seq ?_
    refine wp_seq ?_
    refine wp_region_lit ?_
    refine s_val 36 rfl rfl (.slice ax X.length cx) (rfl) ?_
    refine nr ?_; intro U h; simp only [z0, z1] at h; subst h
    refine s_val 37 rfl rfl (.int .i64 ((X.length : Nat) : Int)) (run_len Tryz.underlying53 _ rfl _ _ _ rfl _) ?_
    refine nr ?_; intro U h; simp only [z0, z1] at h; subst h
    refine s_val 38 rfl rfl (.int .i64 0) (rfl) ?_
    refine nr ?_; intro U h; simp only [z0, z1] at h; subst h
    refine wpList_nil ?_
    refine then_n ?_
    refine wp_block ?_
    refine wp_loopN (fun mz az wv => ∃ (j : Nat) (us2 : Nat → Value), mz = X.length - j ∧ az = ⟨[.slice a1 L.length c1, .slice ap Lk.length cp, undef, undef, us2 0, .pointer (some ⟨g5, 0, none⟩), .int .i64 ((i : Nat) : Int), .slice ax X.length cx, .bool (hasB i (X.take j)), undef, us2 1, us2 2, us2 3, .slice ao l.length cap, .slice a1 L.length c1, .slice ap Lk.length cp, .agg (mxA M), .slice a1 L.length c1, .int .i64 ((L.length : Nat) : Int), .int .i64 ((i : Nat) : Int), .bool true, .int .i64 ((i : Nat) : Int), .slice a1 L.length c1, .agg (mxA M), .func (.func 22) #[.agg (mxA M)] #[], .int .i64 ((i : Nat) : Int), .slice ax X.length cx, .slice ax X.length cx, .int .i64 ((X.length : Nat) : Int), .bool ((L.getD i zW).up), .slice a1 L.length c1, .int .i64 ((i : Nat) : Int), .pointer (pK kvw a1 i 0), .pointer (pK kvw a1 i 0), .bool (L.getD i zW).up, .bool false, .slice ax X.length cx, .int .i64 ((X.length : Nat) : Int), .int .i64 ((j : Nat) : Int), us2 4, us2 5, us2 6, us2 7, us2 8, us2 9, us2 10, us2 11, us2 12, us2 13, us2 14, us2 15, us2 16, us2 17, us2 18, us2 19, us2 20, us2 21, us2 22, us2 23, us2 24, us2 25, us2 26, us2 27, us2 28, us2 29, us2 30, us2 31, us2 32, us2 33, us2 34, us2 35, us2 36, us2 37, us2 38, us1 61, us1 62, us1 63, us1 64, us1 65, us1 66, us1 67, us1 68, undef].toArray, []⟩ ∧ Gro w wv ∧ RK kvw wv a1 c1 L ∧ wv.heap[g5]? = some (.cells (mxA M) 46 (0, 0)) ∧ RK kZ wv ax cx X ∧ j ≤ X.length) ?_ _ ⟨0, (fun kz => ([us1 0, us1 4, us1 5, us1 6, us1 26, us1 27, us1 28, us1 29, us1 30, us1 31, us1 32, us1 33, us1 34, us1 35, us1 36, us1 37, us1 38, us1 39, us1 40, us1 41, us1 42, us1 43, us1 44, us1 45, us1 46, us1 47, us1 48, us1 49, us1 50, us1 51, us1 52, us1 53, us1 54, us1 55, us1 56, us1 57, us1 58, us1 59, us1 60] : List Value).getD kz undef), rfl, rfl, GG, HV, kg5, HX, Nat.zero_le _⟩
    clear GG kg5 HV HX
    rintro mz az wv ⟨j, us2, rfl, rfl, GG, HV, kg5, HX, hj⟩
    refine wp_seq ?_
    cases hj1 : decide (((j : Nat) : Int) < ((X.length : Nat) : Int))
    · have hj1e : j = X.length := by have := of_decide_eq_false hj1; omega
      refine wp_region_lit ?_
      refine s_val 39 rfl rfl (.bool false) (run_lssT 3 _ _ _ rfl ((j : Nat) : Int) ((X.length : Nat) : Int) rfl rfl false hj1 _) ?_
      refine nr ?_; intro U h; simp only [z0, z1] at h; subst h
      refine wpList_nil ?_
      refine then_n ?_
      refine wp_seq ?_
      refine wp_cond_false rfl ?_
      refine wp_exit ?_
      refine then_x ?_
      refine then_x ?_
      refine blk_x ?_
      refine then_n ?_
      refine wp_seq ?_
      rw [show hasB i (X.take j) = (L.getD i zW).up from by rw [hj1e, List.take_length]; exact has_rch hX hi1l]
      refine wp_region_lit ?_
      refine s_val 74 rfl rfl (.bool ((L.getD i zW).up)) (rfl) ?_
      refine nr ?_; intro U h; simp only [z0, z1] at h; subst h
      refine s_val 75 rfl rfl (.slice a1 L.length c1) (rfl) ?_
      refine nr ?_; intro U h; simp only [z0, z1] at h; subst h
      refine s_val 76 rfl rfl (.int .i64 ((i : Nat) : Int)) (rfl) ?_
      refine nr ?_; intro U h; simp only [z0, z1] at h; subst h
      refine s_val 77 rfl rfl (.pointer (pK kvw a1 i 0)) (run_ixK rvw22 (HV) _ _ rfl rfl i rfl hi1l) ?_
      refine nr ?_; intro U h; simp only [z0, z1] at h; subst h
      refine s_val 78 rfl rfl (.pointer (pK kvw a1 i 0)) (run_fdK (HV) 63 _ 0 0 (fdvw_0 _) rfl i rfl hi1l) ?_
      refine nr ?_; intro U h; simp only [z0, z1] at h; subst h
      refine s_val 79 rfl rfl (.bool (L.getD i zW).up) (rldVwu (HV) _ rfl i rfl hi1l) ?_
      refine nr ?_; intro U h; simp only [z0, z1] at h; subst h
      refine s_val 80 rfl rfl (.bool false) (run_neB 4 _ _ _ rfl ((L.getD i zW).up) ((L.getD i zW).up) rfl rfl Tryz.underlying4 false (decide_eq_true rfl) _) ?_
      refine nr ?_; intro U h; simp only [z0, z1] at h; subst h
      refine wpList_nil ?_
      refine then_n ?_
      refine wp_cond_false rfl ?_
      refine wp_skip ?_
      refine blk_n ?_
      refine then_n ?_
      refine wp_region_lit ?_
      refine s_val 81 rfl rfl (.int .i64 ((i + 1 : Nat) : Int)) (run_addI 3 _ _ _ rfl ((i : Nat) : Int) 1 ((i + 1 : Nat) : Int) rfl rfl (by omega) (by omega) (by omega) _) ?_
      refine nr ?_; intro U h; simp only [z0, z1] at h; subst h
      refine s_val 19 rfl rfl (.int .i64 ((i + 1 : Nat) : Int)) (rfl) ?_
      refine nr ?_; intro U h; simp only [z0, z1] at h; subst h
      refine wpList_nil ?_
      refine then_n ?_
      exact ⟨_, by omega, i + 1, (fun kz => ([us2 0, .int .i64 ((i : Nat) : Int), .slice ax X.length cx, .bool ((L.getD i zW).up), us2 1, us2 2, us2 3, .bool true, .int .i64 ((i : Nat) : Int), .slice a1 L.length c1, .agg (mxA M), .func (.func 22) #[.agg (mxA M)] #[], .int .i64 ((i : Nat) : Int), .slice ax X.length cx, .slice ax X.length cx, .int .i64 ((X.length : Nat) : Int), .bool ((L.getD i zW).up), .slice a1 L.length c1, .int .i64 ((i : Nat) : Int), .pointer (pK kvw a1 i 0), .pointer (pK kvw a1 i 0), .bool (L.getD i zW).up, .bool false, .slice ax X.length cx, .int .i64 ((X.length : Nat) : Int), .int .i64 ((j : Nat) : Int), .bool false, us2 5, us2 6, us2 7, us2 8, us2 9, us2 10, us2 11, us2 12, us2 13, us2 14, us2 15, us2 16, us2 17, us2 18, us2 19, us2 20, us2 21, us2 22, us2 23, us2 24, us2 25, us2 26, us2 27, us2 28, us2 29, us2 30, us2 31, us2 32, us2 33, us2 34, us2 35, us2 36, us2 37, us2 38, .bool ((L.getD i zW).up), .slice a1 L.length c1, .int .i64 ((i : Nat) : Int), .pointer (pK kvw a1 i 0), .pointer (pK kvw a1 i 0), .bool (L.getD i zW).up, .bool false, .int .i64 ((i + 1 : Nat) : Int)] : List Value).getD kz undef), rfl, rfl, GG, HV, kg5, by omega⟩
    · have hj1l : j < X.length := by have := of_decide_eq_true hj1; omega
      refine wp_region_lit ?_
      refine s_val 39 rfl rfl (.bool true) (run_lssT 3 _ _ _ rfl ((j : Nat) : Int) ((X.length : Nat) : Int) rfl rfl true hj1 _) ?_
      refine nr ?_; intro U h; simp only [z0, z1] at h; subst h
      refine wpList_nil ?_
      refine then_n ?_
      refine wp_seq ?_
      refine wp_cond_true rfl ?_
      refine wp_skip ?_
      refine then_n ?_
      refine wp_seq ?_
      refine wp_block ?_
      refine wp_seq ?_
      refine wp_region_lit ?_
      refine s_val 40 rfl rfl (.pointer (pK kZ ax j 0)) (run_ixK rkZ (HX) _ _ rfl rfl j rfl hj1l) ?_
      refine nr ?_; intro U h; simp only [z0, z1] at h; subst h
      refine s_val 41 rfl rfl (.int .i64 (((X.getD j 0) : Nat) : Int)) (run_ld_kZ (HX) _ rfl j rfl hj1l) ?_
      refine nr ?_; intro U h; simp only [z0, z1] at h; subst h
      refine s_val 10 rfl rfl (.int .i64 (((X.getD j 0) : Nat) : Int)) (rfl) ?_
      refine nr ?_; intro U h; simp only [z0, z1] at h; subst h
      refine wpList_nil ?_
      refine then_n ?_
      refine wp_seq ?_
      cases v1 : hasB i (X.take j)
      · cases v2 : decide ((((X.getD j 0) : Nat) : Int) = ((i : Nat) : Int))
        · refine wp_region_opq ?_
          intro OPS hY
          have y1 := hY 1 43 rfl
          clear hY
          refine s_val 42 rfl rfl (.bool false) (rfl) ?_
          refine nr ?_; intro U h; simp only [z0, z1] at h; subst h
          refine s_val 43 rfl rfl (.bool false) (rfl) ?_
          refine nr ?_; intro U h; simp only [z0, z1] at h; subst h
          refine s_gvalY 44 rfl rfl y1 rfl (.int .i64 (((X.getD j 0) : Nat) : Int)) (rfl) ?_
          refine nr ?_; intro U h; simp only [z0, z1] at h; subst h
          refine s_gvalY 45 rfl rfl y1 rfl (.int .i64 ((i : Nat) : Int)) (rfl) ?_
          refine nr ?_; intro U h; simp only [z0, z1] at h; subst h
          refine s_gvalY 46 rfl rfl y1 rfl (.bool false) (run_eq_k 3 .i64 _ _ _ rfl Tryz.underlying3 (((X.getD j 0) : Nat) : Int) ((i : Nat) : Int) rfl rfl false v2 _) ?_
          refine nr ?_; intro U h; simp only [z0, z1] at h; subst h
          refine s_val 47 rfl rfl (.bool false) (rfl) ?_
          refine nr ?_; intro U h; simp only [z0, z1] at h; subst h
          refine s_val 8 rfl rfl (.bool false) (rfl) ?_
          refine nr ?_; intro U h; simp only [z0, z1] at h; subst h
          refine wpList_nil ?_
          refine then_n ?_
          refine wp_seq ?_
          refine wp_region_lit ?_
          refine s_val 48 rfl rfl (.slice a1 L.length c1) (rfl) ?_
          refine nr ?_; intro U h; simp only [z0, z1] at h; subst h
          refine s_val 49 rfl rfl (.agg (mxA M)) (ldM0 _ rfl g5 rfl (kg5)) ?_
          refine nr ?_; intro U h; simp only [z0, z1] at h; subst h
          refine s_val 50 rfl rfl (.func (.func 22) #[.agg (mxA M)] #[]) (run_mkB 22 _ rfl _ rfl) ?_
          refine nr ?_; intro U h; simp only [z0, z1] at h; subst h
          refine s_val 51 rfl rfl (.int .i64 (((X.getD j 0) : Nat) : Int)) (rfl) ?_
          refine nr ?_; intro U h; simp only [z0, z1] at h; subst h
          refine s_callx 52 rfl rfl _ 26 Tryz.call26 rfl rfl _ rfl [.slice a1 L.length c1, .func (.func 22) #[.agg (mxA M)] #[], .int .i64 (((X.getD j 0) : Nat) : Int)] rfl (RowZ.to (rch_back hM hX hj1l) (reach_any a1 c1 L M (X.getD j 0) _ HV hL6 (rch_lt _ _ _ (rch_at hX hj1l)))) (by rintro _ _ ⟨_, _, he, _, _⟩; exact ⟨_, he⟩) ?_
          rintro v w6 ⟨ay, cy, he, G, HY⟩
          cases he
          replace kg5 := G.has kg5
          replace HV := HV.gro G
          replace HX := HX.gro G
          replace GG := GG.trans G
          clear G
          refine nr ?_; intro U h; simp only [z0, z1] at h; subst h
          refine s_val 11 rfl rfl (.slice ay X.length cy) (rfl) ?_
          refine nr ?_; intro U h; simp only [z0, z1] at h; subst h
          refine wpList_nil ?_
          refine then_n ?_
          refine wp_seq ?_
          refine wp_seq ?_
          refine wp_region_lit ?_
          refine s_val 53 rfl rfl (.slice ay X.length cy) (rfl) ?_
          refine nr ?_; intro U h; simp only [z0, z1] at h; subst h
          refine s_val 54 rfl rfl (.int .i64 ((X.length : Nat) : Int)) (run_len Tryz.underlying53 _ rfl _ _ _ rfl _) ?_
          refine nr ?_; intro U h; simp only [z0, z1] at h; subst h
          refine s_val 55 rfl rfl (.slice ax X.length cx) (rfl) ?_
          refine nr ?_; intro U h; simp only [z0, z1] at h; subst h
          refine s_val 56 rfl rfl (.int .i64 ((X.length : Nat) : Int)) (run_len Tryz.underlying53 _ rfl _ _ _ rfl _) ?_
          refine nr ?_; intro U h; simp only [z0, z1] at h; subst h
          refine s_val 57 rfl rfl (.bool false) (run_neq_k 3 .i64 _ _ _ rfl Tryz.underlying3 ((X.length : Nat) : Int) ((X.length : Nat) : Int) rfl rfl false (decide_eq_true rfl) _) ?_
          refine nr ?_; intro U h; simp only [z0, z1] at h; subst h
          refine wpList_nil ?_
          refine then_n ?_
          refine wp_cond_false rfl ?_
          refine wp_skip ?_
          refine then_n ?_
          refine wp_seq ?_
          refine wp_region_lit ?_
          refine s_val 58 rfl rfl (.slice ay X.length cy) (rfl) ?_
          refine nr ?_; intro U h; simp only [z0, z1] at h; subst h
          refine s_val 59 rfl rfl (.int .i64 ((X.length : Nat) : Int)) (run_len Tryz.underlying53 _ rfl _ _ _ rfl _) ?_
          refine nr ?_; intro U h; simp only [z0, z1] at h; subst h
          refine s_val 60 rfl rfl (.int .i64 0) (rfl) ?_
          refine nr ?_; intro U h; simp only [z0, z1] at h; subst h
          refine wpList_nil ?_
          refine then_n ?_
          refine wp_block ?_
          refine wp_loopN (fun mz az wv => ∃ (k : Nat) (us3 : Nat → Value), mz = X.length - k ∧ az = ⟨[.slice a1 L.length c1, .slice ap Lk.length cp, undef, undef, us3 0, .pointer (some ⟨g5, 0, none⟩), .int .i64 ((i : Nat) : Int), .slice ax X.length cx, .bool false, undef, .int .i64 (((X.getD j 0) : Nat) : Int), .slice ay X.length cy, us3 1, .slice ao l.length cap, .slice a1 L.length c1, .slice ap Lk.length cp, .agg (mxA M), .slice a1 L.length c1, .int .i64 ((L.length : Nat) : Int), .int .i64 ((i : Nat) : Int), .bool true, .int .i64 ((i : Nat) : Int), .slice a1 L.length c1, .agg (mxA M), .func (.func 22) #[.agg (mxA M)] #[], .int .i64 ((i : Nat) : Int), .slice ax X.length cx, .slice ax X.length cx, .int .i64 ((X.length : Nat) : Int), .bool ((L.getD i zW).up), .slice a1 L.length c1, .int .i64 ((i : Nat) : Int), .pointer (pK kvw a1 i 0), .pointer (pK kvw a1 i 0), .bool (L.getD i zW).up, .bool false, .slice ax X.length cx, .int .i64 ((X.length : Nat) : Int), .int .i64 ((j : Nat) : Int), .bool true, .pointer (pK kZ ax j 0), .int .i64 (((X.getD j 0) : Nat) : Int), .bool false, .bool false, .int .i64 (((X.getD j 0) : Nat) : Int), .int .i64 ((i : Nat) : Int), .bool false, .bool false, .slice a1 L.length c1, .agg (mxA M), .func (.func 22) #[.agg (mxA M)] #[], .int .i64 (((X.getD j 0) : Nat) : Int), .slice ay X.length cy, .slice ay X.length cy, .int .i64 ((X.length : Nat) : Int), .slice ax X.length cx, .int .i64 ((X.length : Nat) : Int), .bool false, .slice ay X.length cy, .int .i64 ((X.length : Nat) : Int), .int .i64 ((k : Nat) : Int), us3 2, us3 3, us3 4, us3 5, us3 6, us3 7, us3 8, us3 9, us3 10, us3 11, us3 12, us3 13, us2 38, us1 61, us1 62, us1 63, us1 64, us1 65, us1 66, us1 67, us1 68, undef].toArray, []⟩ ∧ Gro w wv ∧ RK kvw wv a1 c1 L ∧ wv.heap[g5]? = some (.cells (mxA M) 46 (0, 0)) ∧ RK kZ wv ax cx X ∧ RK kZ wv ay cy X ∧ k ≤ X.length) ?_ _ ⟨0, (fun kz => ([us2 0, us2 3, us2 26, us2 27, us2 28, us2 29, us2 30, us2 31, us2 32, us2 33, us2 34, us2 35, us2 36, us2 37] : List Value).getD kz undef), rfl, rfl, GG, HV, kg5, HX, HY, Nat.zero_le _⟩
          clear GG kg5 HV HX HY
          rintro mz az wv ⟨k, us3, rfl, rfl, GG, HV, kg5, HX, HY, hk⟩
          refine wp_seq ?_
          cases hk1 : decide (((k : Nat) : Int) < ((X.length : Nat) : Int))
          · have hk1e : k = X.length := by have := of_decide_eq_false hk1; omega
            refine wp_region_lit ?_
            refine s_val 61 rfl rfl (.bool false) (run_lssT 3 _ _ _ rfl ((k : Nat) : Int) ((X.length : Nat) : Int) rfl rfl false hk1 _) ?_
            refine nr ?_; intro U h; simp only [z0, z1] at h; subst h
            refine wpList_nil ?_
            refine then_n ?_
            refine wp_seq ?_
            refine wp_cond_false rfl ?_
            refine wp_exit ?_
            refine then_x ?_
            refine then_x ?_
            refine blk_x ?_
            refine blk_n ?_
            refine then_n ?_
            refine wp_region_lit ?_
            refine s_val 73 rfl rfl (.int .i64 ((j + 1 : Nat) : Int)) (run_addI 3 _ _ _ rfl ((j : Nat) : Int) 1 ((j + 1 : Nat) : Int) rfl rfl (by omega) (by omega) (by omega) _) ?_
            refine nr ?_; intro U h; simp only [z0, z1] at h; subst h
            refine s_val 38 rfl rfl (.int .i64 ((j + 1 : Nat) : Int)) (rfl) ?_
            refine nr ?_; intro U h; simp only [z0, z1] at h; subst h
            refine wpList_nil ?_
            refine then_n ?_
            exact ⟨_, by omega, j + 1, (fun kz => ([us3 0, .int .i64 (((X.getD j 0) : Nat) : Int), .slice ay X.length cy, us3 1, .bool true, .pointer (pK kZ ax j 0), .int .i64 (((X.getD j 0) : Nat) : Int), .bool false, .bool false, .int .i64 (((X.getD j 0) : Nat) : Int), .int .i64 ((i : Nat) : Int), .bool false, .bool false, .slice a1 L.length c1, .agg (mxA M), .func (.func 22) #[.agg (mxA M)] #[], .int .i64 (((X.getD j 0) : Nat) : Int), .slice ay X.length cy, .slice ay X.length cy, .int .i64 ((X.length : Nat) : Int), .slice ax X.length cx, .int .i64 ((X.length : Nat) : Int), .bool false, .slice ay X.length cy, .int .i64 ((X.length : Nat) : Int), .int .i64 ((k : Nat) : Int), .bool false, us3 3, us3 4, us3 5, us3 6, us3 7, us3 8, us3 9, us3 10, us3 11, us3 12, us3 13, .int .i64 ((j + 1 : Nat) : Int)] : List Value).getD kz undef), rfl, by rw [hasB_step i X j hj1l, v1, v2]; rfl, GG, HV, kg5, HX, by omega⟩
          · have hk1l : k < X.length := by have := of_decide_eq_true hk1; omega
            refine wp_region_lit ?_
            refine s_val 61 rfl rfl (.bool true) (run_lssT 3 _ _ _ rfl ((k : Nat) : Int) ((X.length : Nat) : Int) rfl rfl true hk1 _) ?_
            refine nr ?_; intro U h; simp only [z0, z1] at h; subst h
            refine wpList_nil ?_
            refine then_n ?_
            refine wp_seq ?_
            refine wp_cond_true rfl ?_
            refine wp_skip ?_
            refine then_n ?_
            refine wp_seq ?_
            refine wp_block ?_
            refine wp_seq ?_
            refine wp_region_lit ?_
            refine s_val 62 rfl rfl (.int .i64 ((k : Nat) : Int)) (rfl) ?_
            refine nr ?_; intro U h; simp only [z0, z1] at h; subst h
            refine s_val 12 rfl rfl (.int .i64 ((k : Nat) : Int)) (rfl) ?_
            refine nr ?_; intro U h; simp only [z0, z1] at h; subst h
            refine wpList_nil ?_
            refine then_n ?_
            refine wp_seq ?_
            refine wp_region_exA (A := ?Ax1) 8 [(0, 63), (1, 64), (2, 65), (3, 66), (4, 67), (5, 68), (6, 69), (7, 70)] [.val (.slice ay X.length cy), .val (.int .i64 ((k : Nat) : Int)), .val (.pointer (pK kZ ay k 0)), .val (.int .i64 (((X.getD k 0) : Nat) : Int)), .val (.slice ax X.length cx), .val (.int .i64 ((k : Nat) : Int)), .val (.pointer (pK kZ ax k 0)), .val (.int .i64 (((X.getD k 0) : Nat) : Int))] follows (by kernel_rfl) rfl ?hAx1 (opsA_cons ?o0x1 (opsA_cons ?o1x1 (opsA_cons ?o2x1 (opsA_cons ?o3x1 (opsA_cons ?o4x1 (opsA_cons ?o5x1 (opsA_cons ?o6x1 (opsA_cons ?o7x1 opsA_nil)))))))) ?restx1
            case hAx1 =>
              intro ptrs
              simp only [full, foldSlots, filledE, postE, List.foldl_cons, List.foldl_nil, List.getD_cons_zero, List.getD_cons_succ, fill_val, List.set_cons_zero, List.set_cons_succ]
              exact rfl
            case o0x1 => exact fun _ _ _ _ => opE_move (v := .slice ay X.length cy) _ rfl rfl rfl
            case o1x1 => exact fun _ _ _ _ => opE_move (v := .int .i64 ((k : Nat) : Int)) _ rfl rfl rfl
            case o2x1 => exact fun _ _ hw _ => opE_value (v := .pointer (pK kZ ay k 0)) rfl (run_ixK rkZ ((HY).gro ((Gro.refl _).drew.trans hw)) _ _ rfl rfl k rfl hk1l)
            case o3x1 => exact fun _ _ hw _ => opE_value (v := .int .i64 (((X.getD k 0) : Nat) : Int)) rfl (run_ld_kZ ((HY).gro ((Gro.refl _).drew.trans hw)) _ rfl k rfl hk1l)
            case o4x1 => exact fun _ _ _ _ => opE_move (v := .slice ax X.length cx) _ rfl rfl rfl
            case o5x1 => exact fun _ _ _ _ => opE_move (v := .int .i64 ((k : Nat) : Int)) _ rfl rfl rfl
            case o6x1 => exact fun _ _ hw _ => opE_value (v := .pointer (pK kZ ax k 0)) rfl (run_ixK rkZ ((HX).gro ((Gro.refl _).drew.trans hw)) _ _ rfl rfl k rfl hk1l)
            case o7x1 => exact fun _ _ hw _ => opE_value (v := .int .i64 (((X.getD k 0) : Nat) : Int)) rfl (run_ld_kZ ((HX).gro ((Gro.refl _).drew.trans hw)) _ rfl k rfl hk1l)
            intro ptrs w7 GD hxE
            simp only [List.drop_succ_cons, List.drop_zero]
            replace kg5 := GD.has kg5
            replace HV := HV.gro ((Gro.refl _).drew.trans GD)
            replace HX := HX.gro ((Gro.refl _).drew.trans GD)
            replace HY := HY.gro ((Gro.refl _).drew.trans GD)
            replace GG := GG.drew.trans GD
            clear GD
            refine s_val 71 rfl rfl (.bool false) (run_neq_k 3 .i64 _ _ _ rfl Tryz.underlying3 (((X.getD k 0) : Nat) : Int) (((X.getD k 0) : Nat) : Int) rfl rfl false (decide_eq_true rfl) _) ?_
            refine nr ?_; intro U h; simp only [z0, z1] at h; subst h
            refine wpList_nil ?_
            refine then_n ?_
            refine wp_cond_false rfl ?_
            refine wp_skip ?_
            refine blk_n ?_
            refine then_n ?_
            refine wp_region_lit ?_
            refine s_val 72 rfl rfl (.int .i64 ((k + 1 : Nat) : Int)) (run_addI 3 _ _ _ rfl ((k : Nat) : Int) 1 ((k + 1 : Nat) : Int) rfl rfl (by omega) (by omega) (by omega) _) ?_
            refine nr ?_; intro U h; simp only [z0, z1] at h; subst h
            refine s_val 60 rfl rfl (.int .i64 ((k + 1 : Nat) : Int)) (rfl) ?_
            refine nr ?_; intro U h; simp only [z0, z1] at h; subst h
            refine wpList_nil ?_
            refine then_n ?_
            exact ⟨_, by omega, k + 1, (fun kz => ([us3 0, .int .i64 ((k : Nat) : Int), .bool true, .int .i64 ((k : Nat) : Int), .slice ay X.length cy, .int .i64 ((k : Nat) : Int), .pointer (pK kZ ay k 0), .int .i64 (((X.getD k 0) : Nat) : Int), .slice ax X.length cx, .int .i64 ((k : Nat) : Int), .pointer (pK kZ ax k 0), .int .i64 (((X.getD k 0) : Nat) : Int), .bool false, .int .i64 ((k + 1 : Nat) : Int)] : List Value).getD kz undef), rfl, rfl, GG, HV, kg5, HX, HY, by omega⟩
        · refine wp_region_opq ?_
          intro OPS hY
          have y1 := hY 1 43 rfl
          clear hY
          refine s_val 42 rfl rfl (.bool false) (rfl) ?_
          refine nr ?_; intro U h; simp only [z0, z1] at h; subst h
          refine s_val 43 rfl rfl (.bool false) (rfl) ?_
          refine nr ?_; intro U h; simp only [z0, z1] at h; subst h
          refine s_gvalY 44 rfl rfl y1 rfl (.int .i64 (((X.getD j 0) : Nat) : Int)) (rfl) ?_
          refine nr ?_; intro U h; simp only [z0, z1] at h; subst h
          refine s_gvalY 45 rfl rfl y1 rfl (.int .i64 ((i : Nat) : Int)) (rfl) ?_
          refine nr ?_; intro U h; simp only [z0, z1] at h; subst h
          refine s_gvalY 46 rfl rfl y1 rfl (.bool true) (run_eq_k 3 .i64 _ _ _ rfl Tryz.underlying3 (((X.getD j 0) : Nat) : Int) ((i : Nat) : Int) rfl rfl true v2 _) ?_
          refine nr ?_; intro U h; simp only [z0, z1] at h; subst h
          refine s_val 47 rfl rfl (.bool true) (rfl) ?_
          refine nr ?_; intro U h; simp only [z0, z1] at h; subst h
          refine s_val 8 rfl rfl (.bool true) (rfl) ?_
          refine nr ?_; intro U h; simp only [z0, z1] at h; subst h
          refine wpList_nil ?_
          refine then_n ?_
          refine wp_seq ?_
          refine wp_region_lit ?_
          refine s_val 48 rfl rfl (.slice a1 L.length c1) (rfl) ?_
          refine nr ?_; intro U h; simp only [z0, z1] at h; subst h
          refine s_val 49 rfl rfl (.agg (mxA M)) (ldM0 _ rfl g5 rfl (kg5)) ?_
          refine nr ?_; intro U h; simp only [z0, z1] at h; subst h
          refine s_val 50 rfl rfl (.func (.func 22) #[.agg (mxA M)] #[]) (run_mkB 22 _ rfl _ rfl) ?_
          refine nr ?_; intro U h; simp only [z0, z1] at h; subst h
          refine s_val 51 rfl rfl (.int .i64 (((X.getD j 0) : Nat) : Int)) (rfl) ?_
          refine nr ?_; intro U h; simp only [z0, z1] at h; subst h
          refine s_callx 52 rfl rfl _ 26 Tryz.call26 rfl rfl _ rfl [.slice a1 L.length c1, .func (.func 22) #[.agg (mxA M)] #[], .int .i64 (((X.getD j 0) : Nat) : Int)] rfl (RowZ.to (rch_back hM hX hj1l) (reach_any a1 c1 L M (X.getD j 0) _ HV hL6 (rch_lt _ _ _ (rch_at hX hj1l)))) (by rintro _ _ ⟨_, _, he, _, _⟩; exact ⟨_, he⟩) ?_
          rintro v w6 ⟨ay, cy, he, G, HY⟩
          cases he
          replace kg5 := G.has kg5
          replace HV := HV.gro G
          replace HX := HX.gro G
          replace GG := GG.trans G
          clear G
          refine nr ?_; intro U h; simp only [z0, z1] at h; subst h
          refine s_val 11 rfl rfl (.slice ay X.length cy) (rfl) ?_
          refine nr ?_; intro U h; simp only [z0, z1] at h; subst h
          refine wpList_nil ?_
          refine then_n ?_
          refine wp_seq ?_
          refine wp_seq ?_
          refine wp_region_lit ?_
          refine s_val 53 rfl rfl (.slice ay X.length cy) (rfl) ?_
          refine nr ?_; intro U h; simp only [z0, z1] at h; subst h
          refine s_val 54 rfl rfl (.int .i64 ((X.length : Nat) : Int)) (run_len Tryz.underlying53 _ rfl _ _ _ rfl _) ?_
          refine nr ?_; intro U h; simp only [z0, z1] at h; subst h
          refine s_val 55 rfl rfl (.slice ax X.length cx) (rfl) ?_
          refine nr ?_; intro U h; simp only [z0, z1] at h; subst h
          refine s_val 56 rfl rfl (.int .i64 ((X.length : Nat) : Int)) (run_len Tryz.underlying53 _ rfl _ _ _ rfl _) ?_
          refine nr ?_; intro U h; simp only [z0, z1] at h; subst h
          refine s_val 57 rfl rfl (.bool false) (run_neq_k 3 .i64 _ _ _ rfl Tryz.underlying3 ((X.length : Nat) : Int) ((X.length : Nat) : Int) rfl rfl false (decide_eq_true rfl) _) ?_
          refine nr ?_; intro U h; simp only [z0, z1] at h; subst h
          refine wpList_nil ?_
          refine then_n ?_
          refine wp_cond_false rfl ?_
          refine wp_skip ?_
          refine then_n ?_
          refine wp_seq ?_
          refine wp_region_lit ?_
          refine s_val 58 rfl rfl (.slice ay X.length cy) (rfl) ?_
          refine nr ?_; intro U h; simp only [z0, z1] at h; subst h
          refine s_val 59 rfl rfl (.int .i64 ((X.length : Nat) : Int)) (run_len Tryz.underlying53 _ rfl _ _ _ rfl _) ?_
          refine nr ?_; intro U h; simp only [z0, z1] at h; subst h
          refine s_val 60 rfl rfl (.int .i64 0) (rfl) ?_
          refine nr ?_; intro U h; simp only [z0, z1] at h; subst h
          refine wpList_nil ?_
          refine then_n ?_
          refine wp_block ?_
          refine wp_loopN (fun mz az wv => ∃ (k : Nat) (us3 : Nat → Value), mz = X.length - k ∧ az = ⟨[.slice a1 L.length c1, .slice ap Lk.length cp, undef, undef, us3 0, .pointer (some ⟨g5, 0, none⟩), .int .i64 ((i : Nat) : Int), .slice ax X.length cx, .bool true, undef, .int .i64 (((X.getD j 0) : Nat) : Int), .slice ay X.length cy, us3 1, .slice ao l.length cap, .slice a1 L.length c1, .slice ap Lk.length cp, .agg (mxA M), .slice a1 L.length c1, .int .i64 ((L.length : Nat) : Int), .int .i64 ((i : Nat) : Int), .bool true, .int .i64 ((i : Nat) : Int), .slice a1 L.length c1, .agg (mxA M), .func (.func 22) #[.agg (mxA M)] #[], .int .i64 ((i : Nat) : Int), .slice ax X.length cx, .slice ax X.length cx, .int .i64 ((X.length : Nat) : Int), .bool ((L.getD i zW).up), .slice a1 L.length c1, .int .i64 ((i : Nat) : Int), .pointer (pK kvw a1 i 0), .pointer (pK kvw a1 i 0), .bool (L.getD i zW).up, .bool false, .slice ax X.length cx, .int .i64 ((X.length : Nat) : Int), .int .i64 ((j : Nat) : Int), .bool true, .pointer (pK kZ ax j 0), .int .i64 (((X.getD j 0) : Nat) : Int), .bool false, .bool false, .int .i64 (((X.getD j 0) : Nat) : Int), .int .i64 ((i : Nat) : Int), .bool true, .bool true, .slice a1 L.length c1, .agg (mxA M), .func (.func 22) #[.agg (mxA M)] #[], .int .i64 (((X.getD j 0) : Nat) : Int), .slice ay X.length cy, .slice ay X.length cy, .int .i64 ((X.length : Nat) : Int), .slice ax X.length cx, .int .i64 ((X.length : Nat) : Int), .bool false, .slice ay X.length cy, .int .i64 ((X.length : Nat) : Int), .int .i64 ((k : Nat) : Int), us3 2, us3 3, us3 4, us3 5, us3 6, us3 7, us3 8, us3 9, us3 10, us3 11, us3 12, us3 13, us2 38, us1 61, us1 62, us1 63, us1 64, us1 65, us1 66, us1 67, us1 68, undef].toArray, []⟩ ∧ Gro w wv ∧ RK kvw wv a1 c1 L ∧ wv.heap[g5]? = some (.cells (mxA M) 46 (0, 0)) ∧ RK kZ wv ax cx X ∧ RK kZ wv ay cy X ∧ k ≤ X.length) ?_ _ ⟨0, (fun kz => ([us2 0, us2 3, us2 26, us2 27, us2 28, us2 29, us2 30, us2 31, us2 32, us2 33, us2 34, us2 35, us2 36, us2 37] : List Value).getD kz undef), rfl, rfl, GG, HV, kg5, HX, HY, Nat.zero_le _⟩
          clear GG kg5 HV HX HY
          rintro mz az wv ⟨k, us3, rfl, rfl, GG, HV, kg5, HX, HY, hk⟩
          refine wp_seq ?_
          cases hk1 : decide (((k : Nat) : Int) < ((X.length : Nat) : Int))
          · have hk1e : k = X.length := by have := of_decide_eq_false hk1; omega
            refine wp_region_lit ?_
            refine s_val 61 rfl rfl (.bool false) (run_lssT 3 _ _ _ rfl ((k : Nat) : Int) ((X.length : Nat) : Int) rfl rfl false hk1 _) ?_
            refine nr ?_; intro U h; simp only [z0, z1] at h; subst h
            refine wpList_nil ?_
            refine then_n ?_
            refine wp_seq ?_
            refine wp_cond_false rfl ?_
            refine wp_exit ?_
            refine then_x ?_
            refine then_x ?_
            refine blk_x ?_
            refine blk_n ?_
            refine then_n ?_
            refine wp_region_lit ?_
            refine s_val 73 rfl rfl (.int .i64 ((j + 1 : Nat) : Int)) (run_addI 3 _ _ _ rfl ((j : Nat) : Int) 1 ((j + 1 : Nat) : Int) rfl rfl (by omega) (by omega) (by omega) _) ?_
            refine nr ?_; intro U h; simp only [z0, z1] at h; subst h
            refine s_val 38 rfl rfl (.int .i64 ((j + 1 : Nat) : Int)) (rfl) ?_
            refine nr ?_; intro U h; simp only [z0, z1] at h; subst h
            refine wpList_nil ?_
            refine then_n ?_
            exact ⟨_, by omega, j + 1, (fun kz => ([us3 0, .int .i64 (((X.getD j 0) : Nat) : Int), .slice ay X.length cy, us3 1, .bool true, .pointer (pK kZ ax j 0), .int .i64 (((X.getD j 0) : Nat) : Int), .bool false, .bool false, .int .i64 (((X.getD j 0) : Nat) : Int), .int .i64 ((i : Nat) : Int), .bool true, .bool true, .slice a1 L.length c1, .agg (mxA M), .func (.func 22) #[.agg (mxA M)] #[], .int .i64 (((X.getD j 0) : Nat) : Int), .slice ay X.length cy, .slice ay X.length cy, .int .i64 ((X.length : Nat) : Int), .slice ax X.length cx, .int .i64 ((X.length : Nat) : Int), .bool false, .slice ay X.length cy, .int .i64 ((X.length : Nat) : Int), .int .i64 ((k : Nat) : Int), .bool false, us3 3, us3 4, us3 5, us3 6, us3 7, us3 8, us3 9, us3 10, us3 11, us3 12, us3 13, .int .i64 ((j + 1 : Nat) : Int)] : List Value).getD kz undef), rfl, by rw [hasB_step i X j hj1l, v1, v2]; rfl, GG, HV, kg5, HX, by omega⟩
          · have hk1l : k < X.length := by have := of_decide_eq_true hk1; omega
            refine wp_region_lit ?_
            refine s_val 61 rfl rfl (.bool true) (run_lssT 3 _ _ _ rfl ((k : Nat) : Int) ((X.length : Nat) : Int) rfl rfl true hk1 _) ?_
            refine nr ?_; intro U h; simp only [z0, z1] at h; subst h
            refine wpList_nil ?_
            refine then_n ?_
            refine wp_seq ?_
            refine wp_cond_true rfl ?_
            refine wp_skip ?_
            refine then_n ?_
            refine wp_seq ?_
            refine wp_block ?_
            refine wp_seq ?_
            refine wp_region_lit ?_
            refine s_val 62 rfl rfl (.int .i64 ((k : Nat) : Int)) (rfl) ?_
            refine nr ?_; intro U h; simp only [z0, z1] at h; subst h
            refine s_val 12 rfl rfl (.int .i64 ((k : Nat) : Int)) (rfl) ?_
            refine nr ?_; intro U h; simp only [z0, z1] at h; subst h
            refine wpList_nil ?_
            refine then_n ?_
            refine wp_seq ?_
            refine wp_region_exA (A := ?Ax2) 8 [(0, 63), (1, 64), (2, 65), (3, 66), (4, 67), (5, 68), (6, 69), (7, 70)] [.val (.slice ay X.length cy), .val (.int .i64 ((k : Nat) : Int)), .val (.pointer (pK kZ ay k 0)), .val (.int .i64 (((X.getD k 0) : Nat) : Int)), .val (.slice ax X.length cx), .val (.int .i64 ((k : Nat) : Int)), .val (.pointer (pK kZ ax k 0)), .val (.int .i64 (((X.getD k 0) : Nat) : Int))] follows (by kernel_rfl) rfl ?hAx2 (opsA_cons ?o0x2 (opsA_cons ?o1x2 (opsA_cons ?o2x2 (opsA_cons ?o3x2 (opsA_cons ?o4x2 (opsA_cons ?o5x2 (opsA_cons ?o6x2 (opsA_cons ?o7x2 opsA_nil)))))))) ?restx2
            case hAx2 =>
              intro ptrs
              simp only [full, foldSlots, filledE, postE, List.foldl_cons, List.foldl_nil, List.getD_cons_zero, List.getD_cons_succ, fill_val, List.set_cons_zero, List.set_cons_succ]
              exact rfl
            case o0x2 => exact fun _ _ _ _ => opE_move (v := .slice ay X.length cy) _ rfl rfl rfl
            case o1x2 => exact fun _ _ _ _ => opE_move (v := .int .i64 ((k : Nat) : Int)) _ rfl rfl rfl
            case o2x2 => exact fun _ _ hw _ => opE_value (v := .pointer (pK kZ ay k 0)) rfl (run_ixK rkZ ((HY).gro ((Gro.refl _).drew.trans hw)) _ _ rfl rfl k rfl hk1l)
            case o3x2 => exact fun _ _ hw _ => opE_value (v := .int .i64 (((X.getD k 0) : Nat) : Int)) rfl (run_ld_kZ ((HY).gro ((Gro.refl _).drew.trans hw)) _ rfl k rfl hk1l)
            case o4x2 => exact fun _ _ _ _ => opE_move (v := .slice ax X.length cx) _ rfl rfl rfl
            case o5x2 => exact fun _ _ _ _ => opE_move (v := .int .i64 ((k : Nat) : Int)) _ rfl rfl rfl
            case o6x2 => exact fun _ _ hw _ => opE_value (v := .pointer (pK kZ ax k 0)) rfl (run_ixK rkZ ((HX).gro ((Gro.refl _).drew.trans hw)) _ _ rfl rfl k rfl hk1l)
            case o7x2 => exact fun _ _ hw _ => opE_value (v := .int .i64 (((X.getD k 0) : Nat) : Int)) rfl (run_ld_kZ ((HX).gro ((Gro.refl _).drew.trans hw)) _ rfl k rfl hk1l)
            intro ptrs w7 GD hxE
            simp only [List.drop_succ_cons, List.drop_zero]
            replace kg5 := GD.has kg5
            replace HV := HV.gro ((Gro.refl _).drew.trans GD)
            replace HX := HX.gro ((Gro.refl _).drew.trans GD)
            replace HY := HY.gro ((Gro.refl _).drew.trans GD)
            replace GG := GG.drew.trans GD
            clear GD
            refine s_val 71 rfl rfl (.bool false) (run_neq_k 3 .i64 _ _ _ rfl Tryz.underlying3 (((X.getD k 0) : Nat) : Int) (((X.getD k 0) : Nat) : Int) rfl rfl false (decide_eq_true rfl) _) ?_
            refine nr ?_; intro U h; simp only [z0, z1] at h; subst h
            refine wpList_nil ?_
            refine then_n ?_
            refine wp_cond_false rfl ?_
            refine wp_skip ?_
            refine blk_n ?_
            refine then_n ?_
            refine wp_region_lit ?_
            refine s_val 72 rfl rfl (.int .i64 ((k + 1 : Nat) : Int)) (run_addI 3 _ _ _ rfl ((k : Nat) : Int) 1 ((k + 1 : Nat) : Int) rfl rfl (by omega) (by omega) (by omega) _) ?_
            refine nr ?_; intro U h; simp only [z0, z1] at h; subst h
            refine s_val 60 rfl rfl (.int .i64 ((k + 1 : Nat) : Int)) (rfl) ?_
            refine nr ?_; intro U h; simp only [z0, z1] at h; subst h
            refine wpList_nil ?_
            refine then_n ?_
            exact ⟨_, by omega, k + 1, (fun kz => ([us3 0, .int .i64 ((k : Nat) : Int), .bool true, .int .i64 ((k : Nat) : Int), .slice ay X.length cy, .int .i64 ((k : Nat) : Int), .pointer (pK kZ ay k 0), .int .i64 (((X.getD k 0) : Nat) : Int), .slice ax X.length cx, .int .i64 ((k : Nat) : Int), .pointer (pK kZ ax k 0), .int .i64 (((X.getD k 0) : Nat) : Int), .bool false, .int .i64 ((k + 1 : Nat) : Int)] : List Value).getD kz undef), rfl, rfl, GG, HV, kg5, HX, HY, by omega⟩
      · refine wp_region_opq ?_
        intro OPS hY
        have y1 := hY 1 43 rfl
        clear hY
        refine s_val 42 rfl rfl (.bool true) (rfl) ?_
        refine nr ?_; intro U h; simp only [z0, z1] at h; subst h
        refine s_val 43 rfl rfl (.bool true) (rfl) ?_
        refine nr ?_; intro U h; simp only [z0, z1] at h; subst h
        refine s_skipY 44 rfl rfl y1 rfl ?_
        refine nr ?_; intro U h; simp only [z0, z1] at h; subst h
        refine s_skipY 45 rfl rfl y1 rfl ?_
        refine nr ?_; intro U h; simp only [z0, z1] at h; subst h
        refine s_skipY 46 rfl rfl y1 rfl ?_
        refine nr ?_; intro U h; simp only [z0, z1] at h; subst h
        refine s_val 47 rfl rfl (.bool true) (rfl) ?_
        refine nr ?_; intro U h; simp only [z0, z1] at h; subst h
        refine s_val 8 rfl rfl (.bool true) (rfl) ?_
        refine nr ?_; intro U h; simp only [z0, z1] at h; subst h
        refine wpList_nil ?_
        refine then_n ?_
        refine wp_seq ?_
        refine wp_region_lit ?_
        refine s_val 48 rfl rfl (.slice a1 L.length c1) (rfl) ?_
        refine nr ?_; intro U h; simp only [z0, z1] at h; subst h
        refine s_val 49 rfl rfl (.agg (mxA M)) (ldM0 _ rfl g5 rfl (kg5)) ?_
        refine nr ?_; intro U h; simp only [z0, z1] at h; subst h
        refine s_val 50 rfl rfl (.func (.func 22) #[.agg (mxA M)] #[]) (run_mkB 22 _ rfl _ rfl) ?_
        refine nr ?_; intro U h; simp only [z0, z1] at h; subst h
        refine s_val 51 rfl rfl (.int .i64 (((X.getD j 0) : Nat) : Int)) (rfl) ?_
        refine nr ?_; intro U h; simp only [z0, z1] at h; subst h
        refine s_callx 52 rfl rfl _ 26 Tryz.call26 rfl rfl _ rfl [.slice a1 L.length c1, .func (.func 22) #[.agg (mxA M)] #[], .int .i64 (((X.getD j 0) : Nat) : Int)] rfl (RowZ.to (rch_back hM hX hj1l) (reach_any a1 c1 L M (X.getD j 0) _ HV hL6 (rch_lt _ _ _ (rch_at hX hj1l)))) (by rintro _ _ ⟨_, _, he, _, _⟩; exact ⟨_, he⟩) ?_
        rintro v w6 ⟨ay, cy, he, G, HY⟩
        cases he
        replace kg5 := G.has kg5
        replace HV := HV.gro G
        replace HX := HX.gro G
        replace GG := GG.trans G
        clear G
        refine nr ?_; intro U h; simp only [z0, z1] at h; subst h
        refine s_val 11 rfl rfl (.slice ay X.length cy) (rfl) ?_
        refine nr ?_; intro U h; simp only [z0, z1] at h; subst h
        refine wpList_nil ?_
        refine then_n ?_
        refine wp_seq ?_
        refine wp_seq ?_
        refine wp_region_lit ?_
        refine s_val 53 rfl rfl (.slice ay X.length cy) (rfl) ?_
        refine nr ?_; intro U h; simp only [z0, z1] at h; subst h
        refine s_val 54 rfl rfl (.int .i64 ((X.length : Nat) : Int)) (run_len Tryz.underlying53 _ rfl _ _ _ rfl _) ?_
        refine nr ?_; intro U h; simp only [z0, z1] at h; subst h
        refine s_val 55 rfl rfl (.slice ax X.length cx) (rfl) ?_
        refine nr ?_; intro U h; simp only [z0, z1] at h; subst h
        refine s_val 56 rfl rfl (.int .i64 ((X.length : Nat) : Int)) (run_len Tryz.underlying53 _ rfl _ _ _ rfl _) ?_
        refine nr ?_; intro U h; simp only [z0, z1] at h; subst h
        refine s_val 57 rfl rfl (.bool false) (run_neq_k 3 .i64 _ _ _ rfl Tryz.underlying3 ((X.length : Nat) : Int) ((X.length : Nat) : Int) rfl rfl false (decide_eq_true rfl) _) ?_
        refine nr ?_; intro U h; simp only [z0, z1] at h; subst h
        refine wpList_nil ?_
        refine then_n ?_
        refine wp_cond_false rfl ?_
        refine wp_skip ?_
        refine then_n ?_
        refine wp_seq ?_
        refine wp_region_lit ?_
        refine s_val 58 rfl rfl (.slice ay X.length cy) (rfl) ?_
        refine nr ?_; intro U h; simp only [z0, z1] at h; subst h
        refine s_val 59 rfl rfl (.int .i64 ((X.length : Nat) : Int)) (run_len Tryz.underlying53 _ rfl _ _ _ rfl _) ?_
        refine nr ?_; intro U h; simp only [z0, z1] at h; subst h
        refine s_val 60 rfl rfl (.int .i64 0) (rfl) ?_
        refine nr ?_; intro U h; simp only [z0, z1] at h; subst h
        refine wpList_nil ?_
        refine then_n ?_
        refine wp_block ?_
        refine wp_loopN (fun mz az wv => ∃ (k : Nat) (us3 : Nat → Value), mz = X.length - k ∧ az = ⟨[.slice a1 L.length c1, .slice ap Lk.length cp, undef, undef, us3 0, .pointer (some ⟨g5, 0, none⟩), .int .i64 ((i : Nat) : Int), .slice ax X.length cx, .bool true, undef, .int .i64 (((X.getD j 0) : Nat) : Int), .slice ay X.length cy, us3 1, .slice ao l.length cap, .slice a1 L.length c1, .slice ap Lk.length cp, .agg (mxA M), .slice a1 L.length c1, .int .i64 ((L.length : Nat) : Int), .int .i64 ((i : Nat) : Int), .bool true, .int .i64 ((i : Nat) : Int), .slice a1 L.length c1, .agg (mxA M), .func (.func 22) #[.agg (mxA M)] #[], .int .i64 ((i : Nat) : Int), .slice ax X.length cx, .slice ax X.length cx, .int .i64 ((X.length : Nat) : Int), .bool ((L.getD i zW).up), .slice a1 L.length c1, .int .i64 ((i : Nat) : Int), .pointer (pK kvw a1 i 0), .pointer (pK kvw a1 i 0), .bool (L.getD i zW).up, .bool false, .slice ax X.length cx, .int .i64 ((X.length : Nat) : Int), .int .i64 ((j : Nat) : Int), .bool true, .pointer (pK kZ ax j 0), .int .i64 (((X.getD j 0) : Nat) : Int), .bool true, .bool true, undef, undef, undef, .bool true, .slice a1 L.length c1, .agg (mxA M), .func (.func 22) #[.agg (mxA M)] #[], .int .i64 (((X.getD j 0) : Nat) : Int), .slice ay X.length cy, .slice ay X.length cy, .int .i64 ((X.length : Nat) : Int), .slice ax X.length cx, .int .i64 ((X.length : Nat) : Int), .bool false, .slice ay X.length cy, .int .i64 ((X.length : Nat) : Int), .int .i64 ((k : Nat) : Int), us3 2, us3 3, us3 4, us3 5, us3 6, us3 7, us3 8, us3 9, us3 10, us3 11, us3 12, us3 13, us2 38, us1 61, us1 62, us1 63, us1 64, us1 65, us1 66, us1 67, us1 68, undef].toArray, []⟩ ∧ Gro w wv ∧ RK kvw wv a1 c1 L ∧ wv.heap[g5]? = some (.cells (mxA M) 46 (0, 0)) ∧ RK kZ wv ax cx X ∧ RK kZ wv ay cy X ∧ k ≤ X.length) ?_ _ ⟨0, (fun kz => ([us2 0, us2 3, us2 26, us2 27, us2 28, us2 29, us2 30, us2 31, us2 32, us2 33, us2 34, us2 35, us2 36, us2 37] : List Value).getD kz undef), rfl, rfl, GG, HV, kg5, HX, HY, Nat.zero_le _⟩
        clear GG kg5 HV HX HY
        rintro mz az wv ⟨k, us3, rfl, rfl, GG, HV, kg5, HX, HY, hk⟩
        refine wp_seq ?_
        cases hk1 : decide (((k : Nat) : Int) < ((X.length : Nat) : Int))
        · have hk1e : k = X.length := by have := of_decide_eq_false hk1; omega
          refine wp_region_lit ?_
          refine s_val 61 rfl rfl (.bool false) (run_lssT 3 _ _ _ rfl ((k : Nat) : Int) ((X.length : Nat) : Int) rfl rfl false hk1 _) ?_
          refine nr ?_; intro U h; simp only [z0, z1] at h; subst h
          refine wpList_nil ?_
          refine then_n ?_
          refine wp_seq ?_
          refine wp_cond_false rfl ?_
          refine wp_exit ?_
          refine then_x ?_
          refine then_x ?_
          refine blk_x ?_
          refine blk_n ?_
          refine then_n ?_
          refine wp_region_lit ?_
          refine s_val 73 rfl rfl (.int .i64 ((j + 1 : Nat) : Int)) (run_addI 3 _ _ _ rfl ((j : Nat) : Int) 1 ((j + 1 : Nat) : Int) rfl rfl (by omega) (by omega) (by omega) _) ?_
          refine nr ?_; intro U h; simp only [z0, z1] at h; subst h
          refine s_val 38 rfl rfl (.int .i64 ((j + 1 : Nat) : Int)) (rfl) ?_
          refine nr ?_; intro U h; simp only [z0, z1] at h; subst h
          refine wpList_nil ?_
          refine then_n ?_
          exact ⟨_, by omega, j + 1, (fun kz => ([us3 0, .int .i64 (((X.getD j 0) : Nat) : Int), .slice ay X.length cy, us3 1, .bool true, .pointer (pK kZ ax j 0), .int .i64 (((X.getD j 0) : Nat) : Int), .bool true, .bool true, undef, undef, undef, .bool true, .slice a1 L.length c1, .agg (mxA M), .func (.func 22) #[.agg (mxA M)] #[], .int .i64 (((X.getD j 0) : Nat) : Int), .slice ay X.length cy, .slice ay X.length cy, .int .i64 ((X.length : Nat) : Int), .slice ax X.length cx, .int .i64 ((X.length : Nat) : Int), .bool false, .slice ay X.length cy, .int .i64 ((X.length : Nat) : Int), .int .i64 ((k : Nat) : Int), .bool false, us3 3, us3 4, us3 5, us3 6, us3 7, us3 8, us3 9, us3 10, us3 11, us3 12, us3 13, .int .i64 ((j + 1 : Nat) : Int)] : List Value).getD kz undef), rfl, by rw [hasB_step i X j hj1l, v1]; rfl, GG, HV, kg5, HX, by omega⟩
        · have hk1l : k < X.length := by have := of_decide_eq_true hk1; omega
          refine wp_region_lit ?_
          refine s_val 61 rfl rfl (.bool true) (run_lssT 3 _ _ _ rfl ((k : Nat) : Int) ((X.length : Nat) : Int) rfl rfl true hk1 _) ?_
          refine nr ?_; intro U h; simp only [z0, z1] at h; subst h
          refine wpList_nil ?_
          refine then_n ?_
          refine wp_seq ?_
          refine wp_cond_true rfl ?_
          refine wp_skip ?_
          refine then_n ?_
          refine wp_seq ?_
          refine wp_block ?_
          refine wp_seq ?_
          refine wp_region_lit ?_
          refine s_val 62 rfl rfl (.int .i64 ((k : Nat) : Int)) (rfl) ?_
          refine nr ?_; intro U h; simp only [z0, z1] at h; subst h
          refine s_val 12 rfl rfl (.int .i64 ((k : Nat) : Int)) (rfl) ?_
          refine nr ?_; intro U h; simp only [z0, z1] at h; subst h
          refine wpList_nil ?_
          refine then_n ?_
          refine wp_seq ?_
          refine wp_region_exA (A := ?Ax3) 8 [(0, 63), (1, 64), (2, 65), (3, 66), (4, 67), (5, 68), (6, 69), (7, 70)] [.val (.slice ay X.length cy), .val (.int .i64 ((k : Nat) : Int)), .val (.pointer (pK kZ ay k 0)), .val (.int .i64 (((X.getD k 0) : Nat) : Int)), .val (.slice ax X.length cx), .val (.int .i64 ((k : Nat) : Int)), .val (.pointer (pK kZ ax k 0)), .val (.int .i64 (((X.getD k 0) : Nat) : Int))] follows (by kernel_rfl) rfl ?hAx3 (opsA_cons ?o0x3 (opsA_cons ?o1x3 (opsA_cons ?o2x3 (opsA_cons ?o3x3 (opsA_cons ?o4x3 (opsA_cons ?o5x3 (opsA_cons ?o6x3 (opsA_cons ?o7x3 opsA_nil)))))))) ?restx3
          case hAx3 =>
            intro ptrs
            simp only [full, foldSlots, filledE, postE, List.foldl_cons, List.foldl_nil, List.getD_cons_zero, List.getD_cons_succ, fill_val, List.set_cons_zero, List.set_cons_succ]
            exact rfl
          case o0x3 => exact fun _ _ _ _ => opE_move (v := .slice ay X.length cy) _ rfl rfl rfl
          case o1x3 => exact fun _ _ _ _ => opE_move (v := .int .i64 ((k : Nat) : Int)) _ rfl rfl rfl
          case o2x3 => exact fun _ _ hw _ => opE_value (v := .pointer (pK kZ ay k 0)) rfl (run_ixK rkZ ((HY).gro ((Gro.refl _).drew.trans hw)) _ _ rfl rfl k rfl hk1l)
          case o3x3 => exact fun _ _ hw _ => opE_value (v := .int .i64 (((X.getD k 0) : Nat) : Int)) rfl (run_ld_kZ ((HY).gro ((Gro.refl _).drew.trans hw)) _ rfl k rfl hk1l)
          case o4x3 => exact fun _ _ _ _ => opE_move (v := .slice ax X.length cx) _ rfl rfl rfl
          case o5x3 => exact fun _ _ _ _ => opE_move (v := .int .i64 ((k : Nat) : Int)) _ rfl rfl rfl
          case o6x3 => exact fun _ _ hw _ => opE_value (v := .pointer (pK kZ ax k 0)) rfl (run_ixK rkZ ((HX).gro ((Gro.refl _).drew.trans hw)) _ _ rfl rfl k rfl hk1l)
          case o7x3 => exact fun _ _ hw _ => opE_value (v := .int .i64 (((X.getD k 0) : Nat) : Int)) rfl (run_ld_kZ ((HX).gro ((Gro.refl _).drew.trans hw)) _ rfl k rfl hk1l)
          intro ptrs w7 GD hxE
          simp only [List.drop_succ_cons, List.drop_zero]
          replace kg5 := GD.has kg5
          replace HV := HV.gro ((Gro.refl _).drew.trans GD)
          replace HX := HX.gro ((Gro.refl _).drew.trans GD)
          replace HY := HY.gro ((Gro.refl _).drew.trans GD)
          replace GG := GG.drew.trans GD
          clear GD
          refine s_val 71 rfl rfl (.bool false) (run_neq_k 3 .i64 _ _ _ rfl Tryz.underlying3 (((X.getD k 0) : Nat) : Int) (((X.getD k 0) : Nat) : Int) rfl rfl false (decide_eq_true rfl) _) ?_
          refine nr ?_; intro U h; simp only [z0, z1] at h; subst h
          refine wpList_nil ?_
          refine then_n ?_
          refine wp_cond_false rfl ?_
          refine wp_skip ?_
          refine blk_n ?_
          refine then_n ?_
          refine wp_region_lit ?_
          refine s_val 72 rfl rfl (.int .i64 ((k + 1 : Nat) : Int)) (run_addI 3 _ _ _ rfl ((k : Nat) : Int) 1 ((k + 1 : Nat) : Int) rfl rfl (by omega) (by omega) (by omega) _) ?_
          refine nr ?_; intro U h; simp only [z0, z1] at h; subst h
          refine s_val 60 rfl rfl (.int .i64 ((k + 1 : Nat) : Int)) (rfl) ?_
          refine nr ?_; intro U h; simp only [z0, z1] at h; subst h
          refine wpList_nil ?_
          refine then_n ?_
          exact ⟨_, by omega, k + 1, (fun kz => ([us3 0, .int .i64 ((k : Nat) : Int), .bool true, .int .i64 ((k : Nat) : Int), .slice ay X.length cy, .int .i64 ((k : Nat) : Int), .pointer (pK kZ ay k 0), .int .i64 (((X.getD k 0) : Nat) : Int), .slice ax X.length cx, .int .i64 ((k : Nat) : Int), .pointer (pK kZ ax k 0), .int .i64 (((X.getD k 0) : Nat) : Int), .bool false, .int .i64 ((k + 1 : Nat) : Int)] : List Value).getD kz undef), rfl, rfl, GG, HV, kg5, HX, HY, by omega⟩
end Go.Proofs.YtmjblbgalkjmiaaGreat
