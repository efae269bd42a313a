/- Views cut to what is small. -/
import Derived.Test.YtmjblbgalkjmiaaGreatBE2
namespace Go.Proofs.YtmjblbgalkjmiaaGreat
open Go.RowKit
set_option maxRecDepth 100000 in
set_option maxHeartbeats 4000000 in
theorem small_any (ao : Option Addr) (cap : Nat) (l : List VW) (w : World) (HL : RK kvw w ao cap l) (hV0 : ∀ i, i < l.length → ∃ E, RK ken w (l.getD i zW).no (l.getD i zW).nc E ∧ (l.getD i zW).nn = E.length) : Calls Tryz.prog 9 #[.slice ao l.length cap] w (fun e w' => ∃ ao1 cap1 L, e = .returned (.slice ao1 L.length cap1) ∧ Gro w w' ∧ RK kvw w' ao1 cap1 L ∧ L.length ≤ 6) := by
  refine s_enter Tryz.func9 rfl Tryz.ntmps9 [.slice ao l.length cap] [.slice ao l.length cap, undef, undef, undef, undef, undef, undef, undef, undef, undef, undef, undef, undef, undef, undef, undef, undef, undef, undef, undef, undef, undef, undef, undef, undef, undef, undef, undef, undef, undef, undef, undef, undef, undef, undef, undef, undef, undef, undef, undef, undef, undef, undef, undef, undef, undef, undef, undef, undef, undef, undef, undef, undef, undef, undef] rfl ?_
  have GG := Gro.refl w
  obtain ⟨T, hTl⟩ : ∃ T, T = l.take 6 := ⟨_, rfl⟩
  have HT : RK kvw w ao T.length T := hTl ▸ HL.take 6
  have hT6 : T.length ≤ 6 := by rw [hTl, List.length_take]; omega
  have hV : ∀ i, i < T.length → ∃ E, RK ken w (T.getD i zW).no (T.getD i zW).nc E ∧ (T.getD i zW).nn = E.length := fun i hi => by
    have h1 : i < l.length := by rw [hTl, List.length_take] at hi; omega
    have h2 : T.getD i zW = l.getD i zW := by rw [hTl, List.getD_eq_getElem?_getD, List.getD_eq_getElem?_getD, List.getElem?_take_of_lt (by rw [hTl, List.length_take] at hi; omega)]
    rw [h2]
    exact hV0 i h1
  refine wp_seq ?_
  refine wp_region_lit ?_
  refine s_val 2 rfl rfl (.slice none 0 0) (rfl) ?_
  refine nr ?_; intro U h; simp only [z0, z1] at h; subst h
  refine wpList_nil ?_
  refine then_n ?_
  refine wp_seq ?_
  refine wp_region_lit ?_
  refine s_val 3 rfl rfl (.slice none 0 0) (rfl) ?_
  refine nr ?_; intro U h; simp only [z0, z1] at h; subst h
  refine wpList_nil ?_
  refine then_n ?_
  refine wp_seq ?_
  refine wp_seq ?_
  refine wp_region_lit ?_
  refine s_val 9 rfl rfl (.slice ao l.length cap) (rfl) ?_
  refine nr ?_; intro U h; simp only [z0, z1] at h; subst h
  refine s_callv 10 rfl rfl _ 38 Tryz.call38 rfl rfl _ rfl [.slice ao l.length cap, .int .i64 6] rfl (Calls.valV (v := .slice ao T.length T.length) (cutv_any ao l.length cap 6 HL.xc.fit _) (by rw [hTl]; exact sl_take _ l 6)) ?_
  intro w1 G
  replace GG := GG.trans G
  clear G
  refine nr ?_; intro U h; simp only [z0, z1] at h; subst h
  refine s_val 11 rfl rfl (.int .i64 ((T.length : Nat) : Int)) (run_len Tryz.underlying22 _ rfl _ _ _ rfl _) ?_
  refine nr ?_; intro U h; simp only [z0, z1] at h; subst h
  refine s_val 12 rfl rfl (.int .i64 0) (rfl) ?_
  refine nr ?_; intro U h; simp only [z0, z1] at h; subst h
  refine wpList_nil ?_
  refine then_n ?_
  refine wp_block ?_
  refine wp_loopN (fun mz az wv => ∃ (i : Nat) (ao1 : Option Addr) (cap1 : Nat) (L : List VW) (us1 : Nat → Value), mz = T.length - i ∧ az = ⟨[.slice ao l.length cap, undef, .slice none 0 0, .slice ao1 L.length cap1, undef, us1 0, us1 1, undef, us1 2, .slice ao l.length cap, .slice ao T.length T.length, .int .i64 ((T.length : Nat) : Int), .int .i64 ((i : Nat) : Int), us1 3, us1 4, us1 5, us1 6, us1 7, us1 8, us1 9, us1 10, us1 11, us1 12, us1 13, us1 14, us1 15, us1 16, us1 17, us1 18, us1 19, us1 20, us1 21, us1 22, us1 23, us1 24, us1 25, us1 26, us1 27, us1 28, us1 29, us1 30, us1 31, us1 32, us1 33, us1 34, us1 35, us1 36, us1 37, us1 38, us1 39, us1 40, us1 41, us1 42, us1 43, undef].toArray, []⟩ ∧ Gro w wv ∧ i ≤ T.length ∧ OW kvw 63 wv w.heap.size ao1 cap1 L ∧ L.length = i) ?_ _ ⟨0, none, 0, [], (fun kz => ([undef, undef, undef, undef, undef, undef, undef, undef, undef, undef, undef, undef, undef, undef, undef, undef, undef, undef, undef, undef, undef, undef, undef, undef, undef, undef, undef, undef, undef, undef, undef, undef, undef, undef, undef, undef, undef, undef, undef, undef, undef, undef, undef, undef] : List Value).getD kz undef), rfl, rfl, GG, Nat.zero_le _, OW.nil _ _, rfl⟩
  clear GG
  rintro mz az wv ⟨i, ao1, cap1, L, us1, rfl, rfl, GG, hi, HO, hL⟩
  refine wp_seq ?_
  cases hi1 : decide (((i : Nat) : Int) < ((T.length : Nat) : Int))
  · have hi1e : i = T.length := by have := of_decide_eq_false hi1; omega
    refine wp_region_lit ?_
    refine s_val 13 rfl rfl (.bool false) (run_lssT 3 _ _ _ rfl ((i : Nat) : Int) ((T.length : Nat) : Int) rfl rfl false hi1 _) ?_
    refine nr ?_; intro U h; simp only [z0, z1] at h; subst h
    refine wpList_nil ?_
    refine then_n ?_
    refine wp_seq ?_
    refine wp_cond_false rfl ?_
    refine wp_exit ?_
    refine then_x ?_
    refine then_x ?_
    refine blk_x ?_
    refine then_n ?_
    refine wp_seq ?_
    refine wp_region_lit ?_
    refine s_val 54 rfl rfl (.slice ao1 L.length cap1) (rfl) ?_
    refine nr ?_; intro U h; simp only [z0, z1] at h; subst h
    refine s_val 2 rfl rfl (.slice ao1 L.length cap1) (rfl) ?_
    refine nr ?_; intro U h; simp only [z0, z1] at h; subst h
    refine wpList_nil ?_
    refine then_n ?_
    refine wp_ret ?_
    refine bodyPost_ret (results_tmp Tryz.results9 _ _ _) rfl ?_
    exact ⟨ao1, cap1, L, rfl, GG, HO.re, by omega⟩
  · have hi1l : i < T.length := by have := of_decide_eq_true hi1; omega
    refine wp_region_lit ?_
    refine s_val 13 rfl rfl (.bool true) (run_lssT 3 _ _ _ rfl ((i : Nat) : Int) ((T.length : Nat) : Int) rfl rfl true hi1 _) ?_
    refine nr ?_; intro U h; simp only [z0, z1] at h; subst h
    refine wpList_nil ?_
    refine then_n ?_
    refine wp_seq ?_
    refine wp_cond_true rfl ?_
    refine wp_skip ?_
    refine then_n ?_
    refine wp_seq ?_
    refine wp_block ?_
    refine wp_seq ?_
    have hil := hi1l
    obtain ⟨E, HE0, hEl⟩ := hV i hil
    have hE6 : (E.take 6).length ≤ 6 := by rw [List.length_take]; omega
    refine wp_region_lit ?_
    refine s_val 14 rfl rfl (.pointer (pK kvw ao i 0)) (run_ixK rvw22 ((HT.gro GG)) _ _ rfl rfl i rfl hil) ?_
    refine nr ?_; intro U h; simp only [z0, z1] at h; subst h
    refine s_val 15 rfl rfl (.agg (vwA (T.getD i zW))) (rldVw0 ((HT.gro GG)) _ rfl i rfl hil) ?_
    refine nr ?_; intro U h; simp only [z0, z1] at h; subst h
    refine s_alloc 5 rfl rfl 63 rfl _ zerovw63 (vwA zW) rfl ?_
    intro w2 g5 G eg5 kg5
    have bg5 := size_base GG eg5
    have dHOg5 := HO.ne eg5
    replace HO := HO.gro G
    replace GG := GG.trans G
    clear G
    clear eg5
    refine nr ?_; intro U h; simp only [z0, z1] at h; subst h
    refine s_store rfl rfl 63 _ _ rfl g5 0 rfl (.agg (vwA (T.getD i zW))) rfl 63 _ kg5 (vwA (T.getD i zW)) rfl (sivw63' _) (vwA_fit _ _) (vwA_one _) (vwA (T.getD i zW)) (splice_whole _ _ (vwA_sz _ _)) ?_
    intro w3 St
    replace HO := HO.st St dHOg5
    replace GG := GG.store St bg5
    replace kg5 := St.new
    clear St
    refine wpList_nil ?_
    refine then_n ?_
    refine wp_seq ?_
    refine wp_region_lit ?_
    refine s_val 16 rfl rfl (.pointer (some ⟨g5, 18, none⟩)) (run_fld 63 _ 3 rfl g5 0 rfl 18 (by kernel_rfl)) ?_
    refine nr ?_; intro U h; simp only [z0, z1] at h; subst h
    refine s_val 17 rfl rfl (.slice (T.getD i zW).eo (T.getD i zW).en (T.getD i zW).ec) (ldVwe _ rfl g5 rfl (kg5)) ?_
    refine nr ?_; intro U h; simp only [z0, z1] at h; subst h
    refine s_callv 18 rfl rfl _ 39 Tryz.call39 rfl rfl _ rfl [.slice (T.getD i zW).eo (T.getD i zW).en (T.getD i zW).ec, .int .i64 12] rfl (cute_any (T.getD i zW).eo (T.getD i zW).en (T.getD i zW).ec 12 (HT.at hil) _) ?_
    intro w4 G
    replace kg5 := G.has kg5
    replace HO := HO.gro G
    replace GG := GG.trans G
    clear G
    refine nr ?_; intro U h; simp only [z0, z1] at h; subst h
    refine s_val 19 rfl rfl (.pointer (some ⟨g5, 18, none⟩)) (run_fld 63 _ 3 rfl g5 0 rfl 18 (by kernel_rfl)) ?_
    refine nr ?_; intro U h; simp only [z0, z1] at h; subst h
    refine s_store rfl rfl 59 _ _ rfl g5 18 rfl (.slice (T.getD i zW).eo (min (T.getD i zW).en 12) (min (T.getD i zW).en 12)) rfl 63 _ kg5 #[.slice (T.getD i zW).eo (min (T.getD i zW).en 12) (min (T.getD i zW).en 12)] rfl si1_59 (by rw [vwA_size]; exact (by decide : 18 + 1 ≤ 21)) (sl_one _ _ _) (vwA ((T.getD i zW).et (T.getD i zW).eo (min (T.getD i zW).en 12) (min (T.getD i zW).en 12))) (spV_e _ _ _ _) ?_
    intro w5 St
    replace HO := HO.st St dHOg5
    replace GG := GG.store St bg5
    replace kg5 := St.new
    clear St
    refine wpList_nil ?_
    refine then_n ?_
    refine wp_seq ?_
    refine wp_region_lit ?_
    refine s_val 20 rfl rfl (.pointer (some ⟨g5, 20, none⟩)) (run_fld 63 _ 5 rfl g5 0 rfl 20 (by kernel_rfl)) ?_
    refine nr ?_; intro U h; simp only [z0, z1] at h; subst h
    refine s_val 21 rfl rfl (.slice ((T.getD i zW).et (T.getD i zW).eo (min (T.getD i zW).en 12) (min (T.getD i zW).en 12)).no E.length ((T.getD i zW).et (T.getD i zW).eo (min (T.getD i zW).en 12) (min (T.getD i zW).en 12)).nc) (ldVwn' _ rfl g5 rfl (kg5) E.length hEl) ?_
    refine nr ?_; intro U h; simp only [z0, z1] at h; subst h
    refine s_callv 22 rfl rfl _ 40 Tryz.call40 rfl rfl _ rfl [.slice ((T.getD i zW).et (T.getD i zW).eo (min (T.getD i zW).en 12) (min (T.getD i zW).en 12)).no E.length ((T.getD i zW).et (T.getD i zW).eo (min (T.getD i zW).en 12) (min (T.getD i zW).en 12)).nc, .int .i64 6] rfl (Calls.valV (v := .slice ((T.getD i zW).et (T.getD i zW).eo (min (T.getD i zW).en 12) (min (T.getD i zW).en 12)).no (E.take 6).length (E.take 6).length) (cutn_any ((T.getD i zW).et (T.getD i zW).eo (min (T.getD i zW).en 12) (min (T.getD i zW).en 12)).no E.length ((T.getD i zW).et (T.getD i zW).eo (min (T.getD i zW).en 12) (min (T.getD i zW).en 12)).nc 6 HE0.xc.fit _) (sl_take _ E 6)) ?_
    intro w6 G
    replace kg5 := G.has kg5
    replace HO := HO.gro G
    replace GG := GG.trans G
    clear G
    refine nr ?_; intro U h; simp only [z0, z1] at h; subst h
    refine s_val 6 rfl rfl (.slice ((T.getD i zW).et (T.getD i zW).eo (min (T.getD i zW).en 12) (min (T.getD i zW).en 12)).no (E.take 6).length (E.take 6).length) (rfl) ?_
    refine nr ?_; intro U h; simp only [z0, z1] at h; subst h
    refine wpList_nil ?_
    refine then_n ?_
    refine wp_seq ?_
    refine wp_region_lit ?_
    refine s_val 23 rfl rfl (.pointer (some ⟨g5, 20, none⟩)) (run_fld 63 _ 5 rfl g5 0 rfl 20 (by kernel_rfl)) ?_
    refine nr ?_; intro U h; simp only [z0, z1] at h; subst h
    refine s_store rfl rfl 61 _ _ rfl g5 20 rfl (.slice none 0 0) rfl 63 _ kg5 #[.slice none 0 0] rfl si1_61 (by rw [vwA_size]; exact (by decide : 20 + 1 ≤ 21)) (sl_one _ _ _) (vwA (((T.getD i zW).et (T.getD i zW).eo (min (T.getD i zW).en 12) (min (T.getD i zW).en 12)).nd none 0 0)) (spV_n _ _ _ _) ?_
    intro w7 St
    replace HO := HO.st St dHOg5
    replace GG := GG.store St bg5
    replace kg5 := St.new
    clear St
    refine wpList_nil ?_
    refine then_n ?_
    refine wp_seq ?_
    refine wp_seq ?_
    refine wp_region_lit ?_
    refine s_val 24 rfl rfl (.slice ((T.getD i zW).et (T.getD i zW).eo (min (T.getD i zW).en 12) (min (T.getD i zW).en 12)).no (E.take 6).length (E.take 6).length) (rfl) ?_
    refine nr ?_; intro U h; simp only [z0, z1] at h; subst h
    refine s_val 25 rfl rfl (.int .i64 (((E.take 6).length : Nat) : Int)) (run_len Tryz.underlying61 _ rfl _ _ _ rfl _) ?_
    refine nr ?_; intro U h; simp only [z0, z1] at h; subst h
    refine s_val 26 rfl rfl (.int .i64 0) (rfl) ?_
    refine nr ?_; intro U h; simp only [z0, z1] at h; subst h
    refine wpList_nil ?_
    refine then_n ?_
    refine wp_block ?_
    refine wp_loopN (fun mz az wv => ∃ (j : Nat) (ao2 : Option Addr) (cap2 : Nat) (E2 : List EN) (us2 : Nat → Value), mz = (E.take 6).length - j ∧ az = ⟨[.slice ao l.length cap, undef, .slice none 0 0, .slice ao1 L.length cap1, undef, .pointer (some ⟨g5, 0, none⟩), .slice ((T.getD i zW).et (T.getD i zW).eo (min (T.getD i zW).en 12) (min (T.getD i zW).en 12)).no (E.take 6).length (E.take 6).length, undef, us2 0, .slice ao l.length cap, .slice ao T.length T.length, .int .i64 ((T.length : Nat) : Int), .int .i64 ((i : Nat) : Int), .bool true, .pointer (pK kvw ao i 0), .agg (vwA (T.getD i zW)), .pointer (some ⟨g5, 18, none⟩), .slice (T.getD i zW).eo (T.getD i zW).en (T.getD i zW).ec, .slice (T.getD i zW).eo (min (T.getD i zW).en 12) (min (T.getD i zW).en 12), .pointer (some ⟨g5, 18, none⟩), .pointer (some ⟨g5, 20, none⟩), .slice ((T.getD i zW).et (T.getD i zW).eo (min (T.getD i zW).en 12) (min (T.getD i zW).en 12)).no E.length ((T.getD i zW).et (T.getD i zW).eo (min (T.getD i zW).en 12) (min (T.getD i zW).en 12)).nc, .slice ((T.getD i zW).et (T.getD i zW).eo (min (T.getD i zW).en 12) (min (T.getD i zW).en 12)).no (E.take 6).length (E.take 6).length, .pointer (some ⟨g5, 20, none⟩), .slice ((T.getD i zW).et (T.getD i zW).eo (min (T.getD i zW).en 12) (min (T.getD i zW).en 12)).no (E.take 6).length (E.take 6).length, .int .i64 (((E.take 6).length : Nat) : Int), .int .i64 ((j : Nat) : Int), us2 1, us2 2, us2 3, us2 4, us2 5, us2 6, us2 7, us2 8, us2 9, us2 10, us2 11, us2 12, us2 13, us2 14, us2 15, us2 16, us2 17, us2 18, us2 19, us2 20, us2 21, us2 22, us1 39, us1 40, us1 41, us1 42, us1 43, undef].toArray, []⟩ ∧ Gro w wv ∧ j ≤ (E.take 6).length ∧ wv.heap[g5]? = some (.cells (vwA (((T.getD i zW).et (T.getD i zW).eo (min (T.getD i zW).en 12) (min (T.getD i zW).en 12)).nd ao2 E2.length cap2)) 63 (0, 0)) ∧ OW kvw 63 wv w.heap.size ao1 cap1 L ∧ OW ken 93 wv w.heap.size ao2 cap2 E2 ∧ E2.length = j) ?_ _ ⟨0, none, 0, [], (fun kz => ([us1 2, us1 17, us1 18, us1 19, us1 20, us1 21, us1 22, us1 23, us1 24, us1 25, us1 26, us1 27, us1 28, us1 29, us1 30, us1 31, us1 32, us1 33, us1 34, us1 35, us1 36, us1 37, us1 38] : List Value).getD kz undef), rfl, rfl, GG, Nat.zero_le _, kg5, HO, OW.nil _ _, rfl⟩
    clear GG kg5 HO
    rintro mz az wv ⟨j, ao2, cap2, E2, us2, rfl, rfl, GG, hj, kg5, HO, HE, hE2⟩
    refine wp_seq ?_
    cases hj1 : decide (((j : Nat) : Int) < (((E.take 6).length : Nat) : Int))
    · have hj1e : j = (E.take 6).length := by have := of_decide_eq_false hj1; omega
      refine wp_region_lit ?_
      refine s_val 27 rfl rfl (.bool false) (run_lssT 3 _ _ _ rfl ((j : Nat) : Int) (((E.take 6).length : Nat) : Int) rfl rfl false hj1 _) ?_
      refine nr ?_; intro U h; simp only [z0, z1] at h; subst h
      refine wpList_nil ?_
      refine then_n ?_
      refine wp_seq ?_
      refine wp_cond_false rfl ?_
      refine wp_exit ?_
      refine then_x ?_
      refine then_x ?_
      refine blk_x ?_
      refine then_n ?_
      refine wp_region_lit ?_
      refine s_val 49 rfl rfl (.slice ao1 L.length cap1) (rfl) ?_
      refine nr ?_; intro U h; simp only [z0, z1] at h; subst h
      refine s_val 50 rfl rfl (.agg (vwA (((T.getD i zW).et (T.getD i zW).eo (min (T.getD i zW).en 12) (min (T.getD i zW).en 12)).nd ao2 E2.length cap2))) (ldVw0 _ rfl g5 rfl (kg5)) ?_
      refine nr ?_; intro U h; simp only [z0, z1] at h; subst h
      refine s_bsl 51 rfl rfl 22 1 _ rfl [(0, .agg (vwA (((T.getD i zW).et (T.getD i zW).eo (min (T.getD i zW).en 12) (min (T.getD i zW).en 12)).nd ao2 E2.length cap2)))] rfl ([(((T.getD i zW).et (T.getD i zW).eo (min (T.getD i zW).en 12) (min (T.getD i zW).en 12)).nd ao2 E2.length cap2)].flatMap kvw.E).toArray 63 (bsvw22 (((T.getD i zW).et (T.getD i zW).eo (min (T.getD i zW).en 12) (min (T.getD i zW).en 12)).nd ao2 E2.length cap2) _) ?_
      intro w8 qv G eqv kqv
      have bqv := size_base GG eqv
      replace kg5 := G.has kg5
      replace HO := HO.gro G
      replace HE := HE.gro G
      replace GG := GG.trans G
      clear G
      have HQv : OW kvw 63 w8 w.heap.size (some ⟨qv, 0, none⟩) 1 [(((T.getD i zW).et (T.getD i zW).eo (min (T.getD i zW).en 12) (min (T.getD i zW).en 12)).nd ao2 E2.length cap2)] := OW.blk kqv (one_all (show kvw.ok _ from (Nat.le_refl _))) bqv (by simp)
      clear eqv kqv
      refine nr ?_; intro U h; simp only [z0, z1] at h; subst h
      refine s_appK rvw22 (by decide) 52 rfl rfl _ _ rfl rfl HO (l' := [(((T.getD i zW).et (T.getD i zW).eo (min (T.getD i zW).en 12) (min (T.getD i zW).en 12)).nd ao2 E2.length cap2)]) rfl HQv.re (by simp only [List.length_singleton]; rw [hL]; omega) GG.size ?_
      intro aq2 cq2 w9 HZ2 G2 KP2
      clear kg5
      replace HE := HE.over HO (by decide) G2
      clear HQv
      replace GG := G2.gro GG HO.own.base
      clear G2 KP2 HO
      have HO := HZ2
      clear HZ2
      refine nr ?_; intro U h; simp only [z0, z1] at h; subst h
      refine s_val 3 rfl rfl (.slice aq2 (L ++ [(((T.getD i zW).et (T.getD i zW).eo (min (T.getD i zW).en 12) (min (T.getD i zW).en 12)).nd ao2 E2.length cap2)]).length cq2) (rfl) ?_
      refine nr ?_; intro U h; simp only [z0, z1] at h; subst h
      refine wpList_nil ?_
      refine blk_n ?_
      refine then_n ?_
      refine wp_region_lit ?_
      refine s_val 53 rfl rfl (.int .i64 ((i + 1 : Nat) : Int)) (run_addI 3 _ _ _ rfl ((i : Nat) : Int) 1 ((i + 1 : Nat) : Int) rfl rfl (by omega) (by omega) (by omega) _) ?_
      refine nr ?_; intro U h; simp only [z0, z1] at h; subst h
      refine s_val 12 rfl rfl (.int .i64 ((i + 1 : Nat) : Int)) (rfl) ?_
      refine nr ?_; intro U h; simp only [z0, z1] at h; subst h
      refine wpList_nil ?_
      refine then_n ?_
      exact ⟨_, by omega, i + 1, aq2, cq2, (L ++ [(((T.getD i zW).et (T.getD i zW).eo (min (T.getD i zW).en 12) (min (T.getD i zW).en 12)).nd ao2 E2.length cap2)]), (fun kz => ([.pointer (some ⟨g5, 0, none⟩), .slice ((T.getD i zW).et (T.getD i zW).eo (min (T.getD i zW).en 12) (min (T.getD i zW).en 12)).no (E.take 6).length (E.take 6).length, us2 0, .bool true, .pointer (pK kvw ao i 0), .agg (vwA (T.getD i zW)), .pointer (some ⟨g5, 18, none⟩), .slice (T.getD i zW).eo (T.getD i zW).en (T.getD i zW).ec, .slice (T.getD i zW).eo (min (T.getD i zW).en 12) (min (T.getD i zW).en 12), .pointer (some ⟨g5, 18, none⟩), .pointer (some ⟨g5, 20, none⟩), .slice ((T.getD i zW).et (T.getD i zW).eo (min (T.getD i zW).en 12) (min (T.getD i zW).en 12)).no E.length ((T.getD i zW).et (T.getD i zW).eo (min (T.getD i zW).en 12) (min (T.getD i zW).en 12)).nc, .slice ((T.getD i zW).et (T.getD i zW).eo (min (T.getD i zW).en 12) (min (T.getD i zW).en 12)).no (E.take 6).length (E.take 6).length, .pointer (some ⟨g5, 20, none⟩), .slice ((T.getD i zW).et (T.getD i zW).eo (min (T.getD i zW).en 12) (min (T.getD i zW).en 12)).no (E.take 6).length (E.take 6).length, .int .i64 (((E.take 6).length : Nat) : Int), .int .i64 ((j : Nat) : Int), .bool false, us2 2, us2 3, us2 4, us2 5, us2 6, us2 7, us2 8, us2 9, us2 10, us2 11, us2 12, us2 13, us2 14, us2 15, us2 16, us2 17, us2 18, us2 19, us2 20, us2 21, us2 22, .slice ao1 L.length cap1, .agg (vwA (((T.getD i zW).et (T.getD i zW).eo (min (T.getD i zW).en 12) (min (T.getD i zW).en 12)).nd ao2 E2.length cap2)), .slice (some ⟨qv, 0, none⟩) 1 1, .slice aq2 (L ++ [(((T.getD i zW).et (T.getD i zW).eo (min (T.getD i zW).en 12) (min (T.getD i zW).en 12)).nd ao2 E2.length cap2)]).length cq2, .int .i64 ((i + 1 : Nat) : Int)] : List Value).getD kz undef), rfl, rfl, GG, by omega, HO, by rw [List.length_append, hL]; rfl⟩
    · have hj1l : j < (E.take 6).length := by have := of_decide_eq_true hj1; omega
      refine wp_region_lit ?_
      refine s_val 27 rfl rfl (.bool true) (run_lssT 3 _ _ _ rfl ((j : Nat) : Int) (((E.take 6).length : Nat) : Int) rfl rfl true hj1 _) ?_
      refine nr ?_; intro U h; simp only [z0, z1] at h; subst h
      refine wpList_nil ?_
      refine then_n ?_
      refine wp_seq ?_
      refine wp_cond_true rfl ?_
      refine wp_skip ?_
      refine then_n ?_
      refine wp_seq ?_
      refine wp_block ?_
      refine wp_seq ?_
      have hjl := hj1l
      have dg5 := lt_of_heap kg5
      refine wp_region_lit ?_
      refine s_val 28 rfl rfl (.pointer (pK ken ((T.getD i zW).et (T.getD i zW).eo (min (T.getD i zW).en 12) (min (T.getD i zW).en 12)).no j 0)) (run_ixK ren61 (((HE0.take 6).gro GG)) _ _ rfl rfl j rfl hjl) ?_
      refine nr ?_; intro U h; simp only [z0, z1] at h; subst h
      refine s_val 29 rfl rfl (.agg (enA ((E.take 6).getD j zE))) (rldEn0 (((HE0.take 6).gro GG)) _ rfl j rfl hjl) ?_
      refine nr ?_; intro U h; simp only [z0, z1] at h; subst h
      refine s_alloc 8 rfl rfl 93 rfl _ zeroen93 (enA zE) rfl ?_
      intro w8 g8 G eg8 kg8
      have bg8 := size_base GG eg8
      have dg5g8 := lt_new kg5 eg8
      have dHOg8 := HO.ne eg8
      have dHEg8 := HE.ne eg8
      replace kg5 := G.has kg5
      replace HO := HO.gro G
      replace HE := HE.gro G
      replace GG := GG.trans G
      clear G
      clear eg8
      refine nr ?_; intro U h; simp only [z0, z1] at h; subst h
      refine s_store rfl rfl 93 _ _ rfl g8 0 rfl (.agg (enA ((E.take 6).getD j zE))) rfl 93 _ kg8 (enA ((E.take 6).getD j zE)) rfl (sien93' _) (enA_fit _ _) (enA_one _) (enA ((E.take 6).getD j zE)) (splice_whole _ _ (enA_sz _ _)) ?_
      intro w9 St
      replace kg5 := St.has (by omega) kg5
      replace HO := HO.st St dHOg8
      replace HE := HE.st St dHEg8
      replace GG := GG.store St bg8
      replace kg8 := St.new
      clear St
      refine wpList_nil ?_
      refine then_n ?_
      refine wp_seq ?_
      refine wp_region_lit ?_
      refine s_val 30 rfl rfl (.pointer (some ⟨g8, 22, none⟩)) (run_fld 93 _ 5 rfl g8 0 rfl 22 (by kernel_rfl)) ?_
      refine nr ?_; intro U h; simp only [z0, z1] at h; subst h
      refine s_val 31 rfl rfl (.int .i64 ((E.take 6).getD j zE).base) (ldEnb _ rfl g8 rfl (kg8)) ?_
      refine nr ?_; intro U h; simp only [z0, z1] at h; subst h
      refine s_val 32 rfl rfl (.int .i64 (rmI ((E.take 6).getD j zE).base)) (run_remP 2 _ _ _ rfl ((E.take 6).getD j zE).base rfl rfl _) ?_
      refine nr ?_; intro U h; simp only [z0, z1] at h; subst h
      refine s_val 33 rfl rfl (.pointer (some ⟨g8, 24, none⟩)) (run_fld 93 _ 7 rfl g8 0 rfl 24 (by kernel_rfl)) ?_
      refine nr ?_; intro U h; simp only [z0, z1] at h; subst h
      refine s_val 34 rfl rfl (.int .i64 ((E.take 6).getD j zE).got) (ldEng _ rfl g8 rfl (kg8)) ?_
      refine nr ?_; intro U h; simp only [z0, z1] at h; subst h
      refine s_val 35 rfl rfl (.int .i64 (rmI ((E.take 6).getD j zE).got)) (run_remP 2 _ _ _ rfl ((E.take 6).getD j zE).got rfl rfl _) ?_
      refine nr ?_; intro U h; simp only [z0, z1] at h; subst h
      refine s_val 36 rfl rfl (.pointer (some ⟨g8, 22, none⟩)) (run_fld 93 _ 5 rfl g8 0 rfl 22 (by kernel_rfl)) ?_
      refine nr ?_; intro U h; simp only [z0, z1] at h; subst h
      refine s_store rfl rfl 2 _ _ rfl g8 22 rfl (.int .i64 (rmI ((E.take 6).getD j zE).base)) rfl 93 _ kg8 #[.int .i64 (rmI ((E.take 6).getD j zE).base)] rfl si2 (by rw [enA_size]; exact (by decide : 22 + 1 ≤ 25)) (i_one _) (enA (((E.take 6).getD j zE).bs (rmI ((E.take 6).getD j zE).base))) (spE_b _ _) ?_
      intro w10 St
      replace kg5 := St.has (by omega) kg5
      replace HO := HO.st St dHOg8
      replace HE := HE.st St dHEg8
      replace GG := GG.store St bg8
      replace kg8 := St.new
      clear St
      refine s_val 37 rfl rfl (.pointer (some ⟨g8, 24, none⟩)) (run_fld 93 _ 7 rfl g8 0 rfl 24 (by kernel_rfl)) ?_
      refine nr ?_; intro U h; simp only [z0, z1] at h; subst h
      refine s_store rfl rfl 2 _ _ rfl g8 24 rfl (.int .i64 (rmI ((E.take 6).getD j zE).got)) rfl 93 _ kg8 #[.int .i64 (rmI ((E.take 6).getD j zE).got)] rfl si2 (by rw [enA_size]; exact (by decide : 24 + 1 ≤ 25)) (i_one _) (enA ((((E.take 6).getD j zE).bs (rmI ((E.take 6).getD j zE).base)).gt (rmI ((E.take 6).getD j zE).got))) (spE_g _ _) ?_
      intro w11 St
      replace kg5 := St.has (by omega) kg5
      replace HO := HO.st St dHOg8
      replace HE := HE.st St dHEg8
      replace GG := GG.store St bg8
      replace kg8 := St.new
      clear St
      refine wpList_nil ?_
      refine then_n ?_
      refine wp_seq ?_
      refine wp_region_lit ?_
      refine s_val 38 rfl rfl (.pointer (some ⟨g8, 23, none⟩)) (run_fld 93 _ 6 rfl g8 0 rfl 23 (by kernel_rfl)) ?_
      refine nr ?_; intro U h; simp only [z0, z1] at h; subst h
      refine s_val 39 rfl rfl (.slice ((((E.take 6).getD j zE).bs (rmI ((E.take 6).getD j zE).base)).gt (rmI ((E.take 6).getD j zE).got)).oo ((((E.take 6).getD j zE).bs (rmI ((E.take 6).getD j zE).base)).gt (rmI ((E.take 6).getD j zE).got)).on ((((E.take 6).getD j zE).bs (rmI ((E.take 6).getD j zE).base)).gt (rmI ((E.take 6).getD j zE).got)).oc) (ldEno _ rfl g8 rfl (kg8)) ?_
      refine nr ?_; intro U h; simp only [z0, z1] at h; subst h
      refine s_callv 40 rfl rfl _ 41 Tryz.call41 rfl rfl _ rfl [.slice ((((E.take 6).getD j zE).bs (rmI ((E.take 6).getD j zE).base)).gt (rmI ((E.take 6).getD j zE).got)).oo ((((E.take 6).getD j zE).bs (rmI ((E.take 6).getD j zE).base)).gt (rmI ((E.take 6).getD j zE).got)).on ((((E.take 6).getD j zE).bs (rmI ((E.take 6).getD j zE).base)).gt (rmI ((E.take 6).getD j zE).got)).oc, .int .i64 8] rfl (cutb_any ((((E.take 6).getD j zE).bs (rmI ((E.take 6).getD j zE).base)).gt (rmI ((E.take 6).getD j zE).got)).oo ((((E.take 6).getD j zE).bs (rmI ((E.take 6).getD j zE).base)).gt (rmI ((E.take 6).getD j zE).got)).on ((((E.take 6).getD j zE).bs (rmI ((E.take 6).getD j zE).base)).gt (rmI ((E.take 6).getD j zE).got)).oc 8 ((HE0.take 6).at hjl) _) ?_
      intro w12 G
      replace kg5 := G.has kg5
      replace kg8 := G.has kg8
      replace HO := HO.gro G
      replace HE := HE.gro G
      replace GG := GG.trans G
      clear G
      refine nr ?_; intro U h; simp only [z0, z1] at h; subst h
      refine s_val 41 rfl rfl (.pointer (some ⟨g8, 23, none⟩)) (run_fld 93 _ 6 rfl g8 0 rfl 23 (by kernel_rfl)) ?_
      refine nr ?_; intro U h; simp only [z0, z1] at h; subst h
      refine s_store rfl rfl 91 _ _ rfl g8 23 rfl (.slice ((((E.take 6).getD j zE).bs (rmI ((E.take 6).getD j zE).base)).gt (rmI ((E.take 6).getD j zE).got)).oo (min ((((E.take 6).getD j zE).bs (rmI ((E.take 6).getD j zE).base)).gt (rmI ((E.take 6).getD j zE).got)).on 8) (min ((((E.take 6).getD j zE).bs (rmI ((E.take 6).getD j zE).base)).gt (rmI ((E.take 6).getD j zE).got)).on 8)) rfl 93 _ kg8 #[.slice ((((E.take 6).getD j zE).bs (rmI ((E.take 6).getD j zE).base)).gt (rmI ((E.take 6).getD j zE).got)).oo (min ((((E.take 6).getD j zE).bs (rmI ((E.take 6).getD j zE).base)).gt (rmI ((E.take 6).getD j zE).got)).on 8) (min ((((E.take 6).getD j zE).bs (rmI ((E.take 6).getD j zE).base)).gt (rmI ((E.take 6).getD j zE).got)).on 8)] rfl si1_91 (by rw [enA_size]; exact (by decide : 23 + 1 ≤ 25)) (sl_one _ _ _) (enA (((((E.take 6).getD j zE).bs (rmI ((E.take 6).getD j zE).base)).gt (rmI ((E.take 6).getD j zE).got)).ot ((((E.take 6).getD j zE).bs (rmI ((E.take 6).getD j zE).base)).gt (rmI ((E.take 6).getD j zE).got)).oo (min ((((E.take 6).getD j zE).bs (rmI ((E.take 6).getD j zE).base)).gt (rmI ((E.take 6).getD j zE).got)).on 8) (min ((((E.take 6).getD j zE).bs (rmI ((E.take 6).getD j zE).base)).gt (rmI ((E.take 6).getD j zE).got)).on 8))) (spE_o _ _ _ _) ?_
      intro w13 St
      replace kg5 := St.has (by omega) kg5
      replace HO := HO.st St dHOg8
      replace HE := HE.st St dHEg8
      replace GG := GG.store St bg8
      replace kg8 := St.new
      clear St
      refine wpList_nil ?_
      refine then_n ?_
      refine wp_region_lit ?_
      refine s_val 42 rfl rfl (.pointer (some ⟨g5, 20, none⟩)) (run_fld 63 _ 5 rfl g5 0 rfl 20 (by kernel_rfl)) ?_
      refine nr ?_; intro U h; simp only [z0, z1] at h; subst h
      refine s_val 43 rfl rfl (.slice ao2 E2.length cap2) (ldVwn _ rfl g5 rfl (kg5)) ?_
      refine nr ?_; intro U h; simp only [z0, z1] at h; subst h
      refine s_val 44 rfl rfl (.agg (enA (((((E.take 6).getD j zE).bs (rmI ((E.take 6).getD j zE).base)).gt (rmI ((E.take 6).getD j zE).got)).ot ((((E.take 6).getD j zE).bs (rmI ((E.take 6).getD j zE).base)).gt (rmI ((E.take 6).getD j zE).got)).oo (min ((((E.take 6).getD j zE).bs (rmI ((E.take 6).getD j zE).base)).gt (rmI ((E.take 6).getD j zE).got)).on 8) (min ((((E.take 6).getD j zE).bs (rmI ((E.take 6).getD j zE).base)).gt (rmI ((E.take 6).getD j zE).got)).on 8)))) (ldEn0 _ rfl g8 rfl (kg8)) ?_
      refine nr ?_; intro U h; simp only [z0, z1] at h; subst h
      refine s_bsl 45 rfl rfl 61 1 _ rfl [(0, .agg (enA (((((E.take 6).getD j zE).bs (rmI ((E.take 6).getD j zE).base)).gt (rmI ((E.take 6).getD j zE).got)).ot ((((E.take 6).getD j zE).bs (rmI ((E.take 6).getD j zE).base)).gt (rmI ((E.take 6).getD j zE).got)).oo (min ((((E.take 6).getD j zE).bs (rmI ((E.take 6).getD j zE).base)).gt (rmI ((E.take 6).getD j zE).got)).on 8) (min ((((E.take 6).getD j zE).bs (rmI ((E.take 6).getD j zE).base)).gt (rmI ((E.take 6).getD j zE).got)).on 8))))] rfl ([(((((E.take 6).getD j zE).bs (rmI ((E.take 6).getD j zE).base)).gt (rmI ((E.take 6).getD j zE).got)).ot ((((E.take 6).getD j zE).bs (rmI ((E.take 6).getD j zE).base)).gt (rmI ((E.take 6).getD j zE).got)).oo (min ((((E.take 6).getD j zE).bs (rmI ((E.take 6).getD j zE).base)).gt (rmI ((E.take 6).getD j zE).got)).on 8) (min ((((E.take 6).getD j zE).bs (rmI ((E.take 6).getD j zE).base)).gt (rmI ((E.take 6).getD j zE).got)).on 8))].flatMap ken.E).toArray 93 (bsen61 (((((E.take 6).getD j zE).bs (rmI ((E.take 6).getD j zE).base)).gt (rmI ((E.take 6).getD j zE).got)).ot ((((E.take 6).getD j zE).bs (rmI ((E.take 6).getD j zE).base)).gt (rmI ((E.take 6).getD j zE).got)).oo (min ((((E.take 6).getD j zE).bs (rmI ((E.take 6).getD j zE).base)).gt (rmI ((E.take 6).getD j zE).got)).on 8) (min ((((E.take 6).getD j zE).bs (rmI ((E.take 6).getD j zE).base)).gt (rmI ((E.take 6).getD j zE).got)).on 8)) _) ?_
      intro w14 qe G eqe kqe
      have bqe := size_base GG eqe
      replace kg5 := G.has kg5
      replace kg8 := G.has kg8
      replace HO := HO.gro G
      replace HE := HE.gro G
      replace GG := GG.trans G
      clear G
      have HQe : OW ken 93 w14 w.heap.size (some ⟨qe, 0, none⟩) 1 [(((((E.take 6).getD j zE).bs (rmI ((E.take 6).getD j zE).base)).gt (rmI ((E.take 6).getD j zE).got)).ot ((((E.take 6).getD j zE).bs (rmI ((E.take 6).getD j zE).base)).gt (rmI ((E.take 6).getD j zE).got)).oo (min ((((E.take 6).getD j zE).bs (rmI ((E.take 6).getD j zE).base)).gt (rmI ((E.take 6).getD j zE).got)).on 8) (min ((((E.take 6).getD j zE).bs (rmI ((E.take 6).getD j zE).base)).gt (rmI ((E.take 6).getD j zE).got)).on 8))] := OW.blk kqe (one_all (show ken.ok _ from (Nat.le_refl _))) bqe (by simp)
      clear eqe kqe
      refine nr ?_; intro U h; simp only [z0, z1] at h; subst h
      refine s_appK ren61 (by decide) 46 rfl rfl _ _ rfl rfl HE (l' := [(((((E.take 6).getD j zE).bs (rmI ((E.take 6).getD j zE).base)).gt (rmI ((E.take 6).getD j zE).got)).ot ((((E.take 6).getD j zE).bs (rmI ((E.take 6).getD j zE).base)).gt (rmI ((E.take 6).getD j zE).got)).oo (min ((((E.take 6).getD j zE).bs (rmI ((E.take 6).getD j zE).base)).gt (rmI ((E.take 6).getD j zE).got)).on 8) (min ((((E.take 6).getD j zE).bs (rmI ((E.take 6).getD j zE).base)).gt (rmI ((E.take 6).getD j zE).got)).on 8))]) rfl HQe.re (by have := List.length_take_le 6 E; simp only [List.length_singleton]; rw [hE2]; omega) GG.size ?_
      intro aq2 cq2 w15 HZ2 G2 KP2
      replace kg5 := G2.has kg5 (HE.own.ne kg5 (by decide))
      clear kg8
      replace HO := HO.over HE (by decide) G2
      clear HQe
      replace GG := G2.gro GG HE.own.base
      clear G2 KP2 HE
      have HE := HZ2
      clear HZ2
      refine nr ?_; intro U h; simp only [z0, z1] at h; subst h
      refine s_val 47 rfl rfl (.pointer (some ⟨g5, 20, none⟩)) (run_fld 63 _ 5 rfl g5 0 rfl 20 (by kernel_rfl)) ?_
      refine nr ?_; intro U h; simp only [z0, z1] at h; subst h
      refine s_store rfl rfl 61 _ _ rfl g5 20 rfl (.slice aq2 (E2 ++ [(((((E.take 6).getD j zE).bs (rmI ((E.take 6).getD j zE).base)).gt (rmI ((E.take 6).getD j zE).got)).ot ((((E.take 6).getD j zE).bs (rmI ((E.take 6).getD j zE).base)).gt (rmI ((E.take 6).getD j zE).got)).oo (min ((((E.take 6).getD j zE).bs (rmI ((E.take 6).getD j zE).base)).gt (rmI ((E.take 6).getD j zE).got)).on 8) (min ((((E.take 6).getD j zE).bs (rmI ((E.take 6).getD j zE).base)).gt (rmI ((E.take 6).getD j zE).got)).on 8))]).length cq2) rfl 63 _ kg5 #[.slice aq2 (E2 ++ [(((((E.take 6).getD j zE).bs (rmI ((E.take 6).getD j zE).base)).gt (rmI ((E.take 6).getD j zE).got)).ot ((((E.take 6).getD j zE).bs (rmI ((E.take 6).getD j zE).base)).gt (rmI ((E.take 6).getD j zE).got)).oo (min ((((E.take 6).getD j zE).bs (rmI ((E.take 6).getD j zE).base)).gt (rmI ((E.take 6).getD j zE).got)).on 8) (min ((((E.take 6).getD j zE).bs (rmI ((E.take 6).getD j zE).base)).gt (rmI ((E.take 6).getD j zE).got)).on 8))]).length cq2] rfl si1_61 (by rw [vwA_size]; exact (by decide : 20 + 1 ≤ 21)) (sl_one _ _ _) (vwA ((((T.getD i zW).et (T.getD i zW).eo (min (T.getD i zW).en 12) (min (T.getD i zW).en 12)).nd ao2 E2.length cap2).nd aq2 (E2 ++ [(((((E.take 6).getD j zE).bs (rmI ((E.take 6).getD j zE).base)).gt (rmI ((E.take 6).getD j zE).got)).ot ((((E.take 6).getD j zE).bs (rmI ((E.take 6).getD j zE).base)).gt (rmI ((E.take 6).getD j zE).got)).oo (min ((((E.take 6).getD j zE).bs (rmI ((E.take 6).getD j zE).base)).gt (rmI ((E.take 6).getD j zE).got)).on 8) (min ((((E.take 6).getD j zE).bs (rmI ((E.take 6).getD j zE).base)).gt (rmI ((E.take 6).getD j zE).got)).on 8))]).length cq2)) (spV_n _ _ _ _) ?_
      have dHEg5 := HE.own.ne kg5 (by decide)
      intro w16 St
      replace HO := HO.st St dHOg5
      replace HE := HE.st St dHEg5
      replace GG := GG.store St bg5
      replace kg5 := St.new
      clear St
      clear dHEg5
      refine wpList_nil ?_
      refine blk_n ?_
      refine then_n ?_
      refine wp_region_lit ?_
      refine s_val 48 rfl rfl (.int .i64 ((j + 1 : Nat) : Int)) (run_addI 3 _ _ _ rfl ((j : Nat) : Int) 1 ((j + 1 : Nat) : Int) rfl rfl (by omega) (by omega) (by omega) _) ?_
      refine nr ?_; intro U h; simp only [z0, z1] at h; subst h
      refine s_val 26 rfl rfl (.int .i64 ((j + 1 : Nat) : Int)) (rfl) ?_
      refine nr ?_; intro U h; simp only [z0, z1] at h; subst h
      refine wpList_nil ?_
      refine then_n ?_
      exact ⟨_, by omega, j + 1, aq2, cq2, (E2 ++ [(((((E.take 6).getD j zE).bs (rmI ((E.take 6).getD j zE).base)).gt (rmI ((E.take 6).getD j zE).got)).ot ((((E.take 6).getD j zE).bs (rmI ((E.take 6).getD j zE).base)).gt (rmI ((E.take 6).getD j zE).got)).oo (min ((((E.take 6).getD j zE).bs (rmI ((E.take 6).getD j zE).base)).gt (rmI ((E.take 6).getD j zE).got)).on 8) (min ((((E.take 6).getD j zE).bs (rmI ((E.take 6).getD j zE).base)).gt (rmI ((E.take 6).getD j zE).got)).on 8))]), (fun kz => ([.pointer (some ⟨g8, 0, none⟩), .bool true, .pointer (pK ken ((T.getD i zW).et (T.getD i zW).eo (min (T.getD i zW).en 12) (min (T.getD i zW).en 12)).no j 0), .agg (enA ((E.take 6).getD j zE)), .pointer (some ⟨g8, 22, none⟩), .int .i64 ((E.take 6).getD j zE).base, .int .i64 (rmI ((E.take 6).getD j zE).base), .pointer (some ⟨g8, 24, none⟩), .int .i64 ((E.take 6).getD j zE).got, .int .i64 (rmI ((E.take 6).getD j zE).got), .pointer (some ⟨g8, 22, none⟩), .pointer (some ⟨g8, 24, none⟩), .pointer (some ⟨g8, 23, none⟩), .slice ((((E.take 6).getD j zE).bs (rmI ((E.take 6).getD j zE).base)).gt (rmI ((E.take 6).getD j zE).got)).oo ((((E.take 6).getD j zE).bs (rmI ((E.take 6).getD j zE).base)).gt (rmI ((E.take 6).getD j zE).got)).on ((((E.take 6).getD j zE).bs (rmI ((E.take 6).getD j zE).base)).gt (rmI ((E.take 6).getD j zE).got)).oc, .slice ((((E.take 6).getD j zE).bs (rmI ((E.take 6).getD j zE).base)).gt (rmI ((E.take 6).getD j zE).got)).oo (min ((((E.take 6).getD j zE).bs (rmI ((E.take 6).getD j zE).base)).gt (rmI ((E.take 6).getD j zE).got)).on 8) (min ((((E.take 6).getD j zE).bs (rmI ((E.take 6).getD j zE).base)).gt (rmI ((E.take 6).getD j zE).got)).on 8), .pointer (some ⟨g8, 23, none⟩), .pointer (some ⟨g5, 20, none⟩), .slice ao2 E2.length cap2, .agg (enA (((((E.take 6).getD j zE).bs (rmI ((E.take 6).getD j zE).base)).gt (rmI ((E.take 6).getD j zE).got)).ot ((((E.take 6).getD j zE).bs (rmI ((E.take 6).getD j zE).base)).gt (rmI ((E.take 6).getD j zE).got)).oo (min ((((E.take 6).getD j zE).bs (rmI ((E.take 6).getD j zE).base)).gt (rmI ((E.take 6).getD j zE).got)).on 8) (min ((((E.take 6).getD j zE).bs (rmI ((E.take 6).getD j zE).base)).gt (rmI ((E.take 6).getD j zE).got)).on 8))), .slice (some ⟨qe, 0, none⟩) 1 1, .slice aq2 (E2 ++ [(((((E.take 6).getD j zE).bs (rmI ((E.take 6).getD j zE).base)).gt (rmI ((E.take 6).getD j zE).got)).ot ((((E.take 6).getD j zE).bs (rmI ((E.take 6).getD j zE).base)).gt (rmI ((E.take 6).getD j zE).got)).oo (min ((((E.take 6).getD j zE).bs (rmI ((E.take 6).getD j zE).base)).gt (rmI ((E.take 6).getD j zE).got)).on 8) (min ((((E.take 6).getD j zE).bs (rmI ((E.take 6).getD j zE).base)).gt (rmI ((E.take 6).getD j zE).got)).on 8))]).length cq2, .pointer (some ⟨g5, 20, none⟩), .int .i64 ((j + 1 : Nat) : Int)] : List Value).getD kz undef), rfl, rfl, GG, by omega, kg5, HO, HE, by rw [List.length_append, hE2]; rfl⟩
end Go.Proofs.YtmjblbgalkjmiaaGreat
