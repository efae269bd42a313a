/- Logs that are opened, torn and opened again (SlateGoes). -/
import Derived.Test.YtaejjmoocnpdaaaE8
import Derived.Test.YtaejjmoocnpdaaaFr5
namespace Go.Proofs.Ytaejjmoocnpdaaa
open Go.RowKit

theorem iT : NumT Try.prog 55 3 .i64 8 := ⟨Try.underlying55, Try.underlying3, info_of (by kernel_rfl)⟩
set_option maxRecDepth 100000 in
set_option maxHeartbeats 4000000 in
theorem slateGoes_any (w : World) (ao : Option Addr) (cap : Nat) (ls : List (List Nat)) (HA : LC w ao cap ls) (_hal : ls.length ≤ 140737488355000) (hlens : ∀ l ∈ ls, l.length ≤ 140737488355000) (aox : Option Addr) (capx : Nat) (xs : List Int) (HX0 : IC w aox capx xs) : Calls Try.prog 6 #[.slice ao ls.length cap, .slice aox xs.length capx] w fun e w' => e = .returned (.bool true) ∧ Gro w w' := by
  refine s_enter Try.func6 rfl Try.ntmps6 [.slice ao ls.length cap, .slice aox xs.length capx] [.slice ao ls.length cap, .slice aox xs.length capx, undef, undef, undef, undef, undef, undef, undef, undef, undef, undef, undef, undef, undef, undef, undef, undef, undef, undef, undef, undef, undef, undef, undef, undef, undef, undef, undef, undef, undef, undef, undef, undef, undef, undef, undef, undef, undef, undef, undef, undef, undef, undef, undef, undef, undef, undef, undef, undef, undef, undef, undef, undef, undef, undef, undef, undef, undef, undef, undef, undef, undef, undef, undef, undef, undef, undef, undef, undef, undef, undef, undef, undef, undef, undef, undef, undef, undef, undef, undef, undef, undef, undef, undef, undef, undef, undef, undef, undef, undef, undef, undef, undef, undef, undef, undef, undef, undef, undef, undef, undef, undef, undef, undef, undef, undef, undef] rfl ?_
  have GG := Gro.refl w
  refine wp_seq ?_
  refine wp_region_lit ?_
  refine s_val 4 rfl rfl (.bool false) (rfl) ?_
  refine nr ?_; intro U h; simp only [z0, z1] at h; subst h
  refine wpList_nil ?_
  refine then_n ?_
  refine wp_seq ?_
  refine wp_region_lit ?_
  have HC := new_any w 400
  rw [show clN 400 = 400 from rfl] at HC
  refine s_callx 16 rfl rfl _ 23 Try.call23 rfl rfl _ rfl [.int .i64 400] rfl (HC) (fun _ _ ⟨_, _, he, _⟩ => ⟨_, he⟩) ?_
  rintro v w1 ⟨p, sg, he, G, bp, bsg, HD⟩
  cases he
  clear HC
  replace GG := GG.trans G
  clear G
  refine nr ?_; intro U h; simp only [z0, z1] at h; subst h
  refine s_val 5 rfl rfl (.pointer (some ⟨p, 0, none⟩)) (rfl) ?_
  refine nr ?_; intro U h; simp only [z0, z1] at h; subst h
  refine wpList_nil ?_
  refine then_n ?_
  refine wp_seq ?_
  refine wp_seq ?_
  refine wp_region_opq ?_
  intro OPS hY
  have y2 := hY 2 19 rfl
  clear hY
  refine s_val 17 rfl rfl (.pointer (some ⟨p, 0, none⟩)) (rfl) ?_
  refine nr ?_; intro U h; simp only [z0, z1] at h; subst h
  refine s_val 18 rfl rfl (.bool false) (run_eqnp 24 _ _ _ rfl _ rfl rfl Try.underlying24 _) ?_
  refine nr ?_; intro U h; simp only [z0, z1] at h; subst h
  refine s_val 19 rfl rfl (.bool false) (rfl) ?_
  refine nr ?_; intro U h; simp only [z0, z1] at h; subst h
  refine s_gcallvY 20 rfl rfl y2 rfl _ 11 Try.call11 rfl rfl _ rfl [] rfl (fixed_true _) ?_
  intro w2 G
  replace HD := HD.gro G
  replace GG := GG.trans G
  clear G
  refine nr ?_; intro U h; simp only [z0, z1] at h; subst h
  refine s_gvalY 21 rfl rfl y2 rfl (.bool false) (run_nt _ _ rfl true rfl) ?_
  refine nr ?_; intro U h; simp only [z0, z1] at h; subst h
  refine s_val 22 rfl rfl (.bool false) (rfl) ?_
  refine nr ?_; intro U h; simp only [z0, z1] at h; subst h
  refine wpList_nil ?_
  refine then_n ?_
  refine wp_cond_false rfl ?_
  refine wp_skip ?_
  refine then_n ?_
  refine wp_seq ?_
  refine wp_region_lit ?_
  refine s_val 6 rfl rfl (.slice none 0 0) (rfl) ?_
  refine nr ?_; intro U h; simp only [z0, z1] at h; subst h
  refine wpList_nil ?_
  refine then_n ?_
  refine wp_seq ?_
  refine wp_region_lit ?_
  refine s_val 7 rfl rfl (.int .i64 0) (rfl) ?_
  refine nr ?_; intro U h; simp only [z0, z1] at h; subst h
  refine wpList_nil ?_
  refine then_n ?_
  refine wp_seq ?_
  refine wp_seq ?_
  refine wp_region_lit ?_
  refine s_val 8 rfl rfl (.int .i64 0) (rfl) ?_
  refine nr ?_; intro U h; simp only [z0, z1] at h; subst h
  refine wpList_nil ?_
  refine then_n ?_
  refine wp_block ?_
  refine wp_loopN (fun mz az wv => ∃ (k : Nat) (ay : Nat) (dny : Int) (pwy : Int) (Ly : List Nat) (hy : Hd) (aqy : Option Addr) (cqy : Nat) (qy : List RV) (us1 : Nat → Value), mz = 21 - k ∧ az = ⟨[.slice ao ls.length cap, .slice aox xs.length capx, undef, undef, us1 0, .pointer (some ⟨p, 0, none⟩), .slice aqy qy.length cqy, .int .i64 ((ay : Nat) : Int), .int .i64 ((k : Nat) : Int), us1 1, us1 2, us1 3, us1 4, undef, undef, undef, .pointer (some ⟨p, 0, none⟩), .pointer (some ⟨p, 0, none⟩), .bool false, .bool false, .bool true, .bool false, .bool false, us1 5, us1 6, us1 7, us1 8, us1 9, us1 10, us1 11, us1 12, us1 13, us1 14, us1 15, us1 16, us1 17, us1 18, us1 19, us1 20, us1 21, us1 22, us1 23, us1 24, us1 25, us1 26, us1 27, us1 28, us1 29, us1 30, us1 31, us1 32, us1 33, us1 34, us1 35, us1 36, us1 37, us1 38, us1 39, us1 40, us1 41, us1 42, us1 43, us1 44, us1 45, us1 46, us1 47, us1 48, us1 49, us1 50, us1 51, us1 52, us1 53, us1 54, us1 55, us1 56, us1 57, us1 58, us1 59, us1 60, us1 61, us1 62, us1 63, us1 64, us1 65, us1 66, us1 67, us1 68, us1 69, us1 70, us1 71, us1 72, us1 73, us1 74, us1 75, us1 76, undef, undef, undef, undef, undef, undef, undef, undef, undef, undef, undef, undef, undef].toArray, []⟩ ∧ k ≤ 20 ∧ ay ≤ 60 ∧ (0 ≤ dny ∧ dny ≤ 20 * ((ay : Int) + (k : Int))) ∧ okP pwy ∧ hy.g ≤ ay + k ∧ qy.length ≤ ay ∧ Good Ly 400 hy (qy.map (·.l)) ∧ Gro w wv ∧ DK wv p sg 400 Ly pwy dny ∧ LO wv w.heap.size aqy cqy qy) ?_ _ ⟨0, 0, 0, _, _, ⟨0, 0, 0⟩, none, 0, [], (fun kz => ([.bool false, undef, undef, undef, undef, undef, undef, undef, undef, undef, undef, undef, undef, undef, undef, undef, undef, undef, undef, undef, undef, undef, undef, undef, undef, undef, undef, undef, undef, undef, undef, undef, undef, undef, undef, undef, undef, undef, undef, undef, undef, undef, undef, undef, undef, undef, undef, undef, undef, undef, undef, undef, undef, undef, undef, undef, undef, undef, undef, undef, undef, undef, undef, undef, undef, undef, undef, undef, undef, undef, undef, undef, undef, undef, undef, undef, undef] : List Value).getD kz undef), rfl, rfl, Nat.zero_le _, Nat.zero_le _, ⟨Int.le_refl _, by omega⟩, (by unfold okP; omega), Nat.zero_le _, Nat.le_refl _, good_new 400 (by decide), GG, HD, LO.nil _ _⟩
  clear GG HD
  rintro mz az wv ⟨k, ay, dny, pwy, Ly, hy, aqy, cqy, qy, us1, rfl, rfl, hk20, ha, hd, hP, hgj, hqj, HG, GG, HD, HQ⟩
  refine wp_seq ?_
  refine wp_seq ?_
  refine wp_region_opq ?_
  intro OPS hY
  have y4 := hY 4 27 rfl
  clear hY
  refine s_val 23 rfl rfl (.int .i64 ((k : Nat) : Int)) (rfl) ?_
  refine nr ?_; intro U h; simp only [z0, z1] at h; subst h
  refine s_val 24 rfl rfl (.slice aox xs.length capx) (rfl) ?_
  refine nr ?_; intro U h; simp only [z0, z1] at h; subst h
  refine s_val 25 rfl rfl (.int .i64 ((xs.length : Nat) : Int)) (run_len Try.underlying55 _ rfl _ _ _ rfl _) ?_
  refine nr ?_; intro U h; simp only [z0, z1] at h; subst h
  obtain ⟨p1, hp1⟩ : ∃ p, decide (((k : Nat) : Int) ≤ ((xs.length : Nat) : Int)) = p := ⟨_, rfl⟩
  refine s_val 26 rfl rfl (.bool p1) (run_leqT 3 _ _ _ rfl ((k : Nat) : Int) ((xs.length : Nat) : Int) rfl rfl p1 hp1 _) ?_
  refine nr ?_; intro U h; simp only [z0, z1] at h; subst h
  cases p1
  · refine s_val _ rfl rfl (.bool false) rfl ?_
    refine nr ?_; intro U h; simp only [z0, z1] at h; subst h
    iterate 2 (refine s_skipY _ rfl rfl y4 rfl ?_; refine nr ?_; intro U h; simp only [z0, z1] at h; subst h)
    refine s_val _ rfl rfl (.bool false) rfl ?_
    refine nr ?_; intro U h; simp only [z0, z1] at h; subst h
    refine wpList_nil ?_
    refine then_n ?_
    refine wp_cond_false rfl ?_
    refine wp_exit ?_
    refine then_x ?_
    refine then_x ?_
    refine blk_x ?_
    refine then_n ?_
    refine wp_seq ?_
    refine wp_region_lit ?_
    refine s_val 96 rfl rfl (.pointer (some ⟨p, 0, none⟩)) (rfl) ?_
    refine nr ?_; intro U h; simp only [z0, z1] at h; subst h
    refine s_callx 97 rfl rfl _ 12 Try.call12 rfl rfl _ rfl [.pointer (some ⟨p, 0, none⟩)] rfl (open_ok _ p sg 400 Ly pwy dny HD (by decide) _ (HG.opens (by omega))) (fun _ _ ⟨_, _, _, _, he, _⟩ => ⟨_, he⟩) ?_
    rintro v w3 ⟨lp2, ao5, cap5, q5, he, hq5, G, blp2, HK5, HL⟩
    cases he
    clear HK5
    replace HD := HD.gro G
    replace HQ := HQ.gro G
    replace GG := GG.trans G
    clear G
    refine nr ?_; intro U h; simp only [z0, z1] at h; subst h
    refine s_val 95 rfl rfl (.tuple #[.pointer (some ⟨lp2, 0, none⟩), .slice ao5 q5.length cap5, .int .i64 0]) (rfl) ?_
    refine nr ?_; intro U h; simp only [z0, z1] at h; subst h
    refine s_val 98 rfl rfl (.pointer (some ⟨lp2, 0, none⟩)) (rfl) ?_
    refine nr ?_; intro U h; simp only [z0, z1] at h; subst h
    refine s_val 99 rfl rfl (.slice ao5 q5.length cap5) (rfl) ?_
    refine nr ?_; intro U h; simp only [z0, z1] at h; subst h
    refine s_val 100 rfl rfl (.int .i64 0) (rfl) ?_
    refine nr ?_; intro U h; simp only [z0, z1] at h; subst h
    refine s_val 13 rfl rfl (.pointer (some ⟨lp2, 0, none⟩)) (rfl) ?_
    refine nr ?_; intro U h; simp only [z0, z1] at h; subst h
    refine s_val 14 rfl rfl (.slice ao5 q5.length cap5) (rfl) ?_
    refine nr ?_; intro U h; simp only [z0, z1] at h; subst h
    refine s_val 15 rfl rfl (.int .i64 0) (rfl) ?_
    refine nr ?_; intro U h; simp only [z0, z1] at h; subst h
    refine wpList_nil ?_
    refine then_n ?_
    refine wp_seq ?_
    refine wp_region_opq ?_
    intro OPS hY
    have y2 := hY 2 103 rfl
    clear hY
    refine s_val 101 rfl rfl (.int .i64 0) (rfl) ?_
    refine nr ?_; intro U h; simp only [z0, z1] at h; subst h
    refine s_val 102 rfl rfl (.bool true) (run_eq_k 31 .i64 _ _ _ rfl Try.underlying31 _ _ rfl rfl true rfl _) ?_
    refine nr ?_; intro U h; simp only [z0, z1] at h; subst h
    refine s_val 103 rfl rfl (.bool true) (rfl) ?_
    refine nr ?_; intro U h; simp only [z0, z1] at h; subst h
    refine s_gvalY 104 rfl rfl y2 rfl (.slice ao5 q5.length cap5) (rfl) ?_
    refine nr ?_; intro U h; simp only [z0, z1] at h; subst h
    refine s_gvalY 105 rfl rfl y2 rfl (.slice aqy qy.length cqy) (rfl) ?_
    refine nr ?_; intro U h; simp only [z0, z1] at h; subst h
    have HC := sameAll_any _ ao5 cap5 (q5.map (·.2)) HL.lc aqy cqy (qy.map (·.l)) HQ.lc (by rw [← hq5, List.length_map]; omega)
    rw [decide_eq_true hq5.symm, List.length_map, List.length_map] at HC
    refine s_gcallvY 106 rfl rfl y2 rfl _ 14 Try.call14 rfl rfl _ rfl [.slice ao5 q5.length cap5, .slice aqy qy.length cqy] rfl (HC) ?_
    intro w4 G
    replace HD := HD.gro G
    replace HQ := HQ.gro G
    replace HL := HL.gro G
    replace GG := GG.trans G
    clear G
    refine nr ?_; intro U h; simp only [z0, z1] at h; subst h
    clear HC
    refine s_val 107 rfl rfl (.bool true) (rfl) ?_
    refine nr ?_; intro U h; simp only [z0, z1] at h; subst h
    refine s_val 4 rfl rfl (.bool true) (rfl) ?_
    refine nr ?_; intro U h; simp only [z0, z1] at h; subst h
    refine wpList_nil ?_
    refine then_n ?_
    refine wp_ret ?_
    refine bodyPost_ret (results_tmp Try.results6 _ _ _) rfl ?_
    exact ⟨rfl, GG⟩
  refine s_val 27 rfl rfl (.bool true) (rfl) ?_
  refine nr ?_; intro U h; simp only [z0, z1] at h; subst h
  refine s_gvalY 28 rfl rfl y4 rfl (.int .i64 ((k : Nat) : Int)) (rfl) ?_
  refine nr ?_; intro U h; simp only [z0, z1] at h; subst h
  obtain ⟨p2, hp2⟩ : ∃ p, decide (((k : Nat) : Int) < 20) = p := ⟨_, rfl⟩
  refine s_gvalY 29 rfl rfl y4 rfl (.bool p2) (run_lssT 3 _ _ _ rfl ((k : Nat) : Int) 20 rfl rfl p2 hp2 _) ?_
  refine nr ?_; intro U h; simp only [z0, z1] at h; subst h
  cases p2
  · refine s_val _ rfl rfl (.bool false) rfl ?_
    refine nr ?_; intro U h; simp only [z0, z1] at h; subst h
    refine wpList_nil ?_
    refine then_n ?_
    refine wp_cond_false rfl ?_
    refine wp_exit ?_
    refine then_x ?_
    refine then_x ?_
    refine blk_x ?_
    refine then_n ?_
    refine wp_seq ?_
    refine wp_region_lit ?_
    refine s_val 96 rfl rfl (.pointer (some ⟨p, 0, none⟩)) (rfl) ?_
    refine nr ?_; intro U h; simp only [z0, z1] at h; subst h
    refine s_callx 97 rfl rfl _ 12 Try.call12 rfl rfl _ rfl [.pointer (some ⟨p, 0, none⟩)] rfl (open_ok _ p sg 400 Ly pwy dny HD (by decide) _ (HG.opens (by omega))) (fun _ _ ⟨_, _, _, _, he, _⟩ => ⟨_, he⟩) ?_
    rintro v w3 ⟨lp2, ao5, cap5, q5, he, hq5, G, blp2, HK5, HL⟩
    cases he
    clear HK5
    replace HD := HD.gro G
    replace HQ := HQ.gro G
    replace GG := GG.trans G
    clear G
    refine nr ?_; intro U h; simp only [z0, z1] at h; subst h
    refine s_val 95 rfl rfl (.tuple #[.pointer (some ⟨lp2, 0, none⟩), .slice ao5 q5.length cap5, .int .i64 0]) (rfl) ?_
    refine nr ?_; intro U h; simp only [z0, z1] at h; subst h
    refine s_val 98 rfl rfl (.pointer (some ⟨lp2, 0, none⟩)) (rfl) ?_
    refine nr ?_; intro U h; simp only [z0, z1] at h; subst h
    refine s_val 99 rfl rfl (.slice ao5 q5.length cap5) (rfl) ?_
    refine nr ?_; intro U h; simp only [z0, z1] at h; subst h
    refine s_val 100 rfl rfl (.int .i64 0) (rfl) ?_
    refine nr ?_; intro U h; simp only [z0, z1] at h; subst h
    refine s_val 13 rfl rfl (.pointer (some ⟨lp2, 0, none⟩)) (rfl) ?_
    refine nr ?_; intro U h; simp only [z0, z1] at h; subst h
    refine s_val 14 rfl rfl (.slice ao5 q5.length cap5) (rfl) ?_
    refine nr ?_; intro U h; simp only [z0, z1] at h; subst h
    refine s_val 15 rfl rfl (.int .i64 0) (rfl) ?_
    refine nr ?_; intro U h; simp only [z0, z1] at h; subst h
    refine wpList_nil ?_
    refine then_n ?_
    refine wp_seq ?_
    refine wp_region_opq ?_
    intro OPS hY
    have y2 := hY 2 103 rfl
    clear hY
    refine s_val 101 rfl rfl (.int .i64 0) (rfl) ?_
    refine nr ?_; intro U h; simp only [z0, z1] at h; subst h
    refine s_val 102 rfl rfl (.bool true) (run_eq_k 31 .i64 _ _ _ rfl Try.underlying31 _ _ rfl rfl true rfl _) ?_
    refine nr ?_; intro U h; simp only [z0, z1] at h; subst h
    refine s_val 103 rfl rfl (.bool true) (rfl) ?_
    refine nr ?_; intro U h; simp only [z0, z1] at h; subst h
    refine s_gvalY 104 rfl rfl y2 rfl (.slice ao5 q5.length cap5) (rfl) ?_
    refine nr ?_; intro U h; simp only [z0, z1] at h; subst h
    refine s_gvalY 105 rfl rfl y2 rfl (.slice aqy qy.length cqy) (rfl) ?_
    refine nr ?_; intro U h; simp only [z0, z1] at h; subst h
    have HC := sameAll_any _ ao5 cap5 (q5.map (·.2)) HL.lc aqy cqy (qy.map (·.l)) HQ.lc (by rw [← hq5, List.length_map]; omega)
    rw [decide_eq_true hq5.symm, List.length_map, List.length_map] at HC
    refine s_gcallvY 106 rfl rfl y2 rfl _ 14 Try.call14 rfl rfl _ rfl [.slice ao5 q5.length cap5, .slice aqy qy.length cqy] rfl (HC) ?_
    intro w4 G
    replace HD := HD.gro G
    replace HQ := HQ.gro G
    replace HL := HL.gro G
    replace GG := GG.trans G
    clear G
    refine nr ?_; intro U h; simp only [z0, z1] at h; subst h
    clear HC
    refine s_val 107 rfl rfl (.bool true) (rfl) ?_
    refine nr ?_; intro U h; simp only [z0, z1] at h; subst h
    refine s_val 4 rfl rfl (.bool true) (rfl) ?_
    refine nr ?_; intro U h; simp only [z0, z1] at h; subst h
    refine wpList_nil ?_
    refine then_n ?_
    refine wp_ret ?_
    refine bodyPost_ret (results_tmp Try.results6 _ _ _) rfl ?_
    exact ⟨rfl, GG⟩
  have hk2 : k < 20 := by have := of_decide_eq_true hp2; omega
  refine s_val 30 rfl rfl (.bool true) (rfl) ?_
  refine nr ?_; intro U h; simp only [z0, z1] at h; subst h
  refine wpList_nil ?_
  refine then_n ?_
  refine wp_cond_true rfl ?_
  refine wp_skip ?_
  refine then_n ?_
  refine wp_seq ?_
  refine wp_block ?_
  refine wp_seq ?_
  refine wp_region_lit ?_
  refine s_val 34 rfl rfl (.pointer (some ⟨p, 0, none⟩)) (rfl) ?_
  refine nr ?_; intro U h; simp only [z0, z1] at h; subst h
  have hlp := lt_of_heap HD.box
  have hls := lt_of_heap HD.sec
  refine s_callx 35 rfl rfl _ 12 Try.call12 rfl rfl _ rfl [.pointer (some ⟨p, 0, none⟩)] rfl (open_ok _ p sg 400 Ly pwy dny HD (by decide) _ (HG.opens (by omega))) (fun _ _ ⟨_, _, _, _, he, _⟩ => ⟨_, he⟩) ?_
  rintro v w3 ⟨lp, ao5, cap5, q5, he, hq5, G, blp, HK, HL⟩
  cases he
  rw [HG.counts] at HK
  have hn1 : lp ≠ p := by omega
  have hn2 : lp ≠ sg := by omega
  have blp := Nat.le_trans GG.size blp
  replace HD := HD.gro G
  replace HQ := HQ.gro G
  replace GG := GG.trans G
  clear G
  refine nr ?_; intro U h; simp only [z0, z1] at h; subst h
  refine s_val 33 rfl rfl (.tuple #[.pointer (some ⟨lp, 0, none⟩), .slice ao5 q5.length cap5, .int .i64 0]) (rfl) ?_
  refine nr ?_; intro U h; simp only [z0, z1] at h; subst h
  refine s_val 36 rfl rfl (.pointer (some ⟨lp, 0, none⟩)) (rfl) ?_
  refine nr ?_; intro U h; simp only [z0, z1] at h; subst h
  refine s_val 37 rfl rfl (.slice ao5 q5.length cap5) (rfl) ?_
  refine nr ?_; intro U h; simp only [z0, z1] at h; subst h
  refine s_val 38 rfl rfl (.int .i64 0) (rfl) ?_
  refine nr ?_; intro U h; simp only [z0, z1] at h; subst h
  refine s_val 9 rfl rfl (.pointer (some ⟨lp, 0, none⟩)) (rfl) ?_
  refine nr ?_; intro U h; simp only [z0, z1] at h; subst h
  refine s_val 10 rfl rfl (.slice ao5 q5.length cap5) (rfl) ?_
  refine nr ?_; intro U h; simp only [z0, z1] at h; subst h
  refine s_val 11 rfl rfl (.int .i64 0) (rfl) ?_
  refine nr ?_; intro U h; simp only [z0, z1] at h; subst h
  refine wpList_nil ?_
  refine then_n ?_
  refine wp_seq ?_
  refine wp_seq ?_
  refine wp_region_opq ?_
  intro OPS hY
  have y2 := hY 2 41 rfl
  have y6 := hY 6 45 rfl
  clear hY
  refine s_val 39 rfl rfl (.pointer (some ⟨lp, 0, none⟩)) (rfl) ?_
  refine nr ?_; intro U h; simp only [z0, z1] at h; subst h
  refine s_val 40 rfl rfl (.bool false) (run_eqnp 29 _ _ _ rfl _ rfl rfl Try.underlying29 _) ?_
  refine nr ?_; intro U h; simp only [z0, z1] at h; subst h
  refine s_val 41 rfl rfl (.bool false) (rfl) ?_
  refine nr ?_; intro U h; simp only [z0, z1] at h; subst h
  refine s_gvalY 42 rfl rfl y2 rfl (.int .i64 0) (rfl) ?_
  refine nr ?_; intro U h; simp only [z0, z1] at h; subst h
  refine s_gvalY 43 rfl rfl y2 rfl (.bool false) (run_neq_k 31 .i64 _ _ _ rfl Try.underlying31 _ _ rfl rfl false rfl _) ?_
  refine nr ?_; intro U h; simp only [z0, z1] at h; subst h
  refine s_val 44 rfl rfl (.bool false) (rfl) ?_
  refine nr ?_; intro U h; simp only [z0, z1] at h; subst h
  refine s_val 45 rfl rfl (.bool false) (rfl) ?_
  refine nr ?_; intro U h; simp only [z0, z1] at h; subst h
  refine s_gvalY 46 rfl rfl y6 rfl (.slice ao5 q5.length cap5) (rfl) ?_
  refine nr ?_; intro U h; simp only [z0, z1] at h; subst h
  refine s_gvalY 47 rfl rfl y6 rfl (.slice aqy qy.length cqy) (rfl) ?_
  refine nr ?_; intro U h; simp only [z0, z1] at h; subst h
  have HC := sameAll_any _ ao5 cap5 (q5.map (·.2)) HL.lc aqy cqy (qy.map (·.l)) HQ.lc (by rw [← hq5, List.length_map]; omega)
  rw [decide_eq_true hq5.symm, List.length_map, List.length_map] at HC
  refine s_gcallvY 48 rfl rfl y6 rfl _ 14 Try.call14 rfl rfl _ rfl [.slice ao5 q5.length cap5, .slice aqy qy.length cqy] rfl (HC) ?_
  intro w4 G
  replace HD := HD.gro G
  replace HQ := HQ.gro G
  replace HK := HK.gro G
  replace HL := HL.gro G
  replace GG := GG.trans G
  clear G
  refine nr ?_; intro U h; simp only [z0, z1] at h; subst h
  clear HC
  clear HL
  refine s_gvalY 49 rfl rfl y6 rfl (.bool false) (run_nt _ _ rfl true rfl) ?_
  refine nr ?_; intro U h; simp only [z0, z1] at h; subst h
  refine s_val 50 rfl rfl (.bool false) (rfl) ?_
  refine nr ?_; intro U h; simp only [z0, z1] at h; subst h
  refine wpList_nil ?_
  refine then_n ?_
  refine wp_cond_false rfl ?_
  refine wp_skip ?_
  refine then_n ?_
  refine wp_seq ?_
  refine wp_region_lit ?_
  refine s_val 51 rfl rfl (.pointer (some ⟨p, 0, none⟩)) (rfl) ?_
  refine nr ?_; intro U h; simp only [z0, z1] at h; subst h
  refine s_callx 52 rfl rfl _ 20 Try.call20 rfl rfl _ rfl [.pointer (some ⟨p, 0, none⟩), .int .i64 (-1)] rfl (power_any _ p sg 400 _ _ _ HD (-1)) (fun _ _ ⟨he, _⟩ => ⟨_, he⟩) ?_
  rintro v w5 ⟨he, G, HD2⟩
  cases he
  replace HQ := HQ.gro3 HD HK (G.mono (fun x hx => by simp at hx ⊢; omega))
  replace GG := G.gro GG (by simp; omega)
  replace HK := HK.gros G (by simp; omega)
  clear G HD
  have HD := HD2
  clear HD2
  replace hP : okP (max (-1) (-1)) := okP.set (by omega)
  generalize max (-1) (-1) = pw at HD hP
  refine nr ?_; intro U h; simp only [z0, z1] at h; subst h
  refine wpList_nil ?_
  refine then_n ?_
  refine wp_seq ?_
  refine wp_seq ?_
  refine wp_region_lit ?_
  refine s_val 53 rfl rfl (.int .i64 ((k : Nat) : Int)) (rfl) ?_
  refine nr ?_; intro U h; simp only [z0, z1] at h; subst h
  refine s_val 54 rfl rfl (.slice aox xs.length capx) (rfl) ?_
  refine nr ?_; intro U h; simp only [z0, z1] at h; subst h
  refine s_val 55 rfl rfl (.int .i64 ((xs.length : Nat) : Int)) (run_len Try.underlying55 _ rfl _ _ _ rfl _) ?_
  refine nr ?_; intro U h; simp only [z0, z1] at h; subst h
  obtain ⟨p3, hp3⟩ : ∃ p, decide (((k : Nat) : Int) < ((xs.length : Nat) : Int)) = p := ⟨_, rfl⟩
  refine s_val 56 rfl rfl (.bool p3) (run_lssT 3 _ _ _ rfl ((k : Nat) : Int) ((xs.length : Nat) : Int) rfl rfl p3 hp3 _) ?_
  refine nr ?_; intro U h; simp only [z0, z1] at h; subst h
  cases p3
  · refine wpList_nil ?_
    refine then_n ?_
    refine wp_cond_false rfl ?_
    refine wp_skip ?_
    refine then_n ?_
    refine wp_block ?_
    refine wp_loopN (fun mz az wv => ∃ (a : Nat) (dn : Int) (pw : Int) (L : List Nat) (h : Hd) (aq : Option Addr) (cq : Nat) (q : List RV) (dw : Bool) (us2 : Nat → Value), mz = 61 - a ∧ az = ⟨[.slice ao ls.length cap, .slice aox xs.length capx, undef, undef, us1 0, .pointer (some ⟨p, 0, none⟩), .slice aq q.length cq, .int .i64 ((a : Nat) : Int), .int .i64 ((k : Nat) : Int), .pointer (some ⟨lp, 0, none⟩), .slice ao5 q5.length cap5, .int .i64 0, us2 0, undef, undef, undef, .pointer (some ⟨p, 0, none⟩), .pointer (some ⟨p, 0, none⟩), .bool false, .bool false, .bool true, .bool false, .bool false, .int .i64 ((k : Nat) : Int), .slice aox xs.length capx, .int .i64 ((xs.length : Nat) : Int), .bool true, .bool true, .int .i64 ((k : Nat) : Int), .bool true, .bool true, us1 13, us1 14, .tuple #[.pointer (some ⟨lp, 0, none⟩), .slice ao5 q5.length cap5, .int .i64 0], .pointer (some ⟨p, 0, none⟩), .tuple #[.pointer (some ⟨lp, 0, none⟩), .slice ao5 q5.length cap5, .int .i64 0], .pointer (some ⟨lp, 0, none⟩), .slice ao5 q5.length cap5, .int .i64 0, .pointer (some ⟨lp, 0, none⟩), .bool false, .bool false, .int .i64 0, .bool false, .bool false, .bool false, .slice ao5 q5.length cap5, .slice aqy qy.length cqy, .bool true, .bool false, .bool false, .pointer (some ⟨p, 0, none⟩), .tuple #[], .int .i64 ((k : Nat) : Int), .slice aox xs.length capx, .int .i64 ((xs.length : Nat) : Int), .bool false, us1 39, us1 40, us1 41, us1 42, us1 43, us1 44, us1 45, us1 46, us1 47, us2 1, us2 2, us2 3, us2 4, us2 5, us2 6, us2 7, us2 8, us2 9, us2 10, us2 11, us2 12, us2 13, us2 14, us2 15, us2 16, us2 17, us2 18, us2 19, us2 20, us2 21, us2 22, us2 23, us2 24, us2 25, us2 26, us2 27, us2 28, us2 29, undef, undef, undef, undef, undef, undef, undef, undef, undef, undef, undef, undef, undef].toArray, []⟩ ∧ a ≤ 60 ∧ (0 ≤ dn ∧ dn ≤ 20 * ((a : Int) + (k : Int))) ∧ okP pw ∧ h.g ≤ a + k ∧ q.length ≤ a ∧ Good L 400 h (q.map (·.l)) ∧ Gro w wv ∧ DK wv p sg 400 L pw dn ∧ LO wv w.heap.size aq cq q ∧ LK wv lp p h dw) ?_ _ ⟨ay, dny, _, Ly, hy, aqy, cqy, qy, _, (fun kz => ([us1 4, us1 48, us1 49, us1 50, us1 51, us1 52, us1 53, us1 54, us1 55, us1 56, us1 57, us1 58, us1 59, us1 60, us1 61, us1 62, us1 63, us1 64, us1 65, us1 66, us1 67, us1 68, us1 69, us1 70, us1 71, us1 72, us1 73, us1 74, us1 75, us1 76] : List Value).getD kz undef), rfl, rfl, ha, hd, hP, hgj, hqj, HG, GG, HD, HQ, HK⟩
    clear GG HD HQ HK
    rintro mz az wv ⟨a, dn, pw, L, h, aq, cq, q, dw, us2, rfl, rfl, ha, hd, hP, hgj, hqj, HG, GG, HD, HQ, HK⟩
    refine wp_seq ?_
    refine wp_seq ?_
    refine wp_region_opq ?_
    intro OPS hY
    have y4 := hY 4 70 rfl
    clear hY
    refine s_val 66 rfl rfl (.int .i64 ((a : Nat) : Int)) (rfl) ?_
    refine nr ?_; intro U h; simp only [z0, z1] at h; subst h
    refine s_val 67 rfl rfl (.slice ao ls.length cap) (rfl) ?_
    refine nr ?_; intro U h; simp only [z0, z1] at h; subst h
    refine s_val 68 rfl rfl (.int .i64 ((ls.length : Nat) : Int)) (run_len Try.underlying30 _ rfl _ _ _ rfl _) ?_
    refine nr ?_; intro U h; simp only [z0, z1] at h; subst h
    obtain ⟨p4, hp4⟩ : ∃ p, decide (((a : Nat) : Int) < ((ls.length : Nat) : Int)) = p := ⟨_, rfl⟩
    refine s_val 69 rfl rfl (.bool p4) (run_lssT 3 _ _ _ rfl ((a : Nat) : Int) ((ls.length : Nat) : Int) rfl rfl p4 hp4 _) ?_
    refine nr ?_; intro U h; simp only [z0, z1] at h; subst h
    cases p4
    · refine s_val _ rfl rfl (.bool false) rfl ?_
      refine nr ?_; intro U h; simp only [z0, z1] at h; subst h
      iterate 2 (refine s_skipY _ rfl rfl y4 rfl ?_; refine nr ?_; intro U h; simp only [z0, z1] at h; subst h)
      refine s_val _ rfl rfl (.bool false) rfl ?_
      refine nr ?_; intro U h; simp only [z0, z1] at h; subst h
      refine wpList_nil ?_
      refine then_n ?_
      refine wp_cond_false rfl ?_
      refine wp_exit ?_
      refine then_x ?_
      refine then_x ?_
      refine blk_x ?_
      refine blk_n ?_
      refine then_n ?_
      refine wp_region_lit ?_
      refine s_val 31 rfl rfl (.int .i64 ((k : Nat) : Int)) (rfl) ?_
      refine nr ?_; intro U h; simp only [z0, z1] at h; subst h
      refine s_val 32 rfl rfl (.int .i64 ((k + 1 : Nat) : Int)) (run_add64 _ _ _ rfl ((k : Nat) : Int) 1 _ rfl rfl (by omega) (by omega) (by omega) _) ?_
      refine nr ?_; intro U h; simp only [z0, z1] at h; subst h
      refine s_val 8 rfl rfl (.int .i64 ((k + 1 : Nat) : Int)) (rfl) ?_
      refine nr ?_; intro U h; simp only [z0, z1] at h; subst h
      refine wpList_nil ?_
      refine then_n ?_
      exact ⟨_, (by omega : 21 - (k + 1) < 21 - k), k + 1, a, dn, pw, L, h, aq, cq, q, (fun kz => ([us1 0, .pointer (some ⟨lp, 0, none⟩), .slice ao5 q5.length cap5, .int .i64 0, us2 0, .int .i64 ((k : Nat) : Int), .slice aox xs.length capx, .int .i64 ((xs.length : Nat) : Int), .bool true, .bool true, .int .i64 ((k : Nat) : Int), .bool true, .bool true, .int .i64 ((k : Nat) : Int), .int .i64 ((k + 1 : Nat) : Int), .tuple #[.pointer (some ⟨lp, 0, none⟩), .slice ao5 q5.length cap5, .int .i64 0], .pointer (some ⟨p, 0, none⟩), .tuple #[.pointer (some ⟨lp, 0, none⟩), .slice ao5 q5.length cap5, .int .i64 0], .pointer (some ⟨lp, 0, none⟩), .slice ao5 q5.length cap5, .int .i64 0, .pointer (some ⟨lp, 0, none⟩), .bool false, .bool false, .int .i64 0, .bool false, .bool false, .bool false, .slice ao5 q5.length cap5, .slice aqy qy.length cqy, .bool true, .bool false, .bool false, .pointer (some ⟨p, 0, none⟩), .tuple #[], .int .i64 ((k : Nat) : Int), .slice aox xs.length capx, .int .i64 ((xs.length : Nat) : Int), .bool false, us1 39, us1 40, us1 41, us1 42, us1 43, us1 44, us1 45, us1 46, us1 47, .int .i64 ((a : Nat) : Int), .slice ao ls.length cap, .int .i64 ((ls.length : Nat) : Int), .bool false, .bool false, undef, undef, .bool false, us2 9, us2 10, us2 11, us2 12, us2 13, us2 14, us2 15, us2 16, us2 17, us2 18, us2 19, us2 20, us2 21, us2 22, us2 23, us2 24, us2 25, us2 26, us2 27, us2 28, us2 29] : List Value).getD kz undef), rfl, rfl, (by omega), ha, ⟨by omega, by omega⟩, hP, (by omega), hqj, HG, GG, HD, HQ⟩
    have hjn : a < ls.length := by have := of_decide_eq_true hp4; omega
    obtain ⟨ad, ao3, cap3, hao, clA, ncA⟩ := HA.at hjn
    have hrl := hlens _ (getD_mem2 hjn)
    refine s_val 70 rfl rfl (.bool true) (rfl) ?_
    refine nr ?_; intro U h; simp only [z0, z1] at h; subst h
    refine s_gvalY 71 rfl rfl y4 rfl (.int .i64 ((a : Nat) : Int)) (rfl) ?_
    refine nr ?_; intro U h; simp only [z0, z1] at h; subst h
    obtain ⟨p5, hp5⟩ : ∃ p, decide (((a : Nat) : Int) < 60) = p := ⟨_, rfl⟩
    refine s_gvalY 72 rfl rfl y4 rfl (.bool p5) (run_lssT 3 _ _ _ rfl ((a : Nat) : Int) 60 rfl rfl p5 hp5 _) ?_
    refine nr ?_; intro U h; simp only [z0, z1] at h; subst h
    cases p5
    · refine s_val _ rfl rfl (.bool false) rfl ?_
      refine nr ?_; intro U h; simp only [z0, z1] at h; subst h
      refine wpList_nil ?_
      refine then_n ?_
      refine wp_cond_false rfl ?_
      refine wp_exit ?_
      refine then_x ?_
      refine then_x ?_
      refine blk_x ?_
      refine blk_n ?_
      refine then_n ?_
      refine wp_region_lit ?_
      refine s_val 31 rfl rfl (.int .i64 ((k : Nat) : Int)) (rfl) ?_
      refine nr ?_; intro U h; simp only [z0, z1] at h; subst h
      refine s_val 32 rfl rfl (.int .i64 ((k + 1 : Nat) : Int)) (run_add64 _ _ _ rfl ((k : Nat) : Int) 1 _ rfl rfl (by omega) (by omega) (by omega) _) ?_
      refine nr ?_; intro U h; simp only [z0, z1] at h; subst h
      refine s_val 8 rfl rfl (.int .i64 ((k + 1 : Nat) : Int)) (rfl) ?_
      refine nr ?_; intro U h; simp only [z0, z1] at h; subst h
      refine wpList_nil ?_
      refine then_n ?_
      exact ⟨_, (by omega : 21 - (k + 1) < 21 - k), k + 1, a, dn, pw, L, h, aq, cq, q, (fun kz => ([us1 0, .pointer (some ⟨lp, 0, none⟩), .slice ao5 q5.length cap5, .int .i64 0, us2 0, .int .i64 ((k : Nat) : Int), .slice aox xs.length capx, .int .i64 ((xs.length : Nat) : Int), .bool true, .bool true, .int .i64 ((k : Nat) : Int), .bool true, .bool true, .int .i64 ((k : Nat) : Int), .int .i64 ((k + 1 : Nat) : Int), .tuple #[.pointer (some ⟨lp, 0, none⟩), .slice ao5 q5.length cap5, .int .i64 0], .pointer (some ⟨p, 0, none⟩), .tuple #[.pointer (some ⟨lp, 0, none⟩), .slice ao5 q5.length cap5, .int .i64 0], .pointer (some ⟨lp, 0, none⟩), .slice ao5 q5.length cap5, .int .i64 0, .pointer (some ⟨lp, 0, none⟩), .bool false, .bool false, .int .i64 0, .bool false, .bool false, .bool false, .slice ao5 q5.length cap5, .slice aqy qy.length cqy, .bool true, .bool false, .bool false, .pointer (some ⟨p, 0, none⟩), .tuple #[], .int .i64 ((k : Nat) : Int), .slice aox xs.length capx, .int .i64 ((xs.length : Nat) : Int), .bool false, us1 39, us1 40, us1 41, us1 42, us1 43, us1 44, us1 45, us1 46, us1 47, .int .i64 ((a : Nat) : Int), .slice ao ls.length cap, .int .i64 ((ls.length : Nat) : Int), .bool true, .bool true, .int .i64 ((a : Nat) : Int), .bool false, .bool false, us2 9, us2 10, us2 11, us2 12, us2 13, us2 14, us2 15, us2 16, us2 17, us2 18, us2 19, us2 20, us2 21, us2 22, us2 23, us2 24, us2 25, us2 26, us2 27, us2 28, us2 29] : List Value).getD kz undef), rfl, rfl, (by omega), ha, ⟨by omega, by omega⟩, hP, (by omega), hqj, HG, GG, HD, HQ⟩
    have ha60 : a < 60 := by have := of_decide_eq_true hp5; omega
    refine s_val 73 rfl rfl (.bool true) (rfl) ?_
    refine nr ?_; intro U h; simp only [z0, z1] at h; subst h
    refine wpList_nil ?_
    refine then_n ?_
    refine wp_cond_true rfl ?_
    refine wp_skip ?_
    refine then_n ?_
    refine wp_seq ?_
    refine wp_block ?_
    refine wp_seq ?_
    refine wp_region_lit ?_
    refine s_val 76 rfl rfl (.pointer (some ⟨lp, 0, none⟩)) (rfl) ?_
    refine nr ?_; intro U h; simp only [z0, z1] at h; subst h
    refine s_val 77 rfl rfl (.slice ao ls.length cap) (rfl) ?_
    refine nr ?_; intro U h; simp only [z0, z1] at h; subst h
    refine s_val 78 rfl rfl (.int .i64 ((a : Nat) : Int)) (rfl) ?_
    refine nr ?_; intro U h; simp only [z0, z1] at h; subst h
    refine s_val 79 rfl rfl (.pointer (some (ad.add a))) (run_idx23 _ _ rfl ad ls.length cap a (by exact congrArg (fun a => Value.slice a ls.length cap) hao) rfl hjn _) ?_
    refine nr ?_; intro U h; simp only [z0, z1] at h; subst h
    refine s_val 80 rfl rfl (.slice ao3 ((ls.getD a []).length) cap3) (run_ld24 _ rfl _ rfl _ _ (gro_cell GG clA)) ?_
    refine nr ?_; intro U h; simp only [z0, z1] at h; subst h
    have HX := append_good _ lp p h dw HK sg 400 L pw dn HD _ HG ao3 cap3 (ls.getD a []) ⟨ncA.gro GG, fun ad ha h0 => by have := ncA.lt ad ha h0; simp; omega⟩ hP (by omega) hn1 hn2 (by omega) (by omega)
    refine s_callx 81 rfl rfl _ 21 Try.call21 rfl rfl _ rfl [.pointer (some ⟨lp, 0, none⟩), .slice ao3 ((ls.getD a []).length) cap3] rfl (HX) (fun _ _ ⟨_, _, _, _, _, _, he, _⟩ => ⟨_, he⟩) ?_
    rintro v w6 ⟨err, L2, pw2, h2, dw2, dn2, he, G, hd1, hd2, HD2, HK2, hP2, hg2, hres⟩
    cases he
    replace GG := G.gro GG (by simp; omega)
    replace HQ := HQ.gro3 HD HK G
    clear G HX HD HK
    have HD := HD2
    have HK := HK2
    clear HD2 HK2
    rcases hres with ⟨h0, HG2⟩ | ⟨h0, HG2⟩
    · subst h0
      refine nr ?_; intro U h; simp only [z0, z1] at h; subst h
      refine s_val 12 rfl rfl (.int .i64 0) (rfl) ?_
      refine nr ?_; intro U h; simp only [z0, z1] at h; subst h
      refine wpList_nil ?_
      refine then_n ?_
      refine wp_seq ?_
      refine wp_region_lit ?_
      refine s_val 82 rfl rfl (.int .i64 0) (rfl) ?_
      refine nr ?_; intro U h; simp only [z0, z1] at h; subst h
      refine s_val 83 rfl rfl (.bool true) (run_eq_k 31 .i64 _ _ _ rfl Try.underlying31 0 0 rfl rfl true rfl _) ?_
      refine nr ?_; intro U h; simp only [z0, z1] at h; subst h
      refine wpList_nil ?_
      refine then_n ?_
      refine wp_cond_true rfl ?_
      refine wp_region_lit ?_
      refine s_val 84 rfl rfl (.slice aq q.length cq) (rfl) ?_
      refine nr ?_; intro U h; simp only [z0, z1] at h; subst h
      refine s_bsl 85 rfl rfl 22 0 _ rfl [] rfl #[] 5 (by kernel_rfl) ?_
      intro w7 gb G1 egb kgb
      refine nr ?_; intro U h; simp only [z0, z1] at h; subst h
      refine s_val 86 rfl rfl (.slice ao ls.length cap) (rfl) ?_
      refine nr ?_; intro U h; simp only [z0, z1] at h; subst h
      refine s_val 87 rfl rfl (.int .i64 ((a : Nat) : Int)) (rfl) ?_
      refine nr ?_; intro U h; simp only [z0, z1] at h; subst h
      refine s_val 88 rfl rfl (.pointer (some (ad.add a))) (run_idx23 _ _ rfl ad ls.length cap a (by exact congrArg (fun a => Value.slice a ls.length cap) hao) rfl hjn _) ?_
      refine nr ?_; intro U h; simp only [z0, z1] at h; subst h
      refine s_val 89 rfl rfl (.slice ao3 ((ls.getD a []).length) cap3) (run_ld24 _ rfl _ rfl _ _ (gro_cell (GG.trans G1) clA)) ?_
      refine nr ?_; intro U h; simp only [z0, z1] at h; subst h
      have HO1 : OB _ 5 .u8 gb (some ⟨gb, 0, none⟩) 0 [] := OB.made kgb (Nat.le_refl _) (Nat.le_refl _) (Nat.zero_le _) rfl rfl (fun x hx => by cases hx)
      refine s_app bT 90 rfl rfl _ _ rfl rfl HO1 (l' := (ls.getD a [])) rfl (ncA.gro (GG.trans G1)) (by simp only [List.length_nil]; omega) (by decide) (Nat.le_of_lt (lt_of_heap kgb)) ?_
      intro ao4 cap4 w8 HO2 BB
      rw [List.nil_append] at HO2
      simp only [List.nil_append]
      have G := below_gro G1 BB (Nat.le_of_eq egb)
      have bgb := size_base GG egb
      have HO := HO2.mono bgb
      clear HO1 HO2 BB G1 egb kgb
      replace HD := HD.gro G
      replace HQ := HQ.gro G
      replace HK := HK.gro G
      replace GG := GG.trans G
      clear G
      refine nr ?_; intro U h; simp only [z0, z1] at h; subst h
      refine s_bsl 91 rfl rfl 30 1 _ rfl [(0, .slice ao4 (ls.getD a []).length cap4)] rfl #[.slice ao4 (ls.getD a []).length cap4] 22 (by kernel_rfl) ?_
      intro w9 gB G eB kgB
      clear eB
      replace HD := HD.gro G
      replace HQ := HQ.gro G
      replace HK := HK.gro G
      replace HO := HO.gro G
      replace GG := GG.trans G
      clear G
      refine nr ?_; intro U h; simp only [z0, z1] at h; subst h
      refine s_appXG rT 92 rfl rfl _ _ rfl rfl HQ.ox rfl (xc_one kgB rfl) (by omega) (by decide) GG.size ?_
      intro aq2 cq2 w10 HX GX
      have HQ2 := LO.app (x := ⟨ao4, cap4, (ls.getD a [])⟩) HQ HX GX HO
      replace HD := HD.gros GX (HQ.ox.ne HD.box (by decide)) (HQ.ox.ne HD.sec (by decide))
      replace HK := HK.gros GX (HQ.ox.ne HK.box (by decide))
      replace GG := GX.gro GG HQ.ox.base
      clear HX GX HQ HO kgB
      refine nr ?_; intro U h; simp only [z0, z1] at h; subst h
      refine s_val 6 rfl rfl (.slice aq2 (q.length + 1) cq2) (rfl) ?_
      refine nr ?_; intro U h; simp only [z0, z1] at h; subst h
      refine wpList_nil ?_
      refine blk_n ?_
      refine then_n ?_
      refine wp_region_lit ?_
      refine s_val 74 rfl rfl (.int .i64 ((a : Nat) : Int)) (rfl) ?_
      refine nr ?_; intro U h; simp only [z0, z1] at h; subst h
      refine s_val 75 rfl rfl (.int .i64 ((a + 1 : Nat) : Int)) (run_add64 _ _ _ rfl ((a : Nat) : Int) 1 _ rfl rfl (by omega) (by omega) (by omega) _) ?_
      refine nr ?_; intro U h; simp only [z0, z1] at h; subst h
      refine s_val 7 rfl rfl (.int .i64 ((a + 1 : Nat) : Int)) (rfl) ?_
      refine nr ?_; intro U h; simp only [z0, z1] at h; subst h
      refine wpList_nil ?_
      refine then_n ?_
      exact ⟨_, (by omega : 61 - (a + 1) < 61 - a), a + 1, dn2, pw2, L2, h2, aq2, cq2, q ++ [⟨ao4, cap4, ls.getD a []⟩], dw2, (fun kz => ([.int .i64 0, .int .i64 ((a : Nat) : Int), .slice ao ls.length cap, .int .i64 ((ls.length : Nat) : Int), .bool true, .bool true, .int .i64 ((a : Nat) : Int), .bool true, .bool true, .int .i64 ((a : Nat) : Int), .int .i64 ((a + 1 : Nat) : Int), .pointer (some ⟨lp, 0, none⟩), .slice ao ls.length cap, .int .i64 ((a : Nat) : Int), .pointer (some (ad.add a)), .slice ao3 ((ls.getD a []).length) cap3, .int .i64 0, .int .i64 0, .bool true, .slice aq q.length cq, .slice (some ⟨gb, 0, none⟩) (([] : List Nat).length) 0, .slice ao ls.length cap, .int .i64 ((a : Nat) : Int), .pointer (some (ad.add a)), .slice ao3 ((ls.getD a []).length) cap3, .slice ao4 ((ls.getD a []).length) cap4, .slice (some ⟨gB, 0, none⟩) 1 1, .slice aq2 (q.length + 1) cq2, us2 28, us2 29] : List Value).getD kz undef), rfl, (by rw [List.length_append]; rfl), (by omega), ⟨by omega, by omega⟩, hP2, (by omega), (by rw [List.length_append]; simp; omega), (by rw [List.map_append]; exact HG2), GG, HD, HQ2, HK⟩
    refine nr ?_; intro U h; simp only [z0, z1] at h; subst h
    refine s_val 12 rfl rfl (.int .i64 err) (rfl) ?_
    refine nr ?_; intro U h; simp only [z0, z1] at h; subst h
    refine wpList_nil ?_
    refine then_n ?_
    refine wp_seq ?_
    refine wp_region_lit ?_
    refine s_val 82 rfl rfl (.int .i64 err) (rfl) ?_
    refine nr ?_; intro U h; simp only [z0, z1] at h; subst h
    refine s_val 83 rfl rfl (.bool false) (run_eq_k 31 .i64 _ _ _ rfl Try.underlying31 err 0 rfl rfl false (decide_eq_false h0) _) ?_
    refine nr ?_; intro U h; simp only [z0, z1] at h; subst h
    refine wpList_nil ?_
    refine then_n ?_
    refine wp_cond_false rfl ?_
    refine wp_seq ?_
    refine wp_region_lit ?_
    refine s_val 93 rfl rfl (.int .i64 err) (rfl) ?_
    refine nr ?_; intro U h; simp only [z0, z1] at h; subst h
    obtain ⟨p6, hp6⟩ : ∃ p, decide (err = 8) = p := ⟨_, rfl⟩
    refine s_val 94 rfl rfl (.bool p6) (run_eq_k 31 .i64 _ _ _ rfl Try.underlying31 err 8 rfl rfl p6 hp6 _) ?_
    refine nr ?_; intro U h; simp only [z0, z1] at h; subst h
    cases p6
    · refine wpList_nil ?_
      refine then_n ?_
      refine wp_cond_false rfl ?_
      refine wp_skip ?_
      refine blk_n ?_
      refine then_n ?_
      refine wp_region_lit ?_
      refine s_val 74 rfl rfl (.int .i64 ((a : Nat) : Int)) (rfl) ?_
      refine nr ?_; intro U h; simp only [z0, z1] at h; subst h
      refine s_val 75 rfl rfl (.int .i64 ((a + 1 : Nat) : Int)) (run_add64 _ _ _ rfl ((a : Nat) : Int) 1 _ rfl rfl (by omega) (by omega) (by omega) _) ?_
      refine nr ?_; intro U h; simp only [z0, z1] at h; subst h
      refine s_val 7 rfl rfl (.int .i64 ((a + 1 : Nat) : Int)) (rfl) ?_
      refine nr ?_; intro U h; simp only [z0, z1] at h; subst h
      refine wpList_nil ?_
      refine then_n ?_
      exact ⟨_, (by omega : 61 - (a + 1) < 61 - a), a + 1, dn2, pw2, L2, h2, aq, cq, q, dw2, (fun kz => ([.int .i64 err, .int .i64 ((a : Nat) : Int), .slice ao ls.length cap, .int .i64 ((ls.length : Nat) : Int), .bool true, .bool true, .int .i64 ((a : Nat) : Int), .bool true, .bool true, .int .i64 ((a : Nat) : Int), .int .i64 ((a + 1 : Nat) : Int), .pointer (some ⟨lp, 0, none⟩), .slice ao ls.length cap, .int .i64 ((a : Nat) : Int), .pointer (some (ad.add a)), .slice ao3 ((ls.getD a []).length) cap3, .int .i64 err, .int .i64 err, .bool false, us2 19, us2 20, us2 21, us2 22, us2 23, us2 24, us2 25, us2 26, us2 27, .int .i64 err, .bool false] : List Value).getD kz undef), rfl, rfl, (by omega), ⟨by omega, by omega⟩, hP2, (by omega), (by omega), HG2, GG, HD, HQ, HK⟩
    refine wpList_nil ?_
    refine then_n ?_
    refine wp_cond_true rfl ?_
    refine wp_exit ?_
    refine blk_xn (by decide) ?_
    refine then_x ?_
    refine then_x ?_
    refine blk_x ?_
    refine blk_n ?_
    refine then_n ?_
    refine wp_region_lit ?_
    refine s_val 31 rfl rfl (.int .i64 ((k : Nat) : Int)) (rfl) ?_
    refine nr ?_; intro U h; simp only [z0, z1] at h; subst h
    refine s_val 32 rfl rfl (.int .i64 ((k + 1 : Nat) : Int)) (run_add64 _ _ _ rfl ((k : Nat) : Int) 1 _ rfl rfl (by omega) (by omega) (by omega) _) ?_
    refine nr ?_; intro U h; simp only [z0, z1] at h; subst h
    refine s_val 8 rfl rfl (.int .i64 ((k + 1 : Nat) : Int)) (rfl) ?_
    refine nr ?_; intro U h; simp only [z0, z1] at h; subst h
    refine wpList_nil ?_
    refine then_n ?_
    exact ⟨_, (by omega : 21 - (k + 1) < 21 - k), k + 1, a, dn2, pw2, L2, h2, aq, cq, q, (fun kz => ([us1 0, .pointer (some ⟨lp, 0, none⟩), .slice ao5 q5.length cap5, .int .i64 0, .int .i64 err, .int .i64 ((k : Nat) : Int), .slice aox xs.length capx, .int .i64 ((xs.length : Nat) : Int), .bool true, .bool true, .int .i64 ((k : Nat) : Int), .bool true, .bool true, .int .i64 ((k : Nat) : Int), .int .i64 ((k + 1 : Nat) : Int), .tuple #[.pointer (some ⟨lp, 0, none⟩), .slice ao5 q5.length cap5, .int .i64 0], .pointer (some ⟨p, 0, none⟩), .tuple #[.pointer (some ⟨lp, 0, none⟩), .slice ao5 q5.length cap5, .int .i64 0], .pointer (some ⟨lp, 0, none⟩), .slice ao5 q5.length cap5, .int .i64 0, .pointer (some ⟨lp, 0, none⟩), .bool false, .bool false, .int .i64 0, .bool false, .bool false, .bool false, .slice ao5 q5.length cap5, .slice aqy qy.length cqy, .bool true, .bool false, .bool false, .pointer (some ⟨p, 0, none⟩), .tuple #[], .int .i64 ((k : Nat) : Int), .slice aox xs.length capx, .int .i64 ((xs.length : Nat) : Int), .bool false, us1 39, us1 40, us1 41, us1 42, us1 43, us1 44, us1 45, us1 46, us1 47, .int .i64 ((a : Nat) : Int), .slice ao ls.length cap, .int .i64 ((ls.length : Nat) : Int), .bool true, .bool true, .int .i64 ((a : Nat) : Int), .bool true, .bool true, us2 9, us2 10, .pointer (some ⟨lp, 0, none⟩), .slice ao ls.length cap, .int .i64 ((a : Nat) : Int), .pointer (some (ad.add a)), .slice ao3 ((ls.getD a []).length) cap3, .int .i64 err, .int .i64 err, .bool false, us2 19, us2 20, us2 21, us2 22, us2 23, us2 24, us2 25, us2 26, us2 27, .int .i64 err, .bool true] : List Value).getD kz undef), rfl, rfl, (by omega), ha, ⟨by omega, by omega⟩, hP2, (by omega), hqj, HG2, GG, HD, HQ⟩
  have hkx : k < xs.length := by have := of_decide_eq_true hp3; omega
  refine wpList_nil ?_
  refine then_n ?_
  refine wp_cond_true rfl ?_
  refine wp_region_lit ?_
  refine s_val 57 rfl rfl (.pointer (some ⟨p, 0, none⟩)) (rfl) ?_
  refine nr ?_; intro U h; simp only [z0, z1] at h; subst h
  refine s_val 58 rfl rfl (.slice aox xs.length capx) (rfl) ?_
  refine nr ?_; intro U h; simp only [z0, z1] at h; subst h
  refine s_val 59 rfl rfl (.int .i64 ((k : Nat) : Int)) (rfl) ?_
  refine nr ?_; intro U h; simp only [z0, z1] at h; subst h
  obtain ⟨bd, hbo, clX⟩ := HX0.at hkx
  refine s_val 60 rfl rfl (.pointer (some (bd.add k))) (run_idx iT _ _ rfl bd xs.length capx k (by exact congrArg (fun a => Value.slice a xs.length capx) hbo) rfl hkx _) ?_
  refine nr ?_; intro U h; simp only [z0, z1] at h; subst h
  refine s_val 61 rfl rfl (.int .i64 (xs.getD k 0)) (run_ld iT _ rfl (bd.add k) rfl _ _ (gro_cell GG clX)) ?_
  refine nr ?_; intro U h; simp only [z0, z1] at h; subst h
  refine s_val 62 rfl rfl (.int .u64 ((uN (xs.getD k 0) : Nat) : Int)) (conv345 _ rfl (xs.getD k 0) rfl _) ?_
  refine nr ?_; intro U h; simp only [z0, z1] at h; subst h
  refine s_val 63 rfl rfl (.int .u64 ((uN (xs.getD k 0) % 12 : Nat) : Int)) (run_remN 45 45 _ _ rfl (uN (xs.getD k 0)) 12 rfl rfl (by decide) _) ?_
  refine nr ?_; intro U h; simp only [z0, z1] at h; subst h
  refine s_val 64 rfl rfl (.int .i64 ((uN (xs.getD k 0) % 12 : Nat) : Int)) (conv453 _ rfl (uN (xs.getD k 0) % 12) (by omega) rfl _) ?_
  refine nr ?_; intro U h; simp only [z0, z1] at h; subst h
  refine s_callx 65 rfl rfl _ 20 Try.call20 rfl rfl _ rfl [.pointer (some ⟨p, 0, none⟩), .int .i64 ((uN (xs.getD k 0) % 12 : Nat) : Int)] rfl (power_any _ p sg 400 _ _ _ HD ((uN (xs.getD k 0) % 12 : Nat) : Int)) (fun _ _ ⟨he, _⟩ => ⟨_, he⟩) ?_
  rintro v w6 ⟨he, G, HD2⟩
  cases he
  replace HQ := HQ.gro3 HD HK (G.mono (fun x hx => by simp at hx ⊢; omega))
  replace GG := G.gro GG (by simp; omega)
  replace HK := HK.gros G (by simp; omega)
  clear G HD
  have HD := HD2
  clear HD2
  replace hP : okP (max ((uN (xs.getD k 0) % 12 : Nat) : Int) (-1)) := okP.set (by omega)
  generalize max ((uN (xs.getD k 0) % 12 : Nat) : Int) (-1) = pw at HD hP
  refine nr ?_; intro U h; simp only [z0, z1] at h; subst h
  refine wpList_nil ?_
  refine then_n ?_
  refine wp_block ?_
  refine wp_loopN (fun mz az wv => ∃ (a : Nat) (dn : Int) (pw : Int) (L : List Nat) (h : Hd) (aq : Option Addr) (cq : Nat) (q : List RV) (dw : Bool) (us2 : Nat → Value), mz = 61 - a ∧ az = ⟨[.slice ao ls.length cap, .slice aox xs.length capx, undef, undef, us1 0, .pointer (some ⟨p, 0, none⟩), .slice aq q.length cq, .int .i64 ((a : Nat) : Int), .int .i64 ((k : Nat) : Int), .pointer (some ⟨lp, 0, none⟩), .slice ao5 q5.length cap5, .int .i64 0, us2 0, undef, undef, undef, .pointer (some ⟨p, 0, none⟩), .pointer (some ⟨p, 0, none⟩), .bool false, .bool false, .bool true, .bool false, .bool false, .int .i64 ((k : Nat) : Int), .slice aox xs.length capx, .int .i64 ((xs.length : Nat) : Int), .bool true, .bool true, .int .i64 ((k : Nat) : Int), .bool true, .bool true, us1 13, us1 14, .tuple #[.pointer (some ⟨lp, 0, none⟩), .slice ao5 q5.length cap5, .int .i64 0], .pointer (some ⟨p, 0, none⟩), .tuple #[.pointer (some ⟨lp, 0, none⟩), .slice ao5 q5.length cap5, .int .i64 0], .pointer (some ⟨lp, 0, none⟩), .slice ao5 q5.length cap5, .int .i64 0, .pointer (some ⟨lp, 0, none⟩), .bool false, .bool false, .int .i64 0, .bool false, .bool false, .bool false, .slice ao5 q5.length cap5, .slice aqy qy.length cqy, .bool true, .bool false, .bool false, .pointer (some ⟨p, 0, none⟩), .tuple #[], .int .i64 ((k : Nat) : Int), .slice aox xs.length capx, .int .i64 ((xs.length : Nat) : Int), .bool true, .pointer (some ⟨p, 0, none⟩), .slice aox xs.length capx, .int .i64 ((k : Nat) : Int), .pointer (some (bd.add k)), .int .i64 (xs.getD k 0), .int .u64 ((uN (xs.getD k 0) : Nat) : Int), .int .u64 ((uN (xs.getD k 0) % 12 : Nat) : Int), .int .i64 ((uN (xs.getD k 0) % 12 : Nat) : Int), .tuple #[], us2 1, us2 2, us2 3, us2 4, us2 5, us2 6, us2 7, us2 8, us2 9, us2 10, us2 11, us2 12, us2 13, us2 14, us2 15, us2 16, us2 17, us2 18, us2 19, us2 20, us2 21, us2 22, us2 23, us2 24, us2 25, us2 26, us2 27, us2 28, us2 29, undef, undef, undef, undef, undef, undef, undef, undef, undef, undef, undef, undef, undef].toArray, []⟩ ∧ a ≤ 60 ∧ (0 ≤ dn ∧ dn ≤ 20 * ((a : Int) + (k : Int))) ∧ okP pw ∧ h.g ≤ a + k ∧ q.length ≤ a ∧ Good L 400 h (q.map (·.l)) ∧ Gro w wv ∧ DK wv p sg 400 L pw dn ∧ LO wv w.heap.size aq cq q ∧ LK wv lp p h dw) ?_ _ ⟨ay, dny, _, Ly, hy, aqy, cqy, qy, _, (fun kz => ([us1 4, us1 48, us1 49, us1 50, us1 51, us1 52, us1 53, us1 54, us1 55, us1 56, us1 57, us1 58, us1 59, us1 60, us1 61, us1 62, us1 63, us1 64, us1 65, us1 66, us1 67, us1 68, us1 69, us1 70, us1 71, us1 72, us1 73, us1 74, us1 75, us1 76] : List Value).getD kz undef), rfl, rfl, ha, hd, hP, hgj, hqj, HG, GG, HD, HQ, HK⟩
  clear GG HD HQ HK
  rintro mz az wv ⟨a, dn, pw, L, h, aq, cq, q, dw, us2, rfl, rfl, ha, hd, hP, hgj, hqj, HG, GG, HD, HQ, HK⟩
  refine wp_seq ?_
  refine wp_seq ?_
  refine wp_region_opq ?_
  intro OPS hY
  have y4 := hY 4 70 rfl
  clear hY
  refine s_val 66 rfl rfl (.int .i64 ((a : Nat) : Int)) (rfl) ?_
  refine nr ?_; intro U h; simp only [z0, z1] at h; subst h
  refine s_val 67 rfl rfl (.slice ao ls.length cap) (rfl) ?_
  refine nr ?_; intro U h; simp only [z0, z1] at h; subst h
  refine s_val 68 rfl rfl (.int .i64 ((ls.length : Nat) : Int)) (run_len Try.underlying30 _ rfl _ _ _ rfl _) ?_
  refine nr ?_; intro U h; simp only [z0, z1] at h; subst h
  obtain ⟨p4, hp4⟩ : ∃ p, decide (((a : Nat) : Int) < ((ls.length : Nat) : Int)) = p := ⟨_, rfl⟩
  refine s_val 69 rfl rfl (.bool p4) (run_lssT 3 _ _ _ rfl ((a : Nat) : Int) ((ls.length : Nat) : Int) rfl rfl p4 hp4 _) ?_
  refine nr ?_; intro U h; simp only [z0, z1] at h; subst h
  cases p4
  · refine s_val _ rfl rfl (.bool false) rfl ?_
    refine nr ?_; intro U h; simp only [z0, z1] at h; subst h
    iterate 2 (refine s_skipY _ rfl rfl y4 rfl ?_; refine nr ?_; intro U h; simp only [z0, z1] at h; subst h)
    refine s_val _ rfl rfl (.bool false) rfl ?_
    refine nr ?_; intro U h; simp only [z0, z1] at h; subst h
    refine wpList_nil ?_
    refine then_n ?_
    refine wp_cond_false rfl ?_
    refine wp_exit ?_
    refine then_x ?_
    refine then_x ?_
    refine blk_x ?_
    refine blk_n ?_
    refine then_n ?_
    refine wp_region_lit ?_
    refine s_val 31 rfl rfl (.int .i64 ((k : Nat) : Int)) (rfl) ?_
    refine nr ?_; intro U h; simp only [z0, z1] at h; subst h
    refine s_val 32 rfl rfl (.int .i64 ((k + 1 : Nat) : Int)) (run_add64 _ _ _ rfl ((k : Nat) : Int) 1 _ rfl rfl (by omega) (by omega) (by omega) _) ?_
    refine nr ?_; intro U h; simp only [z0, z1] at h; subst h
    refine s_val 8 rfl rfl (.int .i64 ((k + 1 : Nat) : Int)) (rfl) ?_
    refine nr ?_; intro U h; simp only [z0, z1] at h; subst h
    refine wpList_nil ?_
    refine then_n ?_
    exact ⟨_, (by omega : 21 - (k + 1) < 21 - k), k + 1, a, dn, pw, L, h, aq, cq, q, (fun kz => ([us1 0, .pointer (some ⟨lp, 0, none⟩), .slice ao5 q5.length cap5, .int .i64 0, us2 0, .int .i64 ((k : Nat) : Int), .slice aox xs.length capx, .int .i64 ((xs.length : Nat) : Int), .bool true, .bool true, .int .i64 ((k : Nat) : Int), .bool true, .bool true, .int .i64 ((k : Nat) : Int), .int .i64 ((k + 1 : Nat) : Int), .tuple #[.pointer (some ⟨lp, 0, none⟩), .slice ao5 q5.length cap5, .int .i64 0], .pointer (some ⟨p, 0, none⟩), .tuple #[.pointer (some ⟨lp, 0, none⟩), .slice ao5 q5.length cap5, .int .i64 0], .pointer (some ⟨lp, 0, none⟩), .slice ao5 q5.length cap5, .int .i64 0, .pointer (some ⟨lp, 0, none⟩), .bool false, .bool false, .int .i64 0, .bool false, .bool false, .bool false, .slice ao5 q5.length cap5, .slice aqy qy.length cqy, .bool true, .bool false, .bool false, .pointer (some ⟨p, 0, none⟩), .tuple #[], .int .i64 ((k : Nat) : Int), .slice aox xs.length capx, .int .i64 ((xs.length : Nat) : Int), .bool true, .pointer (some ⟨p, 0, none⟩), .slice aox xs.length capx, .int .i64 ((k : Nat) : Int), .pointer (some (bd.add k)), .int .i64 (xs.getD k 0), .int .u64 ((uN (xs.getD k 0) : Nat) : Int), .int .u64 ((uN (xs.getD k 0) % 12 : Nat) : Int), .int .i64 ((uN (xs.getD k 0) % 12 : Nat) : Int), .tuple #[], .int .i64 ((a : Nat) : Int), .slice ao ls.length cap, .int .i64 ((ls.length : Nat) : Int), .bool false, .bool false, undef, undef, .bool false, us2 9, us2 10, us2 11, us2 12, us2 13, us2 14, us2 15, us2 16, us2 17, us2 18, us2 19, us2 20, us2 21, us2 22, us2 23, us2 24, us2 25, us2 26, us2 27, us2 28, us2 29] : List Value).getD kz undef), rfl, rfl, (by omega), ha, ⟨by omega, by omega⟩, hP, (by omega), hqj, HG, GG, HD, HQ⟩
  have hjn : a < ls.length := by have := of_decide_eq_true hp4; omega
  obtain ⟨ad, ao3, cap3, hao, clA, ncA⟩ := HA.at hjn
  have hrl := hlens _ (getD_mem2 hjn)
  refine s_val 70 rfl rfl (.bool true) (rfl) ?_
  refine nr ?_; intro U h; simp only [z0, z1] at h; subst h
  refine s_gvalY 71 rfl rfl y4 rfl (.int .i64 ((a : Nat) : Int)) (rfl) ?_
  refine nr ?_; intro U h; simp only [z0, z1] at h; subst h
  obtain ⟨p5, hp5⟩ : ∃ p, decide (((a : Nat) : Int) < 60) = p := ⟨_, rfl⟩
  refine s_gvalY 72 rfl rfl y4 rfl (.bool p5) (run_lssT 3 _ _ _ rfl ((a : Nat) : Int) 60 rfl rfl p5 hp5 _) ?_
  refine nr ?_; intro U h; simp only [z0, z1] at h; subst h
  cases p5
  · refine s_val _ rfl rfl (.bool false) rfl ?_
    refine nr ?_; intro U h; simp only [z0, z1] at h; subst h
    refine wpList_nil ?_
    refine then_n ?_
    refine wp_cond_false rfl ?_
    refine wp_exit ?_
    refine then_x ?_
    refine then_x ?_
    refine blk_x ?_
    refine blk_n ?_
    refine then_n ?_
    refine wp_region_lit ?_
    refine s_val 31 rfl rfl (.int .i64 ((k : Nat) : Int)) (rfl) ?_
    refine nr ?_; intro U h; simp only [z0, z1] at h; subst h
    refine s_val 32 rfl rfl (.int .i64 ((k + 1 : Nat) : Int)) (run_add64 _ _ _ rfl ((k : Nat) : Int) 1 _ rfl rfl (by omega) (by omega) (by omega) _) ?_
    refine nr ?_; intro U h; simp only [z0, z1] at h; subst h
    refine s_val 8 rfl rfl (.int .i64 ((k + 1 : Nat) : Int)) (rfl) ?_
    refine nr ?_; intro U h; simp only [z0, z1] at h; subst h
    refine wpList_nil ?_
    refine then_n ?_
    exact ⟨_, (by omega : 21 - (k + 1) < 21 - k), k + 1, a, dn, pw, L, h, aq, cq, q, (fun kz => ([us1 0, .pointer (some ⟨lp, 0, none⟩), .slice ao5 q5.length cap5, .int .i64 0, us2 0, .int .i64 ((k : Nat) : Int), .slice aox xs.length capx, .int .i64 ((xs.length : Nat) : Int), .bool true, .bool true, .int .i64 ((k : Nat) : Int), .bool true, .bool true, .int .i64 ((k : Nat) : Int), .int .i64 ((k + 1 : Nat) : Int), .tuple #[.pointer (some ⟨lp, 0, none⟩), .slice ao5 q5.length cap5, .int .i64 0], .pointer (some ⟨p, 0, none⟩), .tuple #[.pointer (some ⟨lp, 0, none⟩), .slice ao5 q5.length cap5, .int .i64 0], .pointer (some ⟨lp, 0, none⟩), .slice ao5 q5.length cap5, .int .i64 0, .pointer (some ⟨lp, 0, none⟩), .bool false, .bool false, .int .i64 0, .bool false, .bool false, .bool false, .slice ao5 q5.length cap5, .slice aqy qy.length cqy, .bool true, .bool false, .bool false, .pointer (some ⟨p, 0, none⟩), .tuple #[], .int .i64 ((k : Nat) : Int), .slice aox xs.length capx, .int .i64 ((xs.length : Nat) : Int), .bool true, .pointer (some ⟨p, 0, none⟩), .slice aox xs.length capx, .int .i64 ((k : Nat) : Int), .pointer (some (bd.add k)), .int .i64 (xs.getD k 0), .int .u64 ((uN (xs.getD k 0) : Nat) : Int), .int .u64 ((uN (xs.getD k 0) % 12 : Nat) : Int), .int .i64 ((uN (xs.getD k 0) % 12 : Nat) : Int), .tuple #[], .int .i64 ((a : Nat) : Int), .slice ao ls.length cap, .int .i64 ((ls.length : Nat) : Int), .bool true, .bool true, .int .i64 ((a : Nat) : Int), .bool false, .bool false, us2 9, us2 10, us2 11, us2 12, us2 13, us2 14, us2 15, us2 16, us2 17, us2 18, us2 19, us2 20, us2 21, us2 22, us2 23, us2 24, us2 25, us2 26, us2 27, us2 28, us2 29] : List Value).getD kz undef), rfl, rfl, (by omega), ha, ⟨by omega, by omega⟩, hP, (by omega), hqj, HG, GG, HD, HQ⟩
  have ha60 : a < 60 := by have := of_decide_eq_true hp5; omega
  refine s_val 73 rfl rfl (.bool true) (rfl) ?_
  refine nr ?_; intro U h; simp only [z0, z1] at h; subst h
  refine wpList_nil ?_
  refine then_n ?_
  refine wp_cond_true rfl ?_
  refine wp_skip ?_
  refine then_n ?_
  refine wp_seq ?_
  refine wp_block ?_
  refine wp_seq ?_
  refine wp_region_lit ?_
  refine s_val 76 rfl rfl (.pointer (some ⟨lp, 0, none⟩)) (rfl) ?_
  refine nr ?_; intro U h; simp only [z0, z1] at h; subst h
  refine s_val 77 rfl rfl (.slice ao ls.length cap) (rfl) ?_
  refine nr ?_; intro U h; simp only [z0, z1] at h; subst h
  refine s_val 78 rfl rfl (.int .i64 ((a : Nat) : Int)) (rfl) ?_
  refine nr ?_; intro U h; simp only [z0, z1] at h; subst h
  refine s_val 79 rfl rfl (.pointer (some (ad.add a))) (run_idx23 _ _ rfl ad ls.length cap a (by exact congrArg (fun a => Value.slice a ls.length cap) hao) rfl hjn _) ?_
  refine nr ?_; intro U h; simp only [z0, z1] at h; subst h
  refine s_val 80 rfl rfl (.slice ao3 ((ls.getD a []).length) cap3) (run_ld24 _ rfl _ rfl _ _ (gro_cell GG clA)) ?_
  refine nr ?_; intro U h; simp only [z0, z1] at h; subst h
  have HX := append_good _ lp p h dw HK sg 400 L pw dn HD _ HG ao3 cap3 (ls.getD a []) ⟨ncA.gro GG, fun ad ha h0 => by have := ncA.lt ad ha h0; simp; omega⟩ hP (by omega) hn1 hn2 (by omega) (by omega)
  refine s_callx 81 rfl rfl _ 21 Try.call21 rfl rfl _ rfl [.pointer (some ⟨lp, 0, none⟩), .slice ao3 ((ls.getD a []).length) cap3] rfl (HX) (fun _ _ ⟨_, _, _, _, _, _, he, _⟩ => ⟨_, he⟩) ?_
  rintro v w7 ⟨err, L2, pw2, h2, dw2, dn2, he, G, hd1, hd2, HD2, HK2, hP2, hg2, hres⟩
  cases he
  replace GG := G.gro GG (by simp; omega)
  replace HQ := HQ.gro3 HD HK G
  clear G HX HD HK
  have HD := HD2
  have HK := HK2
  clear HD2 HK2
  rcases hres with ⟨h0, HG2⟩ | ⟨h0, HG2⟩
  · subst h0
    refine nr ?_; intro U h; simp only [z0, z1] at h; subst h
    refine s_val 12 rfl rfl (.int .i64 0) (rfl) ?_
    refine nr ?_; intro U h; simp only [z0, z1] at h; subst h
    refine wpList_nil ?_
    refine then_n ?_
    refine wp_seq ?_
    refine wp_region_lit ?_
    refine s_val 82 rfl rfl (.int .i64 0) (rfl) ?_
    refine nr ?_; intro U h; simp only [z0, z1] at h; subst h
    refine s_val 83 rfl rfl (.bool true) (run_eq_k 31 .i64 _ _ _ rfl Try.underlying31 0 0 rfl rfl true rfl _) ?_
    refine nr ?_; intro U h; simp only [z0, z1] at h; subst h
    refine wpList_nil ?_
    refine then_n ?_
    refine wp_cond_true rfl ?_
    refine wp_region_lit ?_
    refine s_val 84 rfl rfl (.slice aq q.length cq) (rfl) ?_
    refine nr ?_; intro U h; simp only [z0, z1] at h; subst h
    refine s_bsl 85 rfl rfl 22 0 _ rfl [] rfl #[] 5 (by kernel_rfl) ?_
    intro w8 gb G1 egb kgb
    refine nr ?_; intro U h; simp only [z0, z1] at h; subst h
    refine s_val 86 rfl rfl (.slice ao ls.length cap) (rfl) ?_
    refine nr ?_; intro U h; simp only [z0, z1] at h; subst h
    refine s_val 87 rfl rfl (.int .i64 ((a : Nat) : Int)) (rfl) ?_
    refine nr ?_; intro U h; simp only [z0, z1] at h; subst h
    refine s_val 88 rfl rfl (.pointer (some (ad.add a))) (run_idx23 _ _ rfl ad ls.length cap a (by exact congrArg (fun a => Value.slice a ls.length cap) hao) rfl hjn _) ?_
    refine nr ?_; intro U h; simp only [z0, z1] at h; subst h
    refine s_val 89 rfl rfl (.slice ao3 ((ls.getD a []).length) cap3) (run_ld24 _ rfl _ rfl _ _ (gro_cell (GG.trans G1) clA)) ?_
    refine nr ?_; intro U h; simp only [z0, z1] at h; subst h
    have HO1 : OB _ 5 .u8 gb (some ⟨gb, 0, none⟩) 0 [] := OB.made kgb (Nat.le_refl _) (Nat.le_refl _) (Nat.zero_le _) rfl rfl (fun x hx => by cases hx)
    refine s_app bT 90 rfl rfl _ _ rfl rfl HO1 (l' := (ls.getD a [])) rfl (ncA.gro (GG.trans G1)) (by simp only [List.length_nil]; omega) (by decide) (Nat.le_of_lt (lt_of_heap kgb)) ?_
    intro ao4 cap4 w9 HO2 BB
    rw [List.nil_append] at HO2
    simp only [List.nil_append]
    have G := below_gro G1 BB (Nat.le_of_eq egb)
    have bgb := size_base GG egb
    have HO := HO2.mono bgb
    clear HO1 HO2 BB G1 egb kgb
    replace HD := HD.gro G
    replace HQ := HQ.gro G
    replace HK := HK.gro G
    replace GG := GG.trans G
    clear G
    refine nr ?_; intro U h; simp only [z0, z1] at h; subst h
    refine s_bsl 91 rfl rfl 30 1 _ rfl [(0, .slice ao4 (ls.getD a []).length cap4)] rfl #[.slice ao4 (ls.getD a []).length cap4] 22 (by kernel_rfl) ?_
    intro w10 gB G eB kgB
    clear eB
    replace HD := HD.gro G
    replace HQ := HQ.gro G
    replace HK := HK.gro G
    replace HO := HO.gro G
    replace GG := GG.trans G
    clear G
    refine nr ?_; intro U h; simp only [z0, z1] at h; subst h
    refine s_appXG rT 92 rfl rfl _ _ rfl rfl HQ.ox rfl (xc_one kgB rfl) (by omega) (by decide) GG.size ?_
    intro aq2 cq2 w11 HX GX
    have HQ2 := LO.app (x := ⟨ao4, cap4, (ls.getD a [])⟩) HQ HX GX HO
    replace HD := HD.gros GX (HQ.ox.ne HD.box (by decide)) (HQ.ox.ne HD.sec (by decide))
    replace HK := HK.gros GX (HQ.ox.ne HK.box (by decide))
    replace GG := GX.gro GG HQ.ox.base
    clear HX GX HQ HO kgB
    refine nr ?_; intro U h; simp only [z0, z1] at h; subst h
    refine s_val 6 rfl rfl (.slice aq2 (q.length + 1) cq2) (rfl) ?_
    refine nr ?_; intro U h; simp only [z0, z1] at h; subst h
    refine wpList_nil ?_
    refine blk_n ?_
    refine then_n ?_
    refine wp_region_lit ?_
    refine s_val 74 rfl rfl (.int .i64 ((a : Nat) : Int)) (rfl) ?_
    refine nr ?_; intro U h; simp only [z0, z1] at h; subst h
    refine s_val 75 rfl rfl (.int .i64 ((a + 1 : Nat) : Int)) (run_add64 _ _ _ rfl ((a : Nat) : Int) 1 _ rfl rfl (by omega) (by omega) (by omega) _) ?_
    refine nr ?_; intro U h; simp only [z0, z1] at h; subst h
    refine s_val 7 rfl rfl (.int .i64 ((a + 1 : Nat) : Int)) (rfl) ?_
    refine nr ?_; intro U h; simp only [z0, z1] at h; subst h
    refine wpList_nil ?_
    refine then_n ?_
    exact ⟨_, (by omega : 61 - (a + 1) < 61 - a), a + 1, dn2, pw2, L2, h2, aq2, cq2, q ++ [⟨ao4, cap4, ls.getD a []⟩], dw2, (fun kz => ([.int .i64 0, .int .i64 ((a : Nat) : Int), .slice ao ls.length cap, .int .i64 ((ls.length : Nat) : Int), .bool true, .bool true, .int .i64 ((a : Nat) : Int), .bool true, .bool true, .int .i64 ((a : Nat) : Int), .int .i64 ((a + 1 : Nat) : Int), .pointer (some ⟨lp, 0, none⟩), .slice ao ls.length cap, .int .i64 ((a : Nat) : Int), .pointer (some (ad.add a)), .slice ao3 ((ls.getD a []).length) cap3, .int .i64 0, .int .i64 0, .bool true, .slice aq q.length cq, .slice (some ⟨gb, 0, none⟩) (([] : List Nat).length) 0, .slice ao ls.length cap, .int .i64 ((a : Nat) : Int), .pointer (some (ad.add a)), .slice ao3 ((ls.getD a []).length) cap3, .slice ao4 ((ls.getD a []).length) cap4, .slice (some ⟨gB, 0, none⟩) 1 1, .slice aq2 (q.length + 1) cq2, us2 28, us2 29] : List Value).getD kz undef), rfl, (by rw [List.length_append]; rfl), (by omega), ⟨by omega, by omega⟩, hP2, (by omega), (by rw [List.length_append]; simp; omega), (by rw [List.map_append]; exact HG2), GG, HD, HQ2, HK⟩
  refine nr ?_; intro U h; simp only [z0, z1] at h; subst h
  refine s_val 12 rfl rfl (.int .i64 err) (rfl) ?_
  refine nr ?_; intro U h; simp only [z0, z1] at h; subst h
  refine wpList_nil ?_
  refine then_n ?_
  refine wp_seq ?_
  refine wp_region_lit ?_
  refine s_val 82 rfl rfl (.int .i64 err) (rfl) ?_
  refine nr ?_; intro U h; simp only [z0, z1] at h; subst h
  refine s_val 83 rfl rfl (.bool false) (run_eq_k 31 .i64 _ _ _ rfl Try.underlying31 err 0 rfl rfl false (decide_eq_false h0) _) ?_
  refine nr ?_; intro U h; simp only [z0, z1] at h; subst h
  refine wpList_nil ?_
  refine then_n ?_
  refine wp_cond_false rfl ?_
  refine wp_seq ?_
  refine wp_region_lit ?_
  refine s_val 93 rfl rfl (.int .i64 err) (rfl) ?_
  refine nr ?_; intro U h; simp only [z0, z1] at h; subst h
  obtain ⟨p6, hp6⟩ : ∃ p, decide (err = 8) = p := ⟨_, rfl⟩
  refine s_val 94 rfl rfl (.bool p6) (run_eq_k 31 .i64 _ _ _ rfl Try.underlying31 err 8 rfl rfl p6 hp6 _) ?_
  refine nr ?_; intro U h; simp only [z0, z1] at h; subst h
  cases p6
  · refine wpList_nil ?_
    refine then_n ?_
    refine wp_cond_false rfl ?_
    refine wp_skip ?_
    refine blk_n ?_
    refine then_n ?_
    refine wp_region_lit ?_
    refine s_val 74 rfl rfl (.int .i64 ((a : Nat) : Int)) (rfl) ?_
    refine nr ?_; intro U h; simp only [z0, z1] at h; subst h
    refine s_val 75 rfl rfl (.int .i64 ((a + 1 : Nat) : Int)) (run_add64 _ _ _ rfl ((a : Nat) : Int) 1 _ rfl rfl (by omega) (by omega) (by omega) _) ?_
    refine nr ?_; intro U h; simp only [z0, z1] at h; subst h
    refine s_val 7 rfl rfl (.int .i64 ((a + 1 : Nat) : Int)) (rfl) ?_
    refine nr ?_; intro U h; simp only [z0, z1] at h; subst h
    refine wpList_nil ?_
    refine then_n ?_
    exact ⟨_, (by omega : 61 - (a + 1) < 61 - a), a + 1, dn2, pw2, L2, h2, aq, cq, q, dw2, (fun kz => ([.int .i64 err, .int .i64 ((a : Nat) : Int), .slice ao ls.length cap, .int .i64 ((ls.length : Nat) : Int), .bool true, .bool true, .int .i64 ((a : Nat) : Int), .bool true, .bool true, .int .i64 ((a : Nat) : Int), .int .i64 ((a + 1 : Nat) : Int), .pointer (some ⟨lp, 0, none⟩), .slice ao ls.length cap, .int .i64 ((a : Nat) : Int), .pointer (some (ad.add a)), .slice ao3 ((ls.getD a []).length) cap3, .int .i64 err, .int .i64 err, .bool false, us2 19, us2 20, us2 21, us2 22, us2 23, us2 24, us2 25, us2 26, us2 27, .int .i64 err, .bool false] : List Value).getD kz undef), rfl, rfl, (by omega), ⟨by omega, by omega⟩, hP2, (by omega), (by omega), HG2, GG, HD, HQ, HK⟩
  refine wpList_nil ?_
  refine then_n ?_
  refine wp_cond_true rfl ?_
  refine wp_exit ?_
  refine blk_xn (by decide) ?_
  refine then_x ?_
  refine then_x ?_
  refine blk_x ?_
  refine blk_n ?_
  refine then_n ?_
  refine wp_region_lit ?_
  refine s_val 31 rfl rfl (.int .i64 ((k : Nat) : Int)) (rfl) ?_
  refine nr ?_; intro U h; simp only [z0, z1] at h; subst h
  refine s_val 32 rfl rfl (.int .i64 ((k + 1 : Nat) : Int)) (run_add64 _ _ _ rfl ((k : Nat) : Int) 1 _ rfl rfl (by omega) (by omega) (by omega) _) ?_
  refine nr ?_; intro U h; simp only [z0, z1] at h; subst h
  refine s_val 8 rfl rfl (.int .i64 ((k + 1 : Nat) : Int)) (rfl) ?_
  refine nr ?_; intro U h; simp only [z0, z1] at h; subst h
  refine wpList_nil ?_
  refine then_n ?_
  exact ⟨_, (by omega : 21 - (k + 1) < 21 - k), k + 1, a, dn2, pw2, L2, h2, aq, cq, q, (fun kz => ([us1 0, .pointer (some ⟨lp, 0, none⟩), .slice ao5 q5.length cap5, .int .i64 0, .int .i64 err, .int .i64 ((k : Nat) : Int), .slice aox xs.length capx, .int .i64 ((xs.length : Nat) : Int), .bool true, .bool true, .int .i64 ((k : Nat) : Int), .bool true, .bool true, .int .i64 ((k : Nat) : Int), .int .i64 ((k + 1 : Nat) : Int), .tuple #[.pointer (some ⟨lp, 0, none⟩), .slice ao5 q5.length cap5, .int .i64 0], .pointer (some ⟨p, 0, none⟩), .tuple #[.pointer (some ⟨lp, 0, none⟩), .slice ao5 q5.length cap5, .int .i64 0], .pointer (some ⟨lp, 0, none⟩), .slice ao5 q5.length cap5, .int .i64 0, .pointer (some ⟨lp, 0, none⟩), .bool false, .bool false, .int .i64 0, .bool false, .bool false, .bool false, .slice ao5 q5.length cap5, .slice aqy qy.length cqy, .bool true, .bool false, .bool false, .pointer (some ⟨p, 0, none⟩), .tuple #[], .int .i64 ((k : Nat) : Int), .slice aox xs.length capx, .int .i64 ((xs.length : Nat) : Int), .bool true, .pointer (some ⟨p, 0, none⟩), .slice aox xs.length capx, .int .i64 ((k : Nat) : Int), .pointer (some (bd.add k)), .int .i64 (xs.getD k 0), .int .u64 ((uN (xs.getD k 0) : Nat) : Int), .int .u64 ((uN (xs.getD k 0) % 12 : Nat) : Int), .int .i64 ((uN (xs.getD k 0) % 12 : Nat) : Int), .tuple #[], .int .i64 ((a : Nat) : Int), .slice ao ls.length cap, .int .i64 ((ls.length : Nat) : Int), .bool true, .bool true, .int .i64 ((a : Nat) : Int), .bool true, .bool true, us2 9, us2 10, .pointer (some ⟨lp, 0, none⟩), .slice ao ls.length cap, .int .i64 ((a : Nat) : Int), .pointer (some (ad.add a)), .slice ao3 ((ls.getD a []).length) cap3, .int .i64 err, .int .i64 err, .bool false, us2 19, us2 20, us2 21, us2 22, us2 23, us2 24, us2 25, us2 26, us2 27, .int .i64 err, .bool true] : List Value).getD kz undef), rfl, rfl, (by omega), ha, ⟨by omega, by omega⟩, hP2, (by omega), hqj, HG2, GG, HD, HQ⟩
end Go.Proofs.Ytaejjmoocnpdaaa
