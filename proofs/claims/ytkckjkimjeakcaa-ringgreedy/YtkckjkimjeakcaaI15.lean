/- The laws on who is wanted, who is next, and whether all pairs agree. -/
import Derived.Test.YtkckjkimjeakcaaI14
namespace Go.Proofs.Ytkckjkimjeakcaa
open Go.RowKit

theorem RC.takeN {w : World} {ao : Option Addr} {cap : Nat} {l : List Nat} (h : RC w ao cap l) (m : Nat) : RC w ao (l.take m).length (l.take m) := by
  by_cases hm : m ≤ l.length
  · exact (h.take m hm).tight
  · rw [List.take_of_length_le (by omega)]
    exact h.tight
theorem nxt_lt {s : Nat} {l : List Nat} (hs : s < top) (hl : All l) : (nxt s l).getD 0 < top := by
  cases hn : nxt s l with
  | none => exact top_0
  | some y => exact hl y (nxt_spec hs hl hn).1.1
set_option maxRecDepth 100000 in
set_option maxHeartbeats 4000000 in
theorem ringWants_any (w : World) (ao : Option Addr) (cap : Nat) (l : List Nat) (H : RC w ao cap l) (s : Nat) (hs : s < top) (half : Int) : Calls Try.prog 3 #[.agg (idA s), .slice ao l.length cap, .int .i64 half] w (fun e w' => e = .returned (.bool true) ∧ Gro w w') := by
  refine s_enter Try.func3 rfl Try.ntmps3 [.agg (idA s), .slice ao l.length cap, .int .i64 half] [.agg (idA s), .slice ao l.length cap, .int .i64 half, undef, undef, undef, undef, undef, undef, undef, undef, undef, undef, undef, undef, undef, undef, undef, undef, undef, undef, undef, undef, undef, undef, undef, undef, undef, undef, undef, undef, undef, undef, undef, undef, undef, undef, undef, undef, undef, undef, undef] rfl ?_
  have GG := Gro.refl w
  obtain ⟨t, ht⟩ : ∃ t, l.take 60 = t := ⟨_, rfl⟩
  have HT : RC w ao t.length t := ht ▸ H.takeN 60
  have htl : t.length ≤ 60 := by rw [← ht, List.length_take]; omega
  refine wp_seq ?_
  refine wp_region_lit ?_
  refine s_box 3 rfl rfl 23 _ rfl _ rfl (idA s) rfl ?_
  intro w1 g1 G eg1 kg1
  have bg1 := size_base GG eg1
  replace GG := GG.trans G
  clear G
  clear eg1
  refine nr ?_; intro U h; simp only [z0, z1] at h; subst h
  refine s_val 6 rfl rfl (.bool false) (rfl) ?_
  refine nr ?_; intro U h; simp only [z0, z1] at h; subst h
  refine wpList_nil ?_
  refine then_n ?_
  refine wp_seq ?_
  refine wp_region_lit ?_
  refine s_val 10 rfl rfl (.slice ao l.length cap) (rfl) ?_
  refine nr ?_; intro U h; simp only [z0, z1] at h; subst h
  refine s_callv 11 rfl rfl _ 9 Try.call9 rfl rfl _ rfl [.slice ao l.length cap, .int .i64 60] rfl (Calls.valV (cut_any _ ao cap l (H.gro GG) 60) (by rw [ht])) ?_
  intro w2 G
  replace kg1 := G.has kg1
  replace GG := GG.trans G
  clear G
  refine nr ?_; intro U h; simp only [z0, z1] at h; subst h
  refine s_val 1 rfl rfl (.slice ao t.length t.length) (rfl) ?_
  refine nr ?_; intro U h; simp only [z0, z1] at h; subst h
  refine wpList_nil ?_
  refine then_n ?_
  refine wp_seq ?_
  refine wp_region_lit ?_
  refine s_val 12 rfl rfl (.slice ao t.length t.length) (rfl) ?_
  refine nr ?_; intro U h; simp only [z0, z1] at h; subst h
  refine s_callx 13 rfl rfl _ 10 Try.call10 rfl rfl _ rfl [.slice ao t.length t.length] rfl (copy_ids _ ao t.length t (HT.gro GG) (by omega)) (by rintro _ _ ⟨_, _, he, _⟩; exact ⟨_, he⟩) ?_
  rintro v w3 ⟨ao1, cap1, he, G, HR1⟩
  cases he
  replace kg1 := G.has kg1
  replace GG := GG.trans G
  clear G
  refine nr ?_; intro U h; simp only [z0, z1] at h; subst h
  refine s_val 7 rfl rfl (.slice ao1 t.length cap1) (rfl) ?_
  refine nr ?_; intro U h; simp only [z0, z1] at h; subst h
  refine wpList_nil ?_
  refine then_n ?_
  refine wp_seq ?_
  refine wp_region_exA (A := ?Ax27) 6 [(0, 14), (1, 15), (2, 16), (3, 17), (4, 18), (5, 19)] [.val (.agg (idA s)), .val (.slice ao t.length t.length), .val (.int .i64 half), rowI (want s t half), .val (.agg (idA s)), .val (.slice ao t.length t.length)] follows (by kernel_rfl) rfl ?hAx27 (opsA_cons ?o0x27 (opsA_cons ?o1x27 (opsA_cons ?o2x27 (opsA_cons ?o3x27 (opsA_cons ?o4x27 (opsA_cons ?o5x27 opsA_nil)))))) ?restx27
  case hAx27 =>
    intro ptrs
    simp only [full, foldSlots, filledE, postE, List.foldl_cons, List.foldl_nil, List.getD_cons_zero, List.getD_cons_succ, fill_val, fill_rowI, List.set_cons_zero, List.set_cons_succ]
    exact rfl
  case o0x27 => exact fun _ _ hw _ => opE_value (v := .agg (idA s)) rfl (run_ldB _ rfl g1 _ rfl (hw.has kg1))
  case o1x27 => exact fun _ _ _ _ => opE_move (v := .slice ao t.length t.length) _ rfl rfl rfl
  case o2x27 => exact fun _ _ _ _ => opE_move (v := .int .i64 half) _ rfl rfl rfl
  case o3x27 =>
    intro ptrs w' hw hE
    exact opE_call (rowI (want s t half)) rfl _ 11 Try.call11 rfl rfl _ rfl [.agg (idA s), .slice ao t.length t.length, .int .i64 half] rfl ((want_any _ ao t.length t (HT.gro (GG.drew.trans hw)) (by omega) s hs half).mono fun e w' ⟨ao, cap, he, hg, hr⟩ => ⟨_, he, hg, ao, cap, rfl, hr⟩)
  case o4x27 => exact fun _ _ hw _ => opE_value (v := .agg (idA s)) rfl (run_ldB _ rfl g1 _ rfl (hw.has kg1))
  case o5x27 => exact fun _ _ _ _ => opE_move (v := .slice ao t.length t.length) _ rfl rfl rfl
  intro ptrs w4 GD hxE
  simp only [List.drop_succ_cons, List.drop_zero]
  replace kg1 := GD.has kg1
  replace HR1 := HR1.gro ((Gro.refl _).drew.trans GD)
  replace GG := GG.drew.trans GD
  obtain ⟨⟨ao2, cap2, hx2, HR2⟩, _⟩ := hxE
  simp only [hx2]
  clear hx2
  clear GD
  refine s_callx 20 rfl rfl _ 12 Try.call12 rfl rfl _ rfl [.agg (idA s), .slice ao t.length t.length] rfl (sorted_any _ ao t.length t (HT.gro GG) (by omega) s hs) (by rintro _ _ ⟨_, _, he, _⟩; exact ⟨_, he⟩) ?_
  rintro v w5 ⟨ao3, cap3, he, G, HR3⟩
  cases he
  replace kg1 := G.has kg1
  replace HR1 := HR1.gro G
  replace HR2 := HR2.gro G
  replace GG := GG.trans G
  clear G
  refine nr ?_; intro U h; simp only [z0, z1] at h; subst h
  refine s_val 8 rfl rfl (.slice ao2 ((want s t half).length) cap2) (rfl) ?_
  refine nr ?_; intro U h; simp only [z0, z1] at h; subst h
  refine s_val 9 rfl rfl (.slice ao3 ((lin (kc 0) s t).length) cap3) (rfl) ?_
  refine nr ?_; intro U h; simp only [z0, z1] at h; subst h
  refine wpList_nil ?_
  refine then_n ?_
  refine wp_seq ?_
  refine wp_region_opq ?_
  intro OPS hY
  have y1 := hY 1 22 rfl
  have y9 := hY 9 30 rfl
  have y16 := hY 16 37 rfl
  clear hY
  refine s_callv 21 rfl rfl _ 13 Try.call13 rfl rfl _ rfl [] rfl (fixed_any _) ?_
  intro w6 G
  replace kg1 := G.has kg1
  replace HR1 := HR1.gro G
  replace HR2 := HR2.gro G
  replace HR3 := HR3.gro G
  replace GG := GG.trans G
  clear G
  refine nr ?_; intro U h; simp only [z0, z1] at h; subst h
  refine s_val 22 rfl rfl (.bool true) (rfl) ?_
  refine nr ?_; intro U h; simp only [z0, z1] at h; subst h
  refine s_gvalY 23 rfl rfl y1 rfl (.slice ao2 ((want s t half).length) cap2) (rfl) ?_
  refine nr ?_; intro U h; simp only [z0, z1] at h; subst h
  refine s_gvalY 24 rfl rfl y1 rfl (.agg (idA s)) (run_ldB _ rfl g1 _ rfl (kg1)) ?_
  refine nr ?_; intro U h; simp only [z0, z1] at h; subst h
  refine s_gvalY 25 rfl rfl y1 rfl (.slice ao1 t.length cap1) (rfl) ?_
  refine nr ?_; intro U h; simp only [z0, z1] at h; subst h
  refine s_gvalY 26 rfl rfl y1 rfl (.int .i64 half) (rfl) ?_
  refine nr ?_; intro U h; simp only [z0, z1] at h; subst h
  refine s_gcallxY 27 rfl rfl y1 rfl _ 15 Try.call15 rfl rfl _ rfl [.agg (idA s), .slice ao1 t.length cap1, .int .i64 half] rfl (refwant_any _ ao1 cap1 t (HR1) (by omega) s hs half) (by rintro _ _ ⟨_, _, he, _⟩; exact ⟨_, he⟩) ?_
  rintro v w7 ⟨ao4, cap4, he, G, HR4⟩
  cases he
  replace kg1 := G.has kg1
  replace HR1 := HR1.gro G
  replace HR2 := HR2.gro G
  replace HR3 := HR3.gro G
  replace GG := GG.trans G
  clear G
  refine nr ?_; intro U h; simp only [z0, z1] at h; subst h
  refine s_gcallvY 28 rfl rfl y1 rfl _ 14 Try.call14 rfl rfl _ rfl [.slice ao2 ((want s t half).length) cap2, .slice ao4 ((want s t half).length) cap4] rfl (Calls.bool (same_ids _ ao2 cap2 (want s t half) (HR2) (by have := want_len s t half; omega) ao4 cap4 (want s t half) (HR4) (by have := want_len s t half; omega)) (decide_eq_true (rfl))) ?_
  intro w8 G
  replace kg1 := G.has kg1
  replace HR1 := HR1.gro G
  replace HR2 := HR2.gro G
  replace HR3 := HR3.gro G
  replace HR4 := HR4.gro G
  replace GG := GG.trans G
  clear G
  refine nr ?_; intro U h; simp only [z0, z1] at h; subst h
  refine s_val 29 rfl rfl (.bool true) (rfl) ?_
  refine nr ?_; intro U h; simp only [z0, z1] at h; subst h
  refine s_val 30 rfl rfl (.bool true) (rfl) ?_
  refine nr ?_; intro U h; simp only [z0, z1] at h; subst h
  refine s_gvalY 31 rfl rfl y9 rfl (.slice ao3 ((lin (kc 0) s t).length) cap3) (rfl) ?_
  refine nr ?_; intro U h; simp only [z0, z1] at h; subst h
  refine s_gvalY 32 rfl rfl y9 rfl (.agg (idA s)) (run_ldB _ rfl g1 _ rfl (kg1)) ?_
  refine nr ?_; intro U h; simp only [z0, z1] at h; subst h
  refine s_gvalY 33 rfl rfl y9 rfl (.slice ao1 t.length cap1) (rfl) ?_
  refine nr ?_; intro U h; simp only [z0, z1] at h; subst h
  refine s_gcallxY 34 rfl rfl y9 rfl _ 16 Try.call16 rfl rfl _ rfl [.agg (idA s), .slice ao1 t.length cap1] rfl (refsorted_any _ ao1 cap1 t (HR1) (by omega) s hs) (by rintro _ _ ⟨_, _, he, _⟩; exact ⟨_, he⟩) ?_
  rintro v w9 ⟨ao5, cap5, he, G, HR5⟩
  cases he
  replace kg1 := G.has kg1
  replace HR1 := HR1.gro G
  replace HR2 := HR2.gro G
  replace HR3 := HR3.gro G
  replace HR4 := HR4.gro G
  replace GG := GG.trans G
  clear G
  refine nr ?_; intro U h; simp only [z0, z1] at h; subst h
  refine s_gcallvY 35 rfl rfl y9 rfl _ 14 Try.call14 rfl rfl _ rfl [.slice ao3 ((lin (kc 0) s t).length) cap3, .slice ao5 ((lin (kc 0) s t).length) cap5] rfl (Calls.bool (same_ids _ ao3 cap3 (lin (kc 0) s t) (HR3) (by have := lin_len (kc 0) s t; omega) ao5 cap5 (lin (kc 0) s t) (HR5) (by have := lin_len (kc 0) s t; omega)) (decide_eq_true (rfl))) ?_
  intro w10 G
  replace kg1 := G.has kg1
  replace HR1 := HR1.gro G
  replace HR2 := HR2.gro G
  replace HR3 := HR3.gro G
  replace HR4 := HR4.gro G
  replace HR5 := HR5.gro G
  replace GG := GG.trans G
  clear G
  refine nr ?_; intro U h; simp only [z0, z1] at h; subst h
  refine s_val 36 rfl rfl (.bool true) (rfl) ?_
  refine nr ?_; intro U h; simp only [z0, z1] at h; subst h
  refine s_val 37 rfl rfl (.bool true) (rfl) ?_
  refine nr ?_; intro U h; simp only [z0, z1] at h; subst h
  refine s_gvalY 38 rfl rfl y16 rfl (.slice ao t.length t.length) (rfl) ?_
  refine nr ?_; intro U h; simp only [z0, z1] at h; subst h
  refine s_gvalY 39 rfl rfl y16 rfl (.slice ao1 t.length cap1) (rfl) ?_
  refine nr ?_; intro U h; simp only [z0, z1] at h; subst h
  refine s_gcallvY 40 rfl rfl y16 rfl _ 14 Try.call14 rfl rfl _ rfl [.slice ao t.length t.length, .slice ao1 t.length cap1] rfl (Calls.bool (same_ids _ ao t.length t (HT.gro GG) (by omega) ao1 cap1 t (HR1) (by omega)) (decide_eq_true (rfl))) ?_
  intro w11 G
  replace kg1 := G.has kg1
  replace HR1 := HR1.gro G
  replace HR2 := HR2.gro G
  replace HR3 := HR3.gro G
  replace HR4 := HR4.gro G
  replace HR5 := HR5.gro G
  replace GG := GG.trans G
  clear G
  refine nr ?_; intro U h; simp only [z0, z1] at h; subst h
  refine s_val 41 rfl rfl (.bool true) (rfl) ?_
  refine nr ?_; intro U h; simp only [z0, z1] at h; subst h
  refine s_val 6 rfl rfl (.bool true) (rfl) ?_
  refine nr ?_; intro U h; simp only [z0, z1] at h; subst h
  refine wpList_nil ?_
  refine then_n ?_
  refine wp_ret ?_
  refine bodyPost_ret (results_tmp Try.results3 _ _ _) rfl ?_
  exact ⟨rfl, GG⟩
set_option maxRecDepth 100000 in
set_option maxHeartbeats 4000000 in
theorem ringNexts_any (w : World) (ao : Option Addr) (cap : Nat) (l : List Nat) (H : RC w ao cap l) (s : Nat) (hs : s < top) : Calls Try.prog 4 #[.agg (idA s), .slice ao l.length cap] w (fun e w' => e = .returned (.bool true) ∧ Gro w w') := by
  refine s_enter Try.func4 rfl Try.ntmps4 [.agg (idA s), .slice ao l.length cap] [.agg (idA s), .slice ao l.length cap, undef, undef, undef, undef, undef, undef, undef, undef, undef, undef, undef, undef, undef, undef, undef, undef, undef, undef, undef, undef, undef, undef, undef, undef, undef, undef, undef, undef, undef, undef, undef, undef, undef, undef, undef, undef, undef, undef, undef, undef, undef] rfl ?_
  have GG := Gro.refl w
  obtain ⟨t, ht⟩ : ∃ t, l.take 60 = t := ⟨_, rfl⟩
  have HT : RC w ao t.length t := ht ▸ H.takeN 60
  have htl : t.length ≤ 60 := by rw [← ht, List.length_take]; omega
  refine wp_seq ?_
  refine wp_region_lit ?_
  refine s_box 2 rfl rfl 23 _ rfl _ rfl (idA s) rfl ?_
  intro w1 g1 G eg1 kg1
  have bg1 := size_base GG eg1
  replace GG := GG.trans G
  clear G
  clear eg1
  refine nr ?_; intro U h; simp only [z0, z1] at h; subst h
  refine s_val 4 rfl rfl (.bool false) (rfl) ?_
  refine nr ?_; intro U h; simp only [z0, z1] at h; subst h
  refine wpList_nil ?_
  refine then_n ?_
  refine wp_seq ?_
  refine wp_region_lit ?_
  refine s_val 9 rfl rfl (.slice ao l.length cap) (rfl) ?_
  refine nr ?_; intro U h; simp only [z0, z1] at h; subst h
  refine s_callv 10 rfl rfl _ 9 Try.call9 rfl rfl _ rfl [.slice ao l.length cap, .int .i64 60] rfl (Calls.valV (cut_any _ ao cap l (H.gro GG) 60) (by rw [ht])) ?_
  intro w2 G
  replace kg1 := G.has kg1
  replace GG := GG.trans G
  clear G
  refine nr ?_; intro U h; simp only [z0, z1] at h; subst h
  refine s_val 1 rfl rfl (.slice ao t.length t.length) (rfl) ?_
  refine nr ?_; intro U h; simp only [z0, z1] at h; subst h
  refine wpList_nil ?_
  refine then_n ?_
  refine wp_seq ?_
  refine wp_region_lit ?_
  refine s_val 12 rfl rfl (.agg (idA s)) (run_ldB _ rfl g1 _ rfl (kg1)) ?_
  refine nr ?_; intro U h; simp only [z0, z1] at h; subst h
  refine s_val 13 rfl rfl (.slice ao t.length t.length) (rfl) ?_
  refine nr ?_; intro U h; simp only [z0, z1] at h; subst h
  refine s_callv 14 rfl rfl _ 17 Try.call17 rfl rfl _ rfl [.agg (idA s), .slice ao t.length t.length] rfl (next_any _ ao t.length t (HT.gro GG) (by omega) s hs) ?_
  intro w3 G
  replace kg1 := G.has kg1
  replace GG := GG.trans G
  clear G
  refine nr ?_; intro U h; simp only [z0, z1] at h; subst h
  refine s_val 11 rfl rfl (.tuple #[.agg (idA ((nxt s t).getD 0)), .bool ((nxt s t).isSome)]) (rfl) ?_
  refine nr ?_; intro U h; simp only [z0, z1] at h; subst h
  refine s_val 15 rfl rfl (.agg (idA ((nxt s t).getD 0))) (rfl) ?_
  refine nr ?_; intro U h; simp only [z0, z1] at h; subst h
  refine s_val 16 rfl rfl (.bool ((nxt s t).isSome)) (rfl) ?_
  refine nr ?_; intro U h; simp only [z0, z1] at h; subst h
  refine s_alloc 5 rfl rfl 23 rfl _ zero23 (idA 0) rfl ?_
  intro w4 g2 G eg2 kg2
  have bg2 := size_base GG eg2
  have dg1g2 := lt_new kg1 eg2
  replace kg1 := G.has kg1
  replace GG := GG.trans G
  clear G
  clear eg2
  refine nr ?_; intro U h; simp only [z0, z1] at h; subst h
  refine s_store rfl rfl 23 _ _ rfl g2 0 rfl (.agg (idA ((nxt s t).getD 0))) rfl 23 _ kg2 (idA ((nxt s t).getD 0)) rfl (size23' _) (idA_fit _ _) (idA_one _) (idA ((nxt s t).getD 0)) (splice_whole _ _ (idA_sz _ _)) ?_
  intro w5 St
  replace kg1 := St.has (by omega) kg1
  replace GG := GG.store St bg2
  replace kg2 := St.new
  clear St
  refine s_val 6 rfl rfl (.bool ((nxt s t).isSome)) (rfl) ?_
  refine nr ?_; intro U h; simp only [z0, z1] at h; subst h
  refine wpList_nil ?_
  refine then_n ?_
  refine wp_seq ?_
  refine wp_region_lit ?_
  refine s_val 18 rfl rfl (.agg (idA s)) (run_ldB _ rfl g1 _ rfl (kg1)) ?_
  refine nr ?_; intro U h; simp only [z0, z1] at h; subst h
  refine s_val 19 rfl rfl (.slice ao t.length t.length) (rfl) ?_
  refine nr ?_; intro U h; simp only [z0, z1] at h; subst h
  refine s_callv 20 rfl rfl _ 18 Try.call18 rfl rfl _ rfl [.agg (idA s), .slice ao t.length t.length] rfl (refnext_any _ ao t.length t (HT.gro GG) (by omega) s hs) ?_
  intro w6 G
  replace kg1 := G.has kg1
  replace kg2 := G.has kg2
  replace GG := GG.trans G
  clear G
  refine nr ?_; intro U h; simp only [z0, z1] at h; subst h
  refine s_val 17 rfl rfl (.tuple #[.agg (idA ((nxt s t).getD 0)), .bool ((nxt s t).isSome)]) (rfl) ?_
  refine nr ?_; intro U h; simp only [z0, z1] at h; subst h
  refine s_val 21 rfl rfl (.agg (idA ((nxt s t).getD 0))) (rfl) ?_
  refine nr ?_; intro U h; simp only [z0, z1] at h; subst h
  refine s_val 22 rfl rfl (.bool ((nxt s t).isSome)) (rfl) ?_
  refine nr ?_; intro U h; simp only [z0, z1] at h; subst h
  refine s_alloc 7 rfl rfl 23 rfl _ zero23 (idA 0) rfl ?_
  intro w7 g3 G eg3 kg3
  have bg3 := size_base GG eg3
  have dg1g3 := lt_new kg1 eg3
  have dg2g3 := lt_new kg2 eg3
  replace kg1 := G.has kg1
  replace kg2 := G.has kg2
  replace GG := GG.trans G
  clear G
  clear eg3
  refine nr ?_; intro U h; simp only [z0, z1] at h; subst h
  refine s_store rfl rfl 23 _ _ rfl g3 0 rfl (.agg (idA ((nxt s t).getD 0))) rfl 23 _ kg3 (idA ((nxt s t).getD 0)) rfl (size23' _) (idA_fit _ _) (idA_one _) (idA ((nxt s t).getD 0)) (splice_whole _ _ (idA_sz _ _)) ?_
  intro w8 St
  replace kg1 := St.has (by omega) kg1
  replace kg2 := St.has (by omega) kg2
  replace GG := GG.store St bg3
  replace kg3 := St.new
  clear St
  refine s_val 8 rfl rfl (.bool ((nxt s t).isSome)) (rfl) ?_
  refine nr ?_; intro U h; simp only [z0, z1] at h; subst h
  refine wpList_nil ?_
  refine then_n ?_
  refine wp_seq ?_
  refine wp_region_exA (A := ?Ax28) 19 [(0, 23), (1, 24), (2, 25), (3, 26), (4, 27), (5, 28), (6, 29), (7, 30), (8, 31), (9, 32), (10, 33), (11, 34), (12, 35), (13, 36), (14, 37), (15, 38), (16, 39), (17, 40), (18, 41)] [.val (.bool true), .val (.bool true), .val (.agg (idA ((nxt s t).getD 0))), .val (.agg (idA ((nxt s t).getD 0))), .val (.bool true), .val (.bool true), .val (.bool true), .val (.bool ((nxt s t).isSome)), .val (.bool ((nxt s t).isSome)), .val (.bool true), .val (.bool true), .val (.bool true), .val (.slice ao t.length t.length), .val (.agg (idA s)), .val (.bool (decide (s ∈ t))), .val (.slice ao t.length t.length), .val (.agg (idA s)), .val (.bool (decide (s ∈ t))), .val (.bool true)] follows (by kernel_rfl) rfl ?hAx28 (opsA_cons ?o0x28 (opsA_cons ?o1x28 (opsA_cons ?o2x28 (opsA_cons ?o3x28 (opsA_cons ?o4x28 (opsA_cons ?o5x28 (opsA_cons ?o6x28 (opsA_cons ?o7x28 (opsA_cons ?o8x28 (opsA_cons ?o9x28 (opsA_cons ?o10x28 (opsA_cons ?o11x28 (opsA_cons ?o12x28 (opsA_cons ?o13x28 (opsA_cons ?o14x28 (opsA_cons ?o15x28 (opsA_cons ?o16x28 (opsA_cons ?o17x28 (opsA_cons ?o18x28 opsA_nil))))))))))))))))))) ?restx28
  case hAx28 =>
    intro ptrs
    simp only [full, foldSlots, filledE, postE, List.foldl_cons, List.foldl_nil, List.getD_cons_zero, List.getD_cons_succ, fill_val, List.set_cons_zero, List.set_cons_succ]
    exact rfl
  case o0x28 =>
    intro ptrs w' hw hE
    exact opE_call (.val (.bool true)) rfl _ 13 Try.call13 rfl rfl _ rfl [] rfl ((fixed_any _).mono fun e w' ⟨he, hg⟩ => ⟨_, he, hg, rfl⟩)
  case o1x28 => exact fun _ _ _ _ => opE_move (v := .bool true) _ rfl rfl rfl
  case o2x28 => exact fun _ _ hw _ => opE_value (v := .agg (idA ((nxt s t).getD 0))) rfl (run_ldB _ rfl g2 _ rfl (hw.has kg2))
  case o3x28 => exact fun _ _ hw _ => opE_value (v := .agg (idA ((nxt s t).getD 0))) rfl (run_ldB _ rfl g3 _ rfl (hw.has kg3))
  case o4x28 => exact fun _ _ _ _ => opE_value (v := .bool true) rfl (run_eqI _ _ _ rfl _ _ rfl rfl (nxt_lt hs HT.all) (nxt_lt hs HT.all) true (decide_eq_true rfl))
  case o5x28 => exact fun _ _ _ _ => opE_pick (v := .bool true) _ _ _ rfl rfl true rfl rfl
  case o6x28 => exact fun _ _ _ _ => opE_move (v := .bool true) _ rfl rfl rfl
  case o7x28 => exact fun _ _ _ _ => opE_move (v := .bool ((nxt s t).isSome)) _ rfl rfl rfl
  case o8x28 => exact fun _ _ _ _ => opE_move (v := .bool ((nxt s t).isSome)) _ rfl rfl rfl
  case o9x28 => exact fun _ _ _ _ => opE_value (v := .bool true) rfl (run_eqB 4 _ _ _ rfl _ _ rfl rfl Try.underlying4 true (decide_eq_true rfl) _)
  case o10x28 => exact fun _ _ _ _ => opE_pick (v := .bool true) _ _ _ rfl rfl true rfl rfl
  case o11x28 => exact fun _ _ _ _ => opE_move (v := .bool true) _ rfl rfl rfl
  case o12x28 => exact fun _ _ _ _ => opE_move (v := .slice ao t.length t.length) _ rfl rfl rfl
  case o13x28 => exact fun _ _ hw _ => opE_value (v := .agg (idA s)) rfl (run_ldB _ rfl g1 _ rfl (hw.has kg1))
  case o14x28 =>
    intro ptrs w' hw hE
    exact opE_call (.val (.bool (decide (s ∈ t)))) rfl _ 19 Try.call19 rfl rfl _ rfl [.slice ao t.length t.length, .agg (idA s)] rfl ((has_any _ ao t.length t (HT.gro (GG.drew.trans hw)) (by omega) s hs).mono fun e w' ⟨he, hg⟩ => ⟨_, he, hg, rfl⟩)
  case o15x28 => exact fun _ _ _ _ => opE_move (v := .slice ao t.length t.length) _ rfl rfl rfl
  case o16x28 => exact fun _ _ hw _ => opE_value (v := .agg (idA s)) rfl (run_ldB _ rfl g1 _ rfl (hw.has kg1))
  case o17x28 =>
    intro ptrs w' hw hE
    exact opE_call (.val (.bool (decide (s ∈ t)))) rfl _ 20 Try.call20 rfl rfl _ rfl [.slice ao t.length t.length, .agg (idA s)] rfl ((refhas_any _ ao t.length t (HT.gro (GG.drew.trans hw)) (by omega) s hs).mono fun e w' ⟨he, hg⟩ => ⟨_, he, hg, rfl⟩)
  case o18x28 => exact fun _ _ _ _ => opE_value (v := .bool true) rfl (run_eqB 4 _ _ _ rfl _ _ rfl rfl Try.underlying4 true (decide_eq_true rfl) _)
  intro ptrs w9 GD hxE
  simp only [List.drop_succ_cons, List.drop_zero]
  replace kg1 := GD.has kg1
  replace kg2 := GD.has kg2
  replace kg3 := GD.has kg3
  replace GG := GG.drew.trans GD
  clear GD
  refine s_val 42 rfl rfl (.bool true) (rfl) ?_
  refine nr ?_; intro U h; simp only [z0, z1] at h; subst h
  refine s_val 4 rfl rfl (.bool true) (rfl) ?_
  refine nr ?_; intro U h; simp only [z0, z1] at h; subst h
  refine wpList_nil ?_
  refine then_n ?_
  refine wp_ret ?_
  refine bodyPost_ret (results_tmp Try.results4 _ _ _) rfl ?_
  exact ⟨rfl, GG⟩
set_option maxRecDepth 100000 in
set_option maxHeartbeats 4000000 in
theorem ringMutual_any (w : World) (ao : Option Addr) (cap : Nat) (l : List Nat) (H : RC w ao cap l) (half : Int) : Calls Try.prog 5 #[.slice ao l.length cap, .int .i64 half] w (fun e w' => e = .returned (.bool true) ∧ Gro w w') := by
  refine s_enter Try.func5 rfl Try.ntmps5 [.slice ao l.length cap, .int .i64 half] [.slice ao l.length cap, .int .i64 half, undef, undef, undef, undef, undef, undef, undef, undef, undef, undef, undef, undef, undef, undef, undef, undef, undef, undef, undef, undef, undef, undef, undef, undef, undef, undef, undef, undef, undef, undef, undef, undef, undef, undef, undef, undef, undef, undef, undef, undef, undef, undef, undef, undef, undef, undef, undef] rfl ?_
  have GG := Gro.refl w
  obtain ⟨t, ht⟩ : ∃ t, l.take 24 = t := ⟨_, rfl⟩
  have HT : RC w ao t.length t := ht ▸ H.takeN 24
  have htl : t.length ≤ 24 := by rw [← ht, List.length_take]; omega
  refine wp_seq ?_
  refine wp_region_lit ?_
  refine s_val 4 rfl rfl (.bool false) (rfl) ?_
  refine nr ?_; intro U h; simp only [z0, z1] at h; subst h
  refine wpList_nil ?_
  refine then_n ?_
  refine wp_seq ?_
  refine wp_region_lit ?_
  refine s_val 9 rfl rfl (.slice ao l.length cap) (rfl) ?_
  refine nr ?_; intro U h; simp only [z0, z1] at h; subst h
  refine s_callv 10 rfl rfl _ 9 Try.call9 rfl rfl _ rfl [.slice ao l.length cap, .int .i64 24] rfl (Calls.valV (cut_any _ ao cap l (H.gro GG) 24) (by rw [ht])) ?_
  intro w1 G
  replace GG := GG.trans G
  clear G
  refine nr ?_; intro U h; simp only [z0, z1] at h; subst h
  refine s_val 0 rfl rfl (.slice ao t.length t.length) (rfl) ?_
  refine nr ?_; intro U h; simp only [z0] at h; subst h
  refine wpList_nil ?_
  refine then_n ?_
  refine wp_seq ?_
  refine wp_seq ?_
  refine wp_region_lit ?_
  refine s_val 11 rfl rfl (.slice ao t.length t.length) (rfl) ?_
  refine nr ?_; intro U h; simp only [z0, z1] at h; subst h
  refine s_val 12 rfl rfl (.int .i64 ((t.length : Nat) : Int)) (run_len Try.underlying24 _ rfl _ _ _ rfl _) ?_
  refine nr ?_; intro U h; simp only [z0, z1] at h; subst h
  refine s_val 13 rfl rfl (.int .i64 0) (rfl) ?_
  refine nr ?_; intro U h; simp only [z0, z1] at h; subst h
  refine wpList_nil ?_
  refine then_n ?_
  refine wp_block ?_
  refine wp_loopN (fun mz az wv => ∃ (i : Nat) (us1 : Nat → Value), mz = t.length - i ∧ az = ⟨[.slice ao t.length t.length, .int .i64 half, undef, undef, us1 0, undef, us1 1, undef, us1 2, .slice ao l.length cap, .slice ao t.length t.length, .slice ao t.length t.length, .int .i64 ((t.length : Nat) : Int), .int .i64 ((i : Nat) : Int), us1 3, us1 4, us1 5, us1 6, us1 7, us1 8, us1 9, us1 10, us1 11, us1 12, us1 13, us1 14, us1 15, us1 16, us1 17, us1 18, us1 19, us1 20, us1 21, us1 22, us1 23, us1 24, us1 25, us1 26, us1 27, us1 28, us1 29, us1 30, us1 31, undef, undef, undef, undef, undef, undef].toArray, []⟩ ∧ i ≤ t.length ∧ Gro w wv) ?_ _ ⟨0, (fun kz => ([.bool false, undef, undef, undef, undef, undef, undef, undef, undef, undef, undef, undef, undef, undef, undef, undef, undef, undef, undef, undef, undef, undef, undef, undef, undef, undef, undef, undef, undef, undef, undef, undef] : List Value).getD kz undef), rfl, rfl, Nat.zero_le _, GG⟩
  clear GG
  rintro mz az wv ⟨i, us1, rfl, rfl, hi, GG⟩
  refine wp_seq ?_
  refine wp_region_lit ?_
  cases hi1 : decide (((i : Nat) : Int) < ((t.length : Nat) : Int))
  · refine s_val 14 rfl rfl (.bool false) (run_lssT 3 _ _ _ rfl ((i : Nat) : Int) ((t.length : Nat) : Int) rfl rfl false hi1 _) ?_
    refine nr ?_; intro U h; simp only [z0, z1] at h; subst h
    refine wpList_nil ?_
    refine then_n ?_
    refine wp_seq ?_
    refine wp_cond_false rfl ?_
    refine wp_exit ?_
    refine then_x ?_
    refine then_x ?_
    refine blk_x ?_
    refine then_n ?_
    refine wp_seq ?_
    refine wp_region_opq ?_
    intro OPS hY
    have y1 := hY 1 44 rfl
    clear hY
    refine s_callv 43 rfl rfl _ 13 Try.call13 rfl rfl _ rfl [] rfl (fixed_any _) ?_
    intro w2 G
    replace GG := GG.trans G
    clear G
    refine nr ?_; intro U h; simp only [z0, z1] at h; subst h
    refine s_val 44 rfl rfl (.bool true) (rfl) ?_
    refine nr ?_; intro U h; simp only [z0, z1] at h; subst h
    refine s_gvalY 45 rfl rfl y1 rfl (.slice ao t.length t.length) (rfl) ?_
    refine nr ?_; intro U h; simp only [z0, z1] at h; subst h
    refine s_gvalY 46 rfl rfl y1 rfl (.int .i64 half) (rfl) ?_
    refine nr ?_; intro U h; simp only [z0, z1] at h; subst h
    refine s_gcallvY 47 rfl rfl y1 rfl _ 21 Try.call21 rfl rfl _ rfl [.slice ao t.length t.length, .int .i64 half] rfl (mutual_any _ ao t.length t (HT.gro GG) (by omega) half) ?_
    intro w3 G
    replace GG := GG.trans G
    clear G
    refine nr ?_; intro U h; simp only [z0, z1] at h; subst h
    refine s_val 48 rfl rfl (.bool true) (rfl) ?_
    refine nr ?_; intro U h; simp only [z0, z1] at h; subst h
    refine s_val 4 rfl rfl (.bool true) (rfl) ?_
    refine nr ?_; intro U h; simp only [z0, z1] at h; subst h
    refine wpList_nil ?_
    refine then_n ?_
    refine wp_ret ?_
    refine bodyPost_ret (results_tmp Try.results5 _ _ _) rfl ?_
    exact ⟨rfl, GG⟩
  · have hil : i < t.length := by have := of_decide_eq_true hi1; omega
    refine s_val 14 rfl rfl (.bool true) (run_lssT 3 _ _ _ rfl ((i : Nat) : Int) ((t.length : Nat) : Int) rfl rfl true hi1 _) ?_
    refine nr ?_; intro U h; simp only [z0, z1] at h; subst h
    refine wpList_nil ?_
    refine then_n ?_
    refine wp_seq ?_
    refine wp_cond_true rfl ?_
    refine wp_skip ?_
    refine then_n ?_
    refine wp_seq ?_
    refine wp_block ?_
    refine wp_seq ?_
    refine wp_region_lit ?_
    refine s_val 15 rfl rfl (.pointer (pA ao i)) (run_ixI (HT.gro GG) _ _ rfl rfl i rfl hil) ?_
    refine nr ?_; intro U h; simp only [z0, z1] at h; subst h
    refine s_val 16 rfl rfl (.agg (idA (t.getD i 0))) (run_ldI (HT.gro GG) _ rfl i rfl hil) ?_
    refine nr ?_; intro U h; simp only [z0, z1] at h; subst h
    refine s_alloc 6 rfl rfl 23 rfl _ zero23 (idA 0) rfl ?_
    intro w2 g1 G eg1 kg1
    have bg1 := size_base GG eg1
    replace GG := GG.trans G
    clear G
    clear eg1
    refine nr ?_; intro U h; simp only [z0, z1] at h; subst h
    refine s_store rfl rfl 23 _ _ rfl g1 0 rfl (.agg (idA (t.getD i 0))) rfl 23 _ kg1 (idA (t.getD i 0)) rfl (size23' _) (idA_fit _ _) (idA_one _) (idA (t.getD i 0)) (splice_whole _ _ (idA_sz _ _)) ?_
    intro w3 St
    replace GG := GG.store St bg1
    replace kg1 := St.new
    clear St
    refine wpList_nil ?_
    refine then_n ?_
    refine wp_seq ?_
    refine wp_region_lit ?_
    refine s_val 17 rfl rfl (.slice ao t.length t.length) (rfl) ?_
    refine nr ?_; intro U h; simp only [z0, z1] at h; subst h
    refine s_val 18 rfl rfl (.int .i64 ((t.length : Nat) : Int)) (run_len Try.underlying24 _ rfl _ _ _ rfl _) ?_
    refine nr ?_; intro U h; simp only [z0, z1] at h; subst h
    refine s_val 19 rfl rfl (.int .i64 0) (rfl) ?_
    refine nr ?_; intro U h; simp only [z0, z1] at h; subst h
    refine wpList_nil ?_
    refine then_n ?_
    refine wp_block ?_
    refine wp_loopN (fun mz az wv => ∃ (j : Nat) (us2 : Nat → Value), mz = t.length - j ∧ az = ⟨[.slice ao t.length t.length, .int .i64 half, undef, undef, us2 0, undef, .pointer (some ⟨g1, 0, none⟩), undef, us2 1, .slice ao l.length cap, .slice ao t.length t.length, .slice ao t.length t.length, .int .i64 ((t.length : Nat) : Int), .int .i64 ((i : Nat) : Int), .bool true, .pointer (pA ao i), .agg (idA (t.getD i 0)), .slice ao t.length t.length, .int .i64 ((t.length : Nat) : Int), .int .i64 ((j : Nat) : Int), us2 2, us2 3, us2 4, us2 5, us2 6, us2 7, us2 8, us2 9, us2 10, us2 11, us2 12, us2 13, us2 14, us2 15, us2 16, us2 17, us2 18, us2 19, us2 20, us2 21, us2 22, us2 23, us1 31, undef, undef, undef, undef, undef, undef].toArray, []⟩ ∧ j ≤ t.length ∧ Gro w wv ∧ wv.heap[g1]? = some (.cells (idA (t.getD i 0)) 23 (0, 0))) ?_ _ ⟨0, (fun kz => ([us1 0, us1 2, us1 9, us1 10, us1 11, us1 12, us1 13, us1 14, us1 15, us1 16, us1 17, us1 18, us1 19, us1 20, us1 21, us1 22, us1 23, us1 24, us1 25, us1 26, us1 27, us1 28, us1 29, us1 30] : List Value).getD kz undef), rfl, rfl, Nat.zero_le _, GG, kg1⟩
    clear GG kg1
    rintro mz az wv ⟨j, us2, rfl, rfl, hj, GG, kg1⟩
    refine wp_seq ?_
    refine wp_region_lit ?_
    cases hj1 : decide (((j : Nat) : Int) < ((t.length : Nat) : Int))
    · refine s_val 20 rfl rfl (.bool false) (run_lssT 3 _ _ _ rfl ((j : Nat) : Int) ((t.length : Nat) : Int) rfl rfl false hj1 _) ?_
      refine nr ?_; intro U h; simp only [z0, z1] at h; subst h
      refine wpList_nil ?_
      refine then_n ?_
      refine wp_seq ?_
      refine wp_cond_false rfl ?_
      refine wp_exit ?_
      refine then_x ?_
      refine then_x ?_
      refine blk_x ?_
      refine blk_n ?_
      refine then_n ?_
      refine wp_region_lit ?_
      refine s_val 42 rfl rfl (.int .i64 ((i + 1 : Nat) : Int)) (run_addI 3 _ _ _ rfl ((i : Nat) : Int) 1 ((i + 1 : Nat) : Int) rfl rfl (by omega) (by omega) (by omega) _) ?_
      refine nr ?_; intro U h; simp only [z0, z1] at h; subst h
      refine s_val 13 rfl rfl (.int .i64 ((i + 1 : Nat) : Int)) (rfl) ?_
      refine nr ?_; intro U h; simp only [z0, z1] at h; subst h
      refine wpList_nil ?_
      refine then_n ?_
      exact ⟨_, (by omega : t.length - (i + 1) < t.length - i), i + 1, (fun kz => ([us2 0, .pointer (some ⟨g1, 0, none⟩), us2 1, .bool true, .pointer (pA ao i), .agg (idA (t.getD i 0)), .slice ao t.length t.length, .int .i64 ((t.length : Nat) : Int), .int .i64 ((j : Nat) : Int), .bool false, us2 3, us2 4, us2 5, us2 6, us2 7, us2 8, us2 9, us2 10, us2 11, us2 12, us2 13, us2 14, us2 15, us2 16, us2 17, us2 18, us2 19, us2 20, us2 21, us2 22, us2 23, .int .i64 ((i + 1 : Nat) : Int)] : List Value).getD kz undef), rfl, rfl, hil, GG⟩
    · have hjl : j < t.length := by have := of_decide_eq_true hj1; omega
      refine s_val 20 rfl rfl (.bool true) (run_lssT 3 _ _ _ rfl ((j : Nat) : Int) ((t.length : Nat) : Int) rfl rfl true hj1 _) ?_
      refine nr ?_; intro U h; simp only [z0, z1] at h; subst h
      refine wpList_nil ?_
      refine then_n ?_
      refine wp_seq ?_
      refine wp_cond_true rfl ?_
      refine wp_skip ?_
      refine then_n ?_
      refine wp_seq ?_
      refine wp_block ?_
      refine wp_seq ?_
      refine wp_region_lit ?_
      refine s_val 21 rfl rfl (.pointer (pA ao j)) (run_ixI (HT.gro GG) _ _ rfl rfl j rfl hjl) ?_
      refine nr ?_; intro U h; simp only [z0, z1] at h; subst h
      refine s_val 22 rfl rfl (.agg (idA (t.getD j 0))) (run_ldI (HT.gro GG) _ rfl j rfl hjl) ?_
      refine nr ?_; intro U h; simp only [z0, z1] at h; subst h
      refine s_alloc 8 rfl rfl 23 rfl _ zero23 (idA 0) rfl ?_
      intro w4 g2 G eg2 kg2
      have bg2 := size_base GG eg2
      have dg1g2 := lt_new kg1 eg2
      replace kg1 := G.has kg1
      replace GG := GG.trans G
      clear G
      clear eg2
      refine nr ?_; intro U h; simp only [z0, z1] at h; subst h
      refine s_store rfl rfl 23 _ _ rfl g2 0 rfl (.agg (idA (t.getD j 0))) rfl 23 _ kg2 (idA (t.getD j 0)) rfl (size23' _) (idA_fit _ _) (idA_one _) (idA (t.getD j 0)) (splice_whole _ _ (idA_sz _ _)) ?_
      intro w5 St
      replace kg1 := St.has (by omega) kg1
      replace GG := GG.store St bg2
      replace kg2 := St.new
      clear St
      refine wpList_nil ?_
      refine then_n ?_
      refine wp_seq ?_
      cases hab : decide ((t.getD i 0) = (t.getD j 0))
      · cases hm : decide ((t.getD j 0) ∈ want (t.getD i 0) t half)
        · have hmm := mut_want HT.all (getD_mem hil) (getD_mem hjl) (of_decide_eq_false hab) half
          refine wp_region_exA (A := ?Ax29) 17 [(0, 23), (1, 24), (2, 25), (3, 26), (4, 27), (5, 28), (6, 29), (7, 30), (8, 31), (9, 32), (10, 33), (11, 34), (12, 35), (13, 36), (14, 37), (15, 38), (16, 39)] [.val (.agg (idA (t.getD i 0))), .val (.agg (idA (t.getD j 0))), .val (.bool true), .val (.bool true), .val (.agg (idA (t.getD i 0))), .val (.slice ao t.length t.length), .val (.int .i64 half), rowI (want (t.getD i 0) t half), .val (.agg (idA (t.getD j 0))), .val (.bool false), .val (.agg (idA (t.getD j 0))), .val (.slice ao t.length t.length), .val (.int .i64 half), rowI (want (t.getD j 0) t half), .val (.agg (idA (t.getD i 0))), .val (.bool false), .val (.bool false)] follows (by kernel_rfl) rfl ?hAx29 (opsA_cons ?o0x29 (opsA_cons ?o1x29 (opsA_cons ?o2x29 (opsA_cons ?o3x29 (opsA_cons ?o4x29 (opsA_cons ?o5x29 (opsA_cons ?o6x29 (opsA_cons ?o7x29 (opsA_cons ?o8x29 (opsA_cons ?o9x29 (opsA_cons ?o10x29 (opsA_cons ?o11x29 (opsA_cons ?o12x29 (opsA_cons ?o13x29 (opsA_cons ?o14x29 (opsA_cons ?o15x29 (opsA_cons ?o16x29 opsA_nil))))))))))))))))) ?restx29
          case hAx29 =>
            intro ptrs
            simp only [full, foldSlots, filledE, postE, List.foldl_cons, List.foldl_nil, List.getD_cons_zero, List.getD_cons_succ, fill_val, fill_rowI, List.set_cons_zero, List.set_cons_succ]
            exact rfl
          case o0x29 => exact fun _ _ hw _ => opE_value (v := .agg (idA (t.getD i 0))) rfl (run_ldB _ rfl g1 _ rfl (hw.has kg1))
          case o1x29 => exact fun _ _ hw _ => opE_value (v := .agg (idA (t.getD j 0))) rfl (run_ldB _ rfl g2 _ rfl (hw.has kg2))
          case o2x29 => exact fun _ _ _ _ => opE_value (v := .bool true) rfl (run_neI _ _ _ rfl _ _ rfl rfl (HT.at hil) (HT.at hjl) true hab)
          case o3x29 => exact fun _ _ _ _ => opE_move (v := .bool true) _ rfl rfl rfl
          case o4x29 => exact fun _ _ hw _ => opE_value (v := .agg (idA (t.getD i 0))) rfl (run_ldB _ rfl g1 _ rfl (hw.has kg1))
          case o5x29 => exact fun _ _ _ _ => opE_move (v := .slice ao t.length t.length) _ rfl rfl rfl
          case o6x29 => exact fun _ _ _ _ => opE_move (v := .int .i64 half) _ rfl rfl rfl
          case o7x29 =>
            intro ptrs w' hw hE
            exact opE_call (rowI (want (t.getD i 0) t half)) rfl _ 11 Try.call11 rfl rfl _ rfl [.agg (idA (t.getD i 0)), .slice ao t.length t.length, .int .i64 half] rfl ((want_any _ ao t.length t (HT.gro (GG.drew.trans hw)) (by omega) (t.getD i 0) (HT.at hil) half).mono fun e w' ⟨ao, cap, he, hg, hr⟩ => ⟨_, he, hg, ao, cap, rfl, hr⟩)
          case o8x29 => exact fun _ _ hw _ => opE_value (v := .agg (idA (t.getD j 0))) rfl (run_ldB _ rfl g2 _ rfl (hw.has kg2))
          case o9x29 =>
            intro ptrs w' hw hE
            obtain ⟨⟨ao7, cap7, h7, o7⟩, _, _⟩ := hE
            exact opE_call (.val (.bool false)) rfl _ 19 Try.call19 rfl rfl _ rfl [.slice ao7 (want (t.getD i 0) t half).length cap7, .agg (idA (t.getD j 0))] (by show [ptrs 7, .agg (idA (t.getD j 0))] = _; rw [h7]) ((Calls.bool (has_any _ ao7 cap7 (want (t.getD i 0) t half) (o7) (by have := want_len (t.getD i 0) t half; omega) (t.getD j 0) (HT.at hjl)) hm).mono fun e w' ⟨he, hg⟩ => ⟨_, he, hg, rfl⟩)
          case o10x29 => exact fun _ _ hw _ => opE_value (v := .agg (idA (t.getD j 0))) rfl (run_ldB _ rfl g2 _ rfl (hw.has kg2))
          case o11x29 => exact fun _ _ _ _ => opE_move (v := .slice ao t.length t.length) _ rfl rfl rfl
          case o12x29 => exact fun _ _ _ _ => opE_move (v := .int .i64 half) _ rfl rfl rfl
          case o13x29 =>
            intro ptrs w' hw hE
            exact opE_call (rowI (want (t.getD j 0) t half)) rfl _ 11 Try.call11 rfl rfl _ rfl [.agg (idA (t.getD j 0)), .slice ao t.length t.length, .int .i64 half] rfl ((want_any _ ao t.length t (HT.gro (GG.drew.trans hw)) (by omega) (t.getD j 0) (HT.at hjl) half).mono fun e w' ⟨ao, cap, he, hg, hr⟩ => ⟨_, he, hg, ao, cap, rfl, hr⟩)
          case o14x29 => exact fun _ _ hw _ => opE_value (v := .agg (idA (t.getD i 0))) rfl (run_ldB _ rfl g1 _ rfl (hw.has kg1))
          case o15x29 =>
            intro ptrs w' hw hE
            obtain ⟨⟨ao13, cap13, h13, o13⟩, _, _⟩ := hE
            exact opE_call (.val (.bool false)) rfl _ 19 Try.call19 rfl rfl _ rfl [.slice ao13 (want (t.getD j 0) t half).length cap13, .agg (idA (t.getD i 0))] (by show [ptrs 13, .agg (idA (t.getD i 0))] = _; rw [h13]) ((Calls.bool (has_any _ ao13 cap13 (want (t.getD j 0) t half) (o13) (by have := want_len (t.getD j 0) t half; omega) (t.getD i 0) (HT.at hil)) ((decide_eq_decide.2 hmm).symm.trans hm)).mono fun e w' ⟨he, hg⟩ => ⟨_, he, hg, rfl⟩)
          case o16x29 => exact fun _ _ _ _ => opE_value (v := .bool false) rfl (run_neB 4 _ _ _ rfl false false rfl rfl Try.underlying4 false rfl _)
          intro ptrs w6 GD hxE
          simp only [List.drop_succ_cons, List.drop_zero]
          replace kg1 := GD.has kg1
          replace kg2 := GD.has kg2
          replace GG := GG.drew.trans GD
          obtain ⟨_, _, _⟩ := hxE
          clear GD
          refine s_val 40 rfl rfl (.bool false) (rfl) ?_
          refine nr ?_; intro U h; simp only [z0, z1] at h; subst h
          refine wpList_nil ?_
          refine then_n ?_
          refine wp_cond_false rfl ?_
          refine wp_skip ?_
          refine blk_n ?_
          refine then_n ?_
          refine wp_region_lit ?_
          refine s_val 41 rfl rfl (.int .i64 ((j + 1 : Nat) : Int)) (run_addI 3 _ _ _ rfl ((j : Nat) : Int) 1 ((j + 1 : Nat) : Int) rfl rfl (by omega) (by omega) (by omega) _) ?_
          refine nr ?_; intro U h; simp only [z0, z1] at h; subst h
          refine s_val 19 rfl rfl (.int .i64 ((j + 1 : Nat) : Int)) (rfl) ?_
          refine nr ?_; intro U h; simp only [z0, z1] at h; subst h
          refine wpList_nil ?_
          refine then_n ?_
          exact ⟨_, (by omega : t.length - (j + 1) < t.length - j), j + 1, (fun kz => ([us2 0, .pointer (some ⟨g2, 0, none⟩), .bool true, .pointer (pA ao j), .agg (idA (t.getD j 0)), .agg (idA (t.getD i 0)), .agg (idA (t.getD j 0)), .bool true, .bool true, .agg (idA (t.getD i 0)), .slice ao t.length t.length, .int .i64 half, ptrs 7, .agg (idA (t.getD j 0)), .bool false, .agg (idA (t.getD j 0)), .slice ao t.length t.length, .int .i64 half, ptrs 13, .agg (idA (t.getD i 0)), .bool false, .bool false, .bool false, .int .i64 ((j + 1 : Nat) : Int)] : List Value).getD kz undef), rfl, rfl, hjl, GG, kg1⟩
        · have hmm := mut_want HT.all (getD_mem hil) (getD_mem hjl) (of_decide_eq_false hab) half
          refine wp_region_exA (A := ?Ax30) 17 [(0, 23), (1, 24), (2, 25), (3, 26), (4, 27), (5, 28), (6, 29), (7, 30), (8, 31), (9, 32), (10, 33), (11, 34), (12, 35), (13, 36), (14, 37), (15, 38), (16, 39)] [.val (.agg (idA (t.getD i 0))), .val (.agg (idA (t.getD j 0))), .val (.bool true), .val (.bool true), .val (.agg (idA (t.getD i 0))), .val (.slice ao t.length t.length), .val (.int .i64 half), rowI (want (t.getD i 0) t half), .val (.agg (idA (t.getD j 0))), .val (.bool true), .val (.agg (idA (t.getD j 0))), .val (.slice ao t.length t.length), .val (.int .i64 half), rowI (want (t.getD j 0) t half), .val (.agg (idA (t.getD i 0))), .val (.bool true), .val (.bool false)] follows (by kernel_rfl) rfl ?hAx30 (opsA_cons ?o0x30 (opsA_cons ?o1x30 (opsA_cons ?o2x30 (opsA_cons ?o3x30 (opsA_cons ?o4x30 (opsA_cons ?o5x30 (opsA_cons ?o6x30 (opsA_cons ?o7x30 (opsA_cons ?o8x30 (opsA_cons ?o9x30 (opsA_cons ?o10x30 (opsA_cons ?o11x30 (opsA_cons ?o12x30 (opsA_cons ?o13x30 (opsA_cons ?o14x30 (opsA_cons ?o15x30 (opsA_cons ?o16x30 opsA_nil))))))))))))))))) ?restx30
          case hAx30 =>
            intro ptrs
            simp only [full, foldSlots, filledE, postE, List.foldl_cons, List.foldl_nil, List.getD_cons_zero, List.getD_cons_succ, fill_val, fill_rowI, List.set_cons_zero, List.set_cons_succ]
            exact rfl
          case o0x30 => exact fun _ _ hw _ => opE_value (v := .agg (idA (t.getD i 0))) rfl (run_ldB _ rfl g1 _ rfl (hw.has kg1))
          case o1x30 => exact fun _ _ hw _ => opE_value (v := .agg (idA (t.getD j 0))) rfl (run_ldB _ rfl g2 _ rfl (hw.has kg2))
          case o2x30 => exact fun _ _ _ _ => opE_value (v := .bool true) rfl (run_neI _ _ _ rfl _ _ rfl rfl (HT.at hil) (HT.at hjl) true hab)
          case o3x30 => exact fun _ _ _ _ => opE_move (v := .bool true) _ rfl rfl rfl
          case o4x30 => exact fun _ _ hw _ => opE_value (v := .agg (idA (t.getD i 0))) rfl (run_ldB _ rfl g1 _ rfl (hw.has kg1))
          case o5x30 => exact fun _ _ _ _ => opE_move (v := .slice ao t.length t.length) _ rfl rfl rfl
          case o6x30 => exact fun _ _ _ _ => opE_move (v := .int .i64 half) _ rfl rfl rfl
          case o7x30 =>
            intro ptrs w' hw hE
            exact opE_call (rowI (want (t.getD i 0) t half)) rfl _ 11 Try.call11 rfl rfl _ rfl [.agg (idA (t.getD i 0)), .slice ao t.length t.length, .int .i64 half] rfl ((want_any _ ao t.length t (HT.gro (GG.drew.trans hw)) (by omega) (t.getD i 0) (HT.at hil) half).mono fun e w' ⟨ao, cap, he, hg, hr⟩ => ⟨_, he, hg, ao, cap, rfl, hr⟩)
          case o8x30 => exact fun _ _ hw _ => opE_value (v := .agg (idA (t.getD j 0))) rfl (run_ldB _ rfl g2 _ rfl (hw.has kg2))
          case o9x30 =>
            intro ptrs w' hw hE
            obtain ⟨⟨ao7, cap7, h7, o7⟩, _, _⟩ := hE
            exact opE_call (.val (.bool true)) rfl _ 19 Try.call19 rfl rfl _ rfl [.slice ao7 (want (t.getD i 0) t half).length cap7, .agg (idA (t.getD j 0))] (by show [ptrs 7, .agg (idA (t.getD j 0))] = _; rw [h7]) ((Calls.bool (has_any _ ao7 cap7 (want (t.getD i 0) t half) (o7) (by have := want_len (t.getD i 0) t half; omega) (t.getD j 0) (HT.at hjl)) hm).mono fun e w' ⟨he, hg⟩ => ⟨_, he, hg, rfl⟩)
          case o10x30 => exact fun _ _ hw _ => opE_value (v := .agg (idA (t.getD j 0))) rfl (run_ldB _ rfl g2 _ rfl (hw.has kg2))
          case o11x30 => exact fun _ _ _ _ => opE_move (v := .slice ao t.length t.length) _ rfl rfl rfl
          case o12x30 => exact fun _ _ _ _ => opE_move (v := .int .i64 half) _ rfl rfl rfl
          case o13x30 =>
            intro ptrs w' hw hE
            exact opE_call (rowI (want (t.getD j 0) t half)) rfl _ 11 Try.call11 rfl rfl _ rfl [.agg (idA (t.getD j 0)), .slice ao t.length t.length, .int .i64 half] rfl ((want_any _ ao t.length t (HT.gro (GG.drew.trans hw)) (by omega) (t.getD j 0) (HT.at hjl) half).mono fun e w' ⟨ao, cap, he, hg, hr⟩ => ⟨_, he, hg, ao, cap, rfl, hr⟩)
          case o14x30 => exact fun _ _ hw _ => opE_value (v := .agg (idA (t.getD i 0))) rfl (run_ldB _ rfl g1 _ rfl (hw.has kg1))
          case o15x30 =>
            intro ptrs w' hw hE
            obtain ⟨⟨ao13, cap13, h13, o13⟩, _, _⟩ := hE
            exact opE_call (.val (.bool true)) rfl _ 19 Try.call19 rfl rfl _ rfl [.slice ao13 (want (t.getD j 0) t half).length cap13, .agg (idA (t.getD i 0))] (by show [ptrs 13, .agg (idA (t.getD i 0))] = _; rw [h13]) ((Calls.bool (has_any _ ao13 cap13 (want (t.getD j 0) t half) (o13) (by have := want_len (t.getD j 0) t half; omega) (t.getD i 0) (HT.at hil)) ((decide_eq_decide.2 hmm).symm.trans hm)).mono fun e w' ⟨he, hg⟩ => ⟨_, he, hg, rfl⟩)
          case o16x30 => exact fun _ _ _ _ => opE_value (v := .bool false) rfl (run_neB 4 _ _ _ rfl true true rfl rfl Try.underlying4 false rfl _)
          intro ptrs w6 GD hxE
          simp only [List.drop_succ_cons, List.drop_zero]
          replace kg1 := GD.has kg1
          replace kg2 := GD.has kg2
          replace GG := GG.drew.trans GD
          obtain ⟨_, _, _⟩ := hxE
          clear GD
          refine s_val 40 rfl rfl (.bool false) (rfl) ?_
          refine nr ?_; intro U h; simp only [z0, z1] at h; subst h
          refine wpList_nil ?_
          refine then_n ?_
          refine wp_cond_false rfl ?_
          refine wp_skip ?_
          refine blk_n ?_
          refine then_n ?_
          refine wp_region_lit ?_
          refine s_val 41 rfl rfl (.int .i64 ((j + 1 : Nat) : Int)) (run_addI 3 _ _ _ rfl ((j : Nat) : Int) 1 ((j + 1 : Nat) : Int) rfl rfl (by omega) (by omega) (by omega) _) ?_
          refine nr ?_; intro U h; simp only [z0, z1] at h; subst h
          refine s_val 19 rfl rfl (.int .i64 ((j + 1 : Nat) : Int)) (rfl) ?_
          refine nr ?_; intro U h; simp only [z0, z1] at h; subst h
          refine wpList_nil ?_
          refine then_n ?_
          exact ⟨_, (by omega : t.length - (j + 1) < t.length - j), j + 1, (fun kz => ([us2 0, .pointer (some ⟨g2, 0, none⟩), .bool true, .pointer (pA ao j), .agg (idA (t.getD j 0)), .agg (idA (t.getD i 0)), .agg (idA (t.getD j 0)), .bool true, .bool true, .agg (idA (t.getD i 0)), .slice ao t.length t.length, .int .i64 half, ptrs 7, .agg (idA (t.getD j 0)), .bool true, .agg (idA (t.getD j 0)), .slice ao t.length t.length, .int .i64 half, ptrs 13, .agg (idA (t.getD i 0)), .bool true, .bool false, .bool false, .int .i64 ((j + 1 : Nat) : Int)] : List Value).getD kz undef), rfl, rfl, hjl, GG, kg1⟩
      · refine wp_region_exA (A := ?Ax31) 17 [(0, 23), (1, 24), (2, 25), (3, 26), (4, 27), (5, 28), (6, 29), (7, 30), (8, 31), (9, 32), (10, 33), (11, 34), (12, 35), (13, 36), (14, 37), (15, 38), (16, 39)] [.val (.agg (idA (t.getD i 0))), .val (.agg (idA (t.getD j 0))), .val (.bool false), .val (.bool false), .val undef, .val undef, .val undef, .val undef, .val undef, .val undef, .val undef, .val undef, .val undef, .val undef, .val undef, .val undef, .val undef] follows (by kernel_rfl) rfl ?hAx31 (opsA_cons ?o0x31 (opsA_cons ?o1x31 (opsA_cons ?o2x31 (opsA_cons ?o3x31 (opsA_cons ?o4x31 (opsA_cons ?o5x31 (opsA_cons ?o6x31 (opsA_cons ?o7x31 (opsA_cons ?o8x31 (opsA_cons ?o9x31 (opsA_cons ?o10x31 (opsA_cons ?o11x31 (opsA_cons ?o12x31 (opsA_cons ?o13x31 (opsA_cons ?o14x31 (opsA_cons ?o15x31 (opsA_cons ?o16x31 opsA_nil))))))))))))))))) ?restx31
        case hAx31 =>
          intro ptrs
          simp only [full, foldSlots, filledE, postE, List.foldl_cons, List.foldl_nil, List.getD_cons_zero, List.getD_cons_succ, fill_val, List.set_cons_zero, List.set_cons_succ]
          exact rfl
        case o0x31 => exact fun _ _ hw _ => opE_value (v := .agg (idA (t.getD i 0))) rfl (run_ldB _ rfl g1 _ rfl (hw.has kg1))
        case o1x31 => exact fun _ _ hw _ => opE_value (v := .agg (idA (t.getD j 0))) rfl (run_ldB _ rfl g2 _ rfl (hw.has kg2))
        case o2x31 => exact fun _ _ _ _ => opE_value (v := .bool false) rfl (run_neI _ _ _ rfl _ _ rfl rfl (HT.at hil) (HT.at hjl) false hab)
        case o3x31 => exact fun _ _ _ _ => opE_move (v := .bool false) _ rfl rfl rfl
        case o4x31 => exact fun _ _ _ _ => opE_skip rfl
        case o5x31 => exact fun _ _ _ _ => opE_skip rfl
        case o6x31 => exact fun _ _ _ _ => opE_skip rfl
        case o7x31 => exact fun _ _ _ _ => opE_skip rfl
        case o8x31 => exact fun _ _ _ _ => opE_skip rfl
        case o9x31 => exact fun _ _ _ _ => opE_skip rfl
        case o10x31 => exact fun _ _ _ _ => opE_skip rfl
        case o11x31 => exact fun _ _ _ _ => opE_skip rfl
        case o12x31 => exact fun _ _ _ _ => opE_skip rfl
        case o13x31 => exact fun _ _ _ _ => opE_skip rfl
        case o14x31 => exact fun _ _ _ _ => opE_skip rfl
        case o15x31 => exact fun _ _ _ _ => opE_skip rfl
        case o16x31 => exact fun _ _ _ _ => opE_skip rfl
        intro ptrs w6 GD hxE
        simp only [List.drop_succ_cons, List.drop_zero]
        replace kg1 := GD.has kg1
        replace kg2 := GD.has kg2
        replace GG := GG.drew.trans GD
        clear GD
        refine s_val 40 rfl rfl (.bool false) (rfl) ?_
        refine nr ?_; intro U h; simp only [z0, z1] at h; subst h
        refine wpList_nil ?_
        refine then_n ?_
        refine wp_cond_false rfl ?_
        refine wp_skip ?_
        refine blk_n ?_
        refine then_n ?_
        refine wp_region_lit ?_
        refine s_val 41 rfl rfl (.int .i64 ((j + 1 : Nat) : Int)) (run_addI 3 _ _ _ rfl ((j : Nat) : Int) 1 ((j + 1 : Nat) : Int) rfl rfl (by omega) (by omega) (by omega) _) ?_
        refine nr ?_; intro U h; simp only [z0, z1] at h; subst h
        refine s_val 19 rfl rfl (.int .i64 ((j + 1 : Nat) : Int)) (rfl) ?_
        refine nr ?_; intro U h; simp only [z0, z1] at h; subst h
        refine wpList_nil ?_
        refine then_n ?_
        exact ⟨_, (by omega : t.length - (j + 1) < t.length - j), j + 1, (fun kz => ([us2 0, .pointer (some ⟨g2, 0, none⟩), .bool true, .pointer (pA ao j), .agg (idA (t.getD j 0)), .agg (idA (t.getD i 0)), .agg (idA (t.getD j 0)), .bool false, .bool false, undef, undef, undef, undef, undef, undef, undef, undef, undef, undef, undef, undef, undef, .bool false, .int .i64 ((j + 1 : Nat) : Int)] : List Value).getD kz undef), rfl, rfl, hjl, GG, kg1⟩
end Go.Proofs.Ytkckjkimjeakcaa
