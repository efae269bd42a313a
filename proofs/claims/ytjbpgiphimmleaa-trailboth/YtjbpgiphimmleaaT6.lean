/- The examples, and the laws on rounds taken out, what is asked, what is simple and what stays. -/
import Derived.Test.YtjbpgiphimmleaaT5
namespace Go.Proofs.Ytjbpgiphimmleaa
open Go.RowKit Go.Maps
set_option maxRecDepth 100000 in
set_option maxHeartbeats 4000000 in
theorem fixed_any (w : World) : Calls Try.prog 12 #[] w (fun e w' => e = .returned (.bool true) ∧ Gro w w') := by
  refine s_enter Try.func12 rfl Try.ntmps12 [] [undef, undef, undef, undef, undef, undef, undef, undef, undef, undef, undef, undef, undef, undef, undef, undef, undef, undef, undef, undef, undef, undef, undef, undef, undef, undef, undef, undef, undef, undef, undef] rfl ?_
  have GG := Gro.refl w
  refine wp_seq ?_
  refine wp_region_lit ?_
  refine s_val 0 rfl rfl (.bool false) (rfl) ?_
  refine nr ?_; intro U h; simp only [z0] at h; subst h
  refine wpList_nil ?_
  refine then_n ?_
  refine wp_seq ?_
  refine wp_region_opq ?_
  intro OPS hY
  have y4 := hY 4 5 rfl
  have y10 := hY 10 11 rfl
  have y15 := hY 15 16 rfl
  have y21 := hY 21 22 rfl
  have y26 := hY 26 27 rfl
  clear hY
  refine s_bsl 1 rfl rfl 22 5 _ rfl [(0, .int .i64 1), (1, .int .i64 2), (2, .int .i64 3), (3, .int .i64 2), (4, .int .i64 4)] rfl (ci ([1, 2, 3, 2, 4] : List Int)).toArray 3 (bs5 1 2 3 2 4 _) ?_
  intro w1 q1 G eq1 kq1
  have bq1 := size_base GG eq1
  replace GG := GG.trans G
  clear G
  have HR1 : RC _ (some ⟨q1, 0, none⟩) ([1, 2, 3, 2, 4] : List Int).length ([1, 2, 3, 2, 4] : List Int) := RC.blk kq1 (allZ [1, 2, 3, 2, 4] ⟨(by unfold I64; omega), (by unfold I64; omega), (by unfold I64; omega), (by unfold I64; omega), (by unfold I64; omega), trivial⟩) (Nat.le_refl _)
  clear eq1
  refine nr ?_; intro U h; simp only [z0, z1] at h; subst h
  refine s_callx 2 rfl rfl _ 10 Try.call10 rfl rfl _ rfl [.slice (some ⟨q1, 0, none⟩) (([1, 2, 3, 2, 4] : List Int).length) (([1, 2, 3, 2, 4] : List Int).length)] rfl (erase_any _ (some ⟨q1, 0, none⟩) (([1, 2, 3, 2, 4] : List Int).length) ([1, 2, 3, 2, 4] : List Int) (HR1) (by decide)) (by rintro _ _ ⟨_, _, he, _⟩; exact ⟨_, he⟩) ?_
  rintro v w2 ⟨ao2, cap2, he, G, HO2⟩
  cases he
  replace HO2 := HO2.mono GG.size
  replace HR1 := HR1.gro G
  replace GG := GG.trans G
  clear G
  have HR2 := HO2.rc
  refine nr ?_; intro U h; simp only [z0, z1] at h; subst h
  refine s_bsl 3 rfl rfl 22 3 _ rfl [(0, .int .i64 1), (1, .int .i64 2), (2, .int .i64 4)] rfl (ci ([1, 2, 4] : List Int)).toArray 3 (bs3 1 2 4 _) ?_
  intro w3 q3 G eq3 kq3
  have bq3 := size_base GG eq3
  replace HR1 := HR1.gro G
  replace HR2 := HR2.gro G
  replace HO2 := HO2.gro G
  replace GG := GG.trans G
  clear G
  have HR3 : RC _ (some ⟨q3, 0, none⟩) ([1, 2, 4] : List Int).length ([1, 2, 4] : List Int) := RC.blk kq3 (allZ [1, 2, 4] ⟨(by unfold I64; omega), (by unfold I64; omega), (by unfold I64; omega), trivial⟩) (Nat.le_refl _)
  clear eq3
  refine nr ?_; intro U h; simp only [z0, z1] at h; subst h
  refine s_callv 4 rfl rfl _ 13 Try.call13 rfl rfl _ rfl [.slice ao2 ((erz ([1, 2, 3, 2, 4] : List Int)).length) cap2, .slice (some ⟨q3, 0, none⟩) (([1, 2, 4] : List Int).length) (([1, 2, 4] : List Int).length)] rfl (Calls.bool (same_any _ ao2 cap2 (erz ([1, 2, 3, 2, 4] : List Int)) (HR2) (by decide) (some ⟨q3, 0, none⟩) (([1, 2, 4] : List Int).length) ([1, 2, 4] : List Int) (HR3) (by decide)) (decide_eq_true (by decide))) ?_
  intro w4 G
  replace HR1 := HR1.gro G
  replace HR2 := HR2.gro G
  replace HO2 := HO2.gro G
  replace HR3 := HR3.gro G
  replace GG := GG.trans G
  clear G
  refine nr ?_; intro U h; simp only [z0, z1] at h; subst h
  refine s_val 5 rfl rfl (.bool true) (rfl) ?_
  refine nr ?_; intro U h; simp only [z0, z1] at h; subst h
  refine s_gbslY 6 rfl rfl y4 rfl 22 3 _ rfl [(0, .int .i64 1), (1, .int .i64 2), (2, .int .i64 1)] rfl (ci ([1, 2, 1] : List Int)).toArray 3 (bs3 1 2 1 _) ?_
  intro w5 q4 G eq4 kq4
  have bq4 := size_base GG eq4
  replace HR1 := HR1.gro G
  replace HR2 := HR2.gro G
  replace HO2 := HO2.gro G
  replace HR3 := HR3.gro G
  replace GG := GG.trans G
  clear G
  have HR4 : RC _ (some ⟨q4, 0, none⟩) ([1, 2, 1] : List Int).length ([1, 2, 1] : List Int) := RC.blk kq4 (allZ [1, 2, 1] ⟨(by unfold I64; omega), (by unfold I64; omega), (by unfold I64; omega), trivial⟩) (Nat.le_refl _)
  clear eq4
  refine nr ?_; intro U h; simp only [z0, z1] at h; subst h
  refine s_gcallxY 7 rfl rfl y4 rfl _ 10 Try.call10 rfl rfl _ rfl [.slice (some ⟨q4, 0, none⟩) (([1, 2, 1] : List Int).length) (([1, 2, 1] : List Int).length)] rfl (erase_any _ (some ⟨q4, 0, none⟩) (([1, 2, 1] : List Int).length) ([1, 2, 1] : List Int) (HR4) (by decide)) (by rintro _ _ ⟨_, _, he, _⟩; exact ⟨_, he⟩) ?_
  rintro v w6 ⟨ao5, cap5, he, G, HO5⟩
  cases he
  replace HO5 := HO5.mono GG.size
  replace HR1 := HR1.gro G
  replace HR2 := HR2.gro G
  replace HO2 := HO2.gro G
  replace HR3 := HR3.gro G
  replace HR4 := HR4.gro G
  replace GG := GG.trans G
  clear G
  have HR5 := HO5.rc
  refine nr ?_; intro U h; simp only [z0, z1] at h; subst h
  refine s_gbslY 8 rfl rfl y4 rfl 22 1 _ rfl [(0, .int .i64 1)] rfl (ci ([1] : List Int)).toArray 3 (bs1 1 _) ?_
  intro w7 q6 G eq6 kq6
  have bq6 := size_base GG eq6
  replace HR1 := HR1.gro G
  replace HR2 := HR2.gro G
  replace HO2 := HO2.gro G
  replace HR3 := HR3.gro G
  replace HR4 := HR4.gro G
  replace HR5 := HR5.gro G
  replace HO5 := HO5.gro G
  replace GG := GG.trans G
  clear G
  have HR6 : RC _ (some ⟨q6, 0, none⟩) ([1] : List Int).length ([1] : List Int) := RC.blk kq6 (allZ [1] ⟨(by unfold I64; omega), trivial⟩) (Nat.le_refl _)
  clear eq6
  refine nr ?_; intro U h; simp only [z0, z1] at h; subst h
  refine s_gcallvY 9 rfl rfl y4 rfl _ 13 Try.call13 rfl rfl _ rfl [.slice ao5 ((erz ([1, 2, 1] : List Int)).length) cap5, .slice (some ⟨q6, 0, none⟩) (([1] : List Int).length) (([1] : List Int).length)] rfl (Calls.bool (same_any _ ao5 cap5 (erz ([1, 2, 1] : List Int)) (HR5) (by decide) (some ⟨q6, 0, none⟩) (([1] : List Int).length) ([1] : List Int) (HR6) (by decide)) (decide_eq_true (by decide))) ?_
  intro w8 G
  replace HR1 := HR1.gro G
  replace HR2 := HR2.gro G
  replace HO2 := HO2.gro G
  replace HR3 := HR3.gro G
  replace HR4 := HR4.gro G
  replace HR5 := HR5.gro G
  replace HO5 := HO5.gro G
  replace HR6 := HR6.gro G
  replace GG := GG.trans G
  clear G
  refine nr ?_; intro U h; simp only [z0, z1] at h; subst h
  refine s_val 10 rfl rfl (.bool true) (rfl) ?_
  refine nr ?_; intro U h; simp only [z0, z1] at h; subst h
  refine s_val 11 rfl rfl (.bool true) (rfl) ?_
  refine nr ?_; intro U h; simp only [z0, z1] at h; subst h
  refine s_gbslY 12 rfl rfl y10 rfl 22 2 _ rfl [(0, .int .i64 1), (1, .int .i64 2)] rfl (ci ([1, 2] : List Int)).toArray 3 (bs2 1 2 _) ?_
  intro w9 q7 G eq7 kq7
  have bq7 := size_base GG eq7
  replace HR1 := HR1.gro G
  replace HR2 := HR2.gro G
  replace HO2 := HO2.gro G
  replace HR3 := HR3.gro G
  replace HR4 := HR4.gro G
  replace HR5 := HR5.gro G
  replace HO5 := HO5.gro G
  replace HR6 := HR6.gro G
  replace GG := GG.trans G
  clear G
  have HR7 : RC _ (some ⟨q7, 0, none⟩) ([1, 2] : List Int).length ([1, 2] : List Int) := RC.blk kq7 (allZ [1, 2] ⟨(by unfold I64; omega), (by unfold I64; omega), trivial⟩) (Nat.le_refl _)
  clear eq7
  refine nr ?_; intro U h; simp only [z0, z1] at h; subst h
  refine s_gbslY 13 rfl rfl y10 rfl 22 3 _ rfl [(0, .int .i64 3), (1, .int .i64 1), (2, .int .i64 2)] rfl (ci ([3, 1, 2] : List Int)).toArray 3 (bs3 3 1 2 _) ?_
  intro w10 q8 G eq8 kq8
  have bq8 := size_base GG eq8
  replace HR1 := HR1.gro G
  replace HR2 := HR2.gro G
  replace HO2 := HO2.gro G
  replace HR3 := HR3.gro G
  replace HR4 := HR4.gro G
  replace HR5 := HR5.gro G
  replace HO5 := HO5.gro G
  replace HR6 := HR6.gro G
  replace HR7 := HR7.gro G
  replace GG := GG.trans G
  clear G
  have HR8 : RC _ (some ⟨q8, 0, none⟩) ([3, 1, 2] : List Int).length ([3, 1, 2] : List Int) := RC.blk kq8 (allZ [3, 1, 2] ⟨(by unfold I64; omega), (by unfold I64; omega), (by unfold I64; omega), trivial⟩) (Nat.le_refl _)
  clear eq8
  refine nr ?_; intro U h; simp only [z0, z1] at h; subst h
  refine s_gcallvY 14 rfl rfl y10 rfl _ 20 Try.call20 rfl rfl _ rfl [.slice (some ⟨q7, 0, none⟩) (([1, 2] : List Int).length) (([1, 2] : List Int).length), .slice (some ⟨q8, 0, none⟩) (([3, 1, 2] : List Int).length) (([3, 1, 2] : List Int).length)] rfl (Calls.bool (q := true) (joins_any _ (some ⟨q7, 0, none⟩) (([1, 2] : List Int).length) ([1, 2] : List Int) (HR7) (by decide) (some ⟨q8, 0, none⟩) (([3, 1, 2] : List Int).length) ([3, 1, 2] : List Int) (HR8) (by decide)) (by decide)) ?_
  intro w11 G
  replace HR1 := HR1.gro G
  replace HR2 := HR2.gro G
  replace HO2 := HO2.gro G
  replace HR3 := HR3.gro G
  replace HR4 := HR4.gro G
  replace HR5 := HR5.gro G
  replace HO5 := HO5.gro G
  replace HR6 := HR6.gro G
  replace HR7 := HR7.gro G
  replace HR8 := HR8.gro G
  replace GG := GG.trans G
  clear G
  refine nr ?_; intro U h; simp only [z0, z1] at h; subst h
  refine s_val 15 rfl rfl (.bool true) (rfl) ?_
  refine nr ?_; intro U h; simp only [z0, z1] at h; subst h
  refine s_val 16 rfl rfl (.bool true) (rfl) ?_
  refine nr ?_; intro U h; simp only [z0, z1] at h; subst h
  refine s_gbslY 17 rfl rfl y15 rfl 22 2 _ rfl [(0, .int .i64 2), (1, .int .i64 1)] rfl (ci ([2, 1] : List Int)).toArray 3 (bs2 2 1 _) ?_
  intro w12 q9 G eq9 kq9
  have bq9 := size_base GG eq9
  replace HR1 := HR1.gro G
  replace HR2 := HR2.gro G
  replace HO2 := HO2.gro G
  replace HR3 := HR3.gro G
  replace HR4 := HR4.gro G
  replace HR5 := HR5.gro G
  replace HO5 := HO5.gro G
  replace HR6 := HR6.gro G
  replace HR7 := HR7.gro G
  replace HR8 := HR8.gro G
  replace GG := GG.trans G
  clear G
  have HR9 : RC _ (some ⟨q9, 0, none⟩) ([2, 1] : List Int).length ([2, 1] : List Int) := RC.blk kq9 (allZ [2, 1] ⟨(by unfold I64; omega), (by unfold I64; omega), trivial⟩) (Nat.le_refl _)
  clear eq9
  refine nr ?_; intro U h; simp only [z0, z1] at h; subst h
  refine s_gbslY 18 rfl rfl y15 rfl 22 3 _ rfl [(0, .int .i64 3), (1, .int .i64 1), (2, .int .i64 2)] rfl (ci ([3, 1, 2] : List Int)).toArray 3 (bs3 3 1 2 _) ?_
  intro w13 q10 G eq10 kq10
  have bq10 := size_base GG eq10
  replace HR1 := HR1.gro G
  replace HR2 := HR2.gro G
  replace HO2 := HO2.gro G
  replace HR3 := HR3.gro G
  replace HR4 := HR4.gro G
  replace HR5 := HR5.gro G
  replace HO5 := HO5.gro G
  replace HR6 := HR6.gro G
  replace HR7 := HR7.gro G
  replace HR8 := HR8.gro G
  replace HR9 := HR9.gro G
  replace GG := GG.trans G
  clear G
  have HR10 : RC _ (some ⟨q10, 0, none⟩) ([3, 1, 2] : List Int).length ([3, 1, 2] : List Int) := RC.blk kq10 (allZ [3, 1, 2] ⟨(by unfold I64; omega), (by unfold I64; omega), (by unfold I64; omega), trivial⟩) (Nat.le_refl _)
  clear eq10
  refine nr ?_; intro U h; simp only [z0, z1] at h; subst h
  refine s_gcallvY 19 rfl rfl y15 rfl _ 20 Try.call20 rfl rfl _ rfl [.slice (some ⟨q9, 0, none⟩) (([2, 1] : List Int).length) (([2, 1] : List Int).length), .slice (some ⟨q10, 0, none⟩) (([3, 1, 2] : List Int).length) (([3, 1, 2] : List Int).length)] rfl (Calls.bool (q := false) (joins_any _ (some ⟨q9, 0, none⟩) (([2, 1] : List Int).length) ([2, 1] : List Int) (HR9) (by decide) (some ⟨q10, 0, none⟩) (([3, 1, 2] : List Int).length) ([3, 1, 2] : List Int) (HR10) (by decide)) (by decide)) ?_
  intro w14 G
  replace HR1 := HR1.gro G
  replace HR2 := HR2.gro G
  replace HO2 := HO2.gro G
  replace HR3 := HR3.gro G
  replace HR4 := HR4.gro G
  replace HR5 := HR5.gro G
  replace HO5 := HO5.gro G
  replace HR6 := HR6.gro G
  replace HR7 := HR7.gro G
  replace HR8 := HR8.gro G
  replace HR9 := HR9.gro G
  replace HR10 := HR10.gro G
  replace GG := GG.trans G
  clear G
  refine nr ?_; intro U h; simp only [z0, z1] at h; subst h
  refine s_gvalY 20 rfl rfl y15 rfl (.bool true) (run_nt _ _ rfl false rfl) ?_
  refine nr ?_; intro U h; simp only [z0, z1] at h; subst h
  refine s_val 21 rfl rfl (.bool true) (rfl) ?_
  refine nr ?_; intro U h; simp only [z0, z1] at h; subst h
  refine s_val 22 rfl rfl (.bool true) (rfl) ?_
  refine nr ?_; intro U h; simp only [z0, z1] at h; subst h
  refine s_gbslY 23 rfl rfl y21 rfl 22 2 _ rfl [(0, .int .i64 5), (1, .int .i64 6)] rfl (ci ([5, 6] : List Int)).toArray 3 (bs2 5 6 _) ?_
  intro w15 q11 G eq11 kq11
  have bq11 := size_base GG eq11
  replace HR1 := HR1.gro G
  replace HR2 := HR2.gro G
  replace HO2 := HO2.gro G
  replace HR3 := HR3.gro G
  replace HR4 := HR4.gro G
  replace HR5 := HR5.gro G
  replace HO5 := HO5.gro G
  replace HR6 := HR6.gro G
  replace HR7 := HR7.gro G
  replace HR8 := HR8.gro G
  replace HR9 := HR9.gro G
  replace HR10 := HR10.gro G
  replace GG := GG.trans G
  clear G
  have HR11 : RC _ (some ⟨q11, 0, none⟩) ([5, 6] : List Int).length ([5, 6] : List Int) := RC.blk kq11 (allZ [5, 6] ⟨(by unfold I64; omega), (by unfold I64; omega), trivial⟩) (Nat.le_refl _)
  clear eq11
  refine nr ?_; intro U h; simp only [z0, z1] at h; subst h
  refine s_gcallvY 24 rfl rfl y21 rfl _ 18 Try.call18 rfl rfl _ rfl [.slice (some ⟨q11, 0, none⟩) (([5, 6] : List Int).length) (([5, 6] : List Int).length), .int .i64 6] rfl (Calls.valV (v := .int .i64 (1)) (place_any _ (some ⟨q11, 0, none⟩) (([5, 6] : List Int).length) ([5, 6] : List Int) (HR11) (by decide) 6) (by rfl)) ?_
  intro w16 G
  replace HR1 := HR1.gro G
  replace HR2 := HR2.gro G
  replace HO2 := HO2.gro G
  replace HR3 := HR3.gro G
  replace HR4 := HR4.gro G
  replace HR5 := HR5.gro G
  replace HO5 := HO5.gro G
  replace HR6 := HR6.gro G
  replace HR7 := HR7.gro G
  replace HR8 := HR8.gro G
  replace HR9 := HR9.gro G
  replace HR10 := HR10.gro G
  replace HR11 := HR11.gro G
  replace GG := GG.trans G
  clear G
  refine nr ?_; intro U h; simp only [z0, z1] at h; subst h
  refine s_gvalY 25 rfl rfl y21 rfl (.bool true) (run_eq_k 3 .i64 _ _ _ rfl Try.underlying3 _ _ rfl rfl true (decide_eq_true (rfl)) _) ?_
  refine nr ?_; intro U h; simp only [z0, z1] at h; subst h
  refine s_val 26 rfl rfl (.bool true) (rfl) ?_
  refine nr ?_; intro U h; simp only [z0, z1] at h; subst h
  refine s_val 27 rfl rfl (.bool true) (rfl) ?_
  refine nr ?_; intro U h; simp only [z0, z1] at h; subst h
  refine s_gcallvY 28 rfl rfl y26 rfl _ 18 Try.call18 rfl rfl _ rfl [.slice none 0 0, .int .i64 6] rfl (Calls.valV (v := .int .i64 (-1)) (place_any _ none 0 ([] : List Int) ((RC.nil _)) (by decide) 6) (by rfl)) ?_
  intro w17 G
  replace HR1 := HR1.gro G
  replace HR2 := HR2.gro G
  replace HO2 := HO2.gro G
  replace HR3 := HR3.gro G
  replace HR4 := HR4.gro G
  replace HR5 := HR5.gro G
  replace HO5 := HO5.gro G
  replace HR6 := HR6.gro G
  replace HR7 := HR7.gro G
  replace HR8 := HR8.gro G
  replace HR9 := HR9.gro G
  replace HR10 := HR10.gro G
  replace HR11 := HR11.gro G
  replace GG := GG.trans G
  clear G
  refine nr ?_; intro U h; simp only [z0, z1] at h; subst h
  refine s_gvalY 29 rfl rfl y26 rfl (.bool true) (run_eq_k 3 .i64 _ _ _ rfl Try.underlying3 _ _ rfl rfl true (decide_eq_true (rfl)) _) ?_
  refine nr ?_; intro U h; simp only [z0, z1] at h; subst h
  refine s_val 30 rfl rfl (.bool true) (rfl) ?_
  refine nr ?_; intro U h; simp only [z0, z1] at h; subst h
  refine s_val 0 rfl rfl (.bool true) (rfl) ?_
  refine nr ?_; intro U h; simp only [z0] at h; subst h
  refine wpList_nil ?_
  refine then_n ?_
  refine wp_ret ?_
  refine bodyPost_ret (results_tmp Try.results12 _ _ _) rfl ?_
  exact ⟨rfl, GG⟩
set_option maxRecDepth 100000 in
set_option maxHeartbeats 4000000 in
theorem trailErases_any (w : World) (ao : Option Addr) (cap : Nat) (l : List Int) (H : RC w ao cap l) : Calls Try.prog 3 #[.slice ao l.length cap] w (fun e w' => e = .returned (.bool true) ∧ Gro w w') := by
  refine s_enter Try.func3 rfl Try.ntmps3 [.slice ao l.length cap] [.slice ao l.length cap, undef, undef, undef, undef, undef, undef, undef, undef, undef, undef, undef, undef, undef, undef, undef, undef, undef, undef, undef, undef, undef, undef, undef, undef, undef, undef, undef, undef, undef, undef, undef, undef] rfl ?_
  have GG := Gro.refl w
  obtain ⟨t, ht⟩ : ∃ t, l.take 100 = t := ⟨_, rfl⟩
  have HT : RC w ao t.length t := ht ▸ H.takeN 100
  have htl : t.length ≤ 100 := by rw [← ht, List.length_take]; omega
  refine wp_seq ?_
  refine wp_region_lit ?_
  refine s_val 2 rfl rfl (.bool false) (rfl) ?_
  refine nr ?_; intro U h; simp only [z0, z1] at h; subst h
  refine wpList_nil ?_
  refine then_n ?_
  refine wp_seq ?_
  refine wp_region_lit ?_
  refine s_val 6 rfl rfl (.slice ao l.length cap) (rfl) ?_
  refine nr ?_; intro U h; simp only [z0, z1] at h; subst h
  refine s_callv 7 rfl rfl _ 9 Try.call9 rfl rfl _ rfl [.slice ao l.length cap, .int .i64 100] rfl (Calls.valV (cut_any _ ao cap l (H.gro GG) 100) (by rw [ht])) ?_
  intro w1 G
  replace GG := GG.trans G
  clear G
  refine nr ?_; intro U h; simp only [z0, z1] at h; subst h
  refine s_val 0 rfl rfl (.slice ao t.length t.length) (rfl) ?_
  refine nr ?_; intro U h; simp only [z0] at h; subst h
  refine wpList_nil ?_
  refine then_n ?_
  refine wp_seq ?_
  refine wp_region_lit ?_
  refine s_bsl 8 rfl rfl 22 0 _ rfl [] rfl (ci []).toArray 3 (bs0 _) ?_
  intro w2 qc Gqc eqc kqc
  refine nr ?_; intro U h; simp only [z0, z1] at h; subst h
  refine s_val 9 rfl rfl (.slice ao t.length t.length) (rfl) ?_
  refine nr ?_; intro U h; simp only [z0, z1] at h; subst h
  have HOc : OI _ qc (some ⟨qc, 0, none⟩) 0 [] := ⟨OX.made kqc (Nat.le_refl _) (Nat.le_refl _) (by decide) rfl rfl rfl (fun _ h => by cases h), fun _ h => by cases h⟩
  refine s_appI 10 rfl rfl _ _ rfl (l := []) rfl HOc rfl ((HT.gro GG).gro Gqc) (by have h0 : ([] : List Int).length = 0 := rfl; have h1 : t.length ≤ 1000000 := (by omega); omega) (Nat.le_of_lt (lt_of_heap kqc)) ?_
  intro aoc capc w3 HOc2 HBc
  have Gc := below_gro Gqc HBc (Nat.le_of_eq eqc)
  rw [List.nil_append] at HOc2
  simp only [List.nil_append]
  replace GG := GG.trans Gc
  have HRc := HOc2.rc
  refine nr ?_; intro U h; simp only [z0, z1] at h; subst h
  refine s_val 3 rfl rfl (.slice aoc t.length capc) (rfl) ?_
  refine nr ?_; intro U h; simp only [z0, z1] at h; subst h
  refine wpList_nil ?_
  refine then_n ?_
  refine wp_seq ?_
  refine wp_region_lit ?_
  refine s_val 11 rfl rfl (.slice ao t.length t.length) (rfl) ?_
  refine nr ?_; intro U h; simp only [z0, z1] at h; subst h
  refine s_callx 12 rfl rfl _ 10 Try.call10 rfl rfl _ rfl [.slice ao t.length t.length] rfl (erase_any _ ao t.length t (HT.gro GG) (by omega)) (by rintro _ _ ⟨_, _, he, _⟩; exact ⟨_, he⟩) ?_
  rintro v w4 ⟨ao1, cap1, he, G, HO1⟩
  cases he
  replace HO1 := HO1.mono GG.size
  replace HRc := HRc.gro G
  replace HOc2 := HOc2.gro G
  replace GG := GG.trans G
  clear G
  have HR1 := HO1.rc
  refine nr ?_; intro U h; simp only [z0, z1] at h; subst h
  refine s_val 13 rfl rfl (.slice ao t.length t.length) (rfl) ?_
  refine nr ?_; intro U h; simp only [z0, z1] at h; subst h
  refine s_callx 14 rfl rfl _ 11 Try.call11 rfl rfl _ rfl [.slice ao t.length t.length] rfl (back_any _ ao t.length t (HT.gro GG) (by omega)) (by rintro _ _ ⟨_, _, he, _⟩; exact ⟨_, he⟩) ?_
  rintro v w5 ⟨ao2, cap2, he, G, HO2⟩
  cases he
  replace HO2 := HO2.mono GG.size
  replace HRc := HRc.gro G
  replace HOc2 := HOc2.gro G
  replace HR1 := HR1.gro G
  replace HO1 := HO1.gro G
  replace GG := GG.trans G
  clear G
  have HR2 := HO2.rc
  refine nr ?_; intro U h; simp only [z0, z1] at h; subst h
  refine s_val 4 rfl rfl (.slice ao1 ((erz t).length) cap1) (rfl) ?_
  refine nr ?_; intro U h; simp only [z0, z1] at h; subst h
  refine s_val 5 rfl rfl (.slice ao2 ((t.reverse).length) cap2) (rfl) ?_
  refine nr ?_; intro U h; simp only [z0, z1] at h; subst h
  refine wpList_nil ?_
  refine then_n ?_
  refine wp_seq ?_
  refine wp_region_opq ?_
  intro OPS hY
  have y1 := hY 1 16 rfl
  have y7 := hY 7 22 rfl
  have y13 := hY 13 28 rfl
  clear hY
  refine s_callv 15 rfl rfl _ 12 Try.call12 rfl rfl _ rfl [] rfl (fixed_any _) ?_
  intro w6 G
  replace HRc := HRc.gro G
  replace HOc2 := HOc2.gro G
  replace HR1 := HR1.gro G
  replace HO1 := HO1.gro G
  replace HR2 := HR2.gro G
  replace HO2 := HO2.gro G
  replace GG := GG.trans G
  clear G
  refine nr ?_; intro U h; simp only [z0, z1] at h; subst h
  refine s_val 16 rfl rfl (.bool true) (rfl) ?_
  refine nr ?_; intro U h; simp only [z0, z1] at h; subst h
  refine s_gvalY 17 rfl rfl y1 rfl (.slice ao1 ((erz t).length) cap1) (rfl) ?_
  refine nr ?_; intro U h; simp only [z0, z1] at h; subst h
  refine s_gvalY 18 rfl rfl y1 rfl (.slice aoc t.length capc) (rfl) ?_
  refine nr ?_; intro U h; simp only [z0, z1] at h; subst h
  refine s_gcallxY 19 rfl rfl y1 rfl _ 14 Try.call14 rfl rfl _ rfl [.slice aoc t.length capc] rfl (referase_any _ aoc capc t (HRc) (by omega)) (by rintro _ _ ⟨_, _, he, _⟩; exact ⟨_, he⟩) ?_
  rintro v w7 ⟨ao3, cap3, he, G, HO3⟩
  cases he
  replace HO3 := HO3.mono GG.size
  replace HRc := HRc.gro G
  replace HOc2 := HOc2.gro G
  replace HR1 := HR1.gro G
  replace HO1 := HO1.gro G
  replace HR2 := HR2.gro G
  replace HO2 := HO2.gro G
  replace GG := GG.trans G
  clear G
  have HR3 := HO3.rc
  refine nr ?_; intro U h; simp only [z0, z1] at h; subst h
  refine s_gcallvY 20 rfl rfl y1 rfl _ 13 Try.call13 rfl rfl _ rfl [.slice ao1 ((erz t).length) cap1, .slice ao3 ((erz t).length) cap3] rfl (Calls.bool (same_any _ ao1 cap1 (erz t) (HR1) (by have := erz_len t; omega) ao3 cap3 (erz t) (HR3) (by have := erz_len t; omega)) (decide_eq_true (rfl))) ?_
  intro w8 G
  replace HRc := HRc.gro G
  replace HOc2 := HOc2.gro G
  replace HR1 := HR1.gro G
  replace HO1 := HO1.gro G
  replace HR2 := HR2.gro G
  replace HO2 := HO2.gro G
  replace HR3 := HR3.gro G
  replace HO3 := HO3.gro G
  replace GG := GG.trans G
  clear G
  refine nr ?_; intro U h; simp only [z0, z1] at h; subst h
  refine s_val 21 rfl rfl (.bool true) (rfl) ?_
  refine nr ?_; intro U h; simp only [z0, z1] at h; subst h
  refine s_val 22 rfl rfl (.bool true) (rfl) ?_
  refine nr ?_; intro U h; simp only [z0, z1] at h; subst h
  refine s_gvalY 23 rfl rfl y7 rfl (.slice ao2 ((t.reverse).length) cap2) (rfl) ?_
  refine nr ?_; intro U h; simp only [z0, z1] at h; subst h
  refine s_gvalY 24 rfl rfl y7 rfl (.slice aoc t.length capc) (rfl) ?_
  refine nr ?_; intro U h; simp only [z0, z1] at h; subst h
  refine s_gcallxY 25 rfl rfl y7 rfl _ 15 Try.call15 rfl rfl _ rfl [.slice aoc t.length capc] rfl (refback_any _ aoc capc t (HRc) (by omega)) (by rintro _ _ ⟨_, _, he, _⟩; exact ⟨_, he⟩) ?_
  rintro v w9 ⟨ao4, cap4, he, G, HO4⟩
  cases he
  replace HO4 := HO4.mono GG.size
  replace HRc := HRc.gro G
  replace HOc2 := HOc2.gro G
  replace HR1 := HR1.gro G
  replace HO1 := HO1.gro G
  replace HR2 := HR2.gro G
  replace HO2 := HO2.gro G
  replace HR3 := HR3.gro G
  replace HO3 := HO3.gro G
  replace GG := GG.trans G
  clear G
  have HR4 := HO4.rc
  refine nr ?_; intro U h; simp only [z0, z1] at h; subst h
  refine s_gcallvY 26 rfl rfl y7 rfl _ 13 Try.call13 rfl rfl _ rfl [.slice ao2 ((t.reverse).length) cap2, .slice ao4 ((t.reverse).length) cap4] rfl (Calls.bool (same_any _ ao2 cap2 (t.reverse) (HR2) (by simp only [List.length_reverse]; omega) ao4 cap4 (t.reverse) (HR4) (by simp only [List.length_reverse]; omega)) (decide_eq_true (rfl))) ?_
  intro w10 G
  replace HRc := HRc.gro G
  replace HOc2 := HOc2.gro G
  replace HR1 := HR1.gro G
  replace HO1 := HO1.gro G
  replace HR2 := HR2.gro G
  replace HO2 := HO2.gro G
  replace HR3 := HR3.gro G
  replace HO3 := HO3.gro G
  replace HR4 := HR4.gro G
  replace HO4 := HO4.gro G
  replace GG := GG.trans G
  clear G
  refine nr ?_; intro U h; simp only [z0, z1] at h; subst h
  refine s_val 27 rfl rfl (.bool true) (rfl) ?_
  refine nr ?_; intro U h; simp only [z0, z1] at h; subst h
  refine s_val 28 rfl rfl (.bool true) (rfl) ?_
  refine nr ?_; intro U h; simp only [z0, z1] at h; subst h
  refine s_gvalY 29 rfl rfl y13 rfl (.slice ao t.length t.length) (rfl) ?_
  refine nr ?_; intro U h; simp only [z0, z1] at h; subst h
  refine s_gvalY 30 rfl rfl y13 rfl (.slice aoc t.length capc) (rfl) ?_
  refine nr ?_; intro U h; simp only [z0, z1] at h; subst h
  refine s_gcallvY 31 rfl rfl y13 rfl _ 13 Try.call13 rfl rfl _ rfl [.slice ao t.length t.length, .slice aoc t.length capc] rfl (Calls.bool (same_any _ ao t.length t (HT.gro GG) (by omega) aoc capc t (HRc) (by omega)) (decide_eq_true (rfl))) ?_
  intro w11 G
  replace HRc := HRc.gro G
  replace HOc2 := HOc2.gro G
  replace HR1 := HR1.gro G
  replace HO1 := HO1.gro G
  replace HR2 := HR2.gro G
  replace HO2 := HO2.gro G
  replace HR3 := HR3.gro G
  replace HO3 := HO3.gro G
  replace HR4 := HR4.gro G
  replace HO4 := HO4.gro G
  replace GG := GG.trans G
  clear G
  refine nr ?_; intro U h; simp only [z0, z1] at h; subst h
  refine s_val 32 rfl rfl (.bool true) (rfl) ?_
  refine nr ?_; intro U h; simp only [z0, z1] at h; subst h
  refine s_val 2 rfl rfl (.bool true) (rfl) ?_
  refine nr ?_; intro U h; simp only [z0, z1] at h; subst h
  refine wpList_nil ?_
  refine then_n ?_
  refine wp_ret ?_
  refine bodyPost_ret (results_tmp Try.results3 _ _ _) rfl ?_
  exact ⟨rfl, GG⟩
set_option maxRecDepth 100000 in
set_option maxHeartbeats 4000000 in
theorem trailAsks_any (w : World) (ao : Option Addr) (cap : Nat) (l : List Int) (H : RC w ao cap l) (bo : Option Addr) (bap : Nat) (m : List Int) (HM : RC w bo bap m) (n : Int) : Calls Try.prog 4 #[.slice ao l.length cap, .slice bo m.length bap, .int .i64 n] w (fun e w' => e = .returned (.bool true) ∧ Gro w w') := by
  refine s_enter Try.func4 rfl Try.ntmps4 [.slice ao l.length cap, .slice bo m.length bap, .int .i64 n] [.slice ao l.length cap, .slice bo m.length bap, .int .i64 n, undef, undef, undef, undef, undef, undef, undef, undef, undef, undef, undef, undef, undef, undef, undef, undef, undef, undef, undef, undef, undef, undef, undef, undef, undef, undef, undef, undef, undef, undef, undef, undef, undef, undef] rfl ?_
  have GG := Gro.refl w
  obtain ⟨t, ht⟩ : ∃ t, l.take 60 = t := ⟨_, rfl⟩
  have HT : RC w ao t.length t := ht ▸ H.takeN 60
  have htl : t.length ≤ 60 := by rw [← ht, List.length_take]; omega
  obtain ⟨s, hs⟩ : ∃ s, m.take 60 = s := ⟨_, rfl⟩
  have HS : RC w bo s.length s := hs ▸ HM.takeN 60
  have hsl : s.length ≤ 60 := by rw [← hs, List.length_take]; omega
  refine wp_seq ?_
  refine wp_region_lit ?_
  refine s_val 6 rfl rfl (.bool false) (rfl) ?_
  refine nr ?_; intro U h; simp only [z0, z1] at h; subst h
  refine wpList_nil ?_
  refine then_n ?_
  refine wp_seq ?_
  refine wp_region_lit ?_
  refine s_val 7 rfl rfl (.slice ao l.length cap) (rfl) ?_
  refine nr ?_; intro U h; simp only [z0, z1] at h; subst h
  refine s_callv 8 rfl rfl _ 9 Try.call9 rfl rfl _ rfl [.slice ao l.length cap, .int .i64 60] rfl (Calls.valV (cut_any _ ao cap l (H.gro GG) 60) (by rw [ht])) ?_
  intro w1 G
  replace GG := GG.trans G
  clear G
  refine nr ?_; intro U h; simp only [z0, z1] at h; subst h
  refine s_val 9 rfl rfl (.slice bo m.length bap) (rfl) ?_
  refine nr ?_; intro U h; simp only [z0, z1] at h; subst h
  refine s_callv 10 rfl rfl _ 9 Try.call9 rfl rfl _ rfl [.slice bo m.length bap, .int .i64 60] rfl (Calls.valV (cut_any _ bo bap m (HM.gro GG) 60) (by rw [hs])) ?_
  intro w2 G
  replace GG := GG.trans G
  clear G
  refine nr ?_; intro U h; simp only [z0, z1] at h; subst h
  refine s_val 0 rfl rfl (.slice ao t.length t.length) (rfl) ?_
  refine nr ?_; intro U h; simp only [z0] at h; subst h
  refine s_val 1 rfl rfl (.slice bo s.length s.length) (rfl) ?_
  refine nr ?_; intro U h; simp only [z0, z1] at h; subst h
  refine wpList_nil ?_
  refine then_n ?_
  refine wp_seq ?_
  refine wp_region_opq ?_
  intro OPS hY
  have y1 := hY 1 12 rfl
  have y8 := hY 8 19 rfl
  have y17 := hY 17 28 rfl
  clear hY
  refine s_callv 11 rfl rfl _ 12 Try.call12 rfl rfl _ rfl [] rfl (fixed_any _) ?_
  intro w3 G
  replace GG := GG.trans G
  clear G
  refine nr ?_; intro U h; simp only [z0, z1] at h; subst h
  refine s_val 12 rfl rfl (.bool true) (rfl) ?_
  refine nr ?_; intro U h; simp only [z0, z1] at h; subst h
  refine s_gvalY 13 rfl rfl y1 rfl (.slice ao t.length t.length) (rfl) ?_
  refine nr ?_; intro U h; simp only [z0, z1] at h; subst h
  refine s_gcallvY 14 rfl rfl y1 rfl _ 16 Try.call16 rfl rfl _ rfl [.slice ao t.length t.length] rfl (simple_any _ ao t.length t (HT.gro GG) (by omega)) ?_
  intro w4 G
  replace GG := GG.trans G
  clear G
  refine nr ?_; intro U h; simp only [z0, z1] at h; subst h
  refine s_gvalY 15 rfl rfl y1 rfl (.slice ao t.length t.length) (rfl) ?_
  refine nr ?_; intro U h; simp only [z0, z1] at h; subst h
  refine s_gcallvY 16 rfl rfl y1 rfl _ 17 Try.call17 rfl rfl _ rfl [.slice ao t.length t.length] rfl (refsimple_any _ ao t.length t (HT.gro GG) (by omega)) ?_
  intro w5 G
  replace GG := GG.trans G
  clear G
  refine nr ?_; intro U h; simp only [z0, z1] at h; subst h
  refine s_gvalY 17 rfl rfl y1 rfl (.bool true) (run_eqB 4 _ _ _ rfl _ _ rfl rfl Try.underlying4 true (decide_eq_true rfl) _) ?_
  refine nr ?_; intro U h; simp only [z0, z1] at h; subst h
  refine s_val 18 rfl rfl (.bool true) (rfl) ?_
  refine nr ?_; intro U h; simp only [z0, z1] at h; subst h
  refine s_val 19 rfl rfl (.bool true) (rfl) ?_
  refine nr ?_; intro U h; simp only [z0, z1] at h; subst h
  refine s_gvalY 20 rfl rfl y8 rfl (.slice ao t.length t.length) (rfl) ?_
  refine nr ?_; intro U h; simp only [z0, z1] at h; subst h
  refine s_gvalY 21 rfl rfl y8 rfl (.int .i64 n) (rfl) ?_
  refine nr ?_; intro U h; simp only [z0, z1] at h; subst h
  refine s_gcallvY 22 rfl rfl y8 rfl _ 18 Try.call18 rfl rfl _ rfl [.slice ao t.length t.length, .int .i64 n] rfl (place_any _ ao t.length t (HT.gro GG) (by omega) n) ?_
  intro w6 G
  replace GG := GG.trans G
  clear G
  refine nr ?_; intro U h; simp only [z0, z1] at h; subst h
  refine s_gvalY 23 rfl rfl y8 rfl (.slice ao t.length t.length) (rfl) ?_
  refine nr ?_; intro U h; simp only [z0, z1] at h; subst h
  refine s_gvalY 24 rfl rfl y8 rfl (.int .i64 n) (rfl) ?_
  refine nr ?_; intro U h; simp only [z0, z1] at h; subst h
  refine s_gcallvY 25 rfl rfl y8 rfl _ 19 Try.call19 rfl rfl _ rfl [.slice ao t.length t.length, .int .i64 n] rfl (refplace_any _ ao t.length t (HT.gro GG) (by omega) n) ?_
  intro w7 G
  replace GG := GG.trans G
  clear G
  refine nr ?_; intro U h; simp only [z0, z1] at h; subst h
  refine s_gvalY 26 rfl rfl y8 rfl (.bool true) (run_eq_k 3 .i64 _ _ _ rfl Try.underlying3 _ _ rfl rfl true (decide_eq_true (rfl)) _) ?_
  refine nr ?_; intro U h; simp only [z0, z1] at h; subst h
  refine s_val 27 rfl rfl (.bool true) (rfl) ?_
  refine nr ?_; intro U h; simp only [z0, z1] at h; subst h
  refine s_val 28 rfl rfl (.bool true) (rfl) ?_
  refine nr ?_; intro U h; simp only [z0, z1] at h; subst h
  refine s_gvalY 29 rfl rfl y17 rfl (.slice ao t.length t.length) (rfl) ?_
  refine nr ?_; intro U h; simp only [z0, z1] at h; subst h
  refine s_gvalY 30 rfl rfl y17 rfl (.slice bo s.length s.length) (rfl) ?_
  refine nr ?_; intro U h; simp only [z0, z1] at h; subst h
  refine s_gcallvY 31 rfl rfl y17 rfl _ 20 Try.call20 rfl rfl _ rfl [.slice ao t.length t.length, .slice bo s.length s.length] rfl (joins_any _ ao t.length t (HT.gro GG) (by omega) bo s.length s (HS.gro GG) (by omega)) ?_
  intro w8 G
  replace GG := GG.trans G
  clear G
  refine nr ?_; intro U h; simp only [z0, z1] at h; subst h
  refine s_gvalY 32 rfl rfl y17 rfl (.slice ao t.length t.length) (rfl) ?_
  refine nr ?_; intro U h; simp only [z0, z1] at h; subst h
  refine s_gvalY 33 rfl rfl y17 rfl (.slice bo s.length s.length) (rfl) ?_
  refine nr ?_; intro U h; simp only [z0, z1] at h; subst h
  refine s_gcallvY 34 rfl rfl y17 rfl _ 21 Try.call21 rfl rfl _ rfl [.slice ao t.length t.length, .slice bo s.length s.length] rfl (refjoins_any _ ao t.length t (HT.gro GG) (by omega) bo s.length s (HS.gro GG) (by omega)) ?_
  intro w9 G
  replace GG := GG.trans G
  clear G
  refine nr ?_; intro U h; simp only [z0, z1] at h; subst h
  refine s_gvalY 35 rfl rfl y17 rfl (.bool true) (run_eqB 4 _ _ _ rfl _ _ rfl rfl Try.underlying4 true (decide_eq_true rfl) _) ?_
  refine nr ?_; intro U h; simp only [z0, z1] at h; subst h
  refine s_val 36 rfl rfl (.bool true) (rfl) ?_
  refine nr ?_; intro U h; simp only [z0, z1] at h; subst h
  refine s_val 6 rfl rfl (.bool true) (rfl) ?_
  refine nr ?_; intro U h; simp only [z0, z1] at h; subst h
  refine wpList_nil ?_
  refine then_n ?_
  refine wp_ret ?_
  refine bodyPost_ret (results_tmp Try.results4 _ _ _) rfl ?_
  exact ⟨rfl, GG⟩
set_option maxRecDepth 100000 in
set_option maxHeartbeats 4000000 in
theorem trailSimple_any (w : World) (ao : Option Addr) (cap : Nat) (l : List Int) (H : RC w ao cap l) : Calls Try.prog 5 #[.slice ao l.length cap] w (fun e w' => e = .returned (.bool true) ∧ Gro w w') := by
  refine s_enter Try.func5 rfl Try.ntmps5 [.slice ao l.length cap] [.slice ao l.length cap, undef, undef, undef, undef, undef, undef, undef, undef, undef, undef, undef, undef, undef, undef, undef, undef, undef, undef, undef, undef, undef, undef, undef, undef, undef, undef, undef, undef, undef, undef, undef, undef, undef, undef, undef, undef, undef, undef, undef, undef, undef, undef, undef, undef, undef, undef, undef, undef, undef, undef, undef, undef, undef, undef, undef] rfl ?_
  have GG := Gro.refl w
  obtain ⟨t, ht⟩ : ∃ t, l.take 100 = t := ⟨_, rfl⟩
  have HT : RC w ao t.length t := ht ▸ H.takeN 100
  have htl : t.length ≤ 100 := by rw [← ht, List.length_take]; omega
  refine wp_seq ?_
  refine wp_region_lit ?_
  refine s_val 2 rfl rfl (.bool false) (rfl) ?_
  refine nr ?_; intro U h; simp only [z0, z1] at h; subst h
  refine wpList_nil ?_
  refine then_n ?_
  refine wp_seq ?_
  refine wp_region_lit ?_
  refine s_val 4 rfl rfl (.slice ao l.length cap) (rfl) ?_
  refine nr ?_; intro U h; simp only [z0, z1] at h; subst h
  refine s_callv 5 rfl rfl _ 9 Try.call9 rfl rfl _ rfl [.slice ao l.length cap, .int .i64 100] rfl (Calls.valV (cut_any _ ao cap l (H.gro GG) 100) (by rw [ht])) ?_
  intro w1 G
  replace GG := GG.trans G
  clear G
  refine nr ?_; intro U h; simp only [z0, z1] at h; subst h
  refine s_val 0 rfl rfl (.slice ao t.length t.length) (rfl) ?_
  refine nr ?_; intro U h; simp only [z0] at h; subst h
  refine wpList_nil ?_
  refine then_n ?_
  refine wp_seq ?_
  refine wp_region_lit ?_
  refine s_val 6 rfl rfl (.slice ao t.length t.length) (rfl) ?_
  refine nr ?_; intro U h; simp only [z0, z1] at h; subst h
  refine s_callx 7 rfl rfl _ 10 Try.call10 rfl rfl _ rfl [.slice ao t.length t.length] rfl (erase_any _ ao t.length t (HT.gro GG) (by omega)) (by rintro _ _ ⟨_, _, he, _⟩; exact ⟨_, he⟩) ?_
  rintro v w2 ⟨ao1, cap1, he, G, HO1⟩
  cases he
  replace HO1 := HO1.mono GG.size
  replace GG := GG.trans G
  clear G
  have HR1 := HO1.rc
  refine nr ?_; intro U h; simp only [z0, z1] at h; subst h
  refine s_val 3 rfl rfl (.slice ao1 ((erz t).length) cap1) (rfl) ?_
  refine nr ?_; intro U h; simp only [z0, z1] at h; subst h
  refine wpList_nil ?_
  refine then_n ?_
  refine wp_seq ?_
  refine wp_seq ?_
  refine wp_region_lit ?_
  refine s_val 8 rfl rfl (.slice ao t.length t.length) (rfl) ?_
  refine nr ?_; intro U h; simp only [z0, z1] at h; subst h
  refine s_val 9 rfl rfl (.int .i64 ((t.length : Nat) : Int)) (run_len Try.underlying22 _ rfl _ _ _ rfl _) ?_
  refine nr ?_; intro U h; simp only [z0, z1] at h; subst h
  cases h0 : decide (((t.length : Nat) : Int) = 0)
  · have hp : 0 < t.length := by have := of_decide_eq_false h0; omega
    have hpe := erz_pos hp
    have hze := erz_len t
    refine s_val 10 rfl rfl (.bool false) (run_eq_k 3 .i64 _ _ _ rfl Try.underlying3 ((t.length : Nat) : Int) 0 rfl rfl false h0 _) ?_
    refine nr ?_; intro U h; simp only [z0, z1] at h; subst h
    refine wpList_nil ?_
    refine then_n ?_
    refine wp_cond_false rfl ?_
    refine wp_skip ?_
    refine then_n ?_
    refine wp_seq ?_
    refine wp_region_exA (A := ?Ax1) 38 [(0, 17), (1, 18), (2, 19), (3, 20), (4, 21), (5, 22), (6, 23), (7, 24), (8, 25), (9, 26), (10, 27), (11, 28), (12, 29), (13, 30), (14, 31), (15, 32), (16, 33), (17, 34), (18, 35), (19, 36), (20, 37), (21, 38), (22, 39), (23, 40), (24, 41), (25, 42), (26, 43), (27, 44), (28, 45), (29, 46), (30, 47), (31, 48), (32, 49), (33, 50), (34, 51), (35, 52), (36, 53), (37, 54)] [.val (.bool true), .val (.bool true), .val (.slice ao1 ((erz t).length) cap1), .val (.int .i64 (((erz t).length : Nat) : Int)), .val (.bool true), .val (.bool true), .val (.bool true), .val (.slice ao1 ((erz t).length) cap1), .val (.pointer (pA ao1 0)), .val (.int .i64 ((erz t).getD 0 0)), .val (.slice ao t.length t.length), .val (.pointer (pA ao 0)), .val (.int .i64 (t.getD 0 0)), .val (.bool true), .val (.bool true), .val (.bool true), .val (.slice ao1 ((erz t).length) cap1), .val (.slice ao1 ((erz t).length) cap1), .val (.int .i64 (((erz t).length : Nat) : Int)), .val (.int .i64 (((erz t).length - 1 : Nat) : Int)), .val (.pointer (pA ao1 ((erz t).length - 1))), .val (.int .i64 ((erz t).getD ((erz t).length - 1) 0)), .val (.slice ao t.length t.length), .val (.slice ao t.length t.length), .val (.int .i64 ((t.length : Nat) : Int)), .val (.int .i64 ((t.length - 1 : Nat) : Int)), .val (.pointer (pA ao (t.length - 1))), .val (.int .i64 (t.getD (t.length - 1) 0)), .val (.bool true), .val (.bool true), .val (.bool true), .val (.slice ao1 ((erz t).length) cap1), .val (.bool true), .val (.bool true), .val (.bool true), .val (.slice ao1 ((erz t).length) cap1), .val (.slice ao t.length t.length), .val (.bool true)] follows (by kernel_rfl) rfl ?hAx1 (opsA_cons ?o0x1 (opsA_cons ?o1x1 (opsA_cons ?o2x1 (opsA_cons ?o3x1 (opsA_cons ?o4x1 (opsA_cons ?o5x1 (opsA_cons ?o6x1 (opsA_cons ?o7x1 (opsA_cons ?o8x1 (opsA_cons ?o9x1 (opsA_cons ?o10x1 (opsA_cons ?o11x1 (opsA_cons ?o12x1 (opsA_cons ?o13x1 (opsA_cons ?o14x1 (opsA_cons ?o15x1 (opsA_cons ?o16x1 (opsA_cons ?o17x1 (opsA_cons ?o18x1 (opsA_cons ?o19x1 (opsA_cons ?o20x1 (opsA_cons ?o21x1 (opsA_cons ?o22x1 (opsA_cons ?o23x1 (opsA_cons ?o24x1 (opsA_cons ?o25x1 (opsA_cons ?o26x1 (opsA_cons ?o27x1 (opsA_cons ?o28x1 (opsA_cons ?o29x1 (opsA_cons ?o30x1 (opsA_cons ?o31x1 (opsA_cons ?o32x1 (opsA_cons ?o33x1 (opsA_cons ?o34x1 (opsA_cons ?o35x1 (opsA_cons ?o36x1 (opsA_cons ?o37x1 opsA_nil)))))))))))))))))))))))))))))))))))))) ?restx1
    case hAx1 =>
      intro ptrs
      simp only [full, foldSlots, filledE, postE, List.foldl_cons, List.foldl_nil, List.getD_cons_zero, List.getD_cons_succ, fill_val, List.set_cons_zero, List.set_cons_succ]
      exact rfl
    case o0x1 =>
      intro ptrs w' hw hE
      exact opE_call (.val (.bool true)) rfl _ 12 Try.call12 rfl rfl _ rfl [] rfl ((fixed_any _).mono fun e w' ⟨he, hg⟩ => ⟨_, he, hg, rfl⟩)
    case o1x1 => exact fun _ _ _ _ => opE_move (v := .bool true) _ rfl rfl rfl
    case o2x1 => exact fun _ _ _ _ => opE_move (v := .slice ao1 ((erz t).length) cap1) _ rfl rfl rfl
    case o3x1 => exact fun _ _ _ _ => opE_value (v := .int .i64 (((erz t).length : Nat) : Int)) rfl (run_len Try.underlying22 _ rfl _ _ _ rfl _)
    case o4x1 => exact fun _ _ _ _ => opE_value (v := .bool true) rfl (run_gtrT 3 _ _ _ rfl _ _ rfl rfl true (decide_eq_true (by omega)) _)
    case o5x1 => exact fun _ _ _ _ => opE_pick (v := .bool true) _ _ _ rfl rfl true rfl rfl
    case o6x1 => exact fun _ _ _ _ => opE_move (v := .bool true) _ rfl rfl rfl
    case o7x1 => exact fun _ _ _ _ => opE_move (v := .slice ao1 ((erz t).length) cap1) _ rfl rfl rfl
    case o8x1 => exact fun _ _ hw _ => opE_value (v := .pointer (pA ao1 0)) rfl (run_ixI (HR1.gro ((Gro.refl _).drew.trans hw)) _ _ rfl rfl 0 rfl (by omega))
    case o9x1 => exact fun _ _ hw _ => opE_value (v := .int .i64 ((erz t).getD 0 0)) rfl (run_ldI (HR1.gro ((Gro.refl _).drew.trans hw)) _ rfl 0 rfl (by omega))
    case o10x1 => exact fun _ _ _ _ => opE_move (v := .slice ao t.length t.length) _ rfl rfl rfl
    case o11x1 => exact fun _ _ hw _ => opE_value (v := .pointer (pA ao 0)) rfl (run_ixI (HT.gro (GG.drew.trans hw)) _ _ rfl rfl 0 rfl (by omega))
    case o12x1 => exact fun _ _ hw _ => opE_value (v := .int .i64 (t.getD 0 0)) rfl (run_ldI (HT.gro (GG.drew.trans hw)) _ rfl 0 rfl (by omega))
    case o13x1 => exact fun _ _ _ _ => opE_value (v := .bool true) rfl (run_eq_k 3 .i64 _ _ _ rfl Try.underlying3 _ _ rfl rfl true (decide_eq_true (erz_head t)) _)
    case o14x1 => exact fun _ _ _ _ => opE_pick (v := .bool true) _ _ _ rfl rfl true rfl rfl
    case o15x1 => exact fun _ _ _ _ => opE_move (v := .bool true) _ rfl rfl rfl
    case o16x1 => exact fun _ _ _ _ => opE_move (v := .slice ao1 ((erz t).length) cap1) _ rfl rfl rfl
    case o17x1 => exact fun _ _ _ _ => opE_move (v := .slice ao1 ((erz t).length) cap1) _ rfl rfl rfl
    case o18x1 => exact fun _ _ _ _ => opE_value (v := .int .i64 (((erz t).length : Nat) : Int)) rfl (run_len Try.underlying22 _ rfl _ _ _ rfl _)
    case o19x1 => exact fun _ _ _ _ => opE_value (v := .int .i64 (((erz t).length - 1 : Nat) : Int)) rfl (run_subI 3 _ _ _ rfl (((erz t).length : Nat) : Int) 1 (((erz t).length - 1 : Nat) : Int) rfl rfl (by omega) (by omega) (by omega) _)
    case o20x1 => exact fun _ _ hw _ => opE_value (v := .pointer (pA ao1 ((erz t).length - 1))) rfl (run_ixI (HR1.gro ((Gro.refl _).drew.trans hw)) _ _ rfl rfl ((erz t).length - 1) rfl (by omega))
    case o21x1 => exact fun _ _ hw _ => opE_value (v := .int .i64 ((erz t).getD ((erz t).length - 1) 0)) rfl (run_ldI (HR1.gro ((Gro.refl _).drew.trans hw)) _ rfl ((erz t).length - 1) rfl (by omega))
    case o22x1 => exact fun _ _ _ _ => opE_move (v := .slice ao t.length t.length) _ rfl rfl rfl
    case o23x1 => exact fun _ _ _ _ => opE_move (v := .slice ao t.length t.length) _ rfl rfl rfl
    case o24x1 => exact fun _ _ _ _ => opE_value (v := .int .i64 ((t.length : Nat) : Int)) rfl (run_len Try.underlying22 _ rfl _ _ _ rfl _)
    case o25x1 => exact fun _ _ _ _ => opE_value (v := .int .i64 ((t.length - 1 : Nat) : Int)) rfl (run_subI 3 _ _ _ rfl ((t.length : Nat) : Int) 1 ((t.length - 1 : Nat) : Int) rfl rfl (by omega) (by omega) (by omega) _)
    case o26x1 => exact fun _ _ hw _ => opE_value (v := .pointer (pA ao (t.length - 1))) rfl (run_ixI (HT.gro (GG.drew.trans hw)) _ _ rfl rfl (t.length - 1) rfl (by omega))
    case o27x1 => exact fun _ _ hw _ => opE_value (v := .int .i64 (t.getD (t.length - 1) 0)) rfl (run_ldI (HT.gro (GG.drew.trans hw)) _ rfl (t.length - 1) rfl (by omega))
    case o28x1 => exact fun _ _ _ _ => opE_value (v := .bool true) rfl (run_eq_k 3 .i64 _ _ _ rfl Try.underlying3 _ _ rfl rfl true (decide_eq_true (erz_lastD t)) _)
    case o29x1 => exact fun _ _ _ _ => opE_pick (v := .bool true) _ _ _ rfl rfl true rfl rfl
    case o30x1 => exact fun _ _ _ _ => opE_move (v := .bool true) _ rfl rfl rfl
    case o31x1 => exact fun _ _ _ _ => opE_move (v := .slice ao1 ((erz t).length) cap1) _ rfl rfl rfl
    case o32x1 =>
      intro ptrs w' hw hE
      exact opE_call (.val (.bool true)) rfl _ 17 Try.call17 rfl rfl _ rfl [.slice ao1 ((erz t).length) cap1] rfl ((Calls.bool (refsimple_any _ ao1 cap1 (erz t) (HR1.gro ((Gro.refl _).drew.trans hw)) (by have := erz_len t; omega)) (decide_eq_true (erz_nodup t))).mono fun e w' ⟨he, hg⟩ => ⟨_, he, hg, rfl⟩)
    case o33x1 => exact fun _ _ _ _ => opE_pick (v := .bool true) _ _ _ rfl rfl true rfl rfl
    case o34x1 => exact fun _ _ _ _ => opE_move (v := .bool true) _ rfl rfl rfl
    case o35x1 => exact fun _ _ _ _ => opE_move (v := .slice ao1 ((erz t).length) cap1) _ rfl rfl rfl
    case o36x1 => exact fun _ _ _ _ => opE_move (v := .slice ao t.length t.length) _ rfl rfl rfl
    case o37x1 =>
      intro ptrs w' hw hE
      exact opE_call (.val (.bool true)) rfl _ 21 Try.call21 rfl rfl _ rfl [.slice ao1 ((erz t).length) cap1, .slice ao t.length t.length] rfl ((Calls.bool (refjoins_any _ ao1 cap1 (erz t) (HR1.gro ((Gro.refl _).drew.trans hw)) (by have := erz_len t; omega) ao t.length t (HT.gro (GG.drew.trans hw)) (by omega)) (jn_erz t)).mono fun e w' ⟨he, hg⟩ => ⟨_, he, hg, rfl⟩)
    intro ptrs w3 GD hxE
    simp only [List.drop_succ_cons, List.drop_zero]
    replace HR1 := HR1.gro ((Gro.refl _).drew.trans GD)
    replace HO1 := HO1.gro ((Gro.refl _).drew.trans GD)
    replace GG := GG.drew.trans GD
    clear GD
    refine s_val 55 rfl rfl (.bool true) (rfl) ?_
    refine nr ?_; intro U h; simp only [z0, z1] at h; subst h
    refine s_val 2 rfl rfl (.bool true) (rfl) ?_
    refine nr ?_; intro U h; simp only [z0, z1] at h; subst h
    refine wpList_nil ?_
    refine then_n ?_
    refine wp_ret ?_
    refine bodyPost_ret (results_tmp Try.results5 _ _ _) rfl ?_
    exact ⟨rfl, GG⟩
  · have hz : t.length = 0 := by have := of_decide_eq_true h0; omega
    have hze := erz_len t
    refine s_val 10 rfl rfl (.bool true) (run_eq_k 3 .i64 _ _ _ rfl Try.underlying3 ((t.length : Nat) : Int) 0 rfl rfl true h0 _) ?_
    refine nr ?_; intro U h; simp only [z0, z1] at h; subst h
    refine wpList_nil ?_
    refine then_n ?_
    refine wp_cond_true rfl ?_
    refine wp_seq ?_
    refine wp_region_opq ?_
    intro OPS hY
    have y1 := hY 1 12 rfl
    clear hY
    refine s_callv 11 rfl rfl _ 12 Try.call12 rfl rfl _ rfl [] rfl (fixed_any _) ?_
    intro w3 G
    replace HR1 := HR1.gro G
    replace HO1 := HO1.gro G
    replace GG := GG.trans G
    clear G
    refine nr ?_; intro U h; simp only [z0, z1] at h; subst h
    refine s_val 12 rfl rfl (.bool true) (rfl) ?_
    refine nr ?_; intro U h; simp only [z0, z1] at h; subst h
    refine s_gvalY 13 rfl rfl y1 rfl (.slice ao1 ((erz t).length) cap1) (rfl) ?_
    refine nr ?_; intro U h; simp only [z0, z1] at h; subst h
    refine s_gvalY 14 rfl rfl y1 rfl (.int .i64 (((erz t).length : Nat) : Int)) (run_len Try.underlying22 _ rfl _ _ _ rfl _) ?_
    refine nr ?_; intro U h; simp only [z0, z1] at h; subst h
    refine s_gvalY 15 rfl rfl y1 rfl (.bool true) (run_eq_k 3 .i64 _ _ _ rfl Try.underlying3 _ _ rfl rfl true (decide_eq_true (by omega)) _) ?_
    refine nr ?_; intro U h; simp only [z0, z1] at h; subst h
    refine s_val 16 rfl rfl (.bool true) (rfl) ?_
    refine nr ?_; intro U h; simp only [z0, z1] at h; subst h
    refine s_val 2 rfl rfl (.bool true) (rfl) ?_
    refine nr ?_; intro U h; simp only [z0, z1] at h; subst h
    refine wpList_nil ?_
    refine then_n ?_
    refine wp_ret ?_
    refine then_r ?_
    refine bodyPost_ret (results_tmp Try.results5 _ _ _) rfl ?_
    exact ⟨rfl, GG⟩
set_option maxRecDepth 100000 in
set_option maxHeartbeats 4000000 in
theorem trailStays_any (w : World) (ao : Option Addr) (cap : Nat) (l : List Int) (H : RC w ao cap l) : Calls Try.prog 6 #[.slice ao l.length cap] w (fun e w' => e = .returned (.bool true) ∧ Gro w w') := by
  refine s_enter Try.func6 rfl Try.ntmps6 [.slice ao l.length cap] [.slice ao l.length cap, undef, undef, undef, undef, undef, undef, undef, undef, undef, undef, undef, undef, undef, undef, undef, undef, undef, undef, undef, undef, undef, undef, undef, undef, undef, undef, undef, undef, undef, undef, undef] rfl ?_
  have GG := Gro.refl w
  obtain ⟨t, ht⟩ : ∃ t, l.take 100 = t := ⟨_, rfl⟩
  have HT : RC w ao t.length t := ht ▸ H.takeN 100
  have htl : t.length ≤ 100 := by rw [← ht, List.length_take]; omega
  refine wp_seq ?_
  refine wp_region_lit ?_
  refine s_val 2 rfl rfl (.bool false) (rfl) ?_
  refine nr ?_; intro U h; simp only [z0, z1] at h; subst h
  refine wpList_nil ?_
  refine then_n ?_
  refine wp_seq ?_
  refine wp_region_lit ?_
  refine s_val 4 rfl rfl (.slice ao l.length cap) (rfl) ?_
  refine nr ?_; intro U h; simp only [z0, z1] at h; subst h
  refine s_callv 5 rfl rfl _ 9 Try.call9 rfl rfl _ rfl [.slice ao l.length cap, .int .i64 100] rfl (Calls.valV (cut_any _ ao cap l (H.gro GG) 100) (by rw [ht])) ?_
  intro w1 G
  replace GG := GG.trans G
  clear G
  refine nr ?_; intro U h; simp only [z0, z1] at h; subst h
  refine s_val 0 rfl rfl (.slice ao t.length t.length) (rfl) ?_
  refine nr ?_; intro U h; simp only [z0] at h; subst h
  refine wpList_nil ?_
  refine then_n ?_
  refine wp_seq ?_
  refine wp_region_lit ?_
  refine s_val 6 rfl rfl (.slice ao t.length t.length) (rfl) ?_
  refine nr ?_; intro U h; simp only [z0, z1] at h; subst h
  refine s_callx 7 rfl rfl _ 10 Try.call10 rfl rfl _ rfl [.slice ao t.length t.length] rfl (erase_any _ ao t.length t (HT.gro GG) (by omega)) (by rintro _ _ ⟨_, _, he, _⟩; exact ⟨_, he⟩) ?_
  rintro v w2 ⟨ao1, cap1, he, G, HO1⟩
  cases he
  replace HO1 := HO1.mono GG.size
  replace GG := GG.trans G
  clear G
  have HR1 := HO1.rc
  refine nr ?_; intro U h; simp only [z0, z1] at h; subst h
  refine s_val 3 rfl rfl (.slice ao1 ((erz t).length) cap1) (rfl) ?_
  refine nr ?_; intro U h; simp only [z0, z1] at h; subst h
  refine wpList_nil ?_
  refine then_n ?_
  refine wp_seq ?_
  cases hs : decide (t.Nodup)
  · refine wp_region_opq ?_
    intro OPS hY
    have y1 := hY 1 9 rfl
    have y7 := hY 7 15 rfl
    have y14 := hY 14 22 rfl
    have y18 := hY 18 26 rfl
    clear hY
    refine s_callv 8 rfl rfl _ 12 Try.call12 rfl rfl _ rfl [] rfl (fixed_any _) ?_
    intro w3 G
    replace HR1 := HR1.gro G
    replace HO1 := HO1.gro G
    replace GG := GG.trans G
    clear G
    refine nr ?_; intro U h; simp only [z0, z1] at h; subst h
    refine s_val 9 rfl rfl (.bool true) (rfl) ?_
    refine nr ?_; intro U h; simp only [z0, z1] at h; subst h
    refine s_gvalY 10 rfl rfl y1 rfl (.slice ao1 ((erz t).length) cap1) (rfl) ?_
    refine nr ?_; intro U h; simp only [z0, z1] at h; subst h
    refine s_gcallxY 11 rfl rfl y1 rfl _ 10 Try.call10 rfl rfl _ rfl [.slice ao1 ((erz t).length) cap1] rfl (erase_any _ ao1 cap1 (erz t) (HR1) (by have := erz_len t; omega)) (by rintro _ _ ⟨_, _, he, _⟩; exact ⟨_, he⟩) ?_
    rintro v w4 ⟨ao2, cap2, he, G, HO2⟩
    cases he
    replace HO2 := HO2.mono GG.size
    replace HR1 := HR1.gro G
    replace HO1 := HO1.gro G
    replace GG := GG.trans G
    clear G
    have HR2 := HO2.rc
    refine nr ?_; intro U h; simp only [z0, z1] at h; subst h
    refine s_gvalY 12 rfl rfl y1 rfl (.slice ao1 ((erz t).length) cap1) (rfl) ?_
    refine nr ?_; intro U h; simp only [z0, z1] at h; subst h
    refine s_gcallvY 13 rfl rfl y1 rfl _ 13 Try.call13 rfl rfl _ rfl [.slice ao2 ((erz (erz t)).length) cap2, .slice ao1 ((erz t).length) cap1] rfl (Calls.bool (same_any _ ao2 cap2 (erz (erz t)) (HR2) (by have := erz_len t; have := erz_len (erz t); omega) ao1 cap1 (erz t) (HR1) (by have := erz_len t; omega)) (decide_eq_true (erz_twice t))) ?_
    intro w5 G
    replace HR1 := HR1.gro G
    replace HO1 := HO1.gro G
    replace HR2 := HR2.gro G
    replace HO2 := HO2.gro G
    replace GG := GG.trans G
    clear G
    refine nr ?_; intro U h; simp only [z0, z1] at h; subst h
    refine s_val 14 rfl rfl (.bool true) (rfl) ?_
    refine nr ?_; intro U h; simp only [z0, z1] at h; subst h
    refine s_val 15 rfl rfl (.bool true) (rfl) ?_
    refine nr ?_; intro U h; simp only [z0, z1] at h; subst h
    refine s_gvalY 16 rfl rfl y7 rfl (.slice ao t.length t.length) (rfl) ?_
    refine nr ?_; intro U h; simp only [z0, z1] at h; subst h
    refine s_gcallxY 17 rfl rfl y7 rfl _ 11 Try.call11 rfl rfl _ rfl [.slice ao t.length t.length] rfl (back_any _ ao t.length t (HT.gro GG) (by omega)) (by rintro _ _ ⟨_, _, he, _⟩; exact ⟨_, he⟩) ?_
    rintro v w6 ⟨ao3, cap3, he, G, HO3⟩
    cases he
    replace HO3 := HO3.mono GG.size
    replace HR1 := HR1.gro G
    replace HO1 := HO1.gro G
    replace HR2 := HR2.gro G
    replace HO2 := HO2.gro G
    replace GG := GG.trans G
    clear G
    have HR3 := HO3.rc
    refine nr ?_; intro U h; simp only [z0, z1] at h; subst h
    refine s_gcallxY 18 rfl rfl y7 rfl _ 11 Try.call11 rfl rfl _ rfl [.slice ao3 ((t.reverse).length) cap3] rfl (back_any _ ao3 cap3 (t.reverse) (HR3) (by simp only [List.length_reverse]; omega)) (by rintro _ _ ⟨_, _, he, _⟩; exact ⟨_, he⟩) ?_
    rintro v w7 ⟨ao4, cap4, he, G, HO4⟩
    cases he
    replace HO4 := HO4.mono GG.size
    replace HR1 := HR1.gro G
    replace HO1 := HO1.gro G
    replace HR2 := HR2.gro G
    replace HO2 := HO2.gro G
    replace HR3 := HR3.gro G
    replace HO3 := HO3.gro G
    replace GG := GG.trans G
    clear G
    have HR4 := HO4.rc
    refine nr ?_; intro U h; simp only [z0, z1] at h; subst h
    refine s_gvalY 19 rfl rfl y7 rfl (.slice ao t.length t.length) (rfl) ?_
    refine nr ?_; intro U h; simp only [z0, z1] at h; subst h
    refine s_gcallvY 20 rfl rfl y7 rfl _ 13 Try.call13 rfl rfl _ rfl [.slice ao4 (((t.reverse).reverse).length) cap4, .slice ao t.length t.length] rfl (Calls.bool (same_any _ ao4 cap4 ((t.reverse).reverse) (HR4) (by simp only [List.length_reverse]; omega) ao t.length t (HT.gro GG) (by omega)) (decide_eq_true (List.reverse_reverse t))) ?_
    intro w8 G
    replace HR1 := HR1.gro G
    replace HO1 := HO1.gro G
    replace HR2 := HR2.gro G
    replace HO2 := HO2.gro G
    replace HR3 := HR3.gro G
    replace HO3 := HO3.gro G
    replace HR4 := HR4.gro G
    replace HO4 := HO4.gro G
    replace GG := GG.trans G
    clear G
    refine nr ?_; intro U h; simp only [z0, z1] at h; subst h
    refine s_val 21 rfl rfl (.bool true) (rfl) ?_
    refine nr ?_; intro U h; simp only [z0, z1] at h; subst h
    refine s_val 22 rfl rfl (.bool true) (rfl) ?_
    refine nr ?_; intro U h; simp only [z0, z1] at h; subst h
    refine s_gvalY 23 rfl rfl y14 rfl (.slice ao t.length t.length) (rfl) ?_
    refine nr ?_; intro U h; simp only [z0, z1] at h; subst h
    refine s_gcallvY 24 rfl rfl y14 rfl _ 17 Try.call17 rfl rfl _ rfl [.slice ao t.length t.length] rfl (Calls.bool (refsimple_any _ ao t.length t (HT.gro GG) (by omega)) (hs)) ?_
    intro w9 G
    replace HR1 := HR1.gro G
    replace HO1 := HO1.gro G
    replace HR2 := HR2.gro G
    replace HO2 := HO2.gro G
    replace HR3 := HR3.gro G
    replace HO3 := HO3.gro G
    replace HR4 := HR4.gro G
    replace HO4 := HO4.gro G
    replace GG := GG.trans G
    clear G
    refine nr ?_; intro U h; simp only [z0, z1] at h; subst h
    refine s_gvalY 25 rfl rfl y14 rfl (.bool true) (run_nt _ _ rfl false rfl) ?_
    refine nr ?_; intro U h; simp only [z0, z1] at h; subst h
    refine s_gvalY 26 rfl rfl y14 rfl (.bool true) (rfl) ?_
    refine nr ?_; intro U h; simp only [z0, z1] at h; subst h
    refine s_skipY 27 rfl rfl y18 rfl ?_
    refine nr ?_; intro U h; simp only [z0, z1] at h; subst h
    refine s_skipY 28 rfl rfl y18 rfl ?_
    refine nr ?_; intro U h; simp only [z0, z1] at h; subst h
    refine s_skipY 29 rfl rfl y18 rfl ?_
    refine nr ?_; intro U h; simp only [z0, z1] at h; subst h
    refine s_gvalY 30 rfl rfl y14 rfl (.bool true) (rfl) ?_
    refine nr ?_; intro U h; simp only [z0, z1] at h; subst h
    refine s_val 31 rfl rfl (.bool true) (rfl) ?_
    refine nr ?_; intro U h; simp only [z0, z1] at h; subst h
    refine s_val 2 rfl rfl (.bool true) (rfl) ?_
    refine nr ?_; intro U h; simp only [z0, z1] at h; subst h
    refine wpList_nil ?_
    refine then_n ?_
    refine wp_ret ?_
    refine bodyPost_ret (results_tmp Try.results6 _ _ _) rfl ?_
    exact ⟨rfl, GG⟩
  · refine wp_region_opq ?_
    intro OPS hY
    have y1 := hY 1 9 rfl
    have y7 := hY 7 15 rfl
    have y14 := hY 14 22 rfl
    have y18 := hY 18 26 rfl
    clear hY
    refine s_callv 8 rfl rfl _ 12 Try.call12 rfl rfl _ rfl [] rfl (fixed_any _) ?_
    intro w3 G
    replace HR1 := HR1.gro G
    replace HO1 := HO1.gro G
    replace GG := GG.trans G
    clear G
    refine nr ?_; intro U h; simp only [z0, z1] at h; subst h
    refine s_val 9 rfl rfl (.bool true) (rfl) ?_
    refine nr ?_; intro U h; simp only [z0, z1] at h; subst h
    refine s_gvalY 10 rfl rfl y1 rfl (.slice ao1 ((erz t).length) cap1) (rfl) ?_
    refine nr ?_; intro U h; simp only [z0, z1] at h; subst h
    refine s_gcallxY 11 rfl rfl y1 rfl _ 10 Try.call10 rfl rfl _ rfl [.slice ao1 ((erz t).length) cap1] rfl (erase_any _ ao1 cap1 (erz t) (HR1) (by have := erz_len t; omega)) (by rintro _ _ ⟨_, _, he, _⟩; exact ⟨_, he⟩) ?_
    rintro v w4 ⟨ao2, cap2, he, G, HO2⟩
    cases he
    replace HO2 := HO2.mono GG.size
    replace HR1 := HR1.gro G
    replace HO1 := HO1.gro G
    replace GG := GG.trans G
    clear G
    have HR2 := HO2.rc
    refine nr ?_; intro U h; simp only [z0, z1] at h; subst h
    refine s_gvalY 12 rfl rfl y1 rfl (.slice ao1 ((erz t).length) cap1) (rfl) ?_
    refine nr ?_; intro U h; simp only [z0, z1] at h; subst h
    refine s_gcallvY 13 rfl rfl y1 rfl _ 13 Try.call13 rfl rfl _ rfl [.slice ao2 ((erz (erz t)).length) cap2, .slice ao1 ((erz t).length) cap1] rfl (Calls.bool (same_any _ ao2 cap2 (erz (erz t)) (HR2) (by have := erz_len t; have := erz_len (erz t); omega) ao1 cap1 (erz t) (HR1) (by have := erz_len t; omega)) (decide_eq_true (erz_twice t))) ?_
    intro w5 G
    replace HR1 := HR1.gro G
    replace HO1 := HO1.gro G
    replace HR2 := HR2.gro G
    replace HO2 := HO2.gro G
    replace GG := GG.trans G
    clear G
    refine nr ?_; intro U h; simp only [z0, z1] at h; subst h
    refine s_val 14 rfl rfl (.bool true) (rfl) ?_
    refine nr ?_; intro U h; simp only [z0, z1] at h; subst h
    refine s_val 15 rfl rfl (.bool true) (rfl) ?_
    refine nr ?_; intro U h; simp only [z0, z1] at h; subst h
    refine s_gvalY 16 rfl rfl y7 rfl (.slice ao t.length t.length) (rfl) ?_
    refine nr ?_; intro U h; simp only [z0, z1] at h; subst h
    refine s_gcallxY 17 rfl rfl y7 rfl _ 11 Try.call11 rfl rfl _ rfl [.slice ao t.length t.length] rfl (back_any _ ao t.length t (HT.gro GG) (by omega)) (by rintro _ _ ⟨_, _, he, _⟩; exact ⟨_, he⟩) ?_
    rintro v w6 ⟨ao3, cap3, he, G, HO3⟩
    cases he
    replace HO3 := HO3.mono GG.size
    replace HR1 := HR1.gro G
    replace HO1 := HO1.gro G
    replace HR2 := HR2.gro G
    replace HO2 := HO2.gro G
    replace GG := GG.trans G
    clear G
    have HR3 := HO3.rc
    refine nr ?_; intro U h; simp only [z0, z1] at h; subst h
    refine s_gcallxY 18 rfl rfl y7 rfl _ 11 Try.call11 rfl rfl _ rfl [.slice ao3 ((t.reverse).length) cap3] rfl (back_any _ ao3 cap3 (t.reverse) (HR3) (by simp only [List.length_reverse]; omega)) (by rintro _ _ ⟨_, _, he, _⟩; exact ⟨_, he⟩) ?_
    rintro v w7 ⟨ao4, cap4, he, G, HO4⟩
    cases he
    replace HO4 := HO4.mono GG.size
    replace HR1 := HR1.gro G
    replace HO1 := HO1.gro G
    replace HR2 := HR2.gro G
    replace HO2 := HO2.gro G
    replace HR3 := HR3.gro G
    replace HO3 := HO3.gro G
    replace GG := GG.trans G
    clear G
    have HR4 := HO4.rc
    refine nr ?_; intro U h; simp only [z0, z1] at h; subst h
    refine s_gvalY 19 rfl rfl y7 rfl (.slice ao t.length t.length) (rfl) ?_
    refine nr ?_; intro U h; simp only [z0, z1] at h; subst h
    refine s_gcallvY 20 rfl rfl y7 rfl _ 13 Try.call13 rfl rfl _ rfl [.slice ao4 (((t.reverse).reverse).length) cap4, .slice ao t.length t.length] rfl (Calls.bool (same_any _ ao4 cap4 ((t.reverse).reverse) (HR4) (by simp only [List.length_reverse]; omega) ao t.length t (HT.gro GG) (by omega)) (decide_eq_true (List.reverse_reverse t))) ?_
    intro w8 G
    replace HR1 := HR1.gro G
    replace HO1 := HO1.gro G
    replace HR2 := HR2.gro G
    replace HO2 := HO2.gro G
    replace HR3 := HR3.gro G
    replace HO3 := HO3.gro G
    replace HR4 := HR4.gro G
    replace HO4 := HO4.gro G
    replace GG := GG.trans G
    clear G
    refine nr ?_; intro U h; simp only [z0, z1] at h; subst h
    refine s_val 21 rfl rfl (.bool true) (rfl) ?_
    refine nr ?_; intro U h; simp only [z0, z1] at h; subst h
    refine s_val 22 rfl rfl (.bool true) (rfl) ?_
    refine nr ?_; intro U h; simp only [z0, z1] at h; subst h
    refine s_gvalY 23 rfl rfl y14 rfl (.slice ao t.length t.length) (rfl) ?_
    refine nr ?_; intro U h; simp only [z0, z1] at h; subst h
    refine s_gcallvY 24 rfl rfl y14 rfl _ 17 Try.call17 rfl rfl _ rfl [.slice ao t.length t.length] rfl (Calls.bool (refsimple_any _ ao t.length t (HT.gro GG) (by omega)) (hs)) ?_
    intro w9 G
    replace HR1 := HR1.gro G
    replace HO1 := HO1.gro G
    replace HR2 := HR2.gro G
    replace HO2 := HO2.gro G
    replace HR3 := HR3.gro G
    replace HO3 := HO3.gro G
    replace HR4 := HR4.gro G
    replace HO4 := HO4.gro G
    replace GG := GG.trans G
    clear G
    refine nr ?_; intro U h; simp only [z0, z1] at h; subst h
    refine s_gvalY 25 rfl rfl y14 rfl (.bool false) (run_nt _ _ rfl true rfl) ?_
    refine nr ?_; intro U h; simp only [z0, z1] at h; subst h
    refine s_gvalY 26 rfl rfl y14 rfl (.bool false) (rfl) ?_
    refine nr ?_; intro U h; simp only [z0, z1] at h; subst h
    refine s_gvalY 27 rfl rfl y18 rfl (.slice ao1 ((erz t).length) cap1) (rfl) ?_
    refine nr ?_; intro U h; simp only [z0, z1] at h; subst h
    refine s_gvalY 28 rfl rfl y18 rfl (.slice ao t.length t.length) (rfl) ?_
    refine nr ?_; intro U h; simp only [z0, z1] at h; subst h
    refine s_gcallvY 29 rfl rfl y18 rfl _ 13 Try.call13 rfl rfl _ rfl [.slice ao1 ((erz t).length) cap1, .slice ao t.length t.length] rfl (Calls.bool (same_any _ ao1 cap1 (erz t) (HR1) (by have := erz_len t; omega) ao t.length t (HT.gro GG) (by omega)) (decide_eq_true (erz_id t (of_decide_eq_true hs)))) ?_
    intro w10 G
    replace HR1 := HR1.gro G
    replace HO1 := HO1.gro G
    replace HR2 := HR2.gro G
    replace HO2 := HO2.gro G
    replace HR3 := HR3.gro G
    replace HO3 := HO3.gro G
    replace HR4 := HR4.gro G
    replace HO4 := HO4.gro G
    replace GG := GG.trans G
    clear G
    refine nr ?_; intro U h; simp only [z0, z1] at h; subst h
    refine s_gvalY 30 rfl rfl y14 rfl (.bool true) (rfl) ?_
    refine nr ?_; intro U h; simp only [z0, z1] at h; subst h
    refine s_val 31 rfl rfl (.bool true) (rfl) ?_
    refine nr ?_; intro U h; simp only [z0, z1] at h; subst h
    refine s_val 2 rfl rfl (.bool true) (rfl) ?_
    refine nr ?_; intro U h; simp only [z0, z1] at h; subst h
    refine wpList_nil ?_
    refine then_n ?_
    refine wp_ret ?_
    refine bodyPost_ret (results_tmp Try.results6 _ _ _) rfl ?_
    exact ⟨rfl, GG⟩
end Go.Proofs.Ytjbpgiphimmleaa
