/- Two frames of noughts are one (the document's Same). -/
import Derived.Test.YthmcnlmphikicaaGH1
namespace Go.Proofs.Ythmcnlmphikicaa
open Go.RowKit
set_option maxRecDepth 100000 in
set_option maxHeartbeats 4000000 in
theorem sameItem0 (w : World) : Calls Try.prog 29 #[.agg (c34 zF 0 zF Sl.nil), .agg (c34 zF 0 zF Sl.nil)] w fun e w' => e = .returned (.bool true) ∧ Gro w w' := by
  refine s_enterR Try.func29 rfl Try.ntmps29 [.agg (c34 zF 0 zF Sl.nil), .agg (c34 zF 0 zF Sl.nil)] ?_
  intro U h; simp only [List.length_cons, List.length_nil, List.cons_append, List.nil_append, Nat.reduceAdd, Nat.reduceSub, List.reduceReplicate] at h; subst h
  have GG := Gro.refl w
  refine wp_seq (wp_region_lit ?_)
  refine s_box 2 rfl rfl 34 _ rfl _ rfl (c34 zF 0 zF Sl.nil) rfl ?_
  intro w1 g1 G eg1 kg1
  have bg1 := size_base GG eg1
  replace GG := GG.trans G
  clear G eg1
  refine s_box 3 rfl rfl 34 _ rfl _ rfl (c34 zF 0 zF Sl.nil) rfl ?_
  intro w2 g2 G eg2 kg2
  have bg2 := size_base GG eg2
  have dg1g2 := lt_new kg1 eg2
  replace kg1 := G.has kg1
  replace GG := GG.trans G
  clear G eg2
  refine mv 4 (.bool false) (wpList_nil (then_n (wp_seq ?_)))
  refine wp_region_opq ?_
  intro OPS hY
  have y5 := hY 5 10 rfl
  have y12 := hY 12 17 rfl
  clear hY
  refine sv 5 (.pointer (some ⟨g1, 0, none⟩)) (run_fld 34 _ 0 rfl _ _ rfl _) (sv 6 (.agg (c23 zF)) (run_lda 23 _ rfl g1 0 16 rfl 34 _ kg1 _ Try.underlying23 rfl si23 _) ?_)
  simp only [z0, z1]
  refine sv 7 (.pointer (some ⟨g2, 0, none⟩)) (run_fld 34 _ 0 rfl _ _ rfl _) (sv 8 (.agg (c23 zF)) (run_lda 23 _ rfl g2 0 16 rfl 34 _ kg2 _ Try.underlying23 rfl si23 _) (sv 9 (.bool true) (run_cmpA .eql 23 _ _ _ rfl _ _ rfl rfl (by kernel_rfl) _ ((eq23 _ _ _).trans (by simp))) (mv 10 (.bool true) (s_gvalY 11 rfl rfl y5 rfl (.pointer (some ⟨g1, 16, none⟩)) (run_fld 34 _ 1 rfl _ _ rfl _) ?_))))
  simp only [z0, z1]
  refine s_gvalY 12 rfl rfl y5 rfl (.agg (c31 0 zF)) (run_lda 31 _ rfl g1 16 17 rfl 34 _ kg1 _ Try.underlying31 rfl si31 _) (s_gvalY 13 rfl rfl y5 rfl (.pointer (some ⟨g2, 16, none⟩)) (run_fld 34 _ 1 rfl _ _ rfl _) (s_gvalY 14 rfl rfl y5 rfl (.agg (c31 0 zF)) (run_lda 31 _ rfl g2 16 17 rfl 34 _ kg2 _ Try.underlying31 rfl si31 _) (s_gvalY 15 rfl rfl y5 rfl (.bool true) (run_cmpA .eql 31 _ _ _ rfl _ _ rfl rfl (by kernel_rfl) _ ((eq31 _ _ _ _ _).trans (by simp))) (mv 16 (.bool true) ?_))))
  simp only [z0, z1]
  refine mv 17 (.bool true) (s_gvalY 18 rfl rfl y12 rfl (.pointer (some ⟨g1, 33, none⟩)) (run_fld 34 _ 2 rfl _ _ rfl _) (s_gvalY 19 rfl rfl y12 rfl (.slice none 0 0) (run_ldc 32 _ rfl g1 33 rfl 34 _ kg1 (na32 _) _ rfl) (s_gvalY 20 rfl rfl y12 rfl (.string (bas [])) (run_text_op bT 9 Try.underlying9 _ rfl (l := []) rfl (NC.nil _ _)) (s_gvalY 21 rfl rfl y12 rfl (.pointer (some ⟨g2, 33, none⟩)) (run_fld 34 _ 2 rfl _ _ rfl _) ?_))))
  simp only [z0, z1]
  refine s_gvalY 22 rfl rfl y12 rfl (.slice none 0 0) (run_ldc 32 _ rfl g2 33 rfl 34 _ kg2 (na32 _) _ rfl) (s_gvalY 23 rfl rfl y12 rfl (.string (bas [])) (run_text_op bT 9 Try.underlying9 _ rfl (l := []) rfl (NC.nil _ _)) (s_gvalY 24 rfl rfl y12 rfl (.bool true) (run_eqs_op _ _ _ rfl _ _ rfl rfl true (by simp) _) (mv 25 (.bool true) (mv 4 (.bool true) ?_))))
  simp only [z0, z1]
  refine wpList_nil (then_n (wp_ret ?_))
  refine bodyPost_ret (results_tmp Try.results29 _ _ _) rfl ?_
  exact ⟨rfl, GG⟩
set_option maxRecDepth 100000 in
set_option maxHeartbeats 4000000 in
theorem same0 (w : World) : Calls Try.prog 13 #[.agg (c36 0 zF 0 false zF zF 0 0 0 0 0 Sl.nil Sl.nil zF 0 zF Sl.nil 0 0 Sl.nil), .agg (c36 0 zF 0 false zF zF 0 0 0 0 0 Sl.nil Sl.nil zF 0 zF Sl.nil 0 0 Sl.nil)] w fun e w' => e = .returned (.bool true) ∧ Gro w w' := by
  refine s_enterR Try.func13 rfl Try.ntmps13 [.agg (c36 0 zF 0 false zF zF 0 0 0 0 0 Sl.nil Sl.nil zF 0 zF Sl.nil 0 0 Sl.nil), .agg (c36 0 zF 0 false zF zF 0 0 0 0 0 Sl.nil Sl.nil zF 0 zF Sl.nil 0 0 Sl.nil)] ?_
  intro U h; simp only [List.length_cons, List.length_nil, List.cons_append, List.nil_append, Nat.reduceAdd, Nat.reduceSub, List.reduceReplicate] at h; subst h
  have GG := Gro.refl w
  refine wp_seq (wp_region_lit ?_)
  refine s_box 2 rfl rfl 36 _ rfl _ rfl (c36 0 zF 0 false zF zF 0 0 0 0 0 Sl.nil Sl.nil zF 0 zF Sl.nil 0 0 Sl.nil) rfl ?_
  intro w1 g1 G eg1 kg1
  have bg1 := size_base GG eg1
  replace GG := GG.trans G
  clear G eg1
  refine s_box 3 rfl rfl 36 _ rfl _ rfl (c36 0 zF 0 false zF zF 0 0 0 0 0 Sl.nil Sl.nil zF 0 zF Sl.nil 0 0 Sl.nil) rfl ?_
  intro w2 g2 G eg2 kg2
  have bg2 := size_base GG eg2
  have dg1g2 := lt_new kg1 eg2
  replace kg1 := G.has kg1
  replace GG := GG.trans G
  clear G eg2
  refine mv 4 (.bool false) (wpList_nil (then_n (wp_seq (wp_seq ?_))))
  refine wp_region_opq ?_
  intro OPS hY
  have y7 := hY 7 14 rfl
  clear hY
  refine sv 7 (.pointer (some ⟨g1, 56, none⟩)) (run_fld 36 _ 8 rfl _ _ rfl _) (sv 8 (.slice none 0 0) (run_ldc 28 _ rfl g1 56 rfl 36 _ kg1 (na28 _) _ rfl) ?_)
  simp only [z0, z1]
  refine sv 9 (.int .i64 0) (run_len Try.underlying28 _ rfl _ _ _ rfl _) (sv 10 (.pointer (some ⟨g2, 56, none⟩)) (run_fld 36 _ 8 rfl _ _ rfl _) (sv 11 (.slice none 0 0) (run_ldc 28 _ rfl g2 56 rfl 36 _ kg2 (na28 _) _ rfl) (sv 12 (.int .i64 0) (run_len Try.underlying28 _ rfl _ _ _ rfl _) (sv 13 (.bool false) (run_neq_k 3 .i64 _ _ _ rfl Try.underlying3 _ _ rfl rfl false rfl _) ?_))))
  simp only [z0, z1]
  refine mv 14 (.bool false) (s_gvalY 15 rfl rfl y7 rfl (.pointer (some ⟨g1, 57, none⟩)) (run_fld 36 _ 9 rfl _ _ rfl _) (s_gvalY 16 rfl rfl y7 rfl (.slice none 0 0) (run_ldc 29 _ rfl g1 57 rfl 36 _ kg1 (na29 _) _ rfl) (s_gvalY 17 rfl rfl y7 rfl (.int .i64 0) (run_len Try.underlying29 _ rfl _ _ _ rfl _) (s_gvalY 18 rfl rfl y7 rfl (.pointer (some ⟨g2, 57, none⟩)) (run_fld 36 _ 9 rfl _ _ rfl _) ?_))))
  simp only [z0, z1]
  refine s_gvalY 19 rfl rfl y7 rfl (.slice none 0 0) (run_ldc 29 _ rfl g2 57 rfl 36 _ kg2 (na29 _) _ rfl) (s_gvalY 20 rfl rfl y7 rfl (.int .i64 0) (run_len Try.underlying29 _ rfl _ _ _ rfl _) (s_gvalY 21 rfl rfl y7 rfl (.bool false) (run_neq_k 3 .i64 _ _ _ rfl Try.underlying3 _ _ rfl rfl false rfl _) (mv 22 (.bool false) (wpList_nil (then_n (wp_cond_false rfl (wp_skip (then_n (wp_seq (wp_seq (wp_region_lit (mv 5 (.int .i64 0) ?_))))))))))))
  simp only [z0, z1]
  refine wpList_nil (then_n (wp_block ?_))
  refine wp_loop_once ?_
  refine wp_seq (wp_seq (wp_region_lit (mv 23 (.int .i64 0) (sv 24 (.pointer (some ⟨g1, 56, none⟩)) (run_fld 36 _ 8 rfl _ _ rfl _) (sv 25 (.slice none 0 0) (run_ldc 28 _ rfl g1 56 rfl 36 _ kg1 (na28 _) _ rfl) (sv 26 (.int .i64 0) (run_len Try.underlying28 _ rfl _ _ _ rfl _) (sv 27 (.bool false) (run_lssT 3 _ _ _ rfl 0 0 rfl rfl false (by decide) _) ?_)))))))
  simp only [z0, z1]
  refine wpList_nil (then_n (wp_cond_false rfl (wp_exit (then_x (then_x (blk_x (then_n (wp_seq (wp_seq (wp_region_lit (mv 6 (.int .i64 0) (wpList_nil (then_n (wp_block ?_))))))))))))))
  refine wp_loop_once ?_
  refine wp_seq (wp_seq (wp_region_lit (mv 41 (.int .i64 0) (sv 42 (.pointer (some ⟨g1, 57, none⟩)) (run_fld 36 _ 9 rfl _ _ rfl _) (sv 43 (.slice none 0 0) (run_ldc 29 _ rfl g1 57 rfl 36 _ kg1 (na29 _) _ rfl) (sv 44 (.int .i64 0) (run_len Try.underlying29 _ rfl _ _ _ rfl _) ?_))))))
  simp only [z0, z1]
  refine sv 45 (.bool false) (run_lssT 3 _ _ _ rfl 0 0 rfl rfl false (by decide) _) (wpList_nil (then_n (wp_cond_false rfl (wp_exit (then_x (then_x (blk_x (then_n (wp_seq ?_)))))))))
  refine wp_region_opq ?_
  simp only [List.append]
  intro OPS hY
  have y5 := hY 5 64 rfl
  have y12 := hY 12 71 rfl
  have y19 := hY 19 78 rfl
  have y26 := hY 26 85 rfl
  have y33 := hY 33 92 rfl
  have y40 := hY 40 99 rfl
  have y47 := hY 47 106 rfl
  have y54 := hY 54 113 rfl
  have y61 := hY 61 120 rfl
  have y68 := hY 68 127 rfl
  have y75 := hY 75 134 rfl
  clear hY
  refine sv 59 (.pointer (some ⟨g1, 0, none⟩)) (run_fld 36 _ 0 rfl _ _ rfl _) (sv 60 (.int .i64 0) (run_ldc 3 _ rfl g1 0 rfl 36 _ kg1 (na3 _) _ rfl) (sv 61 (.pointer (some ⟨g2, 0, none⟩)) (run_fld 36 _ 0 rfl _ _ rfl _) (sv 62 (.int .i64 0) (run_ldc 3 _ rfl g2 0 rfl 36 _ kg2 (na3 _) _ rfl) ?_)))
  simp only [z0, z1]
  refine sv 63 (.bool true) (run_eq_k 3 .i64 _ _ _ rfl Try.underlying3 _ _ rfl rfl true rfl _) (mv 64 (.bool true) (s_gvalY 65 rfl rfl y5 rfl (.pointer (some ⟨g1, 1, none⟩)) (run_fld 36 _ 1 rfl _ _ rfl _) (s_gvalY 66 rfl rfl y5 rfl (.agg (c25 zF 0)) (run_lda 25 _ rfl g1 1 17 rfl 36 _ kg1 _ Try.underlying25 rfl si25 _) (s_gvalY 67 rfl rfl y5 rfl (.pointer (some ⟨g2, 1, none⟩)) (run_fld 36 _ 1 rfl _ _ rfl _) ?_))))
  simp only [z0, z1]
  refine s_gvalY 68 rfl rfl y5 rfl (.agg (c25 zF 0)) (run_lda 25 _ rfl g2 1 17 rfl 36 _ kg2 _ Try.underlying25 rfl si25 _) (s_gvalY 69 rfl rfl y5 rfl (.bool true) (run_cmpA .eql 25 _ _ _ rfl _ _ rfl rfl (by kernel_rfl) _ ((eq25 _ _ _ _ _).trans (by simp))) (mv 70 (.bool true) (mv 71 (.bool true) (s_gvalY 72 rfl rfl y12 rfl (.pointer (some ⟨g1, 18, none⟩)) (run_fld 36 _ 2 rfl _ _ rfl _) ?_))))
  simp only [z0, z1]
  refine s_gvalY 73 rfl rfl y12 rfl (.bool false) (run_ldc 4 _ rfl g1 18 rfl 36 _ kg1 (na4 _) _ rfl) (s_gvalY 74 rfl rfl y12 rfl (.pointer (some ⟨g2, 18, none⟩)) (run_fld 36 _ 2 rfl _ _ rfl _) (s_gvalY 75 rfl rfl y12 rfl (.bool false) (run_ldc 4 _ rfl g2 18 rfl 36 _ kg2 (na4 _) _ rfl) (s_gvalY 76 rfl rfl y12 rfl (.bool true) (run_eqB 4 _ _ _ rfl false false rfl rfl Try.underlying4 true (by decide) _) (mv 77 (.bool true) ?_))))
  simp only [z0, z1]
  refine mv 78 (.bool true) (s_gvalY 79 rfl rfl y19 rfl (.pointer (some ⟨g1, 19, none⟩)) (run_fld 36 _ 3 rfl _ _ rfl _) (s_gvalY 80 rfl rfl y19 rfl (.agg (c23 zF)) (run_lda 23 _ rfl g1 19 16 rfl 36 _ kg1 _ Try.underlying23 rfl si23 _) (s_gvalY 81 rfl rfl y19 rfl (.pointer (some ⟨g2, 19, none⟩)) (run_fld 36 _ 3 rfl _ _ rfl _) (s_gvalY 82 rfl rfl y19 rfl (.agg (c23 zF)) (run_lda 23 _ rfl g2 19 16 rfl 36 _ kg2 _ Try.underlying23 rfl si23 _) ?_))))
  simp only [z0, z1]
  refine s_gvalY 83 rfl rfl y19 rfl (.bool true) (run_cmpA .eql 23 _ _ _ rfl _ _ rfl rfl (by kernel_rfl) _ ((eq23 _ _ _).trans (by simp))) (mv 84 (.bool true) (mv 85 (.bool true) (s_gvalY 86 rfl rfl y26 rfl (.pointer (some ⟨g1, 35, none⟩)) (run_fld 36 _ 4 rfl _ _ rfl _) (s_gvalY 87 rfl rfl y26 rfl (.agg (c23 zF)) (run_lda 23 _ rfl g1 35 16 rfl 36 _ kg1 _ Try.underlying23 rfl si23 _) ?_))))
  simp only [z0, z1]
  refine s_gvalY 88 rfl rfl y26 rfl (.pointer (some ⟨g2, 35, none⟩)) (run_fld 36 _ 4 rfl _ _ rfl _) (s_gvalY 89 rfl rfl y26 rfl (.agg (c23 zF)) (run_lda 23 _ rfl g2 35 16 rfl 36 _ kg2 _ Try.underlying23 rfl si23 _) (s_gvalY 90 rfl rfl y26 rfl (.bool true) (run_cmpA .eql 23 _ _ _ rfl _ _ rfl rfl (by kernel_rfl) _ ((eq23 _ _ _).trans (by simp))) (mv 91 (.bool true) (mv 92 (.bool true) ?_))))
  simp only [z0, z1]
  refine s_gvalY 93 rfl rfl y33 rfl (.pointer (some ⟨g1, 51, none⟩)) (run_fld 36 _ 5 rfl _ _ rfl _) (s_gvalY 94 rfl rfl y33 rfl (.int .i64 0) (run_ldc 2 _ rfl g1 51 rfl 36 _ kg1 (na2 _) _ rfl) (s_gvalY 95 rfl rfl y33 rfl (.pointer (some ⟨g2, 51, none⟩)) (run_fld 36 _ 5 rfl _ _ rfl _) (s_gvalY 96 rfl rfl y33 rfl (.int .i64 0) (run_ldc 2 _ rfl g2 51 rfl 36 _ kg2 (na2 _) _ rfl) (s_gvalY 97 rfl rfl y33 rfl (.bool true) (run_eq_k 2 .i64 _ _ _ rfl Try.underlying2 _ _ rfl rfl true rfl _) ?_))))
  simp only [z0, z1]
  refine mv 98 (.bool true) (mv 99 (.bool true) (s_gvalY 100 rfl rfl y40 rfl (.pointer (some ⟨g1, 52, none⟩)) (run_fld 36 _ 6 rfl _ _ rfl _) (s_gvalY 101 rfl rfl y40 rfl (.agg (c27 0 0)) (run_lda 27 _ rfl g1 52 2 rfl 36 _ kg1 _ Try.underlying27 rfl si27 _) (s_gvalY 102 rfl rfl y40 rfl (.pointer (some ⟨g2, 52, none⟩)) (run_fld 36 _ 6 rfl _ _ rfl _) ?_))))
  simp only [z0, z1]
  refine s_gvalY 103 rfl rfl y40 rfl (.agg (c27 0 0)) (run_lda 27 _ rfl g2 52 2 rfl 36 _ kg2 _ Try.underlying27 rfl si27 _) (s_gvalY 104 rfl rfl y40 rfl (.bool true) (run_cmpA .eql 27 _ _ _ rfl _ _ rfl rfl (by kernel_rfl) _ ((eq27 _ _ _ _ _).trans (by simp))) (mv 105 (.bool true) (mv 106 (.bool true) (s_gvalY 107 rfl rfl y47 rfl (.pointer (some ⟨g1, 54, none⟩)) (run_fld 36 _ 7 rfl _ _ rfl _) ?_))))
  simp only [z0, z1]
  refine s_gvalY 108 rfl rfl y47 rfl (.agg (c27 0 0)) (run_lda 27 _ rfl g1 54 2 rfl 36 _ kg1 _ Try.underlying27 rfl si27 _) (s_gvalY 109 rfl rfl y47 rfl (.pointer (some ⟨g2, 54, none⟩)) (run_fld 36 _ 7 rfl _ _ rfl _) (s_gvalY 110 rfl rfl y47 rfl (.agg (c27 0 0)) (run_lda 27 _ rfl g2 54 2 rfl 36 _ kg2 _ Try.underlying27 rfl si27 _) (s_gvalY 111 rfl rfl y47 rfl (.bool true) (run_cmpA .eql 27 _ _ _ rfl _ _ rfl rfl (by kernel_rfl) _ ((eq27 _ _ _ _ _).trans (by simp))) (mv 112 (.bool true) ?_))))
  simp only [z0, z1]
  refine mv 113 (.bool true) (s_gvalY 114 rfl rfl y54 rfl (.pointer (some ⟨g1, 58, none⟩)) (run_fld 36 _ 10 rfl _ _ rfl _) (s_gvalY 115 rfl rfl y54 rfl (.agg (c34 zF 0 zF Sl.nil)) (run_lda 34 _ rfl g1 58 34 rfl 36 _ kg1 _ Try.underlying34 rfl si34 _) (s_gvalY 116 rfl rfl y54 rfl (.pointer (some ⟨g2, 58, none⟩)) (run_fld 36 _ 10 rfl _ _ rfl _) (s_gvalY 117 rfl rfl y54 rfl (.agg (c34 zF 0 zF Sl.nil)) (run_lda 34 _ rfl g2 58 34 rfl 36 _ kg2 _ Try.underlying34 rfl si34 _) ?_))))
  simp only [z0, z1]
  refine s_gcallvY 118 rfl rfl y54 rfl _ 29 Try.call29 rfl rfl _ rfl [.agg (c34 zF 0 zF Sl.nil), .agg (c34 zF 0 zF Sl.nil)] rfl (sameItem0 _) ?_
  intro w3 G
  replace kg1 := G.has kg1
  replace kg2 := G.has kg2
  replace GG := GG.trans G
  clear G
  refine mv 119 (.bool true) (mv 120 (.bool true) (s_gvalY 121 rfl rfl y61 rfl (.pointer (some ⟨g1, 92, none⟩)) (run_fld 36 _ 11 rfl _ _ rfl _) (s_gvalY 122 rfl rfl y61 rfl (.int .i64 0) (run_ldc 3 _ rfl g1 92 rfl 36 _ kg1 (na3 _) _ rfl) ?_)))
  simp only [z0, z1]
  refine s_gvalY 123 rfl rfl y61 rfl (.pointer (some ⟨g2, 92, none⟩)) (run_fld 36 _ 11 rfl _ _ rfl _) (s_gvalY 124 rfl rfl y61 rfl (.int .i64 0) (run_ldc 3 _ rfl g2 92 rfl 36 _ kg2 (na3 _) _ rfl) (s_gvalY 125 rfl rfl y61 rfl (.bool true) (run_eq_k 3 .i64 _ _ _ rfl Try.underlying3 _ _ rfl rfl true rfl _) (mv 126 (.bool true) (mv 127 (.bool true) ?_))))
  simp only [z0, z1]
  refine s_gvalY 128 rfl rfl y68 rfl (.pointer (some ⟨g1, 93, none⟩)) (run_fld 36 _ 12 rfl _ _ rfl _) (s_gvalY 129 rfl rfl y68 rfl (.int .i64 0) (run_ldc 3 _ rfl g1 93 rfl 36 _ kg1 (na3 _) _ rfl) (s_gvalY 130 rfl rfl y68 rfl (.pointer (some ⟨g2, 93, none⟩)) (run_fld 36 _ 12 rfl _ _ rfl _) (s_gvalY 131 rfl rfl y68 rfl (.int .i64 0) (run_ldc 3 _ rfl g2 93 rfl 36 _ kg2 (na3 _) _ rfl) (s_gvalY 132 rfl rfl y68 rfl (.bool true) (run_eq_k 3 .i64 _ _ _ rfl Try.underlying3 _ _ rfl rfl true rfl _) ?_))))
  simp only [z0, z1]
  refine mv 133 (.bool true) (mv 134 (.bool true) (s_gvalY 135 rfl rfl y75 rfl (.pointer (some ⟨g1, 94, none⟩)) (run_fld 36 _ 13 rfl _ _ rfl _) (s_gvalY 136 rfl rfl y75 rfl (.slice none 0 0) (run_ldc 32 _ rfl g1 94 rfl 36 _ kg1 (na32 _) _ rfl) (s_gvalY 137 rfl rfl y75 rfl (.string (bas [])) (run_text_op bT 9 Try.underlying9 _ rfl (l := []) rfl (NC.nil _ _)) ?_))))
  simp only [z0, z1]
  refine s_gvalY 138 rfl rfl y75 rfl (.pointer (some ⟨g2, 94, none⟩)) (run_fld 36 _ 13 rfl _ _ rfl _) (s_gvalY 139 rfl rfl y75 rfl (.slice none 0 0) (run_ldc 32 _ rfl g2 94 rfl 36 _ kg2 (na32 _) _ rfl) (s_gvalY 140 rfl rfl y75 rfl (.string (bas [])) (run_text_op bT 9 Try.underlying9 _ rfl (l := []) rfl (NC.nil _ _)) (s_gvalY 141 rfl rfl y75 rfl (.bool true) (run_eqs_op _ _ _ rfl _ _ rfl rfl true (by simp) _) (mv 142 (.bool true) ?_))))
  simp only [z0, z1]
  refine mv 4 (.bool true) (wpList_nil (then_n (wp_ret ?_)))
  refine bodyPost_ret (results_tmp Try.results13 _ _ _) rfl ?_
  exact ⟨rfl, GG⟩
end Go.Proofs.Ythmcnlmphikicaa
