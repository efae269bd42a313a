/- The body that a plain frame says (frame.body), bodies' numbers (Kind), Plain, Of. -/
import Derived.Test.YthmcnlmphikicabZF8
namespace Go.Proofs.Ythmcnlmphikicab
open Go.RowKit
set_option maxRecDepth 100000 in
set_option maxHeartbeats 4000000 in
theorem body_1 (f : Fr) (w : World) : Calls Try.prog 14 #[.agg (c36 1 f.pw f.pn f.toA f.a f.b f.n f.fi f.fn f.ti f.tn f.tr f.ids f.key f.vn f.vw f.val f.op f.ttl f.tx)] w fun e w' => e = .returned (.iface 67 (.agg (c79 f.fi f.fn f.ti f.tn f.a))) ∧ Gro w w' := by
  refine s_enterR Try.func14 rfl Try.ntmps14 [.agg (c36 1 f.pw f.pn f.toA f.a f.b f.n f.fi f.fn f.ti f.tn f.tr f.ids f.key f.vn f.vw f.val f.op f.ttl f.tx)] ?_
  intro U h; simp only [List.length_cons, List.length_nil, List.cons_append, List.nil_append, Nat.reduceAdd, Nat.reduceSub, List.reduceReplicate] at h; subst h
  have GG := Gro.refl w
  refine wp_seq (wp_region_lit ?_)
  refine s_box 1 rfl rfl 40 _ rfl _ rfl (c36 1 f.pw f.pn f.toA f.a f.b f.n f.fi f.fn f.ti f.tn f.tr f.ids f.key f.vn f.vw f.val f.op f.ttl f.tx) rfl ?_
  intro w1 g1 G eg1 kg1
  have bg1 := size_base GG eg1
  replace GG := GG.trans G
  clear G eg1
  refine mv 2 (.nilIface) (wpList_nil (then_n (wp_seq (wp_seq (wp_region_lit (sv 3 (.pointer (some ⟨g1, 0, none⟩)) (run_fld 40 _ 0 rfl _ _ rfl _) ?_))))))
  simp only [z0, z1]
  refine sv 4 (.int .i64 1) (run_ldc 3 _ rfl g1 0 rfl 40 _ kg1 (na3 _) _ rfl) (wpList_nil (then_n (wp_block (wp_seq (wp_region_lit (sv 6 (.bool true) (run_eq_k 3 .i64 _ _ _ rfl Try.underlying3 _ _ rfl rfl true rfl _) (mv 5 (.bool true) ?_)))))))
  simp only [z0, z1]
  refine wpList_nil (then_n (wp_cond_true rfl (wp_seq (wp_region_lit (sv 7 (.pointer (some ⟨g1, 52, none⟩)) (run_fld 40 _ 6 rfl _ _ rfl _) (sv 8 (.agg (c27 f.fi f.fn)) (run_lda 31 _ rfl g1 52 2 rfl 40 _ kg1 _ Try.underlying31 rfl si27 _) (sv 9 (.pointer (some ⟨g1, 54, none⟩)) (run_fld 40 _ 7 rfl _ _ rfl _) ?_)))))))
  simp only [z0, z1]
  refine sv 10 (.agg (c27 f.ti f.tn)) (run_lda 31 _ rfl g1 54 2 rfl 40 _ kg1 _ Try.underlying31 rfl si27 _) (sv 11 (.pointer (some ⟨g1, 19, none⟩)) (run_fld 40 _ 3 rfl _ _ rfl _) (sv 12 (.agg (c23 f.a)) (run_lda 27 _ rfl g1 19 16 rfl 40 _ kg1 _ Try.underlying27 rfl si23 _) ?_))
  simp only [z0, z1]
  refine sv 13 (.agg (c79 f.fi f.fn f.ti f.tn f.a)) (run_bd 67 _ rfl [(0, .agg (c27 f.fi f.fn)), (1, .agg (c27 f.ti f.tn)), (2, .agg (c23 f.a))] rfl _ (by kernel_rfl)) (sv 14 (.iface 67 (.agg (c79 f.fi f.fn f.ti f.tn f.a))) (run_mk 67 _ rfl _ rfl) (mv 2 (.iface 67 (.agg (c79 f.fi f.fn f.ti f.tn f.a))) ?_))
  simp only [z0, z1]
  refine wpList_nil (then_n (wp_ret (blk_r (then_r ?_))))
  refine bodyPost_ret (results_tmp Try.results14 _ _ _) rfl ?_
  exact ⟨rfl, GG⟩
set_option maxRecDepth 100000 in
set_option maxHeartbeats 4000000 in
theorem body_2 (f : Fr) (w : World) : Calls Try.prog 14 #[.agg (c36 2 f.pw f.pn f.toA f.a f.b f.n f.fi f.fn f.ti f.tn f.tr f.ids f.key f.vn f.vw f.val f.op f.ttl f.tx)] w fun e w' => e = .returned (.iface 69 (.agg (c81 f.fi f.fn f.ti f.tn f.n f.tx))) ∧ Gro w w' := by
  refine s_enterR Try.func14 rfl Try.ntmps14 [.agg (c36 2 f.pw f.pn f.toA f.a f.b f.n f.fi f.fn f.ti f.tn f.tr f.ids f.key f.vn f.vw f.val f.op f.ttl f.tx)] ?_
  intro U h; simp only [List.length_cons, List.length_nil, List.cons_append, List.nil_append, Nat.reduceAdd, Nat.reduceSub, List.reduceReplicate] at h; subst h
  have GG := Gro.refl w
  refine wp_seq (wp_region_lit ?_)
  refine s_box 1 rfl rfl 40 _ rfl _ rfl (c36 2 f.pw f.pn f.toA f.a f.b f.n f.fi f.fn f.ti f.tn f.tr f.ids f.key f.vn f.vw f.val f.op f.ttl f.tx) rfl ?_
  intro w1 g1 G eg1 kg1
  have bg1 := size_base GG eg1
  replace GG := GG.trans G
  clear G eg1
  refine mv 2 (.nilIface) (wpList_nil (then_n (wp_seq (wp_seq (wp_region_lit (sv 3 (.pointer (some ⟨g1, 0, none⟩)) (run_fld 40 _ 0 rfl _ _ rfl _) ?_))))))
  simp only [z0, z1]
  refine sv 4 (.int .i64 2) (run_ldc 3 _ rfl g1 0 rfl 40 _ kg1 (na3 _) _ rfl) (wpList_nil (then_n (wp_block (wp_seq (wp_region_lit (sv 6 (.bool false) (run_eq_k 3 .i64 _ _ _ rfl Try.underlying3 _ _ rfl rfl false rfl _) (mv 5 (.bool false) ?_)))))))
  simp only [z0, z1]
  refine wpList_nil (then_n (wp_cond_false rfl (wp_seq (wp_region_lit (sv 16 (.bool true) (run_eq_k 3 .i64 _ _ _ rfl Try.underlying3 _ _ rfl rfl true rfl _) (mv 15 (.bool true) (wpList_nil (then_n (wp_cond_true rfl (wp_seq (wp_region_lit (sv 17 (.pointer (some ⟨g1, 52, none⟩)) (run_fld 40 _ 6 rfl _ _ rfl _) ?_))))))))))))
  simp only [z0, z1]
  refine sv 18 (.agg (c27 f.fi f.fn)) (run_lda 31 _ rfl g1 52 2 rfl 40 _ kg1 _ Try.underlying31 rfl si27 _) (sv 19 (.pointer (some ⟨g1, 54, none⟩)) (run_fld 40 _ 7 rfl _ _ rfl _) (sv 20 (.agg (c27 f.ti f.tn)) (run_lda 31 _ rfl g1 54 2 rfl 40 _ kg1 _ Try.underlying31 rfl si27 _) ?_))
  simp only [z0, z1]
  refine sv 21 (.pointer (some ⟨g1, 51, none⟩)) (run_fld 40 _ 5 rfl _ _ rfl _) (sv 22 (.int .i64 f.n) (run_ldc 2 _ rfl g1 51 rfl 40 _ kg1 (na2 _) _ rfl) (sv 23 (.pointer (some ⟨g1, 94, none⟩)) (run_fld 40 _ 13 rfl _ _ rfl _) ?_))
  simp only [z0, z1]
  refine sv 24 (.slice f.tx.ao f.tx.n f.tx.cap) (run_ldc 36 _ rfl g1 94 rfl 40 _ kg1 (na32 _) _ rfl) (sv 25 (.agg (c81 f.fi f.fn f.ti f.tn f.n f.tx)) (run_bd 69 _ rfl [(0, .agg (c27 f.fi f.fn)), (1, .agg (c27 f.ti f.tn)), (2, .int .i64 f.n), (3, .slice f.tx.ao f.tx.n f.tx.cap)] rfl _ (by kernel_rfl)) (sv 26 (.iface 69 (.agg (c81 f.fi f.fn f.ti f.tn f.n f.tx))) (run_mk 69 _ rfl _ rfl) ?_))
  simp only [z0, z1]
  refine mv 2 (.iface 69 (.agg (c81 f.fi f.fn f.ti f.tn f.n f.tx))) (wpList_nil (then_n (wp_ret (blk_r (then_r ?_)))))
  refine bodyPost_ret (results_tmp Try.results14 _ _ _) rfl ?_
  exact ⟨rfl, GG⟩
set_option maxRecDepth 100000 in
set_option maxHeartbeats 4000000 in
theorem body_3 (f : Fr) (w : World) : Calls Try.prog 14 #[.agg (c36 3 f.pw f.pn f.toA f.a f.b f.n f.fi f.fn f.ti f.tn f.tr f.ids f.key f.vn f.vw f.val f.op f.ttl f.tx)] w fun e w' => e = .returned (.iface 71 (.agg (c83 f.fi f.fn f.ti f.tn f.n))) ∧ Gro w w' := by
  refine s_enterR Try.func14 rfl Try.ntmps14 [.agg (c36 3 f.pw f.pn f.toA f.a f.b f.n f.fi f.fn f.ti f.tn f.tr f.ids f.key f.vn f.vw f.val f.op f.ttl f.tx)] ?_
  intro U h; simp only [List.length_cons, List.length_nil, List.cons_append, List.nil_append, Nat.reduceAdd, Nat.reduceSub, List.reduceReplicate] at h; subst h
  have GG := Gro.refl w
  refine wp_seq (wp_region_lit ?_)
  refine s_box 1 rfl rfl 40 _ rfl _ rfl (c36 3 f.pw f.pn f.toA f.a f.b f.n f.fi f.fn f.ti f.tn f.tr f.ids f.key f.vn f.vw f.val f.op f.ttl f.tx) rfl ?_
  intro w1 g1 G eg1 kg1
  have bg1 := size_base GG eg1
  replace GG := GG.trans G
  clear G eg1
  refine mv 2 (.nilIface) (wpList_nil (then_n (wp_seq (wp_seq (wp_region_lit (sv 3 (.pointer (some ⟨g1, 0, none⟩)) (run_fld 40 _ 0 rfl _ _ rfl _) ?_))))))
  simp only [z0, z1]
  refine sv 4 (.int .i64 3) (run_ldc 3 _ rfl g1 0 rfl 40 _ kg1 (na3 _) _ rfl) (wpList_nil (then_n (wp_block (wp_seq (wp_region_lit (sv 6 (.bool false) (run_eq_k 3 .i64 _ _ _ rfl Try.underlying3 _ _ rfl rfl false rfl _) (mv 5 (.bool false) ?_)))))))
  simp only [z0, z1]
  refine wpList_nil (then_n (wp_cond_false rfl (wp_seq (wp_region_lit (sv 16 (.bool false) (run_eq_k 3 .i64 _ _ _ rfl Try.underlying3 _ _ rfl rfl false rfl _) (mv 15 (.bool false) (wpList_nil (then_n (wp_cond_false rfl (wp_seq (wp_region_lit (sv 28 (.bool true) (run_eq_k 3 .i64 _ _ _ rfl Try.underlying3 _ _ rfl rfl true rfl _) ?_))))))))))))
  simp only [z0, z1]
  refine mv 27 (.bool true) (wpList_nil (then_n (wp_cond_true rfl (wp_seq (wp_region_lit (sv 29 (.pointer (some ⟨g1, 52, none⟩)) (run_fld 40 _ 6 rfl _ _ rfl _) (sv 30 (.agg (c27 f.fi f.fn)) (run_lda 31 _ rfl g1 52 2 rfl 40 _ kg1 _ Try.underlying31 rfl si27 _) ?_)))))))
  simp only [z0, z1]
  refine sv 31 (.pointer (some ⟨g1, 54, none⟩)) (run_fld 40 _ 7 rfl _ _ rfl _) (sv 32 (.agg (c27 f.ti f.tn)) (run_lda 31 _ rfl g1 54 2 rfl 40 _ kg1 _ Try.underlying31 rfl si27 _) (sv 33 (.pointer (some ⟨g1, 51, none⟩)) (run_fld 40 _ 5 rfl _ _ rfl _) ?_))
  simp only [z0, z1]
  refine sv 34 (.int .i64 f.n) (run_ldc 2 _ rfl g1 51 rfl 40 _ kg1 (na2 _) _ rfl) (sv 35 (.agg (c83 f.fi f.fn f.ti f.tn f.n)) (run_bd 71 _ rfl [(0, .agg (c27 f.fi f.fn)), (1, .agg (c27 f.ti f.tn)), (2, .int .i64 f.n)] rfl _ (by kernel_rfl)) (sv 36 (.iface 71 (.agg (c83 f.fi f.fn f.ti f.tn f.n))) (run_mk 71 _ rfl _ rfl) ?_))
  simp only [z0, z1]
  refine mv 2 (.iface 71 (.agg (c83 f.fi f.fn f.ti f.tn f.n))) (wpList_nil (then_n (wp_ret (blk_r (then_r ?_)))))
  refine bodyPost_ret (results_tmp Try.results14 _ _ _) rfl ?_
  exact ⟨rfl, GG⟩
set_option maxRecDepth 100000 in
set_option maxHeartbeats 4000000 in
theorem body_4 (f : Fr) (w : World) : Calls Try.prog 14 #[.agg (c36 4 f.pw f.pn f.toA f.a f.b f.n f.fi f.fn f.ti f.tn f.tr f.ids f.key f.vn f.vw f.val f.op f.ttl f.tx)] w fun e w' => e = .returned (.iface 73 (.agg (c85 f.pw f.pn f.a f.b f.tr))) ∧ Gro w w' := by
  refine s_enterR Try.func14 rfl Try.ntmps14 [.agg (c36 4 f.pw f.pn f.toA f.a f.b f.n f.fi f.fn f.ti f.tn f.tr f.ids f.key f.vn f.vw f.val f.op f.ttl f.tx)] ?_
  intro U h; simp only [List.length_cons, List.length_nil, List.cons_append, List.nil_append, Nat.reduceAdd, Nat.reduceSub, List.reduceReplicate] at h; subst h
  have GG := Gro.refl w
  refine wp_seq (wp_region_lit ?_)
  refine s_box 1 rfl rfl 40 _ rfl _ rfl (c36 4 f.pw f.pn f.toA f.a f.b f.n f.fi f.fn f.ti f.tn f.tr f.ids f.key f.vn f.vw f.val f.op f.ttl f.tx) rfl ?_
  intro w1 g1 G eg1 kg1
  have bg1 := size_base GG eg1
  replace GG := GG.trans G
  clear G eg1
  refine mv 2 (.nilIface) (wpList_nil (then_n (wp_seq (wp_seq (wp_region_lit (sv 3 (.pointer (some ⟨g1, 0, none⟩)) (run_fld 40 _ 0 rfl _ _ rfl _) ?_))))))
  simp only [z0, z1]
  refine sv 4 (.int .i64 4) (run_ldc 3 _ rfl g1 0 rfl 40 _ kg1 (na3 _) _ rfl) (wpList_nil (then_n (wp_block (wp_seq (wp_region_lit (sv 6 (.bool false) (run_eq_k 3 .i64 _ _ _ rfl Try.underlying3 _ _ rfl rfl false rfl _) (mv 5 (.bool false) ?_)))))))
  simp only [z0, z1]
  refine wpList_nil (then_n (wp_cond_false rfl (wp_seq (wp_region_lit (sv 16 (.bool false) (run_eq_k 3 .i64 _ _ _ rfl Try.underlying3 _ _ rfl rfl false rfl _) (mv 15 (.bool false) (wpList_nil (then_n (wp_cond_false rfl (wp_seq (wp_region_lit (sv 28 (.bool false) (run_eq_k 3 .i64 _ _ _ rfl Try.underlying3 _ _ rfl rfl false rfl _) ?_))))))))))))
  simp only [z0, z1]
  refine mv 27 (.bool false) (wpList_nil (then_n (wp_cond_false rfl (wp_seq (wp_region_lit (sv 38 (.bool true) (run_eq_k 3 .i64 _ _ _ rfl Try.underlying3 _ _ rfl rfl true rfl _) (mv 37 (.bool true) ?_)))))))
  simp only [z0, z1]
  refine wpList_nil (then_n (wp_cond_true rfl (wp_seq (wp_region_lit (sv 39 (.pointer (some ⟨g1, 1, none⟩)) (run_fld 40 _ 1 rfl _ _ rfl _) (sv 40 (.agg (c25 f.pw f.pn)) (run_lda 29 _ rfl g1 1 17 rfl 40 _ kg1 _ Try.underlying29 rfl si25 _) (sv 41 (.pointer (some ⟨g1, 19, none⟩)) (run_fld 40 _ 3 rfl _ _ rfl _) ?_)))))))
  simp only [z0, z1]
  refine sv 42 (.agg (c23 f.a)) (run_lda 27 _ rfl g1 19 16 rfl 40 _ kg1 _ Try.underlying27 rfl si23 _) (sv 43 (.pointer (some ⟨g1, 35, none⟩)) (run_fld 40 _ 4 rfl _ _ rfl _) (sv 44 (.agg (c23 f.b)) (run_lda 27 _ rfl g1 35 16 rfl 40 _ kg1 _ Try.underlying27 rfl si23 _) ?_))
  simp only [z0, z1]
  refine sv 45 (.pointer (some ⟨g1, 56, none⟩)) (run_fld 40 _ 8 rfl _ _ rfl _) (sv 46 (.slice f.tr.ao f.tr.n f.tr.cap) (run_ldc 32 _ rfl g1 56 rfl 40 _ kg1 (na28 _) _ rfl) (sv 47 (.agg (c85 f.pw f.pn f.a f.b f.tr)) (run_bd 73 _ rfl [(0, .agg (c25 f.pw f.pn)), (1, .agg (c23 f.a)), (2, .agg (c23 f.b)), (3, .slice f.tr.ao f.tr.n f.tr.cap)] rfl _ (by kernel_rfl)) ?_))
  simp only [z0, z1]
  refine sv 48 (.iface 73 (.agg (c85 f.pw f.pn f.a f.b f.tr))) (run_mk 73 _ rfl _ rfl) (mv 2 (.iface 73 (.agg (c85 f.pw f.pn f.a f.b f.tr))) (wpList_nil (then_n (wp_ret (blk_r (then_r ?_))))))
  refine bodyPost_ret (results_tmp Try.results14 _ _ _) rfl ?_
  exact ⟨rfl, GG⟩
set_option maxRecDepth 100000 in
set_option maxHeartbeats 4000000 in
theorem body_5 (f : Fr) (w : World) : Calls Try.prog 14 #[.agg (c36 5 f.pw f.pn f.toA f.a f.b f.n f.fi f.fn f.ti f.tn f.tr f.ids f.key f.vn f.vw f.val f.op f.ttl f.tx)] w fun e w' => e = .returned (.iface 75 (.agg (c87 f.pw f.pn))) ∧ Gro w w' := by
  refine s_enterR Try.func14 rfl Try.ntmps14 [.agg (c36 5 f.pw f.pn f.toA f.a f.b f.n f.fi f.fn f.ti f.tn f.tr f.ids f.key f.vn f.vw f.val f.op f.ttl f.tx)] ?_
  intro U h; simp only [List.length_cons, List.length_nil, List.cons_append, List.nil_append, Nat.reduceAdd, Nat.reduceSub, List.reduceReplicate] at h; subst h
  have GG := Gro.refl w
  refine wp_seq (wp_region_lit ?_)
  refine s_box 1 rfl rfl 40 _ rfl _ rfl (c36 5 f.pw f.pn f.toA f.a f.b f.n f.fi f.fn f.ti f.tn f.tr f.ids f.key f.vn f.vw f.val f.op f.ttl f.tx) rfl ?_
  intro w1 g1 G eg1 kg1
  have bg1 := size_base GG eg1
  replace GG := GG.trans G
  clear G eg1
  refine mv 2 (.nilIface) (wpList_nil (then_n (wp_seq (wp_seq (wp_region_lit (sv 3 (.pointer (some ⟨g1, 0, none⟩)) (run_fld 40 _ 0 rfl _ _ rfl _) ?_))))))
  simp only [z0, z1]
  refine sv 4 (.int .i64 5) (run_ldc 3 _ rfl g1 0 rfl 40 _ kg1 (na3 _) _ rfl) (wpList_nil (then_n (wp_block (wp_seq (wp_region_lit (sv 6 (.bool false) (run_eq_k 3 .i64 _ _ _ rfl Try.underlying3 _ _ rfl rfl false rfl _) (mv 5 (.bool false) ?_)))))))
  simp only [z0, z1]
  refine wpList_nil (then_n (wp_cond_false rfl (wp_seq (wp_region_lit (sv 16 (.bool false) (run_eq_k 3 .i64 _ _ _ rfl Try.underlying3 _ _ rfl rfl false rfl _) (mv 15 (.bool false) (wpList_nil (then_n (wp_cond_false rfl (wp_seq (wp_region_lit (sv 28 (.bool false) (run_eq_k 3 .i64 _ _ _ rfl Try.underlying3 _ _ rfl rfl false rfl _) ?_))))))))))))
  simp only [z0, z1]
  refine mv 27 (.bool false) (wpList_nil (then_n (wp_cond_false rfl (wp_seq (wp_region_lit (sv 38 (.bool false) (run_eq_k 3 .i64 _ _ _ rfl Try.underlying3 _ _ rfl rfl false rfl _) (mv 37 (.bool false) ?_)))))))
  simp only [z0, z1]
  refine wpList_nil (then_n (wp_cond_false rfl (wp_seq (wp_region_lit (sv 50 (.bool true) (run_eq_k 3 .i64 _ _ _ rfl Try.underlying3 _ _ rfl rfl true rfl _) (mv 49 (.bool true) (wpList_nil (then_n (wp_cond_true rfl (wp_seq (wp_region_lit (sv 51 (.pointer (some ⟨g1, 1, none⟩)) (run_fld 40 _ 1 rfl _ _ rfl _) ?_))))))))))))
  simp only [z0, z1]
  refine sv 52 (.agg (c25 f.pw f.pn)) (run_lda 29 _ rfl g1 1 17 rfl 40 _ kg1 _ Try.underlying29 rfl si25 _) (sv 53 (.agg (c87 f.pw f.pn)) (run_bd 75 _ rfl [(0, .agg (c25 f.pw f.pn))] rfl _ (by kernel_rfl)) (sv 54 (.iface 75 (.agg (c87 f.pw f.pn))) (run_mk 75 _ rfl _ rfl) ?_))
  simp only [z0, z1]
  refine mv 2 (.iface 75 (.agg (c87 f.pw f.pn))) (wpList_nil (then_n (wp_ret (blk_r (then_r ?_)))))
  refine bodyPost_ret (results_tmp Try.results14 _ _ _) rfl ?_
  exact ⟨rfl, GG⟩
set_option maxRecDepth 100000 in
set_option maxHeartbeats 4000000 in
theorem body_6 (f : Fr) (w : World) : Calls Try.prog 14 #[.agg (c36 6 f.pw f.pn f.toA f.a f.b f.n f.fi f.fn f.ti f.tn f.tr f.ids f.key f.vn f.vw f.val f.op f.ttl f.tx)] w fun e w' => e = .returned (.iface 77 (.agg (c89 f.pw f.pn f.toA))) ∧ Gro w w' := by
  refine s_enterR Try.func14 rfl Try.ntmps14 [.agg (c36 6 f.pw f.pn f.toA f.a f.b f.n f.fi f.fn f.ti f.tn f.tr f.ids f.key f.vn f.vw f.val f.op f.ttl f.tx)] ?_
  intro U h; simp only [List.length_cons, List.length_nil, List.cons_append, List.nil_append, Nat.reduceAdd, Nat.reduceSub, List.reduceReplicate] at h; subst h
  have GG := Gro.refl w
  refine wp_seq (wp_region_lit ?_)
  refine s_box 1 rfl rfl 40 _ rfl _ rfl (c36 6 f.pw f.pn f.toA f.a f.b f.n f.fi f.fn f.ti f.tn f.tr f.ids f.key f.vn f.vw f.val f.op f.ttl f.tx) rfl ?_
  intro w1 g1 G eg1 kg1
  have bg1 := size_base GG eg1
  replace GG := GG.trans G
  clear G eg1
  refine mv 2 (.nilIface) (wpList_nil (then_n (wp_seq (wp_seq (wp_region_lit (sv 3 (.pointer (some ⟨g1, 0, none⟩)) (run_fld 40 _ 0 rfl _ _ rfl _) ?_))))))
  simp only [z0, z1]
  refine sv 4 (.int .i64 6) (run_ldc 3 _ rfl g1 0 rfl 40 _ kg1 (na3 _) _ rfl) (wpList_nil (then_n (wp_block (wp_seq (wp_region_lit (sv 6 (.bool false) (run_eq_k 3 .i64 _ _ _ rfl Try.underlying3 _ _ rfl rfl false rfl _) (mv 5 (.bool false) ?_)))))))
  simp only [z0, z1]
  refine wpList_nil (then_n (wp_cond_false rfl (wp_seq (wp_region_lit (sv 16 (.bool false) (run_eq_k 3 .i64 _ _ _ rfl Try.underlying3 _ _ rfl rfl false rfl _) (mv 15 (.bool false) (wpList_nil (then_n (wp_cond_false rfl (wp_seq (wp_region_lit (sv 28 (.bool false) (run_eq_k 3 .i64 _ _ _ rfl Try.underlying3 _ _ rfl rfl false rfl _) ?_))))))))))))
  simp only [z0, z1]
  refine mv 27 (.bool false) (wpList_nil (then_n (wp_cond_false rfl (wp_seq (wp_region_lit (sv 38 (.bool false) (run_eq_k 3 .i64 _ _ _ rfl Try.underlying3 _ _ rfl rfl false rfl _) (mv 37 (.bool false) ?_)))))))
  simp only [z0, z1]
  refine wpList_nil (then_n (wp_cond_false rfl (wp_seq (wp_region_lit (sv 50 (.bool false) (run_eq_k 3 .i64 _ _ _ rfl Try.underlying3 _ _ rfl rfl false rfl _) (mv 49 (.bool false) (wpList_nil (then_n (wp_cond_false rfl (wp_seq (wp_region_lit (sv 56 (.bool true) (run_eq_k 3 .i64 _ _ _ rfl Try.underlying3 _ _ rfl rfl true rfl _) ?_))))))))))))
  simp only [z0, z1]
  refine mv 55 (.bool true) (wpList_nil (then_n (wp_cond_true rfl (wp_seq (wp_region_lit (sv 57 (.pointer (some ⟨g1, 1, none⟩)) (run_fld 40 _ 1 rfl _ _ rfl _) (sv 58 (.agg (c25 f.pw f.pn)) (run_lda 29 _ rfl g1 1 17 rfl 40 _ kg1 _ Try.underlying29 rfl si25 _) ?_)))))))
  simp only [z0, z1]
  refine sv 59 (.pointer (some ⟨g1, 18, none⟩)) (run_fld 40 _ 2 rfl _ _ rfl _) (sv 60 (.bool f.toA) (run_ldc 4 _ rfl g1 18 rfl 40 _ kg1 (na4 _) _ rfl) (sv 61 (.agg (c89 f.pw f.pn f.toA)) (run_bd 77 _ rfl [(0, .agg (c25 f.pw f.pn)), (1, .bool f.toA)] rfl _ (by kernel_rfl)) ?_))
  simp only [z0, z1]
  refine sv 62 (.iface 77 (.agg (c89 f.pw f.pn f.toA))) (run_mk 77 _ rfl _ rfl) (mv 2 (.iface 77 (.agg (c89 f.pw f.pn f.toA))) (wpList_nil (then_n (wp_ret (blk_r (then_r ?_))))))
  refine bodyPost_ret (results_tmp Try.results14 _ _ _) rfl ?_
  exact ⟨rfl, GG⟩
set_option maxRecDepth 100000 in
set_option maxHeartbeats 4000000 in
theorem body_7 (f : Fr) (w : World) : Calls Try.prog 14 #[.agg (c36 7 f.pw f.pn f.toA f.a f.b f.n f.fi f.fn f.ti f.tn f.tr f.ids f.key f.vn f.vw f.val f.op f.ttl f.tx)] w fun e w' => e = .returned (.iface 79 (.agg (c91 f.pw f.pn f.toA f.ids))) ∧ Gro w w' := by
  refine s_enterR Try.func14 rfl Try.ntmps14 [.agg (c36 7 f.pw f.pn f.toA f.a f.b f.n f.fi f.fn f.ti f.tn f.tr f.ids f.key f.vn f.vw f.val f.op f.ttl f.tx)] ?_
  intro U h; simp only [List.length_cons, List.length_nil, List.cons_append, List.nil_append, Nat.reduceAdd, Nat.reduceSub, List.reduceReplicate] at h; subst h
  have GG := Gro.refl w
  refine wp_seq (wp_region_lit ?_)
  refine s_box 1 rfl rfl 40 _ rfl _ rfl (c36 7 f.pw f.pn f.toA f.a f.b f.n f.fi f.fn f.ti f.tn f.tr f.ids f.key f.vn f.vw f.val f.op f.ttl f.tx) rfl ?_
  intro w1 g1 G eg1 kg1
  have bg1 := size_base GG eg1
  replace GG := GG.trans G
  clear G eg1
  refine mv 2 (.nilIface) (wpList_nil (then_n (wp_seq (wp_seq (wp_region_lit (sv 3 (.pointer (some ⟨g1, 0, none⟩)) (run_fld 40 _ 0 rfl _ _ rfl _) ?_))))))
  simp only [z0, z1]
  refine sv 4 (.int .i64 7) (run_ldc 3 _ rfl g1 0 rfl 40 _ kg1 (na3 _) _ rfl) (wpList_nil (then_n (wp_block (wp_seq (wp_region_lit (sv 6 (.bool false) (run_eq_k 3 .i64 _ _ _ rfl Try.underlying3 _ _ rfl rfl false rfl _) (mv 5 (.bool false) ?_)))))))
  simp only [z0, z1]
  refine wpList_nil (then_n (wp_cond_false rfl (wp_seq (wp_region_lit (sv 16 (.bool false) (run_eq_k 3 .i64 _ _ _ rfl Try.underlying3 _ _ rfl rfl false rfl _) (mv 15 (.bool false) (wpList_nil (then_n (wp_cond_false rfl (wp_seq (wp_region_lit (sv 28 (.bool false) (run_eq_k 3 .i64 _ _ _ rfl Try.underlying3 _ _ rfl rfl false rfl _) ?_))))))))))))
  simp only [z0, z1]
  refine mv 27 (.bool false) (wpList_nil (then_n (wp_cond_false rfl (wp_seq (wp_region_lit (sv 38 (.bool false) (run_eq_k 3 .i64 _ _ _ rfl Try.underlying3 _ _ rfl rfl false rfl _) (mv 37 (.bool false) ?_)))))))
  simp only [z0, z1]
  refine wpList_nil (then_n (wp_cond_false rfl (wp_seq (wp_region_lit (sv 50 (.bool false) (run_eq_k 3 .i64 _ _ _ rfl Try.underlying3 _ _ rfl rfl false rfl _) (mv 49 (.bool false) (wpList_nil (then_n (wp_cond_false rfl (wp_seq (wp_region_lit (sv 56 (.bool false) (run_eq_k 3 .i64 _ _ _ rfl Try.underlying3 _ _ rfl rfl false rfl _) ?_))))))))))))
  simp only [z0, z1]
  refine mv 55 (.bool false) (wpList_nil (then_n (wp_cond_false rfl (wp_seq (wp_region_lit (sv 64 (.bool true) (run_eq_k 3 .i64 _ _ _ rfl Try.underlying3 _ _ rfl rfl true rfl _) (mv 63 (.bool true) ?_)))))))
  simp only [z0, z1]
  refine wpList_nil (then_n (wp_cond_true rfl (wp_seq (wp_region_lit (sv 65 (.pointer (some ⟨g1, 1, none⟩)) (run_fld 40 _ 1 rfl _ _ rfl _) (sv 66 (.agg (c25 f.pw f.pn)) (run_lda 29 _ rfl g1 1 17 rfl 40 _ kg1 _ Try.underlying29 rfl si25 _) (sv 67 (.pointer (some ⟨g1, 18, none⟩)) (run_fld 40 _ 2 rfl _ _ rfl _) ?_)))))))
  simp only [z0, z1]
  refine sv 68 (.bool f.toA) (run_ldc 4 _ rfl g1 18 rfl 40 _ kg1 (na4 _) _ rfl) (sv 69 (.pointer (some ⟨g1, 57, none⟩)) (run_fld 40 _ 9 rfl _ _ rfl _) (sv 70 (.slice f.ids.ao f.ids.n f.ids.cap) (run_ldc 33 _ rfl g1 57 rfl 40 _ kg1 (na29 _) _ rfl) ?_))
  simp only [z0, z1]
  refine sv 71 (.agg (c91 f.pw f.pn f.toA f.ids)) (run_bd 79 _ rfl [(0, .agg (c25 f.pw f.pn)), (1, .bool f.toA), (2, .slice f.ids.ao f.ids.n f.ids.cap)] rfl _ (by kernel_rfl)) (sv 72 (.iface 79 (.agg (c91 f.pw f.pn f.toA f.ids))) (run_mk 79 _ rfl _ rfl) (mv 2 (.iface 79 (.agg (c91 f.pw f.pn f.toA f.ids))) ?_))
  simp only [z0, z1]
  refine wpList_nil (then_n (wp_ret (blk_r (then_r ?_))))
  refine bodyPost_ret (results_tmp Try.results14 _ _ _) rfl ?_
  exact ⟨rfl, GG⟩
set_option maxRecDepth 100000 in
set_option maxHeartbeats 4000000 in
theorem body_8 (f : Fr) (w : World) : Calls Try.prog 14 #[.agg (c36 8 f.pw f.pn f.toA f.a f.b f.n f.fi f.fn f.ti f.tn f.tr f.ids f.key f.vn f.vw f.val f.op f.ttl f.tx)] w fun e w' => e = .returned (.iface 81 (.agg (c93 f.a f.b f.op f.pw f.pn f.toA f.tr))) ∧ Gro w w' := by
  refine s_enterR Try.func14 rfl Try.ntmps14 [.agg (c36 8 f.pw f.pn f.toA f.a f.b f.n f.fi f.fn f.ti f.tn f.tr f.ids f.key f.vn f.vw f.val f.op f.ttl f.tx)] ?_
  intro U h; simp only [List.length_cons, List.length_nil, List.cons_append, List.nil_append, Nat.reduceAdd, Nat.reduceSub, List.reduceReplicate] at h; subst h
  have GG := Gro.refl w
  refine wp_seq (wp_region_lit ?_)
  refine s_box 1 rfl rfl 40 _ rfl _ rfl (c36 8 f.pw f.pn f.toA f.a f.b f.n f.fi f.fn f.ti f.tn f.tr f.ids f.key f.vn f.vw f.val f.op f.ttl f.tx) rfl ?_
  intro w1 g1 G eg1 kg1
  have bg1 := size_base GG eg1
  replace GG := GG.trans G
  clear G eg1
  refine mv 2 (.nilIface) (wpList_nil (then_n (wp_seq (wp_seq (wp_region_lit (sv 3 (.pointer (some ⟨g1, 0, none⟩)) (run_fld 40 _ 0 rfl _ _ rfl _) ?_))))))
  simp only [z0, z1]
  refine sv 4 (.int .i64 8) (run_ldc 3 _ rfl g1 0 rfl 40 _ kg1 (na3 _) _ rfl) (wpList_nil (then_n (wp_block (wp_seq (wp_region_lit (sv 6 (.bool false) (run_eq_k 3 .i64 _ _ _ rfl Try.underlying3 _ _ rfl rfl false rfl _) (mv 5 (.bool false) ?_)))))))
  simp only [z0, z1]
  refine wpList_nil (then_n (wp_cond_false rfl (wp_seq (wp_region_lit (sv 16 (.bool false) (run_eq_k 3 .i64 _ _ _ rfl Try.underlying3 _ _ rfl rfl false rfl _) (mv 15 (.bool false) (wpList_nil (then_n (wp_cond_false rfl (wp_seq (wp_region_lit (sv 28 (.bool false) (run_eq_k 3 .i64 _ _ _ rfl Try.underlying3 _ _ rfl rfl false rfl _) ?_))))))))))))
  simp only [z0, z1]
  refine mv 27 (.bool false) (wpList_nil (then_n (wp_cond_false rfl (wp_seq (wp_region_lit (sv 38 (.bool false) (run_eq_k 3 .i64 _ _ _ rfl Try.underlying3 _ _ rfl rfl false rfl _) (mv 37 (.bool false) ?_)))))))
  simp only [z0, z1]
  refine wpList_nil (then_n (wp_cond_false rfl (wp_seq (wp_region_lit (sv 50 (.bool false) (run_eq_k 3 .i64 _ _ _ rfl Try.underlying3 _ _ rfl rfl false rfl _) (mv 49 (.bool false) (wpList_nil (then_n (wp_cond_false rfl (wp_seq (wp_region_lit (sv 56 (.bool false) (run_eq_k 3 .i64 _ _ _ rfl Try.underlying3 _ _ rfl rfl false rfl _) ?_))))))))))))
  simp only [z0, z1]
  refine mv 55 (.bool false) (wpList_nil (then_n (wp_cond_false rfl (wp_seq (wp_region_lit (sv 64 (.bool false) (run_eq_k 3 .i64 _ _ _ rfl Try.underlying3 _ _ rfl rfl false rfl _) (mv 63 (.bool false) ?_)))))))
  simp only [z0, z1]
  refine wpList_nil (then_n (wp_cond_false rfl (wp_seq (wp_region_lit (sv 74 (.bool true) (run_eq_k 3 .i64 _ _ _ rfl Try.underlying3 _ _ rfl rfl true rfl _) (mv 73 (.bool true) (wpList_nil (then_n (wp_cond_true rfl (wp_seq (wp_region_lit (sv 75 (.pointer (some ⟨g1, 19, none⟩)) (run_fld 40 _ 3 rfl _ _ rfl _) ?_))))))))))))
  simp only [z0, z1]
  refine sv 76 (.agg (c23 f.a)) (run_lda 27 _ rfl g1 19 16 rfl 40 _ kg1 _ Try.underlying27 rfl si23 _) (sv 77 (.pointer (some ⟨g1, 35, none⟩)) (run_fld 40 _ 4 rfl _ _ rfl _) (sv 78 (.agg (c23 f.b)) (run_lda 27 _ rfl g1 35 16 rfl 40 _ kg1 _ Try.underlying27 rfl si23 _) ?_))
  simp only [z0, z1]
  refine sv 79 (.pointer (some ⟨g1, 92, none⟩)) (run_fld 40 _ 11 rfl _ _ rfl _) (sv 80 (.int .i64 f.op) (run_ldc 3 _ rfl g1 92 rfl 40 _ kg1 (na3 _) _ rfl) (sv 81 (.pointer (some ⟨g1, 1, none⟩)) (run_fld 40 _ 1 rfl _ _ rfl _) ?_))
  simp only [z0, z1]
  refine sv 82 (.agg (c25 f.pw f.pn)) (run_lda 29 _ rfl g1 1 17 rfl 40 _ kg1 _ Try.underlying29 rfl si25 _) (sv 83 (.pointer (some ⟨g1, 18, none⟩)) (run_fld 40 _ 2 rfl _ _ rfl _) (sv 84 (.bool f.toA) (run_ldc 4 _ rfl g1 18 rfl 40 _ kg1 (na4 _) _ rfl) ?_))
  simp only [z0, z1]
  refine sv 85 (.pointer (some ⟨g1, 56, none⟩)) (run_fld 40 _ 8 rfl _ _ rfl _) (sv 86 (.slice f.tr.ao f.tr.n f.tr.cap) (run_ldc 32 _ rfl g1 56 rfl 40 _ kg1 (na28 _) _ rfl) (sv 87 (.agg (c93 f.a f.b f.op f.pw f.pn f.toA f.tr)) (run_bd 81 _ rfl [(0, .agg (c23 f.a)), (1, .agg (c23 f.b)), (2, .int .i64 f.op), (3, .agg (c25 f.pw f.pn)), (4, .bool f.toA), (5, .slice f.tr.ao f.tr.n f.tr.cap)] rfl _ (by kernel_rfl)) ?_))
  simp only [z0, z1]
  refine sv 88 (.iface 81 (.agg (c93 f.a f.b f.op f.pw f.pn f.toA f.tr))) (run_mk 81 _ rfl _ rfl) (mv 2 (.iface 81 (.agg (c93 f.a f.b f.op f.pw f.pn f.toA f.tr))) (wpList_nil (then_n (wp_ret (blk_r (then_r ?_))))))
  refine bodyPost_ret (results_tmp Try.results14 _ _ _) rfl ?_
  exact ⟨rfl, GG⟩
set_option maxRecDepth 100000 in
set_option maxHeartbeats 4000000 in
theorem body_9 (f : Fr) (w : World) : Calls Try.prog 14 #[.agg (c36 9 f.pw f.pn f.toA f.a f.b f.n f.fi f.fn f.ti f.tn f.tr f.ids f.key f.vn f.vw f.val f.op f.ttl f.tx)] w fun e w' => e = .returned (.iface 83 (.agg (c95 f.a f.n))) ∧ Gro w w' := by
  refine s_enterR Try.func14 rfl Try.ntmps14 [.agg (c36 9 f.pw f.pn f.toA f.a f.b f.n f.fi f.fn f.ti f.tn f.tr f.ids f.key f.vn f.vw f.val f.op f.ttl f.tx)] ?_
  intro U h; simp only [List.length_cons, List.length_nil, List.cons_append, List.nil_append, Nat.reduceAdd, Nat.reduceSub, List.reduceReplicate] at h; subst h
  have GG := Gro.refl w
  refine wp_seq (wp_region_lit ?_)
  refine s_box 1 rfl rfl 40 _ rfl _ rfl (c36 9 f.pw f.pn f.toA f.a f.b f.n f.fi f.fn f.ti f.tn f.tr f.ids f.key f.vn f.vw f.val f.op f.ttl f.tx) rfl ?_
  intro w1 g1 G eg1 kg1
  have bg1 := size_base GG eg1
  replace GG := GG.trans G
  clear G eg1
  refine mv 2 (.nilIface) (wpList_nil (then_n (wp_seq (wp_seq (wp_region_lit (sv 3 (.pointer (some ⟨g1, 0, none⟩)) (run_fld 40 _ 0 rfl _ _ rfl _) ?_))))))
  simp only [z0, z1]
  refine sv 4 (.int .i64 9) (run_ldc 3 _ rfl g1 0 rfl 40 _ kg1 (na3 _) _ rfl) (wpList_nil (then_n (wp_block (wp_seq (wp_region_lit (sv 6 (.bool false) (run_eq_k 3 .i64 _ _ _ rfl Try.underlying3 _ _ rfl rfl false rfl _) (mv 5 (.bool false) ?_)))))))
  simp only [z0, z1]
  refine wpList_nil (then_n (wp_cond_false rfl (wp_seq (wp_region_lit (sv 16 (.bool false) (run_eq_k 3 .i64 _ _ _ rfl Try.underlying3 _ _ rfl rfl false rfl _) (mv 15 (.bool false) (wpList_nil (then_n (wp_cond_false rfl (wp_seq (wp_region_lit (sv 28 (.bool false) (run_eq_k 3 .i64 _ _ _ rfl Try.underlying3 _ _ rfl rfl false rfl _) ?_))))))))))))
  simp only [z0, z1]
  refine mv 27 (.bool false) (wpList_nil (then_n (wp_cond_false rfl (wp_seq (wp_region_lit (sv 38 (.bool false) (run_eq_k 3 .i64 _ _ _ rfl Try.underlying3 _ _ rfl rfl false rfl _) (mv 37 (.bool false) ?_)))))))
  simp only [z0, z1]
  refine wpList_nil (then_n (wp_cond_false rfl (wp_seq (wp_region_lit (sv 50 (.bool false) (run_eq_k 3 .i64 _ _ _ rfl Try.underlying3 _ _ rfl rfl false rfl _) (mv 49 (.bool false) (wpList_nil (then_n (wp_cond_false rfl (wp_seq (wp_region_lit (sv 56 (.bool false) (run_eq_k 3 .i64 _ _ _ rfl Try.underlying3 _ _ rfl rfl false rfl _) ?_))))))))))))
  simp only [z0, z1]
  refine mv 55 (.bool false) (wpList_nil (then_n (wp_cond_false rfl (wp_seq (wp_region_lit (sv 64 (.bool false) (run_eq_k 3 .i64 _ _ _ rfl Try.underlying3 _ _ rfl rfl false rfl _) (mv 63 (.bool false) ?_)))))))
  simp only [z0, z1]
  refine wpList_nil (then_n (wp_cond_false rfl (wp_seq (wp_region_lit (sv 74 (.bool false) (run_eq_k 3 .i64 _ _ _ rfl Try.underlying3 _ _ rfl rfl false rfl _) (mv 73 (.bool false) (wpList_nil (then_n (wp_cond_false rfl (wp_seq (wp_region_lit (sv 90 (.bool true) (run_eq_k 3 .i64 _ _ _ rfl Try.underlying3 _ _ rfl rfl true rfl _) ?_))))))))))))
  simp only [z0, z1]
  refine mv 89 (.bool true) (wpList_nil (then_n (wp_cond_true rfl (wp_seq (wp_region_lit (sv 91 (.pointer (some ⟨g1, 19, none⟩)) (run_fld 40 _ 3 rfl _ _ rfl _) (sv 92 (.agg (c23 f.a)) (run_lda 27 _ rfl g1 19 16 rfl 40 _ kg1 _ Try.underlying27 rfl si23 _) ?_)))))))
  simp only [z0, z1]
  refine sv 93 (.pointer (some ⟨g1, 51, none⟩)) (run_fld 40 _ 5 rfl _ _ rfl _) (sv 94 (.int .i64 f.n) (run_ldc 2 _ rfl g1 51 rfl 40 _ kg1 (na2 _) _ rfl) (sv 95 (.agg (c95 f.a f.n)) (run_bd 83 _ rfl [(0, .agg (c23 f.a)), (1, .int .i64 f.n)] rfl _ (by kernel_rfl)) ?_))
  simp only [z0, z1]
  refine sv 96 (.iface 83 (.agg (c95 f.a f.n))) (run_mk 83 _ rfl _ rfl) (mv 2 (.iface 83 (.agg (c95 f.a f.n))) (wpList_nil (then_n (wp_ret (blk_r (then_r ?_))))))
  refine bodyPost_ret (results_tmp Try.results14 _ _ _) rfl ?_
  exact ⟨rfl, GG⟩
set_option maxRecDepth 100000 in
set_option maxHeartbeats 4000000 in
theorem body_10 (f : Fr) (w : World) : Calls Try.prog 14 #[.agg (c36 10 f.pw f.pn f.toA f.a f.b f.n f.fi f.fn f.ti f.tn f.tr f.ids f.key f.vn f.vw f.val f.op f.ttl f.tx)] w fun e w' => e = .returned (.iface 85 (.agg (c97 f.a f.b f.n f.op f.ttl f.key f.vn f.vw f.val f.tx))) ∧ Gro w w' := by
  refine s_enterR Try.func14 rfl Try.ntmps14 [.agg (c36 10 f.pw f.pn f.toA f.a f.b f.n f.fi f.fn f.ti f.tn f.tr f.ids f.key f.vn f.vw f.val f.op f.ttl f.tx)] ?_
  intro U h; simp only [List.length_cons, List.length_nil, List.cons_append, List.nil_append, Nat.reduceAdd, Nat.reduceSub, List.reduceReplicate] at h; subst h
  have GG := Gro.refl w
  refine wp_seq (wp_region_lit ?_)
  refine s_box 1 rfl rfl 40 _ rfl _ rfl (c36 10 f.pw f.pn f.toA f.a f.b f.n f.fi f.fn f.ti f.tn f.tr f.ids f.key f.vn f.vw f.val f.op f.ttl f.tx) rfl ?_
  intro w1 g1 G eg1 kg1
  have bg1 := size_base GG eg1
  replace GG := GG.trans G
  clear G eg1
  refine mv 2 (.nilIface) (wpList_nil (then_n (wp_seq (wp_seq (wp_region_lit (sv 3 (.pointer (some ⟨g1, 0, none⟩)) (run_fld 40 _ 0 rfl _ _ rfl _) ?_))))))
  simp only [z0, z1]
  refine sv 4 (.int .i64 10) (run_ldc 3 _ rfl g1 0 rfl 40 _ kg1 (na3 _) _ rfl) (wpList_nil (then_n (wp_block (wp_seq (wp_region_lit (sv 6 (.bool false) (run_eq_k 3 .i64 _ _ _ rfl Try.underlying3 _ _ rfl rfl false rfl _) (mv 5 (.bool false) ?_)))))))
  simp only [z0, z1]
  refine wpList_nil (then_n (wp_cond_false rfl (wp_seq (wp_region_lit (sv 16 (.bool false) (run_eq_k 3 .i64 _ _ _ rfl Try.underlying3 _ _ rfl rfl false rfl _) (mv 15 (.bool false) (wpList_nil (then_n (wp_cond_false rfl (wp_seq (wp_region_lit (sv 28 (.bool false) (run_eq_k 3 .i64 _ _ _ rfl Try.underlying3 _ _ rfl rfl false rfl _) ?_))))))))))))
  simp only [z0, z1]
  refine mv 27 (.bool false) (wpList_nil (then_n (wp_cond_false rfl (wp_seq (wp_region_lit (sv 38 (.bool false) (run_eq_k 3 .i64 _ _ _ rfl Try.underlying3 _ _ rfl rfl false rfl _) (mv 37 (.bool false) ?_)))))))
  simp only [z0, z1]
  refine wpList_nil (then_n (wp_cond_false rfl (wp_seq (wp_region_lit (sv 50 (.bool false) (run_eq_k 3 .i64 _ _ _ rfl Try.underlying3 _ _ rfl rfl false rfl _) (mv 49 (.bool false) (wpList_nil (then_n (wp_cond_false rfl (wp_seq (wp_region_lit (sv 56 (.bool false) (run_eq_k 3 .i64 _ _ _ rfl Try.underlying3 _ _ rfl rfl false rfl _) ?_))))))))))))
  simp only [z0, z1]
  refine mv 55 (.bool false) (wpList_nil (then_n (wp_cond_false rfl (wp_seq (wp_region_lit (sv 64 (.bool false) (run_eq_k 3 .i64 _ _ _ rfl Try.underlying3 _ _ rfl rfl false rfl _) (mv 63 (.bool false) ?_)))))))
  simp only [z0, z1]
  refine wpList_nil (then_n (wp_cond_false rfl (wp_seq (wp_region_lit (sv 74 (.bool false) (run_eq_k 3 .i64 _ _ _ rfl Try.underlying3 _ _ rfl rfl false rfl _) (mv 73 (.bool false) (wpList_nil (then_n (wp_cond_false rfl (wp_seq (wp_region_lit (sv 90 (.bool false) (run_eq_k 3 .i64 _ _ _ rfl Try.underlying3 _ _ rfl rfl false rfl _) ?_))))))))))))
  simp only [z0, z1]
  refine mv 89 (.bool false) (wpList_nil (then_n (wp_cond_false rfl (wp_seq (wp_region_lit (sv 98 (.bool true) (run_eq_k 3 .i64 _ _ _ rfl Try.underlying3 _ _ rfl rfl true rfl _) (mv 97 (.bool true) ?_)))))))
  simp only [z0, z1]
  refine wpList_nil (then_n (wp_cond_true rfl (wp_seq (wp_region_lit (sv 99 (.pointer (some ⟨g1, 19, none⟩)) (run_fld 40 _ 3 rfl _ _ rfl _) (sv 100 (.agg (c23 f.a)) (run_lda 27 _ rfl g1 19 16 rfl 40 _ kg1 _ Try.underlying27 rfl si23 _) (sv 101 (.pointer (some ⟨g1, 35, none⟩)) (run_fld 40 _ 4 rfl _ _ rfl _) ?_)))))))
  simp only [z0, z1]
  refine sv 102 (.agg (c23 f.b)) (run_lda 27 _ rfl g1 35 16 rfl 40 _ kg1 _ Try.underlying27 rfl si23 _) (sv 103 (.pointer (some ⟨g1, 51, none⟩)) (run_fld 40 _ 5 rfl _ _ rfl _) (sv 104 (.int .i64 f.n) (run_ldc 2 _ rfl g1 51 rfl 40 _ kg1 (na2 _) _ rfl) ?_))
  simp only [z0, z1]
  refine sv 105 (.pointer (some ⟨g1, 92, none⟩)) (run_fld 40 _ 11 rfl _ _ rfl _) (sv 106 (.int .i64 f.op) (run_ldc 3 _ rfl g1 92 rfl 40 _ kg1 (na3 _) _ rfl) (sv 107 (.pointer (some ⟨g1, 93, none⟩)) (run_fld 40 _ 12 rfl _ _ rfl _) ?_))
  simp only [z0, z1]
  refine sv 108 (.int .i64 f.ttl) (run_ldc 3 _ rfl g1 93 rfl 40 _ kg1 (na3 _) _ rfl) (sv 109 (.pointer (some ⟨g1, 58, none⟩)) (run_fld 40 _ 10 rfl _ _ rfl _) (sv 110 (.agg (c34 f.key f.vn f.vw f.val)) (run_lda 38 _ rfl g1 58 34 rfl 40 _ kg1 _ Try.underlying38 rfl si34 _) ?_))
  simp only [z0, z1]
  refine sv 111 (.pointer (some ⟨g1, 94, none⟩)) (run_fld 40 _ 13 rfl _ _ rfl _) (sv 112 (.slice f.tx.ao f.tx.n f.tx.cap) (run_ldc 36 _ rfl g1 94 rfl 40 _ kg1 (na32 _) _ rfl) (sv 113 (.agg (c97 f.a f.b f.n f.op f.ttl f.key f.vn f.vw f.val f.tx)) (run_bd 85 _ rfl [(0, .agg (c23 f.a)), (1, .agg (c23 f.b)), (2, .int .i64 f.n), (3, .int .i64 f.op), (4, .int .i64 f.ttl), (5, .agg (c34 f.key f.vn f.vw f.val)), (6, .slice f.tx.ao f.tx.n f.tx.cap)] rfl _ (by kernel_rfl)) ?_))
  simp only [z0, z1]
  refine sv 114 (.iface 85 (.agg (c97 f.a f.b f.n f.op f.ttl f.key f.vn f.vw f.val f.tx))) (run_mk 85 _ rfl _ rfl) (mv 2 (.iface 85 (.agg (c97 f.a f.b f.n f.op f.ttl f.key f.vn f.vw f.val f.tx))) (wpList_nil (then_n (wp_ret (blk_r (then_r ?_))))))
  refine bodyPost_ret (results_tmp Try.results14 _ _ _) rfl ?_
  exact ⟨rfl, GG⟩
set_option maxRecDepth 100000 in
set_option maxHeartbeats 4000000 in
theorem body_11 (f : Fr) (w : World) : Calls Try.prog 14 #[.agg (c36 11 f.pw f.pn f.toA f.a f.b f.n f.fi f.fn f.ti f.tn f.tr f.ids f.key f.vn f.vw f.val f.op f.ttl f.tx)] w fun e w' => e = .returned (.iface 87 (.agg (c99 f.pw f.pn f.toA f.key f.vn f.vw f.val))) ∧ Gro w w' := by
  refine s_enterR Try.func14 rfl Try.ntmps14 [.agg (c36 11 f.pw f.pn f.toA f.a f.b f.n f.fi f.fn f.ti f.tn f.tr f.ids f.key f.vn f.vw f.val f.op f.ttl f.tx)] ?_
  intro U h; simp only [List.length_cons, List.length_nil, List.cons_append, List.nil_append, Nat.reduceAdd, Nat.reduceSub, List.reduceReplicate] at h; subst h
  have GG := Gro.refl w
  refine wp_seq (wp_region_lit ?_)
  refine s_box 1 rfl rfl 40 _ rfl _ rfl (c36 11 f.pw f.pn f.toA f.a f.b f.n f.fi f.fn f.ti f.tn f.tr f.ids f.key f.vn f.vw f.val f.op f.ttl f.tx) rfl ?_
  intro w1 g1 G eg1 kg1
  have bg1 := size_base GG eg1
  replace GG := GG.trans G
  clear G eg1
  refine mv 2 (.nilIface) (wpList_nil (then_n (wp_seq (wp_seq (wp_region_lit (sv 3 (.pointer (some ⟨g1, 0, none⟩)) (run_fld 40 _ 0 rfl _ _ rfl _) ?_))))))
  simp only [z0, z1]
  refine sv 4 (.int .i64 11) (run_ldc 3 _ rfl g1 0 rfl 40 _ kg1 (na3 _) _ rfl) (wpList_nil (then_n (wp_block (wp_seq (wp_region_lit (sv 6 (.bool false) (run_eq_k 3 .i64 _ _ _ rfl Try.underlying3 _ _ rfl rfl false rfl _) (mv 5 (.bool false) ?_)))))))
  simp only [z0, z1]
  refine wpList_nil (then_n (wp_cond_false rfl (wp_seq (wp_region_lit (sv 16 (.bool false) (run_eq_k 3 .i64 _ _ _ rfl Try.underlying3 _ _ rfl rfl false rfl _) (mv 15 (.bool false) (wpList_nil (then_n (wp_cond_false rfl (wp_seq (wp_region_lit (sv 28 (.bool false) (run_eq_k 3 .i64 _ _ _ rfl Try.underlying3 _ _ rfl rfl false rfl _) ?_))))))))))))
  simp only [z0, z1]
  refine mv 27 (.bool false) (wpList_nil (then_n (wp_cond_false rfl (wp_seq (wp_region_lit (sv 38 (.bool false) (run_eq_k 3 .i64 _ _ _ rfl Try.underlying3 _ _ rfl rfl false rfl _) (mv 37 (.bool false) ?_)))))))
  simp only [z0, z1]
  refine wpList_nil (then_n (wp_cond_false rfl (wp_seq (wp_region_lit (sv 50 (.bool false) (run_eq_k 3 .i64 _ _ _ rfl Try.underlying3 _ _ rfl rfl false rfl _) (mv 49 (.bool false) (wpList_nil (then_n (wp_cond_false rfl (wp_seq (wp_region_lit (sv 56 (.bool false) (run_eq_k 3 .i64 _ _ _ rfl Try.underlying3 _ _ rfl rfl false rfl _) ?_))))))))))))
  simp only [z0, z1]
  refine mv 55 (.bool false) (wpList_nil (then_n (wp_cond_false rfl (wp_seq (wp_region_lit (sv 64 (.bool false) (run_eq_k 3 .i64 _ _ _ rfl Try.underlying3 _ _ rfl rfl false rfl _) (mv 63 (.bool false) ?_)))))))
  simp only [z0, z1]
  refine wpList_nil (then_n (wp_cond_false rfl (wp_seq (wp_region_lit (sv 74 (.bool false) (run_eq_k 3 .i64 _ _ _ rfl Try.underlying3 _ _ rfl rfl false rfl _) (mv 73 (.bool false) (wpList_nil (then_n (wp_cond_false rfl (wp_seq (wp_region_lit (sv 90 (.bool false) (run_eq_k 3 .i64 _ _ _ rfl Try.underlying3 _ _ rfl rfl false rfl _) ?_))))))))))))
  simp only [z0, z1]
  refine mv 89 (.bool false) (wpList_nil (then_n (wp_cond_false rfl (wp_seq (wp_region_lit (sv 98 (.bool false) (run_eq_k 3 .i64 _ _ _ rfl Try.underlying3 _ _ rfl rfl false rfl _) (mv 97 (.bool false) ?_)))))))
  simp only [z0, z1]
  refine wpList_nil (then_n (wp_cond_false rfl (wp_seq (wp_region_lit (sv 116 (.bool true) (run_eq_k 3 .i64 _ _ _ rfl Try.underlying3 _ _ rfl rfl true rfl _) (mv 115 (.bool true) (wpList_nil (then_n (wp_cond_true rfl (wp_seq (wp_region_lit (sv 117 (.pointer (some ⟨g1, 1, none⟩)) (run_fld 40 _ 1 rfl _ _ rfl _) ?_))))))))))))
  simp only [z0, z1]
  refine sv 118 (.agg (c25 f.pw f.pn)) (run_lda 29 _ rfl g1 1 17 rfl 40 _ kg1 _ Try.underlying29 rfl si25 _) (sv 119 (.pointer (some ⟨g1, 18, none⟩)) (run_fld 40 _ 2 rfl _ _ rfl _) (sv 120 (.bool f.toA) (run_ldc 4 _ rfl g1 18 rfl 40 _ kg1 (na4 _) _ rfl) ?_))
  simp only [z0, z1]
  refine sv 121 (.pointer (some ⟨g1, 58, none⟩)) (run_fld 40 _ 10 rfl _ _ rfl _) (sv 122 (.agg (c34 f.key f.vn f.vw f.val)) (run_lda 38 _ rfl g1 58 34 rfl 40 _ kg1 _ Try.underlying38 rfl si34 _) (sv 123 (.agg (c99 f.pw f.pn f.toA f.key f.vn f.vw f.val)) (run_bd 87 _ rfl [(0, .agg (c25 f.pw f.pn)), (1, .bool f.toA), (2, .agg (c34 f.key f.vn f.vw f.val))] rfl _ (by kernel_rfl)) ?_))
  simp only [z0, z1]
  refine sv 124 (.iface 87 (.agg (c99 f.pw f.pn f.toA f.key f.vn f.vw f.val))) (run_mk 87 _ rfl _ rfl) (mv 2 (.iface 87 (.agg (c99 f.pw f.pn f.toA f.key f.vn f.vw f.val))) (wpList_nil (then_n (wp_ret (blk_r (then_r ?_))))))
  refine bodyPost_ret (results_tmp Try.results14 _ _ _) rfl ?_
  exact ⟨rfl, GG⟩
set_option maxRecDepth 100000 in
set_option maxHeartbeats 4000000 in
theorem body_12 (f : Fr) (w : World) : Calls Try.prog 14 #[.agg (c36 12 f.pw f.pn f.toA f.a f.b f.n f.fi f.fn f.ti f.tn f.tr f.ids f.key f.vn f.vw f.val f.op f.ttl f.tx)] w fun e w' => e = .returned (.iface 89 (.agg (c101 f.pw f.pn f.toA f.key f.vn f.vw))) ∧ Gro w w' := by
  refine s_enterR Try.func14 rfl Try.ntmps14 [.agg (c36 12 f.pw f.pn f.toA f.a f.b f.n f.fi f.fn f.ti f.tn f.tr f.ids f.key f.vn f.vw f.val f.op f.ttl f.tx)] ?_
  intro U h; simp only [List.length_cons, List.length_nil, List.cons_append, List.nil_append, Nat.reduceAdd, Nat.reduceSub, List.reduceReplicate] at h; subst h
  have GG := Gro.refl w
  refine wp_seq (wp_region_lit ?_)
  refine s_box 1 rfl rfl 40 _ rfl _ rfl (c36 12 f.pw f.pn f.toA f.a f.b f.n f.fi f.fn f.ti f.tn f.tr f.ids f.key f.vn f.vw f.val f.op f.ttl f.tx) rfl ?_
  intro w1 g1 G eg1 kg1
  have bg1 := size_base GG eg1
  replace GG := GG.trans G
  clear G eg1
  refine mv 2 (.nilIface) (wpList_nil (then_n (wp_seq (wp_seq (wp_region_lit (sv 3 (.pointer (some ⟨g1, 0, none⟩)) (run_fld 40 _ 0 rfl _ _ rfl _) ?_))))))
  simp only [z0, z1]
  refine sv 4 (.int .i64 12) (run_ldc 3 _ rfl g1 0 rfl 40 _ kg1 (na3 _) _ rfl) (wpList_nil (then_n (wp_block (wp_seq (wp_region_lit (sv 6 (.bool false) (run_eq_k 3 .i64 _ _ _ rfl Try.underlying3 _ _ rfl rfl false rfl _) (mv 5 (.bool false) ?_)))))))
  simp only [z0, z1]
  refine wpList_nil (then_n (wp_cond_false rfl (wp_seq (wp_region_lit (sv 16 (.bool false) (run_eq_k 3 .i64 _ _ _ rfl Try.underlying3 _ _ rfl rfl false rfl _) (mv 15 (.bool false) (wpList_nil (then_n (wp_cond_false rfl (wp_seq (wp_region_lit (sv 28 (.bool false) (run_eq_k 3 .i64 _ _ _ rfl Try.underlying3 _ _ rfl rfl false rfl _) ?_))))))))))))
  simp only [z0, z1]
  refine mv 27 (.bool false) (wpList_nil (then_n (wp_cond_false rfl (wp_seq (wp_region_lit (sv 38 (.bool false) (run_eq_k 3 .i64 _ _ _ rfl Try.underlying3 _ _ rfl rfl false rfl _) (mv 37 (.bool false) ?_)))))))
  simp only [z0, z1]
  refine wpList_nil (then_n (wp_cond_false rfl (wp_seq (wp_region_lit (sv 50 (.bool false) (run_eq_k 3 .i64 _ _ _ rfl Try.underlying3 _ _ rfl rfl false rfl _) (mv 49 (.bool false) (wpList_nil (then_n (wp_cond_false rfl (wp_seq (wp_region_lit (sv 56 (.bool false) (run_eq_k 3 .i64 _ _ _ rfl Try.underlying3 _ _ rfl rfl false rfl _) ?_))))))))))))
  simp only [z0, z1]
  refine mv 55 (.bool false) (wpList_nil (then_n (wp_cond_false rfl (wp_seq (wp_region_lit (sv 64 (.bool false) (run_eq_k 3 .i64 _ _ _ rfl Try.underlying3 _ _ rfl rfl false rfl _) (mv 63 (.bool false) ?_)))))))
  simp only [z0, z1]
  refine wpList_nil (then_n (wp_cond_false rfl (wp_seq (wp_region_lit (sv 74 (.bool false) (run_eq_k 3 .i64 _ _ _ rfl Try.underlying3 _ _ rfl rfl false rfl _) (mv 73 (.bool false) (wpList_nil (then_n (wp_cond_false rfl (wp_seq (wp_region_lit (sv 90 (.bool false) (run_eq_k 3 .i64 _ _ _ rfl Try.underlying3 _ _ rfl rfl false rfl _) ?_))))))))))))
  simp only [z0, z1]
  refine mv 89 (.bool false) (wpList_nil (then_n (wp_cond_false rfl (wp_seq (wp_region_lit (sv 98 (.bool false) (run_eq_k 3 .i64 _ _ _ rfl Try.underlying3 _ _ rfl rfl false rfl _) (mv 97 (.bool false) ?_)))))))
  simp only [z0, z1]
  refine wpList_nil (then_n (wp_cond_false rfl (wp_seq (wp_region_lit (sv 116 (.bool false) (run_eq_k 3 .i64 _ _ _ rfl Try.underlying3 _ _ rfl rfl false rfl _) (mv 115 (.bool false) (wpList_nil (then_n (wp_cond_false rfl (wp_seq (wp_region_lit (sv 126 (.bool true) (run_eq_k 3 .i64 _ _ _ rfl Try.underlying3 _ _ rfl rfl true rfl _) ?_))))))))))))
  simp only [z0, z1]
  refine mv 125 (.bool true) (wpList_nil (then_n (wp_cond_true rfl (wp_seq (wp_region_lit (sv 127 (.pointer (some ⟨g1, 1, none⟩)) (run_fld 40 _ 1 rfl _ _ rfl _) (sv 128 (.agg (c25 f.pw f.pn)) (run_lda 29 _ rfl g1 1 17 rfl 40 _ kg1 _ Try.underlying29 rfl si25 _) ?_)))))))
  simp only [z0, z1]
  refine sv 129 (.pointer (some ⟨g1, 18, none⟩)) (run_fld 40 _ 2 rfl _ _ rfl _) (sv 130 (.bool f.toA) (run_ldc 4 _ rfl g1 18 rfl 40 _ kg1 (na4 _) _ rfl) (sv 131 (.pointer (some ⟨g1, 58, none⟩)) (run_fld 40 _ 10 rfl _ _ rfl _) ?_))
  simp only [z0, z1]
  refine sv 132 (.pointer (some ⟨g1, 58, none⟩)) (run_fld 38 _ 0 rfl _ _ rfl _) (sv 133 (.agg (c23 f.key)) (run_lda 27 _ rfl g1 58 16 rfl 40 _ kg1 _ Try.underlying27 rfl si23 _) (sv 134 (.pointer (some ⟨g1, 58, none⟩)) (run_fld 40 _ 10 rfl _ _ rfl _) ?_))
  simp only [z0, z1]
  refine sv 135 (.pointer (some ⟨g1, 74, none⟩)) (run_fld 38 _ 1 rfl _ _ rfl _) (sv 136 (.agg (c31 f.vn f.vw)) (run_lda 35 _ rfl g1 74 17 rfl 40 _ kg1 _ Try.underlying35 rfl si31 _) (sv 137 (.agg (c101 f.pw f.pn f.toA f.key f.vn f.vw)) (run_bd 89 _ rfl [(0, .agg (c25 f.pw f.pn)), (1, .bool f.toA), (2, .agg (c23 f.key)), (3, .agg (c31 f.vn f.vw))] rfl _ (by kernel_rfl)) ?_))
  simp only [z0, z1]
  refine sv 138 (.iface 89 (.agg (c101 f.pw f.pn f.toA f.key f.vn f.vw))) (run_mk 89 _ rfl _ rfl) (mv 2 (.iface 89 (.agg (c101 f.pw f.pn f.toA f.key f.vn f.vw))) (wpList_nil (then_n (wp_ret (blk_r (then_r ?_))))))
  refine bodyPost_ret (results_tmp Try.results14 _ _ _) rfl ?_
  exact ⟨rfl, GG⟩
set_option maxRecDepth 100000 in
set_option maxHeartbeats 4000000 in
theorem body_none (x : Int) (h1 : ¬ x = 1) (h2 : ¬ x = 2) (h3 : ¬ x = 3) (h4 : ¬ x = 4) (h5 : ¬ x = 5) (h6 : ¬ x = 6) (h7 : ¬ x = 7) (h8 : ¬ x = 8) (h9 : ¬ x = 9) (h10 : ¬ x = 10) (h11 : ¬ x = 11) (h12 : ¬ x = 12) (f : Fr) (w : World) : Calls Try.prog 14 #[.agg (c36 x f.pw f.pn f.toA f.a f.b f.n f.fi f.fn f.ti f.tn f.tr f.ids f.key f.vn f.vw f.val f.op f.ttl f.tx)] w fun e w' => e = .returned .nilIface ∧ Gro w w' := by
  refine s_enterR Try.func14 rfl Try.ntmps14 [.agg (c36 x f.pw f.pn f.toA f.a f.b f.n f.fi f.fn f.ti f.tn f.tr f.ids f.key f.vn f.vw f.val f.op f.ttl f.tx)] ?_
  intro U h; simp only [List.length_cons, List.length_nil, List.cons_append, List.nil_append, Nat.reduceAdd, Nat.reduceSub, List.reduceReplicate] at h; subst h
  have GG := Gro.refl w
  refine wp_seq (wp_region_lit ?_)
  refine s_box 1 rfl rfl 40 _ rfl _ rfl (c36 x f.pw f.pn f.toA f.a f.b f.n f.fi f.fn f.ti f.tn f.tr f.ids f.key f.vn f.vw f.val f.op f.ttl f.tx) rfl ?_
  intro w1 g1 G eg1 kg1
  have bg1 := size_base GG eg1
  replace GG := GG.trans G
  clear G eg1
  refine mv 2 (.nilIface) (wpList_nil (then_n (wp_seq (wp_seq (wp_region_lit (sv 3 (.pointer (some ⟨g1, 0, none⟩)) (run_fld 40 _ 0 rfl _ _ rfl _) ?_))))))
  simp only [z0, z1]
  refine sv 4 (.int .i64 x) (run_ldc 3 _ rfl g1 0 rfl 40 _ kg1 (na3 _) _ rfl) (wpList_nil (then_n (wp_block (wp_seq (wp_region_lit (sv 6 (.bool false) (run_eq_k 3 .i64 _ _ _ rfl Try.underlying3 x 1 rfl rfl false (decide_eq_false h1) _) (mv 5 (.bool false) ?_)))))))
  simp only [z0, z1]
  refine wpList_nil (then_n (wp_cond_false rfl (wp_seq (wp_region_lit (sv 16 (.bool false) (run_eq_k 3 .i64 _ _ _ rfl Try.underlying3 x 2 rfl rfl false (decide_eq_false h2) _) (mv 15 (.bool false) (wpList_nil (then_n (wp_cond_false rfl (wp_seq (wp_region_lit (sv 28 (.bool false) (run_eq_k 3 .i64 _ _ _ rfl Try.underlying3 x 3 rfl rfl false (decide_eq_false h3) _) ?_))))))))))))
  simp only [z0, z1]
  refine mv 27 (.bool false) (wpList_nil (then_n (wp_cond_false rfl (wp_seq (wp_region_lit (sv 38 (.bool false) (run_eq_k 3 .i64 _ _ _ rfl Try.underlying3 x 4 rfl rfl false (decide_eq_false h4) _) (mv 37 (.bool false) ?_)))))))
  simp only [z0, z1]
  refine wpList_nil (then_n (wp_cond_false rfl (wp_seq (wp_region_lit (sv 50 (.bool false) (run_eq_k 3 .i64 _ _ _ rfl Try.underlying3 x 5 rfl rfl false (decide_eq_false h5) _) (mv 49 (.bool false) (wpList_nil (then_n (wp_cond_false rfl (wp_seq (wp_region_lit (sv 56 (.bool false) (run_eq_k 3 .i64 _ _ _ rfl Try.underlying3 x 6 rfl rfl false (decide_eq_false h6) _) ?_))))))))))))
  simp only [z0, z1]
  refine mv 55 (.bool false) (wpList_nil (then_n (wp_cond_false rfl (wp_seq (wp_region_lit (sv 64 (.bool false) (run_eq_k 3 .i64 _ _ _ rfl Try.underlying3 x 7 rfl rfl false (decide_eq_false h7) _) (mv 63 (.bool false) ?_)))))))
  simp only [z0, z1]
  refine wpList_nil (then_n (wp_cond_false rfl (wp_seq (wp_region_lit (sv 74 (.bool false) (run_eq_k 3 .i64 _ _ _ rfl Try.underlying3 x 8 rfl rfl false (decide_eq_false h8) _) (mv 73 (.bool false) (wpList_nil (then_n (wp_cond_false rfl (wp_seq (wp_region_lit (sv 90 (.bool false) (run_eq_k 3 .i64 _ _ _ rfl Try.underlying3 x 9 rfl rfl false (decide_eq_false h9) _) ?_))))))))))))
  simp only [z0, z1]
  refine mv 89 (.bool false) (wpList_nil (then_n (wp_cond_false rfl (wp_seq (wp_region_lit (sv 98 (.bool false) (run_eq_k 3 .i64 _ _ _ rfl Try.underlying3 x 10 rfl rfl false (decide_eq_false h10) _) (mv 97 (.bool false) ?_)))))))
  simp only [z0, z1]
  refine wpList_nil (then_n (wp_cond_false rfl (wp_seq (wp_region_lit (sv 116 (.bool false) (run_eq_k 3 .i64 _ _ _ rfl Try.underlying3 x 11 rfl rfl false (decide_eq_false h11) _) (mv 115 (.bool false) (wpList_nil (then_n (wp_cond_false rfl (wp_seq (wp_region_lit (sv 126 (.bool false) (run_eq_k 3 .i64 _ _ _ rfl Try.underlying3 x 12 rfl rfl false (decide_eq_false h12) _) ?_))))))))))))
  simp only [z0, z1]
  refine mv 125 (.bool false) (wpList_nil (then_n (wp_cond_false rfl (wp_skip (blk_n (then_n (wp_seq (wp_region_lit (mv 2 (.nilIface) (wpList_nil (then_n (wp_ret ?_))))))))))))
  refine bodyPost_ret (results_tmp Try.results14 _ _ _) rfl ?_
  exact ⟨rfl, GG⟩
theorem body_any (k : Nat) (h1 : 1 ≤ k) (h2 : k ≤ 12) (f : Fr) (hk : f.kind = (k : Int)) (w : World) : Calls Try.prog 14 #[.agg (frA f)] w fun e w' => e = .returned (bodyV k f) ∧ Gro w w' := by
  unfold frA
  rw [hk]
  rcases is12 h1 h2 with rfl | rfl | rfl | rfl | rfl | rfl | rfl | rfl | rfl | rfl | rfl | rfl
  · exact body_1 f w
  · exact body_2 f w
  · exact body_3 f w
  · exact body_4 f w
  · exact body_5 f w
  · exact body_6 f w
  · exact body_7 f w
  · exact body_8 f w
  · exact body_9 f w
  · exact body_10 f w
  · exact body_11 f w
  · exact body_12 f w
theorem body_not (f : Fr) (hk : ¬ (1 ≤ f.kind ∧ f.kind ≤ 12)) (w : World) : Calls Try.prog 14 #[.agg (frA f)] w fun e w' => e = .returned .nilIface ∧ Gro w w' :=
  body_none f.kind (by omega) (by omega) (by omega) (by omega) (by omega) (by omega) (by omega) (by omega) (by omega) (by omega) (by omega) (by omega) f w
theorem bodyV_if (k : Nat) (h1 : 1 ≤ k) (h2 : k ≤ 12) (f : Fr) : ∃ t v, bodyV k f = .iface t v := by
  rcases is12 h1 h2 with rfl | rfl | rfl | rfl | rfl | rfl | rfl | rfl | rfl | rfl | rfl | rfl <;> exact ⟨_, _, rfl⟩
structure KindOK (b : Value) (k : Int) : Prop where
  run : ∀ w, ∃ f vs, (callMethod b "Kind" #[]).run Try.prog w = .ok (.enter f (List.toArray vs)) w ∧ Calls Try.prog f (List.toArray vs) w fun e w' => e = .returned (.int .i64 k) ∧ Gro w w'
theorem run_inv {P : Program} {o : Oper} {A : Act} {w : World} (x : Operand) (m : String) (ho : o.op = .call { callee := .invoke x m, args := #[], argTypes := #[] }) (b : Value) (hx : A.eval x = b) {n : Next} (h : (callMethod b m #[]).run P w = .ok n w) : (execOp A.eval o).run P w = .ok n w := by
  unfold execOp
  simp only [ho, resolve, Sem.run_bind, Sem.run_pure, Result.andThen_ok, hx]
  simp [invoke, h]
theorem s_invokeK {ops : Array Oper} {rest : List Oper} {o : Oper} {T : List Value} {ds : List Deferred} {w : World} {Q : Exit → Act → World → Prop} (dst : Nat) (hd : o.dst = some dst) (hgd : o.guard = none) (x : Operand) (ho : o.op = .call { callee := .invoke x "Kind", args := #[], argTypes := #[] }) (b : Value) (hx : (⟨T.toArray, ds⟩ : Act).eval x = b) (k : Int) (H : KindOK b k)
    (h : ∀ w', Gro w w' → wpList Try.prog ops Q rest ⟨(T.set dst (.int .i64 k)).toArray, ds⟩ w') : wpList Try.prog ops Q (o :: rest) ⟨T.toArray, ds⟩ w := by
  obtain ⟨f, vs, h1, h2⟩ := H.run w
  exact s_invoke dst hd hgd f vs (run_inv x "Kind" ho b hx h1) h2 h
set_option maxRecDepth 100000 in
set_option maxHeartbeats 4000000 in
theorem kind_1 (x0 : Int) (x1 : Int) (x2 : Int) (x3 : Int) (x4 : Nat → Nat) (w : World) : Calls Try.prog 84 #[.agg (c79 x0 x1 x2 x3 x4)] w fun e w' => e = .returned (.int .i64 1) ∧ Gro w w' := by
  refine s_enter Try.func84 rfl Try.ntmps84 [.agg (c79 x0 x1 x2 x3 x4)] [.agg (c79 x0 x1 x2 x3 x4), undef, undef] rfl ?_
  have GG := Gro.refl w
  refine wp_seq (wp_region_lit ?_)
  refine s_box 1 rfl rfl 67 _ rfl _ rfl (c79 x0 x1 x2 x3 x4) rfl ?_
  intro w1 g1 G eg1 kg1
  have bg1 := size_base GG eg1
  replace GG := GG.trans G
  clear G eg1
  refine mv 2 (.int .i64 0) (wpList_nil (then_n (wp_seq (wp_region_lit (mv 2 (.int .i64 1) ?_)))))
  simp only [z0, z1]
  refine wpList_nil (then_n (wp_ret ?_))
  refine bodyPost_ret (results_tmp Try.results84 _ _ _) rfl ?_
  exact ⟨rfl, GG⟩
set_option maxRecDepth 100000 in
set_option maxHeartbeats 4000000 in
theorem kind_2 (x0 : Int) (x1 : Int) (x2 : Int) (x3 : Int) (x4 : Int) (x5 : Sl) (w : World) : Calls Try.prog 85 #[.agg (c81 x0 x1 x2 x3 x4 x5)] w fun e w' => e = .returned (.int .i64 2) ∧ Gro w w' := by
  refine s_enter Try.func85 rfl Try.ntmps85 [.agg (c81 x0 x1 x2 x3 x4 x5)] [.agg (c81 x0 x1 x2 x3 x4 x5), undef, undef] rfl ?_
  have GG := Gro.refl w
  refine wp_seq (wp_region_lit ?_)
  refine s_box 1 rfl rfl 69 _ rfl _ rfl (c81 x0 x1 x2 x3 x4 x5) rfl ?_
  intro w1 g1 G eg1 kg1
  have bg1 := size_base GG eg1
  replace GG := GG.trans G
  clear G eg1
  refine mv 2 (.int .i64 0) (wpList_nil (then_n (wp_seq (wp_region_lit (mv 2 (.int .i64 2) ?_)))))
  simp only [z0, z1]
  refine wpList_nil (then_n (wp_ret ?_))
  refine bodyPost_ret (results_tmp Try.results85 _ _ _) rfl ?_
  exact ⟨rfl, GG⟩
set_option maxRecDepth 100000 in
set_option maxHeartbeats 4000000 in
theorem kind_3 (x0 : Int) (x1 : Int) (x2 : Int) (x3 : Int) (x4 : Int) (w : World) : Calls Try.prog 86 #[.agg (c83 x0 x1 x2 x3 x4)] w fun e w' => e = .returned (.int .i64 3) ∧ Gro w w' := by
  refine s_enter Try.func86 rfl Try.ntmps86 [.agg (c83 x0 x1 x2 x3 x4)] [.agg (c83 x0 x1 x2 x3 x4), undef, undef] rfl ?_
  have GG := Gro.refl w
  refine wp_seq (wp_region_lit ?_)
  refine s_box 1 rfl rfl 71 _ rfl _ rfl (c83 x0 x1 x2 x3 x4) rfl ?_
  intro w1 g1 G eg1 kg1
  have bg1 := size_base GG eg1
  replace GG := GG.trans G
  clear G eg1
  refine mv 2 (.int .i64 0) (wpList_nil (then_n (wp_seq (wp_region_lit (mv 2 (.int .i64 3) ?_)))))
  simp only [z0, z1]
  refine wpList_nil (then_n (wp_ret ?_))
  refine bodyPost_ret (results_tmp Try.results86 _ _ _) rfl ?_
  exact ⟨rfl, GG⟩
set_option maxRecDepth 100000 in
set_option maxHeartbeats 4000000 in
theorem kind_4 (x0 : Nat → Nat) (x1 : Int) (x2 : Nat → Nat) (x3 : Nat → Nat) (x4 : Sl) (w : World) : Calls Try.prog 87 #[.agg (c85 x0 x1 x2 x3 x4)] w fun e w' => e = .returned (.int .i64 4) ∧ Gro w w' := by
  refine s_enter Try.func87 rfl Try.ntmps87 [.agg (c85 x0 x1 x2 x3 x4)] [.agg (c85 x0 x1 x2 x3 x4), undef, undef] rfl ?_
  have GG := Gro.refl w
  refine wp_seq (wp_region_lit ?_)
  refine s_box 1 rfl rfl 73 _ rfl _ rfl (c85 x0 x1 x2 x3 x4) rfl ?_
  intro w1 g1 G eg1 kg1
  have bg1 := size_base GG eg1
  replace GG := GG.trans G
  clear G eg1
  refine mv 2 (.int .i64 0) (wpList_nil (then_n (wp_seq (wp_region_lit (mv 2 (.int .i64 4) ?_)))))
  simp only [z0, z1]
  refine wpList_nil (then_n (wp_ret ?_))
  refine bodyPost_ret (results_tmp Try.results87 _ _ _) rfl ?_
  exact ⟨rfl, GG⟩
set_option maxRecDepth 100000 in
set_option maxHeartbeats 4000000 in
theorem kind_5 (x0 : Nat → Nat) (x1 : Int) (w : World) : Calls Try.prog 88 #[.agg (c87 x0 x1)] w fun e w' => e = .returned (.int .i64 5) ∧ Gro w w' := by
  refine s_enter Try.func88 rfl Try.ntmps88 [.agg (c87 x0 x1)] [.agg (c87 x0 x1), undef, undef] rfl ?_
  have GG := Gro.refl w
  refine wp_seq (wp_region_lit ?_)
  refine s_box 1 rfl rfl 75 _ rfl _ rfl (c87 x0 x1) rfl ?_
  intro w1 g1 G eg1 kg1
  have bg1 := size_base GG eg1
  replace GG := GG.trans G
  clear G eg1
  refine mv 2 (.int .i64 0) (wpList_nil (then_n (wp_seq (wp_region_lit (mv 2 (.int .i64 5) ?_)))))
  simp only [z0, z1]
  refine wpList_nil (then_n (wp_ret ?_))
  refine bodyPost_ret (results_tmp Try.results88 _ _ _) rfl ?_
  exact ⟨rfl, GG⟩
set_option maxRecDepth 100000 in
set_option maxHeartbeats 4000000 in
theorem kind_6 (x0 : Nat → Nat) (x1 : Int) (x2 : Bool) (w : World) : Calls Try.prog 89 #[.agg (c89 x0 x1 x2)] w fun e w' => e = .returned (.int .i64 6) ∧ Gro w w' := by
  refine s_enter Try.func89 rfl Try.ntmps89 [.agg (c89 x0 x1 x2)] [.agg (c89 x0 x1 x2), undef, undef] rfl ?_
  have GG := Gro.refl w
  refine wp_seq (wp_region_lit ?_)
  refine s_box 1 rfl rfl 77 _ rfl _ rfl (c89 x0 x1 x2) rfl ?_
  intro w1 g1 G eg1 kg1
  have bg1 := size_base GG eg1
  replace GG := GG.trans G
  clear G eg1
  refine mv 2 (.int .i64 0) (wpList_nil (then_n (wp_seq (wp_region_lit (mv 2 (.int .i64 6) ?_)))))
  simp only [z0, z1]
  refine wpList_nil (then_n (wp_ret ?_))
  refine bodyPost_ret (results_tmp Try.results89 _ _ _) rfl ?_
  exact ⟨rfl, GG⟩
set_option maxRecDepth 100000 in
set_option maxHeartbeats 4000000 in
theorem kind_7 (x0 : Nat → Nat) (x1 : Int) (x2 : Bool) (x3 : Sl) (w : World) : Calls Try.prog 90 #[.agg (c91 x0 x1 x2 x3)] w fun e w' => e = .returned (.int .i64 7) ∧ Gro w w' := by
  refine s_enter Try.func90 rfl Try.ntmps90 [.agg (c91 x0 x1 x2 x3)] [.agg (c91 x0 x1 x2 x3), undef, undef] rfl ?_
  have GG := Gro.refl w
  refine wp_seq (wp_region_lit ?_)
  refine s_box 1 rfl rfl 79 _ rfl _ rfl (c91 x0 x1 x2 x3) rfl ?_
  intro w1 g1 G eg1 kg1
  have bg1 := size_base GG eg1
  replace GG := GG.trans G
  clear G eg1
  refine mv 2 (.int .i64 0) (wpList_nil (then_n (wp_seq (wp_region_lit (mv 2 (.int .i64 7) ?_)))))
  simp only [z0, z1]
  refine wpList_nil (then_n (wp_ret ?_))
  refine bodyPost_ret (results_tmp Try.results90 _ _ _) rfl ?_
  exact ⟨rfl, GG⟩
set_option maxRecDepth 100000 in
set_option maxHeartbeats 4000000 in
theorem kind_8 (x0 : Nat → Nat) (x1 : Nat → Nat) (x2 : Int) (x3 : Nat → Nat) (x4 : Int) (x5 : Bool) (x6 : Sl) (w : World) : Calls Try.prog 91 #[.agg (c93 x0 x1 x2 x3 x4 x5 x6)] w fun e w' => e = .returned (.int .i64 8) ∧ Gro w w' := by
  refine s_enter Try.func91 rfl Try.ntmps91 [.agg (c93 x0 x1 x2 x3 x4 x5 x6)] [.agg (c93 x0 x1 x2 x3 x4 x5 x6), undef, undef] rfl ?_
  have GG := Gro.refl w
  refine wp_seq (wp_region_lit ?_)
  refine s_box 1 rfl rfl 81 _ rfl _ rfl (c93 x0 x1 x2 x3 x4 x5 x6) rfl ?_
  intro w1 g1 G eg1 kg1
  have bg1 := size_base GG eg1
  replace GG := GG.trans G
  clear G eg1
  refine mv 2 (.int .i64 0) (wpList_nil (then_n (wp_seq (wp_region_lit (mv 2 (.int .i64 8) ?_)))))
  simp only [z0, z1]
  refine wpList_nil (then_n (wp_ret ?_))
  refine bodyPost_ret (results_tmp Try.results91 _ _ _) rfl ?_
  exact ⟨rfl, GG⟩
set_option maxRecDepth 100000 in
set_option maxHeartbeats 4000000 in
theorem kind_9 (x0 : Nat → Nat) (x1 : Int) (w : World) : Calls Try.prog 92 #[.agg (c95 x0 x1)] w fun e w' => e = .returned (.int .i64 9) ∧ Gro w w' := by
  refine s_enter Try.func92 rfl Try.ntmps92 [.agg (c95 x0 x1)] [.agg (c95 x0 x1), undef, undef] rfl ?_
  have GG := Gro.refl w
  refine wp_seq (wp_region_lit ?_)
  refine s_box 1 rfl rfl 83 _ rfl _ rfl (c95 x0 x1) rfl ?_
  intro w1 g1 G eg1 kg1
  have bg1 := size_base GG eg1
  replace GG := GG.trans G
  clear G eg1
  refine mv 2 (.int .i64 0) (wpList_nil (then_n (wp_seq (wp_region_lit (mv 2 (.int .i64 9) ?_)))))
  simp only [z0, z1]
  refine wpList_nil (then_n (wp_ret ?_))
  refine bodyPost_ret (results_tmp Try.results92 _ _ _) rfl ?_
  exact ⟨rfl, GG⟩
set_option maxRecDepth 100000 in
set_option maxHeartbeats 4000000 in
theorem kind_10 (x0 : Nat → Nat) (x1 : Nat → Nat) (x2 : Int) (x3 : Int) (x4 : Int) (x5 : Nat → Nat) (x6 : Int) (x7 : Nat → Nat) (x8 : Sl) (x9 : Sl) (w : World) : Calls Try.prog 93 #[.agg (c97 x0 x1 x2 x3 x4 x5 x6 x7 x8 x9)] w fun e w' => e = .returned (.int .i64 10) ∧ Gro w w' := by
  refine s_enter Try.func93 rfl Try.ntmps93 [.agg (c97 x0 x1 x2 x3 x4 x5 x6 x7 x8 x9)] [.agg (c97 x0 x1 x2 x3 x4 x5 x6 x7 x8 x9), undef, undef] rfl ?_
  have GG := Gro.refl w
  refine wp_seq (wp_region_lit ?_)
  refine s_box 1 rfl rfl 85 _ rfl _ rfl (c97 x0 x1 x2 x3 x4 x5 x6 x7 x8 x9) rfl ?_
  intro w1 g1 G eg1 kg1
  have bg1 := size_base GG eg1
  replace GG := GG.trans G
  clear G eg1
  refine mv 2 (.int .i64 0) (wpList_nil (then_n (wp_seq (wp_region_lit (mv 2 (.int .i64 10) ?_)))))
  simp only [z0, z1]
  refine wpList_nil (then_n (wp_ret ?_))
  refine bodyPost_ret (results_tmp Try.results93 _ _ _) rfl ?_
  exact ⟨rfl, GG⟩
set_option maxRecDepth 100000 in
set_option maxHeartbeats 4000000 in
theorem kind_11 (x0 : Nat → Nat) (x1 : Int) (x2 : Bool) (x3 : Nat → Nat) (x4 : Int) (x5 : Nat → Nat) (x6 : Sl) (w : World) : Calls Try.prog 94 #[.agg (c99 x0 x1 x2 x3 x4 x5 x6)] w fun e w' => e = .returned (.int .i64 11) ∧ Gro w w' := by
  refine s_enter Try.func94 rfl Try.ntmps94 [.agg (c99 x0 x1 x2 x3 x4 x5 x6)] [.agg (c99 x0 x1 x2 x3 x4 x5 x6), undef, undef] rfl ?_
  have GG := Gro.refl w
  refine wp_seq (wp_region_lit ?_)
  refine s_box 1 rfl rfl 87 _ rfl _ rfl (c99 x0 x1 x2 x3 x4 x5 x6) rfl ?_
  intro w1 g1 G eg1 kg1
  have bg1 := size_base GG eg1
  replace GG := GG.trans G
  clear G eg1
  refine mv 2 (.int .i64 0) (wpList_nil (then_n (wp_seq (wp_region_lit (mv 2 (.int .i64 11) ?_)))))
  simp only [z0, z1]
  refine wpList_nil (then_n (wp_ret ?_))
  refine bodyPost_ret (results_tmp Try.results94 _ _ _) rfl ?_
  exact ⟨rfl, GG⟩
set_option maxRecDepth 100000 in
set_option maxHeartbeats 4000000 in
theorem kind_12 (x0 : Nat → Nat) (x1 : Int) (x2 : Bool) (x3 : Nat → Nat) (x4 : Int) (x5 : Nat → Nat) (w : World) : Calls Try.prog 95 #[.agg (c101 x0 x1 x2 x3 x4 x5)] w fun e w' => e = .returned (.int .i64 12) ∧ Gro w w' := by
  refine s_enter Try.func95 rfl Try.ntmps95 [.agg (c101 x0 x1 x2 x3 x4 x5)] [.agg (c101 x0 x1 x2 x3 x4 x5), undef, undef] rfl ?_
  have GG := Gro.refl w
  refine wp_seq (wp_region_lit ?_)
  refine s_box 1 rfl rfl 89 _ rfl _ rfl (c101 x0 x1 x2 x3 x4 x5) rfl ?_
  intro w1 g1 G eg1 kg1
  have bg1 := size_base GG eg1
  replace GG := GG.trans G
  clear G eg1
  refine mv 2 (.int .i64 0) (wpList_nil (then_n (wp_seq (wp_region_lit (mv 2 (.int .i64 12) ?_)))))
  simp only [z0, z1]
  refine wpList_nil (then_n (wp_ret ?_))
  refine bodyPost_ret (results_tmp Try.results95 _ _ _) rfl ?_
  exact ⟨rfl, GG⟩
theorem kind_any (k : Nat) (h1 : 1 ≤ k) (h2 : k ≤ 12) (f : Fr) : KindOK (bodyV k f) (k : Int) := by
  rcases is12 h1 h2 with rfl | rfl | rfl | rfl | rfl | rfl | rfl | rfl | rfl | rfl | rfl | rfl
  · exact ⟨fun w => ⟨84, [.agg (c79 f.fi f.fn f.ti f.tn f.a)], by kernel_rfl, kind_1 f.fi f.fn f.ti f.tn f.a w⟩⟩
  · exact ⟨fun w => ⟨85, [.agg (c81 f.fi f.fn f.ti f.tn f.n f.tx)], by kernel_rfl, kind_2 f.fi f.fn f.ti f.tn f.n f.tx w⟩⟩
  · exact ⟨fun w => ⟨86, [.agg (c83 f.fi f.fn f.ti f.tn f.n)], by kernel_rfl, kind_3 f.fi f.fn f.ti f.tn f.n w⟩⟩
  · exact ⟨fun w => ⟨87, [.agg (c85 f.pw f.pn f.a f.b f.tr)], by kernel_rfl, kind_4 f.pw f.pn f.a f.b f.tr w⟩⟩
  · exact ⟨fun w => ⟨88, [.agg (c87 f.pw f.pn)], by kernel_rfl, kind_5 f.pw f.pn w⟩⟩
  · exact ⟨fun w => ⟨89, [.agg (c89 f.pw f.pn f.toA)], by kernel_rfl, kind_6 f.pw f.pn f.toA w⟩⟩
  · exact ⟨fun w => ⟨90, [.agg (c91 f.pw f.pn f.toA f.ids)], by kernel_rfl, kind_7 f.pw f.pn f.toA f.ids w⟩⟩
  · exact ⟨fun w => ⟨91, [.agg (c93 f.a f.b f.op f.pw f.pn f.toA f.tr)], by kernel_rfl, kind_8 f.a f.b f.op f.pw f.pn f.toA f.tr w⟩⟩
  · exact ⟨fun w => ⟨92, [.agg (c95 f.a f.n)], by kernel_rfl, kind_9 f.a f.n w⟩⟩
  · exact ⟨fun w => ⟨93, [.agg (c97 f.a f.b f.n f.op f.ttl f.key f.vn f.vw f.val f.tx)], by kernel_rfl, kind_10 f.a f.b f.n f.op f.ttl f.key f.vn f.vw f.val f.tx w⟩⟩
  · exact ⟨fun w => ⟨94, [.agg (c99 f.pw f.pn f.toA f.key f.vn f.vw f.val)], by kernel_rfl, kind_11 f.pw f.pn f.toA f.key f.vn f.vw f.val w⟩⟩
  · exact ⟨fun w => ⟨95, [.agg (c101 f.pw f.pn f.toA f.key f.vn f.vw)], by kernel_rfl, kind_12 f.pw f.pn f.toA f.key f.vn f.vw w⟩⟩
end Go.Proofs.Ythmcnlmphikicab
