/- Whether a body is right (frame.Right), and whether a frame has nothing beside what counts. -/
import Derived.Test.YthmcnlmphikicabZG3
namespace Go.Proofs.Ythmcnlmphikicab
open Go.RowKit
set_option maxRecDepth 100000 in
set_option maxHeartbeats 4000000 in
theorem right_gen (b : Value) (g : Fr) (dd : FD) (ob : Bool) (w : World) (Hf : ∀ w, Calls Try.prog 17 #[b] w fun e w' => e = .returned (.tuple #[.agg (c36 g.kind g.pw g.pn g.toA g.a g.b g.n g.fi g.fn g.ti g.tn g.tr g.ids g.key g.vn g.vw g.val g.op g.ttl g.tx), .bool true]) ∧ Gro w w') (Ho : ∀ w, Calls Try.prog 20 #[b] w fun e w' => e = .returned (.bool ob) ∧ Gro w w') (HW : FrW w g dd) (hl : dd.tr.length ≤ 140737488355000) : Calls Try.prog 9 #[b] w fun e w' => e = .returned (.bool (rightB g dd ob)) ∧ Gro w w' := by
  refine s_enterR Try.func9 rfl Try.ntmps9 [b] ?_
  intro U h; simp only [List.length_cons, List.length_nil, List.cons_append, List.nil_append, Nat.reduceAdd, Nat.reduceSub, List.reduceReplicate] at h; subst h
  have GG := Gro.refl w
  refine wp_seq (wp_region_lit (mv 2 (.bool false) (wpList_nil (then_n (wp_seq (wp_region_lit (mv 6 (b) ?_)))))))
  refine s_callv 7 rfl rfl _ 17 Try.call17 rfl rfl _ rfl [b] rfl (Hf _) ?_
  intro w1 G
  replace GG := GG.trans G
  clear G
  simp only [z0, z1]
  refine mv 5 (.tuple #[.agg (c36 g.kind g.pw g.pn g.toA g.a g.b g.n g.fi g.fn g.ti g.tn g.tr g.ids g.key g.vn g.vw g.val g.op g.ttl g.tx), .bool true]) (mv 8 (.agg (c36 g.kind g.pw g.pn g.toA g.a g.b g.n g.fi g.fn g.ti g.tn g.tr g.ids g.key g.vn g.vw g.val g.op g.ttl g.tx)) (mv 9 (.bool true) ?_))
  simp only [z0, z1]
  refine s_alloc 3 rfl rfl 40 rfl _ zv36 _ rfl ?_
  intro w2 g1 G eg1 kg1
  have bg1 := size_base GG eg1
  replace GG := GG.trans G
  clear G eg1
  refine s_store rfl rfl 40 _ _ rfl g1 0 rfl (.agg (c36 g.kind g.pw g.pn g.toA g.a g.b g.n g.fi g.fn g.ti g.tn g.tr g.ids g.key g.vn g.vw g.val g.op g.ttl g.tx)) rfl 40 _ kg1 (c36 g.kind g.pw g.pn g.toA g.a g.b g.n g.fi g.fn g.ti g.tn g.tr g.ids g.key g.vn g.vw g.val g.op g.ttl g.tx) rfl (by kernel_rfl) (Nat.le_of_ble_eq_true rfl) (by kernel_rfl) (c36 g.kind g.pw g.pn g.toA g.a g.b g.n g.fi g.fn g.ti g.tn g.tr g.ids g.key g.vn g.vw g.val g.op g.ttl g.tx) (by kernel_rfl) ?_
  intro w4 S
  replace GG := GG.store S bg1
  replace kg1 := S.new
  clear S
  refine mv 4 (.bool true) (wpList_nil (then_n (wp_seq (wp_region_lit (mv 10 (.bool true) ?_)))))
  simp only [z0, z1]
  refine mv 11 (.bool true) (s_gval 12 rfl rfl (.agg (c36 g.kind g.pw g.pn g.toA g.a g.b g.n g.fi g.fn g.ti g.tn g.tr g.ids g.key g.vn g.vw g.val g.op g.ttl g.tx)) (run_lda 40 _ rfl g1 0 95 rfl 40 _ kg1 _ Try.underlying40 rfl si36 _) ?_)
  simp only [z0, z1]
  obtain ⟨p1, hp1⟩ : ∃ p, numB g = p := ⟨_, rfl⟩
  have HC := numbersRight_any g w4
  rw [hp1] at HC
  refine s_gcallv 13 rfl rfl _ 18 Try.call18 rfl rfl _ rfl [.agg (c36 g.kind g.pw g.pn g.toA g.a g.b g.n g.fi g.fn g.ti g.tn g.tr g.ids g.key g.vn g.vw g.val g.op g.ttl g.tx)] rfl (HC) ?_
  intro w5 G
  replace kg1 := G.has kg1
  replace GG := GG.trans G
  clear G
  simp only [z0, z1]
  clear HC
  cases p1
  refine s_val _ rfl rfl (.bool false) rfl ?_
  refine s_val _ rfl rfl (.bool false) rfl ?_
  simp only [z0, z1]
  iterate 2 (refine s_skip _ rfl rfl ?_; simp only [z0, z1])
  refine s_val _ rfl rfl (.bool false) rfl ?_
  refine s_val _ rfl rfl (.bool false) rfl ?_
  simp only [z0, z1]
  iterate 2 (refine s_skip _ rfl rfl ?_; simp only [z0, z1])
  refine s_val _ rfl rfl (.bool false) rfl ?_
  refine s_val _ rfl rfl (.bool false) rfl ?_
  refine wpList_nil (then_n (wp_ret ?_))
  refine bodyPost_ret (results_tmp Try.results9 _ _ _) rfl ?_
  refine ⟨?_, GG⟩
  show Ending.returned (.bool false) = _
  unfold rightB
  rw [hp1]
  first | done | rfl
  refine mv 14 (.bool true) ?_
  simp only [z0, z1]
  refine mv 15 (.bool true) (s_gval 16 rfl rfl (.agg (c36 g.kind g.pw g.pn g.toA g.a g.b g.n g.fi g.fn g.ti g.tn g.tr g.ids g.key g.vn g.vw g.val g.op g.ttl g.tx)) (run_lda 40 _ rfl g1 0 95 rfl 40 _ kg1 _ Try.underlying40 rfl si36 _) ?_)
  simp only [z0, z1]
  obtain ⟨p2, hp2⟩ : ∃ p, listB g dd = p := ⟨_, rfl⟩
  have HC := listsRight_any g dd _ (HW.gro GG) hl
  rw [hp2] at HC
  refine s_gcallv 17 rfl rfl _ 19 Try.call19 rfl rfl _ rfl [.agg (c36 g.kind g.pw g.pn g.toA g.a g.b g.n g.fi g.fn g.ti g.tn g.tr g.ids g.key g.vn g.vw g.val g.op g.ttl g.tx)] rfl (HC) ?_
  intro w6 G
  replace kg1 := G.has kg1
  replace GG := GG.trans G
  clear G
  simp only [z0, z1]
  clear HC
  cases p2
  refine s_val _ rfl rfl (.bool false) rfl ?_
  refine s_val _ rfl rfl (.bool false) rfl ?_
  simp only [z0, z1]
  iterate 2 (refine s_skip _ rfl rfl ?_; simp only [z0, z1])
  refine s_val _ rfl rfl (.bool false) rfl ?_
  refine s_val _ rfl rfl (.bool false) rfl ?_
  refine wpList_nil (then_n (wp_ret ?_))
  refine bodyPost_ret (results_tmp Try.results9 _ _ _) rfl ?_
  refine ⟨?_, GG⟩
  show Ending.returned (.bool false) = _
  unfold rightB
  rw [hp1, hp2]
  first | done | rfl
  refine mv 18 (.bool true) ?_
  simp only [z0, z1]
  refine mv 19 (.bool true) (s_gval 20 rfl rfl (b) (rfl) ?_)
  simp only [z0, z1]
  obtain ⟨p3, hp3⟩ : ∃ p, ob = p := ⟨_, rfl⟩
  have HC := Ho w6
  rw [hp3] at HC
  refine s_gcallv 21 rfl rfl _ 20 Try.call20 rfl rfl _ rfl [b] rfl (HC) ?_
  intro w7 G
  replace kg1 := G.has kg1
  replace GG := GG.trans G
  clear G
  simp only [z0, z1]
  clear HC
  cases p3
  refine s_val _ rfl rfl (.bool false) rfl ?_
  refine s_val _ rfl rfl (.bool false) rfl ?_
  refine wpList_nil (then_n (wp_ret ?_))
  refine bodyPost_ret (results_tmp Try.results9 _ _ _) rfl ?_
  refine ⟨?_, GG⟩
  show Ending.returned (.bool false) = _
  unfold rightB
  rw [hp1, hp2, hp3]
  first | done | rfl
  refine mv 22 (.bool true) ?_
  simp only [z0, z1]
  refine mv 2 (.bool true) (wpList_nil (then_n (wp_ret ?_)))
  refine bodyPost_ret (results_tmp Try.results9 _ _ _) rfl ?_
  refine ⟨?_, GG⟩
  show Ending.returned (.bool true) = _
  unfold rightB
  rw [hp1, hp2, hp3]
  first | done | rfl
set_option maxRecDepth 100000 in
set_option maxHeartbeats 4000000 in
theorem right_nil (w : World) : Calls Try.prog 9 #[.nilIface] w fun e w' => e = .returned (.bool false) ∧ Gro w w' := by
  refine s_enterR Try.func9 rfl Try.ntmps9 [.nilIface] ?_
  intro U h; simp only [List.length_cons, List.length_nil, List.cons_append, List.nil_append, Nat.reduceAdd, Nat.reduceSub, List.reduceReplicate] at h; subst h
  have GG := Gro.refl w
  refine wp_seq (wp_region_lit (mv 2 (.bool false) (wpList_nil (then_n (wp_seq (wp_region_lit (mv 6 (.nilIface) ?_)))))))
  refine s_callv 7 rfl rfl _ 17 Try.call17 rfl rfl _ rfl [.nilIface] rfl (fields_nil _) ?_
  intro w1 G
  replace GG := GG.trans G
  clear G
  simp only [z0, z1]
  refine mv 5 (.tuple #[.agg (c36 0 zF 0 false zF zF 0 0 0 0 0 Sl.nil Sl.nil zF 0 zF Sl.nil 0 0 Sl.nil), .bool false]) (mv 8 (.agg (c36 0 zF 0 false zF zF 0 0 0 0 0 Sl.nil Sl.nil zF 0 zF Sl.nil 0 0 Sl.nil)) (mv 9 (.bool false) ?_))
  simp only [z0, z1]
  refine s_alloc 3 rfl rfl 40 rfl _ zv36 _ rfl ?_
  intro w2 g1 G eg1 kg1
  have bg1 := size_base GG eg1
  replace GG := GG.trans G
  clear G eg1
  refine s_store rfl rfl 40 _ _ rfl g1 0 rfl (.agg (c36 0 zF 0 false zF zF 0 0 0 0 0 Sl.nil Sl.nil zF 0 zF Sl.nil 0 0 Sl.nil)) rfl 40 _ kg1 (c36 0 zF 0 false zF zF 0 0 0 0 0 Sl.nil Sl.nil zF 0 zF Sl.nil 0 0 Sl.nil) rfl (by kernel_rfl) (Nat.le_of_ble_eq_true rfl) (by kernel_rfl) (c36 0 zF 0 false zF zF 0 0 0 0 0 Sl.nil Sl.nil zF 0 zF Sl.nil 0 0 Sl.nil) (by kernel_rfl) ?_
  intro w4 S
  replace GG := GG.store S bg1
  replace kg1 := S.new
  clear S
  refine mv 4 (.bool false) (wpList_nil (then_n (wp_seq (wp_region_lit (mv 10 (.bool false) ?_)))))
  simp only [z0, z1]
  refine mv 11 (.bool false) (s_skip 12 rfl rfl (s_skip 13 rfl rfl ?_))
  simp only [z0, z1]
  refine mv 14 (.bool false) (mv 15 (.bool false) (s_skip 16 rfl rfl ?_))
  simp only [z0, z1]
  refine s_skip 17 rfl rfl (mv 18 (.bool false) (mv 19 (.bool false) ?_))
  simp only [z0, z1]
  refine s_skip 20 rfl rfl (s_skip 21 rfl rfl (mv 22 (.bool false) ?_))
  simp only [z0, z1]
  refine mv 2 (.bool false) (wpList_nil (then_n (wp_ret ?_)))
  refine bodyPost_ret (results_tmp Try.results9 _ _ _) rfl ?_
  exact ⟨rfl, GG⟩
end Go.Proofs.Ythmcnlmphikicab
