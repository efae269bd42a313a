/- Whether a body is right (frame.Right), and whether a frame has nothing beside what counts. -/
import Derived.Test.YthmcnlmphikicaaDG3
namespace Go.Proofs.Ythmcnlmphikicaa
open Go.RowKit
set_option maxRecDepth 100000 in
set_option maxHeartbeats 4000000 in
theorem right_gen (b : Value) (g : Fr) (dd : FD) (ob : Bool) (w : World) (Hf : ∀ w, Calls Try.prog 36 #[b] w fun e w' => e = .returned (.tuple #[.agg (c36 g.kind g.pw g.pn g.toA g.a g.b g.n g.fi g.fn g.ti g.tn g.tr g.ids g.key g.vn g.vw g.val g.op g.ttl g.tx), .bool true]) ∧ Gro w w') (Ho : ∀ w, Calls Try.prog 39 #[b] w fun e w' => e = .returned (.bool ob) ∧ Gro w w') (HW : FrW w g dd) (hl : dd.tr.length ≤ 140737488355000) : Calls Try.prog 18 #[b] w fun e w' => e = .returned (.bool (rightB g dd ob)) ∧ Gro w w' := by
  refine s_enterR Try.func18 rfl Try.ntmps18 [b] ?_
  intro U h; simp only [List.length_cons, List.length_nil, List.cons_append, List.nil_append, Nat.reduceAdd, Nat.reduceSub, List.reduceReplicate] at h; subst h
  have GG := Gro.refl w
  refine wp_seq (wp_region_lit (mv 2 (.bool false) (wpList_nil (then_n (wp_seq (wp_region_lit (mv 6 (b) ?_)))))))
  simp only [z0, z1]
  refine s_callv 7 rfl rfl _ 36 Try.call36 rfl rfl _ rfl [b] rfl (Hf _) ?_
  intro w1 G
  replace GG := GG.trans G
  clear G
  refine mv 5 (.tuple #[.agg (c36 g.kind g.pw g.pn g.toA g.a g.b g.n g.fi g.fn g.ti g.tn g.tr g.ids g.key g.vn g.vw g.val g.op g.ttl g.tx), .bool true]) ?_
  simp only [z0, z1]
  refine mv 8 (.agg (c36 g.kind g.pw g.pn g.toA g.a g.b g.n g.fi g.fn g.ti g.tn g.tr g.ids g.key g.vn g.vw g.val g.op g.ttl g.tx)) (mv 9 (.bool true) ?_)
  simp only [z0, z1]
  refine s_alloc 3 rfl rfl 36 rfl _ zv36 _ rfl ?_
  intro w2 g1 G eg1 kg1
  have bg1 := size_base GG eg1
  replace GG := GG.trans G
  clear G eg1
  refine s_store rfl rfl 36 _ _ rfl g1 0 rfl (.agg (c36 g.kind g.pw g.pn g.toA g.a g.b g.n g.fi g.fn g.ti g.tn g.tr g.ids g.key g.vn g.vw g.val g.op g.ttl g.tx)) rfl 36 _ kg1 (c36 g.kind g.pw g.pn g.toA g.a g.b g.n g.fi g.fn g.ti g.tn g.tr g.ids g.key g.vn g.vw g.val g.op g.ttl g.tx) rfl (by kernel_rfl) (Nat.le_of_ble_eq_true rfl) (by kernel_rfl) (c36 g.kind g.pw g.pn g.toA g.a g.b g.n g.fi g.fn g.ti g.tn g.tr g.ids g.key g.vn g.vw g.val g.op g.ttl g.tx) (by kernel_rfl) ?_
  intro w4 S
  replace GG := GG.store S bg1
  replace kg1 := S.new
  clear S
  refine mv 4 (.bool true) ?_
  simp only [z0, z1]
  refine wpList_nil (then_n (wp_seq (wp_region_lit (mv 10 (.bool true) (mv 11 (.bool true) ?_)))))
  simp only [z0, z1]
  refine s_gval 12 rfl rfl (.agg (c36 g.kind g.pw g.pn g.toA g.a g.b g.n g.fi g.fn g.ti g.tn g.tr g.ids g.key g.vn g.vw g.val g.op g.ttl g.tx)) (run_lda 36 _ rfl g1 0 95 rfl 36 _ kg1 _ Try.underlying36 rfl si36 _) ?_
  simp only [z0, z1]
  obtain ⟨p1, hp1⟩ : ∃ p, numB g = p := ⟨_, rfl⟩
  have HC := numbersRight_any g w4
  rw [hp1] at HC
  refine s_gcallv 13 rfl rfl _ 37 Try.call37 rfl rfl _ rfl [.agg (c36 g.kind g.pw g.pn g.toA g.a g.b g.n g.fi g.fn g.ti g.tn g.tr g.ids g.key g.vn g.vw g.val g.op g.ttl g.tx)] rfl (HC) ?_
  intro w5 G
  replace kg1 := G.has kg1
  replace GG := GG.trans G
  clear G
  simp only [z0, z1]
  clear HC
  cases p1
  refine s_val _ rfl rfl (.bool false) rfl ?_
  refine s_val _ rfl rfl (.bool false) rfl ?_
  simp only [z0, z1]
  iterate 2 (refine s_skip _ rfl rfl ?_; simp only [z0, z1])
  refine s_val _ rfl rfl (.bool false) rfl ?_
  refine s_val _ rfl rfl (.bool false) rfl ?_
  simp only [z0, z1]
  iterate 2 (refine s_skip _ rfl rfl ?_; simp only [z0, z1])
  refine s_val _ rfl rfl (.bool false) rfl ?_
  refine s_val _ rfl rfl (.bool false) rfl ?_
  simp only [z0, z1]
  refine wpList_nil (then_n (wp_ret ?_))
  refine bodyPost_ret (results_tmp Try.results18 _ _ _) rfl ?_
  refine ⟨?_, GG⟩
  show Ending.returned (.bool false) = _
  unfold rightB
  rw [hp1]
  first | done | rfl
  refine mv 14 (.bool true) (mv 15 (.bool true) ?_)
  simp only [z0, z1]
  refine s_gval 16 rfl rfl (.agg (c36 g.kind g.pw g.pn g.toA g.a g.b g.n g.fi g.fn g.ti g.tn g.tr g.ids g.key g.vn g.vw g.val g.op g.ttl g.tx)) (run_lda 36 _ rfl g1 0 95 rfl 36 _ kg1 _ Try.underlying36 rfl si36 _) ?_
  simp only [z0, z1]
  obtain ⟨p2, hp2⟩ : ∃ p, listB g dd = p := ⟨_, rfl⟩
  have HC := listsRight_any g dd _ (HW.gro GG) hl
  rw [hp2] at HC
  refine s_gcallv 17 rfl rfl _ 38 Try.call38 rfl rfl _ rfl [.agg (c36 g.kind g.pw g.pn g.toA g.a g.b g.n g.fi g.fn g.ti g.tn g.tr g.ids g.key g.vn g.vw g.val g.op g.ttl g.tx)] rfl (HC) ?_
  intro w6 G
  replace kg1 := G.has kg1
  replace GG := GG.trans G
  clear G
  simp only [z0, z1]
  clear HC
  cases p2
  refine s_val _ rfl rfl (.bool false) rfl ?_
  refine s_val _ rfl rfl (.bool false) rfl ?_
  simp only [z0, z1]
  iterate 2 (refine s_skip _ rfl rfl ?_; simp only [z0, z1])
  refine s_val _ rfl rfl (.bool false) rfl ?_
  refine s_val _ rfl rfl (.bool false) rfl ?_
  simp only [z0, z1]
  refine wpList_nil (then_n (wp_ret ?_))
  refine bodyPost_ret (results_tmp Try.results18 _ _ _) rfl ?_
  refine ⟨?_, GG⟩
  show Ending.returned (.bool false) = _
  unfold rightB
  rw [hp1, hp2]
  first | done | rfl
  refine mv 18 (.bool true) (mv 19 (.bool true) ?_)
  simp only [z0, z1]
  refine s_gval 20 rfl rfl (b) (rfl) ?_
  simp only [z0, z1]
  obtain ⟨p3, hp3⟩ : ∃ p, ob = p := ⟨_, rfl⟩
  have HC := Ho w6
  rw [hp3] at HC
  refine s_gcallv 21 rfl rfl _ 39 Try.call39 rfl rfl _ rfl [b] rfl (HC) ?_
  intro w7 G
  replace kg1 := G.has kg1
  replace GG := GG.trans G
  clear G
  simp only [z0, z1]
  clear HC
  cases p3
  refine s_val _ rfl rfl (.bool false) rfl ?_
  refine s_val _ rfl rfl (.bool false) rfl ?_
  simp only [z0, z1]
  refine wpList_nil (then_n (wp_ret ?_))
  refine bodyPost_ret (results_tmp Try.results18 _ _ _) rfl ?_
  refine ⟨?_, GG⟩
  show Ending.returned (.bool false) = _
  unfold rightB
  rw [hp1, hp2, hp3]
  first | done | rfl
  refine mv 22 (.bool true) (mv 2 (.bool true) ?_)
  simp only [z0, z1]
  refine wpList_nil (then_n (wp_ret ?_))
  refine bodyPost_ret (results_tmp Try.results18 _ _ _) rfl ?_
  refine ⟨?_, GG⟩
  show Ending.returned (.bool true) = _
  unfold rightB
  rw [hp1, hp2, hp3]
  first | done | rfl
end Go.Proofs.Ythmcnlmphikicaa
