/- Any frame is laid in bytes as the document says, or refused (FrameEncodes). -/
import Derived.Test.YthmcnlmphikicaaEL11
import Derived.Test.YthmcnlmphikicaaEL4
import Derived.Test.YthmcnlmphikicaaEK4
import Derived.Test.YthmcnlmphikicaaEL6
import Derived.Test.YthmcnlmphikicaaEL7
namespace Go.Proofs.Ythmcnlmphikicaa
open Go.RowKit
theorem same_eqr {f g h : Fr} {d e : FD} (E : EqF g h) : sameB f g d e = sameB f h d e := by
  unfold sameB
  rw [E.pw, E.pn, E.toA, E.a, E.b, E.n, E.fi, E.fn, E.ti, E.tn, E.op, E.ttl, E.key, E.vn, E.vw]
theorem same_eql {f g h : Fr} {d e : FD} (E : EqF f g) : sameB f h d e = sameB g h d e := by
  unfold sameB
  rw [E.pw, E.pn, E.toA, E.a, E.b, E.n, E.fi, E.fn, E.ti, E.tn, E.op, E.ttl, E.key, E.vn, E.vw]
/-- A frame with rows of its own that say the same. -/
structure CopyOf (f c : Fr) (d : FD) : Prop where
  eq : EqF c f
  kind : c.kind = f.kind
  small : FrS c
  num : FrR c
  same : ∀ k : Nat, 1 ≤ k → k ≤ 12 → sameB c (bare k c) d (bareD k d) = sameB f (bare k f) d (bareD k d)
  ok : ∀ k : Nat, 1 ≤ k → k ≤ 12 → okF c d (formL (k : Int)) (formL (k : Int)).length = rightB (bare k f) (bareD k d) (ownB k f)
  bytes : ∀ k : Nat, 1 ≤ k → k ≤ 12 → frameL k c d = frameL k f d
theorem copy_c (f : Fr) (d : FD) (w : World) (HF : FrW w f d) (HS : FrS f) (HR : FrR f) : Calls Try.prog 9 #[.agg (frA f)] w fun e w' => ∃ c : Fr, e = .returned (.agg (frA c)) ∧ CopyOf f c d ∧ FrO w' w.heap.size c d ∧ Gro w w' := by
  refine (copy_d f d w HF HS).mono fun e w' ⟨s1, s2, s3, s4, he, HO, G⟩ => ⟨_, he, ?_, HO, G⟩
  have e1 : s1.n = f.tr.n := HO.frw.trn.trans HF.trn.symm
  have e2 : s2.n = f.ids.n := HO.frw.idn.trans HF.idn.symm
  have e3 : s3.n = f.val.n := HO.frw.valn.trans HF.valn.symm
  have e4 : s4.n = f.tx.n := HO.frw.txn.trans HF.txn.symm
  have E : EqF ({ f with tr := s1, ids := s2, val := s3, tx := s4 } : Fr) f := ⟨rfl, rfl, rfl, rfl, rfl, rfl, rfl, rfl, rfl, rfl, rfl, rfl, rfl, rfl, rfl⟩
  refine ⟨E, rfl, ⟨⟨by show s1.n * 8 ≤ _; rw [e1]; exact HS.tr.out⟩, ⟨by show s2.n * 16 ≤ _; rw [e2]; exact HS.ids.out⟩, ⟨by show s3.n * 1 ≤ _; rw [e3]; exact HS.val.out⟩, ⟨by show s4.n * 1 ≤ _; rw [e4]; exact HS.tx.out⟩⟩, ⟨HR.pw, HR.a, HR.b, HR.key, HR.vw, HR.pn, HR.n, HR.fi, HR.fn, HR.ti, HR.tn, HR.vn, HR.op, HR.ttl⟩, fun k h1 h2 => ?_, fun k h1 h2 => ?_, fun k h1 h2 => ?_⟩
  · rw [same_eql E, same_eqr (bare_eqf k h1 h2 f s1 s2 s3 s4)]
  · have a1 := right_eq k h1 h2 f d s1 s2 s3 s4 e1 e2 e3 e4
    have a2 := right_eq k h1 h2 ({ f with tr := s1, ids := s2, val := s3, tx := s4 } : Fr) d s1 s2 s3 s4 rfl rfl rfl rfl
    have a3 := right_eq k h1 h2 f d f.tr f.ids f.val f.tx rfl rfl rfl rfl
    rw [← a2]
    exact a1.trans a3.symm
  · rcases is12 h1 h2 with rfl | rfl | rfl | rfl | rfl | rfl | rfl | rfl | rfl | rfl | rfl | rfl <;> rfl
set_option maxRecDepth 100000 in
set_option maxHeartbeats 4000000 in
theorem encode_no (f : Fr) (d : FD) (w : World) (HF : FrW w f d) (HS : FrS f) (_ : Lens d) (hk : ¬ (1 ≤ f.kind ∧ f.kind ≤ 12)) : Calls Try.prog 11 #[.agg (c36 f.kind f.pw f.pn f.toA f.a f.b f.n f.fi f.fn f.ti f.tn f.tr f.ids f.key f.vn f.vw f.val f.op f.ttl f.tx)] w fun e w' => e = .returned (.tuple #[.slice none 0 0, .int .i64 1]) ∧ Gro w w' := by
  refine s_enterR Try.func11 rfl Try.ntmps11 [.agg (c36 f.kind f.pw f.pn f.toA f.a f.b f.n f.fi f.fn f.ti f.tn f.tr f.ids f.key f.vn f.vw f.val f.op f.ttl f.tx)] ?_
  intro U h; simp only [List.length_cons, List.length_nil, List.cons_append, List.nil_append, Nat.reduceAdd, Nat.reduceSub, List.reduceReplicate] at h; subst h
  have GG := Gro.refl w
  refine wp_seq (wp_region_lit ?_)
  refine s_box 1 rfl rfl 36 _ rfl _ rfl (c36 f.kind f.pw f.pn f.toA f.a f.b f.n f.fi f.fn f.ti f.tn f.tr f.ids f.key f.vn f.vw f.val f.op f.ttl f.tx) rfl ?_
  intro w1 g1 G eg1 kg1
  have bg1 := size_base GG eg1
  replace GG := GG.trans G
  clear G eg1
  refine mv 2 (.slice none 0 0) (mv 3 (.int .i64 0) (wpList_nil (then_n (wp_seq (wp_region_lit (sv 12 (.agg (c36 f.kind f.pw f.pn f.toA f.a f.b f.n f.fi f.fn f.ti f.tn f.tr f.ids f.key f.vn f.vw f.val f.op f.ttl f.tx)) (run_lda 36 _ rfl g1 0 95 rfl 36 _ kg1 _ Try.underlying36 rfl si36 _) ?_))))))
  refine s_callv 13 rfl rfl _ 17 Try.call17 rfl rfl _ rfl [.agg (c36 f.kind f.pw f.pn f.toA f.a f.b f.n f.fi f.fn f.ti f.tn f.tr f.ids f.key f.vn f.vw f.val f.op f.ttl f.tx)] rfl (bare_no f hk d _ (HF.gro GG) HS) ?_
  intro w2 G
  replace kg1 := G.has kg1
  replace GG := GG.trans G
  clear G
  refine nr ?_; intro U h; simp only [z0, z1] at h; subst h
  refine mv 11 (.tuple #[.agg (c36 0 zF 0 false zF zF 0 0 0 0 0 Sl.nil Sl.nil zF 0 zF Sl.nil 0 0 Sl.nil), .bool false]) (mv 14 (.agg (c36 0 zF 0 false zF zF 0 0 0 0 0 Sl.nil Sl.nil zF 0 zF Sl.nil 0 0 Sl.nil)) (mv 15 (.bool false) ?_))
  refine s_alloc 4 rfl rfl 36 rfl _ zv36 _ rfl ?_
  intro w3 g2 G eg2 kg2
  have bg2 := size_base GG eg2
  have dg1g2 := lt_new kg1 eg2
  replace kg1 := G.has kg1
  replace GG := GG.trans G
  clear G eg2
  refine s_store rfl rfl 36 _ _ rfl g2 0 rfl (.agg (c36 0 zF 0 false zF zF 0 0 0 0 0 Sl.nil Sl.nil zF 0 zF Sl.nil 0 0 Sl.nil)) rfl 36 _ kg2 (c36 0 zF 0 false zF zF 0 0 0 0 0 Sl.nil Sl.nil zF 0 zF Sl.nil 0 0 Sl.nil) rfl (by kernel_rfl) (Nat.le_of_ble_eq_true rfl) (by kernel_rfl) (c36 0 zF 0 false zF zF 0 0 0 0 0 Sl.nil Sl.nil zF 0 zF Sl.nil 0 0 Sl.nil) (by kernel_rfl) ?_
  intro w5 St
  replace kg1 := St.has (by omega) kg1
  replace GG := GG.store St bg2
  replace kg2 := St.new
  clear St
  refine mv 5 (.bool false) ?_
  refine nr ?_; intro U h; simp only [z0, z1] at h; subst h
  refine wpList_nil (then_n (wp_seq (wp_seq ?_)))
  refine wp_region_opq ?_
  intro OPS hY
  have y2 := hY 2 18 rfl
  have y8 := hY 8 24 rfl
  clear hY
  refine mv 16 (.bool false) (sv 17 (.bool true) (run_nt _ _ rfl false rfl) (mv 18 (.bool true) (s_skipY 19 rfl rfl y2 rfl (s_skipY 20 rfl rfl y2 rfl ?_))))
  refine nr ?_; intro U h; simp only [z0, z1] at h; subst h
  refine s_skipY 21 rfl rfl y2 rfl (s_skipY 22 rfl rfl y2 rfl (mv 23 (.bool true) (mv 24 (.bool true) (s_skipY 25 rfl rfl y8 rfl ?_))))
  refine nr ?_; intro U h; simp only [z0, z1] at h; subst h
  refine s_skipY 26 rfl rfl y8 rfl (s_skipY 27 rfl rfl y8 rfl (mv 28 (.bool true) (wpList_nil (then_n (wp_cond_true rfl (wp_seq (wp_region_lit (mv 2 (.slice none 0 0) (mv 3 (.int .i64 1) ?_)))))))))
  refine nr ?_; intro U h; simp only [z0, z1] at h; subst h
  refine wpList_nil (then_n (wp_ret (then_r ?_)))
  refine bodyPost_ret (results_tmp2 Try.results11 _ _ _) rfl ?_
  exact ⟨rfl, GG⟩
set_option maxRecDepth 100000 in
set_option maxHeartbeats 4000000 in
theorem encode_unlike (f : Fr) (d : FD) (w : World) (HF : FrW w f d) (HS : FrS f) (hl : Lens d) (k : Nat) (h1 : 1 ≤ k) (h2 : k ≤ 12) (hk : f.kind = (k : Int)) (hs : sameB f (bare k f) d (bareD k d) = false) : Calls Try.prog 11 #[.agg (c36 f.kind f.pw f.pn f.toA f.a f.b f.n f.fi f.fn f.ti f.tn f.tr f.ids f.key f.vn f.vw f.val f.op f.ttl f.tx)] w fun e w' => e = .returned (.tuple #[.slice none 0 0, .int .i64 1]) ∧ Gro w w' := by
  refine s_enterR Try.func11 rfl Try.ntmps11 [.agg (c36 f.kind f.pw f.pn f.toA f.a f.b f.n f.fi f.fn f.ti f.tn f.tr f.ids f.key f.vn f.vw f.val f.op f.ttl f.tx)] ?_
  intro U h; simp only [List.length_cons, List.length_nil, List.cons_append, List.nil_append, Nat.reduceAdd, Nat.reduceSub, List.reduceReplicate] at h; subst h
  have GG := Gro.refl w
  refine wp_seq (wp_region_lit ?_)
  refine s_box 1 rfl rfl 36 _ rfl _ rfl (c36 f.kind f.pw f.pn f.toA f.a f.b f.n f.fi f.fn f.ti f.tn f.tr f.ids f.key f.vn f.vw f.val f.op f.ttl f.tx) rfl ?_
  intro w1 g1 G eg1 kg1
  have bg1 := size_base GG eg1
  replace GG := GG.trans G
  clear G eg1
  refine mv 2 (.slice none 0 0) (mv 3 (.int .i64 0) (wpList_nil (then_n (wp_seq (wp_region_lit (sv 12 (.agg (c36 f.kind f.pw f.pn f.toA f.a f.b f.n f.fi f.fn f.ti f.tn f.tr f.ids f.key f.vn f.vw f.val f.op f.ttl f.tx)) (run_lda 36 _ rfl g1 0 95 rfl 36 _ kg1 _ Try.underlying36 rfl si36 _) ?_))))))
  refine s_callx 13 rfl rfl _ 17 Try.call17 rfl rfl _ rfl [.agg (c36 f.kind f.pw f.pn f.toA f.a f.b f.n f.fi f.fn f.ti f.tn f.tr f.ids f.key f.vn f.vw f.val f.op f.ttl f.tx)] rfl (bare_k k h1 h2 f hk d _ (HF.gro GG) HS) (fun _ _ ⟨_, he, _⟩ => ⟨_, he⟩) ?_
  rintro v w2 ⟨g, he, G, hgE, hgk, HG⟩
  cases he
  replace kg1 := G.has kg1
  replace GG := GG.trans G
  clear G
  refine nr ?_; intro U h; simp only [z0, z1] at h; subst h
  refine mv 11 (.tuple #[.agg (c36 g.kind g.pw g.pn g.toA g.a g.b g.n g.fi g.fn g.ti g.tn g.tr g.ids g.key g.vn g.vw g.val g.op g.ttl g.tx), .bool true]) (mv 14 (.agg (c36 g.kind g.pw g.pn g.toA g.a g.b g.n g.fi g.fn g.ti g.tn g.tr g.ids g.key g.vn g.vw g.val g.op g.ttl g.tx)) (mv 15 (.bool true) ?_))
  refine s_alloc 4 rfl rfl 36 rfl _ zv36 _ rfl ?_
  intro w3 g2 G eg2 kg2
  have bg2 := size_base GG eg2
  have dg1g2 := lt_new kg1 eg2
  replace kg1 := G.has kg1
  replace HG := HG.gro G
  replace GG := GG.trans G
  clear G eg2
  refine s_store rfl rfl 36 _ _ rfl g2 0 rfl (.agg (c36 g.kind g.pw g.pn g.toA g.a g.b g.n g.fi g.fn g.ti g.tn g.tr g.ids g.key g.vn g.vw g.val g.op g.ttl g.tx)) rfl 36 _ kg2 (c36 g.kind g.pw g.pn g.toA g.a g.b g.n g.fi g.fn g.ti g.tn g.tr g.ids g.key g.vn g.vw g.val g.op g.ttl g.tx) rfl (by kernel_rfl) (Nat.le_of_ble_eq_true rfl) (by kernel_rfl) (c36 g.kind g.pw g.pn g.toA g.a g.b g.n g.fi g.fn g.ti g.tn g.tr g.ids g.key g.vn g.vw g.val g.op g.ttl g.tx) (by kernel_rfl) ?_
  intro w5 St
  replace kg1 := St.has (by omega) kg1
  replace HG := HG.stT St kg2
  replace GG := GG.store St bg2
  replace kg2 := St.new
  clear St
  refine mv 5 (.bool true) ?_
  refine nr ?_; intro U h; simp only [z0, z1] at h; subst h
  refine wpList_nil (then_n (wp_seq (wp_seq ?_)))
  refine wp_region_opq ?_
  intro OPS hY
  have y2 := hY 2 18 rfl
  have y8 := hY 8 24 rfl
  clear hY
  refine mv 16 (.bool true) (sv 17 (.bool false) (run_nt _ _ rfl true rfl) (mv 18 (.bool false) (s_gvalY 19 rfl rfl y2 rfl (.agg (c36 f.kind f.pw f.pn f.toA f.a f.b f.n f.fi f.fn f.ti f.tn f.tr f.ids f.key f.vn f.vw f.val f.op f.ttl f.tx)) (run_lda 36 _ rfl g1 0 95 rfl 36 _ kg1 _ Try.underlying36 rfl si36 _) (s_gvalY 20 rfl rfl y2 rfl (.agg (c36 g.kind g.pw g.pn g.toA g.a g.b g.n g.fi g.fn g.ti g.tn g.tr g.ids g.key g.vn g.vw g.val g.op g.ttl g.tx)) (run_lda 36 _ rfl g2 0 95 rfl 36 _ kg2 _ Try.underlying36 rfl si36 _) ?_))))
  refine nr ?_; intro U h; simp only [z0, z1] at h; subst h
  refine s_gcallvY 21 rfl rfl y2 rfl _ 13 Try.call13 rfl rfl _ rfl [.agg (c36 f.kind f.pw f.pn f.toA f.a f.b f.n f.fi f.fn f.ti f.tn f.tr f.ids f.key f.vn f.vw f.val f.op f.ttl f.tx), .agg (c36 g.kind g.pw g.pn g.toA g.a g.b g.n g.fi g.fn g.ti g.tn g.tr g.ids g.key g.vn g.vw g.val g.op g.ttl g.tx)] rfl ((by have h := same_d f g d (bareD k d) _ (HF.gro GG) HG.frw hl; rw [show sameK f g d (bareD k d) = false by rw [sameK, same_eqr hgE, hs, hk, hgk]; simp] at h; exact h)) ?_
  intro w6 G
  replace kg1 := G.has kg1
  replace kg2 := G.has kg2
  replace HG := HG.gro G
  replace GG := GG.trans G
  clear G
  refine s_gvalY 22 rfl rfl y2 rfl (.bool true) (run_nt _ _ rfl false rfl) (mv 23 (.bool true) (mv 24 (.bool true) (s_skipY 25 rfl rfl y8 rfl ?_)))
  refine nr ?_; intro U h; simp only [z0, z1] at h; subst h
  refine s_skipY 26 rfl rfl y8 rfl (s_skipY 27 rfl rfl y8 rfl (mv 28 (.bool true) (wpList_nil (then_n (wp_cond_true rfl (wp_seq (wp_region_lit (mv 2 (.slice none 0 0) (mv 3 (.int .i64 1) ?_)))))))))
  refine nr ?_; intro U h; simp only [z0, z1] at h; subst h
  refine wpList_nil (then_n (wp_ret (then_r ?_)))
  refine bodyPost_ret (results_tmp2 Try.results11 _ _ _) rfl ?_
  exact ⟨rfl, GG⟩
set_option maxRecDepth 100000 in
set_option maxHeartbeats 4000000 in
theorem encode_wrong (f : Fr) (d : FD) (w : World) (HF : FrW w f d) (HS : FrS f) (hl : Lens d) (k : Nat) (h1 : 1 ≤ k) (h2 : k ≤ 12) (hk : f.kind = (k : Int)) (hs : sameB f (bare k f) d (bareD k d) = true) (hr : okF f d (formL f.kind) (formL f.kind).length = false) : Calls Try.prog 11 #[.agg (c36 f.kind f.pw f.pn f.toA f.a f.b f.n f.fi f.fn f.ti f.tn f.tr f.ids f.key f.vn f.vw f.val f.op f.ttl f.tx)] w fun e w' => e = .returned (.tuple #[.slice none 0 0, .int .i64 1]) ∧ Gro w w' := by
  refine s_enterR Try.func11 rfl Try.ntmps11 [.agg (c36 f.kind f.pw f.pn f.toA f.a f.b f.n f.fi f.fn f.ti f.tn f.tr f.ids f.key f.vn f.vw f.val f.op f.ttl f.tx)] ?_
  intro U h; simp only [List.length_cons, List.length_nil, List.cons_append, List.nil_append, Nat.reduceAdd, Nat.reduceSub, List.reduceReplicate] at h; subst h
  have GG := Gro.refl w
  refine wp_seq (wp_region_lit ?_)
  refine s_box 1 rfl rfl 36 _ rfl _ rfl (c36 f.kind f.pw f.pn f.toA f.a f.b f.n f.fi f.fn f.ti f.tn f.tr f.ids f.key f.vn f.vw f.val f.op f.ttl f.tx) rfl ?_
  intro w1 g1 G eg1 kg1
  have bg1 := size_base GG eg1
  replace GG := GG.trans G
  clear G eg1
  refine mv 2 (.slice none 0 0) (mv 3 (.int .i64 0) (wpList_nil (then_n (wp_seq (wp_region_lit (sv 12 (.agg (c36 f.kind f.pw f.pn f.toA f.a f.b f.n f.fi f.fn f.ti f.tn f.tr f.ids f.key f.vn f.vw f.val f.op f.ttl f.tx)) (run_lda 36 _ rfl g1 0 95 rfl 36 _ kg1 _ Try.underlying36 rfl si36 _) ?_))))))
  refine s_callx 13 rfl rfl _ 17 Try.call17 rfl rfl _ rfl [.agg (c36 f.kind f.pw f.pn f.toA f.a f.b f.n f.fi f.fn f.ti f.tn f.tr f.ids f.key f.vn f.vw f.val f.op f.ttl f.tx)] rfl (bare_k k h1 h2 f hk d _ (HF.gro GG) HS) (fun _ _ ⟨_, he, _⟩ => ⟨_, he⟩) ?_
  rintro v w2 ⟨g, he, G, hgE, hgk, HG⟩
  cases he
  replace kg1 := G.has kg1
  replace GG := GG.trans G
  clear G
  refine nr ?_; intro U h; simp only [z0, z1] at h; subst h
  refine mv 11 (.tuple #[.agg (c36 g.kind g.pw g.pn g.toA g.a g.b g.n g.fi g.fn g.ti g.tn g.tr g.ids g.key g.vn g.vw g.val g.op g.ttl g.tx), .bool true]) (mv 14 (.agg (c36 g.kind g.pw g.pn g.toA g.a g.b g.n g.fi g.fn g.ti g.tn g.tr g.ids g.key g.vn g.vw g.val g.op g.ttl g.tx)) (mv 15 (.bool true) ?_))
  refine s_alloc 4 rfl rfl 36 rfl _ zv36 _ rfl ?_
  intro w3 g2 G eg2 kg2
  have bg2 := size_base GG eg2
  have dg1g2 := lt_new kg1 eg2
  replace kg1 := G.has kg1
  replace HG := HG.gro G
  replace GG := GG.trans G
  clear G eg2
  refine s_store rfl rfl 36 _ _ rfl g2 0 rfl (.agg (c36 g.kind g.pw g.pn g.toA g.a g.b g.n g.fi g.fn g.ti g.tn g.tr g.ids g.key g.vn g.vw g.val g.op g.ttl g.tx)) rfl 36 _ kg2 (c36 g.kind g.pw g.pn g.toA g.a g.b g.n g.fi g.fn g.ti g.tn g.tr g.ids g.key g.vn g.vw g.val g.op g.ttl g.tx) rfl (by kernel_rfl) (Nat.le_of_ble_eq_true rfl) (by kernel_rfl) (c36 g.kind g.pw g.pn g.toA g.a g.b g.n g.fi g.fn g.ti g.tn g.tr g.ids g.key g.vn g.vw g.val g.op g.ttl g.tx) (by kernel_rfl) ?_
  intro w5 St
  replace kg1 := St.has (by omega) kg1
  replace HG := HG.stT St kg2
  replace GG := GG.store St bg2
  replace kg2 := St.new
  clear St
  refine mv 5 (.bool true) ?_
  refine nr ?_; intro U h; simp only [z0, z1] at h; subst h
  refine wpList_nil (then_n (wp_seq (wp_seq ?_)))
  refine wp_region_opq ?_
  intro OPS hY
  have y2 := hY 2 18 rfl
  have y8 := hY 8 24 rfl
  clear hY
  refine mv 16 (.bool true) (sv 17 (.bool false) (run_nt _ _ rfl true rfl) (mv 18 (.bool false) (s_gvalY 19 rfl rfl y2 rfl (.agg (c36 f.kind f.pw f.pn f.toA f.a f.b f.n f.fi f.fn f.ti f.tn f.tr f.ids f.key f.vn f.vw f.val f.op f.ttl f.tx)) (run_lda 36 _ rfl g1 0 95 rfl 36 _ kg1 _ Try.underlying36 rfl si36 _) (s_gvalY 20 rfl rfl y2 rfl (.agg (c36 g.kind g.pw g.pn g.toA g.a g.b g.n g.fi g.fn g.ti g.tn g.tr g.ids g.key g.vn g.vw g.val g.op g.ttl g.tx)) (run_lda 36 _ rfl g2 0 95 rfl 36 _ kg2 _ Try.underlying36 rfl si36 _) ?_))))
  refine nr ?_; intro U h; simp only [z0, z1] at h; subst h
  refine s_gcallvY 21 rfl rfl y2 rfl _ 13 Try.call13 rfl rfl _ rfl [.agg (c36 f.kind f.pw f.pn f.toA f.a f.b f.n f.fi f.fn f.ti f.tn f.tr f.ids f.key f.vn f.vw f.val f.op f.ttl f.tx), .agg (c36 g.kind g.pw g.pn g.toA g.a g.b g.n g.fi g.fn g.ti g.tn g.tr g.ids g.key g.vn g.vw g.val g.op g.ttl g.tx)] rfl ((by have h := same_d f g d (bareD k d) _ (HF.gro GG) HG.frw hl; rw [show sameK f g d (bareD k d) = true by rw [sameK, same_eqr hgE, hs, hk, hgk]; simp] at h; exact h)) ?_
  intro w6 G
  replace kg1 := G.has kg1
  replace kg2 := G.has kg2
  replace HG := HG.gro G
  replace GG := GG.trans G
  clear G
  refine s_gvalY 22 rfl rfl y2 rfl (.bool false) (run_nt _ _ rfl true rfl) (mv 23 (.bool false) (mv 24 (.bool false) (s_gvalY 25 rfl rfl y8 rfl (.agg (c36 f.kind f.pw f.pn f.toA f.a f.b f.n f.fi f.fn f.ti f.tn f.tr f.ids f.key f.vn f.vw f.val f.op f.ttl f.tx)) (run_lda 36 _ rfl g1 0 95 rfl 36 _ kg1 _ Try.underlying36 rfl si36 _) ?_)))
  refine nr ?_; intro U h; simp only [z0, z1] at h; subst h
  refine s_gcallvY 26 rfl rfl y8 rfl _ 19 Try.call19 rfl rfl _ rfl [.agg (c36 f.kind f.pw f.pn f.toA f.a f.b f.n f.fi f.fn f.ti f.tn f.tr f.ids f.key f.vn f.vw f.val f.op f.ttl f.tx)] rfl ((by have h := right_d f d _ (HF.gro GG) hl; rw [hr] at h; exact h)) ?_
  intro w7 G
  replace kg1 := G.has kg1
  replace kg2 := G.has kg2
  replace HG := HG.gro G
  replace GG := GG.trans G
  clear G
  refine s_gvalY 27 rfl rfl y8 rfl (.bool true) (run_nt _ _ rfl false rfl) (mv 28 (.bool true) (wpList_nil (then_n (wp_cond_true rfl (wp_seq (wp_region_lit (mv 2 (.slice none 0 0) (mv 3 (.int .i64 1) ?_))))))))
  refine nr ?_; intro U h; simp only [z0, z1] at h; subst h
  refine wpList_nil (then_n (wp_ret (then_r ?_)))
  refine bodyPost_ret (results_tmp2 Try.results11 _ _ _) rfl ?_
  exact ⟨rfl, GG⟩
/-- What both sides answer to a frame, and to a copy of it. -/
theorem enc_both (w : World) (f : Fr) (d : FD) (HW : FrW w f d) (hl : Lens d) (HR : FrR f) :
    (Refused w f ∧ ∀ c, CopyOf f c d → ∀ w1, FrW w1 c d → Calls Try.prog 11 #[.agg (frA c)] w1 fun e w' => e = .returned (.tuple #[.slice none 0 0, .int .i64 1]) ∧ Gro w1 w') ∨
    ∃ L : List Nat, (∀ w1, Gro w w1 → Calls Try.prog 10 #[.agg (frA f)] w1 fun e w' => ∃ ao cap, e = .returned (.tuple #[.slice ao L.length cap, .int .i64 0]) ∧ OB w' 5 .u8 w1.heap.size ao cap L ∧ Gro w1 w') ∧
      ∀ c, CopyOf f c d → ∀ w1, FrW w1 c d → Calls Try.prog 11 #[.agg (frA c)] w1 fun e w' => ∃ ao cap, e = .returned (.tuple #[.slice ao L.length cap, .int .i64 0]) ∧ OB w' 5 .u8 w1.heap.size ao cap L ∧ Gro w1 w' := by
  by_cases hk : 1 ≤ f.kind ∧ f.kind ≤ 12
  · obtain ⟨k, hkk⟩ : ∃ k : Nat, f.kind = (k : Int) := ⟨f.kind.toNat, by omega⟩
    have h1 : 1 ≤ k := by omega
    have h2 : k ≤ 12 := by omega
    have ref : (sameB f (bare k f) d (bareD k d) = false ∨ rightB (bare k f) (bareD k d) (ownB k f) = false) → ∀ c, CopyOf f c d → ∀ w1, FrW w1 c d → Calls Try.prog 11 #[.agg (frA c)] w1 fun e w' => e = .returned (.tuple #[.slice none 0 0, .int .i64 1]) ∧ Gro w1 w' := fun h c C w1 H => by
      have hck : c.kind = (k : Int) := C.kind.trans hkk
      cases hs : sameB f (bare k f) d (bareD k d) with
      | false => exact encode_unlike c d w1 H C.small hl k h1 h2 hck ((C.same k h1 h2).trans hs)
      | true =>
        rcases h with h | h
        · rw [hs] at h; cases h
        · exact encode_wrong c d w1 H C.small hl k h1 h2 hck ((C.same k h1 h2).trans hs) (by rw [hck, C.ok k h1 h2]; exact h)
    cases hr : rightB (bare k f) (bareD k d) (ownB k f) with
    | false => exact .inl ⟨fun w1 G => encode_right k h1 h2 f hkk d w1 (HW.gro G) hl hr, ref (.inr hr)⟩
    | true =>
      cases hs : sameB f (bare k f) d (bareD k d) with
      | false => exact .inl ⟨fun w1 G => encode_only k h1 h2 f hkk d w1 (HW.gro G) hl hr hs, ref (.inl hs)⟩
      | true =>
        obtain ⟨hL, htx⟩ := layok_of k h1 h2 f d w HW HR hr hs
        have hbl := bodyL_len k h1 h2 f d hL.tr hL.ids HW.oids hL.val htx
        refine .inr ⟨frameL k f d, fun w1 G => encode_ok k h1 h2 f hkk d w1 (HW.gro G) hl HR hr hs hbl _ (Nat.le_refl _), fun c C w1 H => ?_⟩
        have hck : c.kind = (k : Int) := C.kind.trans hkk
        have h := encode_d c d w1 H C.small hl C.num k h1 h2 hck ((C.same k h1 h2).trans hs) (by rw [hck, C.ok k h1 h2]; exact hr)
        rw [hck, encN_eq k h1 h2, C.bytes k h1 h2] at h
        exact show Calls Try.prog 11 #[.agg (c36 c.kind c.pw c.pn c.toA c.a c.b c.n c.fi c.fn c.ti c.tn c.tr c.ids c.key c.vn c.vw c.val c.op c.ttl c.tx)] w1 _ by rw [hck]; exact h
  · exact .inl ⟨fun w1 _ => encode_none f hk w1, fun c C w1 H => encode_no c d w1 H C.small hl (by rw [C.kind]; exact hk)⟩
set_option maxRecDepth 100000 in
set_option maxHeartbeats 4000000 in
theorem frameEncodes_bad (f : Fr) (d : FD) (w : World) (HF : FrW w f d) (HS : FrS f) (hl : Lens d) (HR : FrR f) (HE : Refused w f) (HD : ∀ c, CopyOf f c d → ∀ w1, FrW w1 c d → Calls Try.prog 11 #[.agg (frA c)] w1 fun e w' => e = .returned (.tuple #[.slice none 0 0, .int .i64 1]) ∧ Gro w1 w') : Calls Try.prog 3 #[.agg (c36 f.kind f.pw f.pn f.toA f.a f.b f.n f.fi f.fn f.ti f.tn f.tr f.ids f.key f.vn f.vw f.val f.op f.ttl f.tx)] w fun e w' => e = .returned (.bool true) ∧ Gro w w' := by
  refine s_enterR Try.func3 rfl Try.ntmps3 [.agg (c36 f.kind f.pw f.pn f.toA f.a f.b f.n f.fi f.fn f.ti f.tn f.tr f.ids f.key f.vn f.vw f.val f.op f.ttl f.tx)] ?_
  intro U h; simp only [List.length_cons, List.length_nil, List.cons_append, List.nil_append, Nat.reduceAdd, Nat.reduceSub, List.reduceReplicate] at h; subst h
  have GG := Gro.refl w
  refine wp_seq (wp_region_lit ?_)
  refine s_box 1 rfl rfl 36 _ rfl _ rfl (c36 f.kind f.pw f.pn f.toA f.a f.b f.n f.fi f.fn f.ti f.tn f.tr f.ids f.key f.vn f.vw f.val f.op f.ttl f.tx) rfl ?_
  intro w1 g1 G eg1 kg1
  have bg1 := size_base GG eg1
  replace GG := GG.trans G
  clear G eg1
  refine mv 2 (.bool false) (wpList_nil (then_n (wp_seq (wp_region_lit (sv 8 (.agg (c36 f.kind f.pw f.pn f.toA f.a f.b f.n f.fi f.fn f.ti f.tn f.tr f.ids f.key f.vn f.vw f.val f.op f.ttl f.tx)) (run_lda 36 _ rfl g1 0 95 rfl 36 _ kg1 _ Try.underlying36 rfl si36 _) ?_)))))
  refine s_callx 9 rfl rfl _ 9 Try.call9 rfl rfl _ rfl [.agg (c36 f.kind f.pw f.pn f.toA f.a f.b f.n f.fi f.fn f.ti f.tn f.tr f.ids f.key f.vn f.vw f.val f.op f.ttl f.tx)] rfl (copy_c f d _ (HF.gro GG) HS HR) (fun _ _ ⟨_, he, _⟩ => ⟨_, he⟩) ?_
  rintro v w2 ⟨c, he, HCo, HC, G⟩
  cases he
  replace kg1 := G.has kg1
  replace GG := GG.trans G
  clear G
  refine s_alloc 3 rfl rfl 36 rfl _ zv36 _ rfl ?_
  intro w3 g2 G eg2 kg2
  have bg2 := size_base GG eg2
  have dg1g2 := lt_new kg1 eg2
  replace kg1 := G.has kg1
  replace HC := HC.gro G
  replace GG := GG.trans G
  clear G eg2
  refine nr ?_; intro U h; simp only [z0, z1] at h; subst h
  refine s_store rfl rfl 36 _ _ rfl g2 0 rfl (.agg (c36 c.kind c.pw c.pn c.toA c.a c.b c.n c.fi c.fn c.ti c.tn c.tr c.ids c.key c.vn c.vw c.val c.op c.ttl c.tx)) rfl 36 _ kg2 (c36 c.kind c.pw c.pn c.toA c.a c.b c.n c.fi c.fn c.ti c.tn c.tr c.ids c.key c.vn c.vw c.val c.op c.ttl c.tx) rfl (by kernel_rfl) (Nat.le_of_ble_eq_true rfl) (by kernel_rfl) (c36 c.kind c.pw c.pn c.toA c.a c.b c.n c.fi c.fn c.ti c.tn c.tr c.ids c.key c.vn c.vw c.val c.op c.ttl c.tx) (by kernel_rfl) ?_
  intro w5 St
  replace kg1 := St.has (by omega) kg1
  replace HC := HC.stT St kg2
  replace GG := GG.store St bg2
  replace kg2 := St.new
  clear St
  refine wpList_nil (then_n (wp_seq (wp_region_lit (sv 11 (.agg (c36 f.kind f.pw f.pn f.toA f.a f.b f.n f.fi f.fn f.ti f.tn f.tr f.ids f.key f.vn f.vw f.val f.op f.ttl f.tx)) (run_lda 36 _ rfl g1 0 95 rfl 36 _ kg1 _ Try.underlying36 rfl si36 _) ?_))))
  refine s_callv 12 rfl rfl _ 10 Try.call10 rfl rfl _ rfl [.agg (c36 f.kind f.pw f.pn f.toA f.a f.b f.n f.fi f.fn f.ti f.tn f.tr f.ids f.key f.vn f.vw f.val f.op f.ttl f.tx)] rfl (HE _ GG) ?_
  intro w6 G
  replace kg1 := G.has kg1
  replace kg2 := G.has kg2
  replace HC := HC.gro G
  replace GG := GG.trans G
  clear G
  refine mv 10 (.tuple #[.slice none 0 0, .int .i64 1]) (mv 13 (.slice none 0 0) (mv 14 (.int .i64 1) ?_))
  refine nr ?_; intro U h; simp only [z0, z1] at h; subst h
  refine mv 4 (.slice none 0 0) (mv 5 (.int .i64 1) (wpList_nil (then_n (wp_seq (wp_region_lit (sv 16 (.agg (c36 c.kind c.pw c.pn c.toA c.a c.b c.n c.fi c.fn c.ti c.tn c.tr c.ids c.key c.vn c.vw c.val c.op c.ttl c.tx)) (run_lda 36 _ rfl g2 0 95 rfl 36 _ kg2 _ Try.underlying36 rfl si36 _) ?_))))))
  refine s_callv 17 rfl rfl _ 11 Try.call11 rfl rfl _ rfl [.agg (c36 c.kind c.pw c.pn c.toA c.a c.b c.n c.fi c.fn c.ti c.tn c.tr c.ids c.key c.vn c.vw c.val c.op c.ttl c.tx)] rfl (HD c HCo _ HC.frw) ?_
  intro w7 G
  replace kg1 := G.has kg1
  replace kg2 := G.has kg2
  replace HC := HC.gro G
  replace GG := GG.trans G
  clear G
  refine mv 15 (.tuple #[.slice none 0 0, .int .i64 1]) ?_
  refine nr ?_; intro U h; simp only [z0, z1] at h; subst h
  refine mv 18 (.slice none 0 0) (mv 19 (.int .i64 1) (mv 6 (.slice none 0 0) (mv 7 (.int .i64 1) (wpList_nil (then_n (wp_seq ?_))))))
  refine wp_region_opq ?_
  intro OPS hY
  have y1 := hY 1 21 rfl
  have y8 := hY 8 28 rfl
  have y13 := hY 13 33 rfl
  clear hY
  refine s_callv 20 rfl rfl _ 12 Try.call12 rfl rfl _ rfl [] rfl (fixed_any _) ?_
  intro w8 G
  replace kg1 := G.has kg1
  replace kg2 := G.has kg2
  replace HC := HC.gro G
  replace GG := GG.trans G
  clear G
  refine nr ?_; intro U h; simp only [z0, z1] at h; subst h
  refine mv 21 (.bool true) (s_gvalY 22 rfl rfl y1 rfl (.slice none 0 0) (rfl) (s_gvalY 23 rfl rfl y1 rfl (.string (bas [])) (run_text_op bT 9 Try.underlying9 _ rfl (l := []) rfl (NC.nil _ _)) (s_gvalY 24 rfl rfl y1 rfl (.slice none 0 0) (rfl) (s_gvalY 25 rfl rfl y1 rfl (.string (bas [])) (run_text_op bT 9 Try.underlying9 _ rfl (l := []) rfl (NC.nil _ _)) ?_))))
  refine nr ?_; intro U h; simp only [z0, z1] at h; subst h
  refine s_gvalY 26 rfl rfl y1 rfl (.bool true) (run_eqs_op _ _ _ rfl _ _ rfl rfl true (decide_eq_true rfl) _) (mv 27 (.bool true) (mv 28 (.bool true) (s_gvalY 29 rfl rfl y8 rfl (.int .i64 1) (rfl) (s_gvalY 30 rfl rfl y8 rfl (.int .i64 1) (rfl) ?_))))
  refine nr ?_; intro U h; simp only [z0, z1] at h; subst h
  refine s_gvalY 31 rfl rfl y8 rfl (.bool true) (run_eq_k 38 .i64 _ _ _ rfl Try.underlying38 1 1 rfl rfl true rfl _) (mv 32 (.bool true) (mv 33 (.bool true) (s_gvalY 34 rfl rfl y13 rfl (.agg (c36 f.kind f.pw f.pn f.toA f.a f.b f.n f.fi f.fn f.ti f.tn f.tr f.ids f.key f.vn f.vw f.val f.op f.ttl f.tx)) (run_lda 36 _ rfl g1 0 95 rfl 36 _ kg1 _ Try.underlying36 rfl si36 _) (s_gvalY 35 rfl rfl y13 rfl (.agg (c36 c.kind c.pw c.pn c.toA c.a c.b c.n c.fi c.fn c.ti c.tn c.tr c.ids c.key c.vn c.vw c.val c.op c.ttl c.tx)) (run_lda 36 _ rfl g2 0 95 rfl 36 _ kg2 _ Try.underlying36 rfl si36 _) ?_))))
  refine nr ?_; intro U h; simp only [z0, z1] at h; subst h
  refine s_gcallvY 36 rfl rfl y13 rfl _ 13 Try.call13 rfl rfl _ rfl [.agg (c36 f.kind f.pw f.pn f.toA f.a f.b f.n f.fi f.fn f.ti f.tn f.tr f.ids f.key f.vn f.vw f.val f.op f.ttl f.tx), .agg (c36 c.kind c.pw c.pn c.toA c.a c.b c.n c.fi c.fn c.ti c.tn c.tr c.ids c.key c.vn c.vw c.val c.op c.ttl c.tx)] rfl (same_t f c d _ (HF.gro GG) HC.frw HCo.eq.symm HCo.kind.symm hl) ?_
  intro w9 G
  replace kg1 := G.has kg1
  replace kg2 := G.has kg2
  replace HC := HC.gro G
  replace GG := GG.trans G
  clear G
  refine mv 37 (.bool true) (mv 2 (.bool true) (wpList_nil (then_n (wp_ret ?_))))
  refine bodyPost_ret (results_tmp Try.results3 _ _ _) rfl ?_
  exact ⟨rfl, GG⟩
set_option maxRecDepth 100000 in
set_option maxHeartbeats 4000000 in
theorem frameEncodes_ok (f : Fr) (d : FD) (w : World) (HF : FrW w f d) (HS : FrS f) (hl : Lens d) (HR : FrR f) (L : List Nat) (HE : ∀ w1, Gro w w1 → Calls Try.prog 10 #[.agg (frA f)] w1 fun e w' => ∃ ao cap, e = .returned (.tuple #[.slice ao L.length cap, .int .i64 0]) ∧ OB w' 5 .u8 w1.heap.size ao cap L ∧ Gro w1 w') (HD : ∀ c, CopyOf f c d → ∀ w1, FrW w1 c d → Calls Try.prog 11 #[.agg (frA c)] w1 fun e w' => ∃ ao cap, e = .returned (.tuple #[.slice ao L.length cap, .int .i64 0]) ∧ OB w' 5 .u8 w1.heap.size ao cap L ∧ Gro w1 w') : Calls Try.prog 3 #[.agg (c36 f.kind f.pw f.pn f.toA f.a f.b f.n f.fi f.fn f.ti f.tn f.tr f.ids f.key f.vn f.vw f.val f.op f.ttl f.tx)] w fun e w' => e = .returned (.bool true) ∧ Gro w w' := by
  refine s_enterR Try.func3 rfl Try.ntmps3 [.agg (c36 f.kind f.pw f.pn f.toA f.a f.b f.n f.fi f.fn f.ti f.tn f.tr f.ids f.key f.vn f.vw f.val f.op f.ttl f.tx)] ?_
  intro U h; simp only [List.length_cons, List.length_nil, List.cons_append, List.nil_append, Nat.reduceAdd, Nat.reduceSub, List.reduceReplicate] at h; subst h
  have GG := Gro.refl w
  refine wp_seq (wp_region_lit ?_)
  refine s_box 1 rfl rfl 36 _ rfl _ rfl (c36 f.kind f.pw f.pn f.toA f.a f.b f.n f.fi f.fn f.ti f.tn f.tr f.ids f.key f.vn f.vw f.val f.op f.ttl f.tx) rfl ?_
  intro w1 g1 G eg1 kg1
  have bg1 := size_base GG eg1
  replace GG := GG.trans G
  clear G eg1
  refine mv 2 (.bool false) (wpList_nil (then_n (wp_seq (wp_region_lit (sv 8 (.agg (c36 f.kind f.pw f.pn f.toA f.a f.b f.n f.fi f.fn f.ti f.tn f.tr f.ids f.key f.vn f.vw f.val f.op f.ttl f.tx)) (run_lda 36 _ rfl g1 0 95 rfl 36 _ kg1 _ Try.underlying36 rfl si36 _) ?_)))))
  refine s_callx 9 rfl rfl _ 9 Try.call9 rfl rfl _ rfl [.agg (c36 f.kind f.pw f.pn f.toA f.a f.b f.n f.fi f.fn f.ti f.tn f.tr f.ids f.key f.vn f.vw f.val f.op f.ttl f.tx)] rfl (copy_c f d _ (HF.gro GG) HS HR) (fun _ _ ⟨_, he, _⟩ => ⟨_, he⟩) ?_
  rintro v w2 ⟨c, he, HCo, HC, G⟩
  cases he
  replace kg1 := G.has kg1
  replace GG := GG.trans G
  clear G
  refine s_alloc 3 rfl rfl 36 rfl _ zv36 _ rfl ?_
  intro w3 g2 G eg2 kg2
  have bg2 := size_base GG eg2
  have dg1g2 := lt_new kg1 eg2
  replace kg1 := G.has kg1
  replace HC := HC.gro G
  replace GG := GG.trans G
  clear G eg2
  refine nr ?_; intro U h; simp only [z0, z1] at h; subst h
  refine s_store rfl rfl 36 _ _ rfl g2 0 rfl (.agg (c36 c.kind c.pw c.pn c.toA c.a c.b c.n c.fi c.fn c.ti c.tn c.tr c.ids c.key c.vn c.vw c.val c.op c.ttl c.tx)) rfl 36 _ kg2 (c36 c.kind c.pw c.pn c.toA c.a c.b c.n c.fi c.fn c.ti c.tn c.tr c.ids c.key c.vn c.vw c.val c.op c.ttl c.tx) rfl (by kernel_rfl) (Nat.le_of_ble_eq_true rfl) (by kernel_rfl) (c36 c.kind c.pw c.pn c.toA c.a c.b c.n c.fi c.fn c.ti c.tn c.tr c.ids c.key c.vn c.vw c.val c.op c.ttl c.tx) (by kernel_rfl) ?_
  intro w5 St
  replace kg1 := St.has (by omega) kg1
  replace HC := HC.stT St kg2
  replace GG := GG.store St bg2
  replace kg2 := St.new
  clear St
  refine wpList_nil (then_n (wp_seq (wp_region_lit (sv 11 (.agg (c36 f.kind f.pw f.pn f.toA f.a f.b f.n f.fi f.fn f.ti f.tn f.tr f.ids f.key f.vn f.vw f.val f.op f.ttl f.tx)) (run_lda 36 _ rfl g1 0 95 rfl 36 _ kg1 _ Try.underlying36 rfl si36 _) ?_))))
  refine s_callx 12 rfl rfl _ 10 Try.call10 rfl rfl _ rfl [.agg (c36 f.kind f.pw f.pn f.toA f.a f.b f.n f.fi f.fn f.ti f.tn f.tr f.ids f.key f.vn f.vw f.val f.op f.ttl f.tx)] rfl (HE _ GG) (fun _ _ ⟨_, _, he, _⟩ => ⟨_, he⟩) ?_
  rintro v w6 ⟨ao1, cap1, he, HB1, G⟩
  cases he
  replace kg1 := G.has kg1
  replace kg2 := G.has kg2
  replace HC := HC.gro G
  replace GG := GG.trans G
  clear G
  refine mv 10 (.tuple #[.slice ao1 L.length cap1, .int .i64 0]) (mv 13 (.slice ao1 L.length cap1) (mv 14 (.int .i64 0) ?_))
  refine nr ?_; intro U h; simp only [z0, z1] at h; subst h
  refine mv 4 (.slice ao1 L.length cap1) (mv 5 (.int .i64 0) (wpList_nil (then_n (wp_seq (wp_region_lit (sv 16 (.agg (c36 c.kind c.pw c.pn c.toA c.a c.b c.n c.fi c.fn c.ti c.tn c.tr c.ids c.key c.vn c.vw c.val c.op c.ttl c.tx)) (run_lda 36 _ rfl g2 0 95 rfl 36 _ kg2 _ Try.underlying36 rfl si36 _) ?_))))))
  refine s_callx 17 rfl rfl _ 11 Try.call11 rfl rfl _ rfl [.agg (c36 c.kind c.pw c.pn c.toA c.a c.b c.n c.fi c.fn c.ti c.tn c.tr c.ids c.key c.vn c.vw c.val c.op c.ttl c.tx)] rfl (HD c HCo _ HC.frw) (fun _ _ ⟨_, _, he, _⟩ => ⟨_, he⟩) ?_
  rintro v w7 ⟨ao2, cap2, he, HB2, G⟩
  cases he
  replace kg1 := G.has kg1
  replace kg2 := G.has kg2
  replace HC := HC.gro G
  replace HB1 := HB1.gro G
  replace GG := GG.trans G
  clear G
  refine mv 15 (.tuple #[.slice ao2 L.length cap2, .int .i64 0]) ?_
  refine nr ?_; intro U h; simp only [z0, z1] at h; subst h
  refine mv 18 (.slice ao2 L.length cap2) (mv 19 (.int .i64 0) (mv 6 (.slice ao2 L.length cap2) (mv 7 (.int .i64 0) (wpList_nil (then_n (wp_seq ?_))))))
  refine wp_region_opq ?_
  intro OPS hY
  have y1 := hY 1 21 rfl
  have y8 := hY 8 28 rfl
  have y13 := hY 13 33 rfl
  clear hY
  refine s_callv 20 rfl rfl _ 12 Try.call12 rfl rfl _ rfl [] rfl (fixed_any _) ?_
  intro w8 G
  replace kg1 := G.has kg1
  replace kg2 := G.has kg2
  replace HC := HC.gro G
  replace HB1 := HB1.gro G
  replace HB2 := HB2.gro G
  replace GG := GG.trans G
  clear G
  refine nr ?_; intro U h; simp only [z0, z1] at h; subst h
  refine mv 21 (.bool true) (s_gvalY 22 rfl rfl y1 rfl (.slice ao1 L.length cap1) (rfl) (s_gvalY 23 rfl rfl y1 rfl (.string (bas L)) (run_text_op bT 9 Try.underlying9 _ rfl rfl HB1.nc) (s_gvalY 24 rfl rfl y1 rfl (.slice ao2 L.length cap2) (rfl) (s_gvalY 25 rfl rfl y1 rfl (.string (bas L)) (run_text_op bT 9 Try.underlying9 _ rfl rfl HB2.nc) ?_))))
  refine nr ?_; intro U h; simp only [z0, z1] at h; subst h
  refine s_gvalY 26 rfl rfl y1 rfl (.bool true) (run_eqs_op _ _ _ rfl _ _ rfl rfl true (decide_eq_true rfl) _) (mv 27 (.bool true) (mv 28 (.bool true) (s_gvalY 29 rfl rfl y8 rfl (.int .i64 0) (rfl) (s_gvalY 30 rfl rfl y8 rfl (.int .i64 0) (rfl) ?_))))
  refine nr ?_; intro U h; simp only [z0, z1] at h; subst h
  refine s_gvalY 31 rfl rfl y8 rfl (.bool true) (run_eq_k 38 .i64 _ _ _ rfl Try.underlying38 0 0 rfl rfl true rfl _) (mv 32 (.bool true) (mv 33 (.bool true) (s_gvalY 34 rfl rfl y13 rfl (.agg (c36 f.kind f.pw f.pn f.toA f.a f.b f.n f.fi f.fn f.ti f.tn f.tr f.ids f.key f.vn f.vw f.val f.op f.ttl f.tx)) (run_lda 36 _ rfl g1 0 95 rfl 36 _ kg1 _ Try.underlying36 rfl si36 _) (s_gvalY 35 rfl rfl y13 rfl (.agg (c36 c.kind c.pw c.pn c.toA c.a c.b c.n c.fi c.fn c.ti c.tn c.tr c.ids c.key c.vn c.vw c.val c.op c.ttl c.tx)) (run_lda 36 _ rfl g2 0 95 rfl 36 _ kg2 _ Try.underlying36 rfl si36 _) ?_))))
  refine nr ?_; intro U h; simp only [z0, z1] at h; subst h
  refine s_gcallvY 36 rfl rfl y13 rfl _ 13 Try.call13 rfl rfl _ rfl [.agg (c36 f.kind f.pw f.pn f.toA f.a f.b f.n f.fi f.fn f.ti f.tn f.tr f.ids f.key f.vn f.vw f.val f.op f.ttl f.tx), .agg (c36 c.kind c.pw c.pn c.toA c.a c.b c.n c.fi c.fn c.ti c.tn c.tr c.ids c.key c.vn c.vw c.val c.op c.ttl c.tx)] rfl (same_t f c d _ (HF.gro GG) HC.frw HCo.eq.symm HCo.kind.symm hl) ?_
  intro w9 G
  replace kg1 := G.has kg1
  replace kg2 := G.has kg2
  replace HC := HC.gro G
  replace HB1 := HB1.gro G
  replace HB2 := HB2.gro G
  replace GG := GG.trans G
  clear G
  refine mv 37 (.bool true) (mv 2 (.bool true) (wpList_nil (then_n (wp_ret ?_))))
  refine bodyPost_ret (results_tmp Try.results3 _ _ _) rfl ?_
  exact ⟨rfl, GG⟩
theorem frameEncodes_any (f : Fr) (d : FD) (w : World) (HF : FrW w f d) (HS : FrS f) (hl : Lens d) (HR : FrR f) : Calls Try.prog 3 #[.agg (frA f)] w fun e w' => e = .returned (.bool true) ∧ Gro w w' := by
  rcases enc_both w f d HF hl HR with ⟨h1, h2⟩ | ⟨L, h1, h2⟩
  · exact frameEncodes_bad f d w HF HS hl HR h1 h2
  · exact frameEncodes_ok f d w HF HS hl HR L h1 h2
end Go.Proofs.Ythmcnlmphikicaa
