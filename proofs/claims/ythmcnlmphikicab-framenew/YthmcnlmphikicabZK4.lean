/- Two frames that are one, their rows apart (the document's Same). -/
import Derived.Test.YthmcnlmphikicabZK3
namespace Go.Proofs.Ythmcnlmphikicab
open Go.RowKit
theorem eqf_bare {f g : Fr} {k : Nat} (h1 : 1 ≤ k) (h2 : k ≤ 12) (h : EqF (bare k f) g) : EqF (bare k f) (bare k g) := by
  rcases is12 h1 h2 with rfl | rfl | rfl | rfl | rfl | rfl | rfl | rfl | rfl | rfl | rfl | rfl <;>
    refine ⟨?_, ?_, ?_, ?_, ?_, ?_, ?_, ?_, ?_, ?_, ?_, ?_, ?_, ?_, ?_⟩ <;>
    first | exact h.pw | exact h.pn | exact h.toA | exact h.a | exact h.b | exact h.n | exact h.fi | exact h.fn | exact h.ti | exact h.tn | exact h.key | exact h.vn | exact h.vw | exact h.op | exact h.ttl | rfl
theorem EqF.trans {f g h : Fr} (a : EqF f g) (b : EqF g h) : EqF f h := ⟨a.pw.trans b.pw, a.pn.trans b.pn, a.toA.trans b.toA, a.a.trans b.a, a.b.trans b.b, a.n.trans b.n, a.fi.trans b.fi, a.fn.trans b.fn, a.ti.trans b.ti, a.tn.trans b.tn, a.key.trans b.key, a.vn.trans b.vn, a.vw.trans b.vw, a.op.trans b.op, a.ttl.trans b.ttl⟩
theorem eqf_same {f : Fr} {k : Nat} {d : FD} (hs : sameB f (bare k f) d (bareD k d) = true) : EqF f (bare k f) ∧ bareD k d = d := by
  obtain ⟨⟨e1, e2⟩, e3, e4, e5, e6, ⟨e7, e8⟩, ⟨e9, e10⟩, e11, e12, e13, e14, e15, e16, ⟨e17, e18⟩, e19⟩ := same_of hs
  refine ⟨⟨e1, e2, e3, e4, e5, e6, e7, e8, e9, e10, e16, e17, e18, e11, e12⟩, ?_⟩
  cases d
  cases hb : bareD k _
  rw [hb] at e13 e14 e15 e19
  simp only at e13 e14 e15 e19
  rw [e13, e14, e15, e19]
theorem OX.ty {w : World} {e : TypeId} {sz B : Nat} {ao : Option Addr} {cap n : Nat} {cs : List Value} (h : OX w e sz B ao cap n cs) {ad : Addr} (ha : ao = some ad) : ∃ cur, w.heap[ad.block]? = some (.cells cur e (0, 0)) := by
  rcases h.own.2 with ⟨h1, _⟩ | ⟨g, c', cur, h1, _, h2, _⟩
  · injection h1 with e1 e2 e3
    rw [ha] at e1
    cases e1
  · injection h1 with e1 e2 e3
    rw [ha] at e1
    injection e1 with e1
    subst e1
    exact ⟨cur, h2⟩
theorem ne_type {w : World} {a b : Nat} {c c' : Array Value} {t t' : TypeId} (h : w.heap[a]? = some (.cells c t (0, 0))) (h' : w.heap[b]? = some (.cells c' t' (0, 0))) (ht : t ≠ t') : a ≠ b := fun e => by
  subst e
  rw [h] at h'
  injection h' with h'
  injection h' with _ h2
  exact ht h2
theorem FrO.stT {w w' : World} {B g : Nat} {f : Fr} {d : FD} {x : Obj} {c : Array Value} (h : FrO w B f d) (S : Stored w w' g x) (hg : w.heap[g]? = some (.cells c 40 (0, 0))) : FrO w' B f d :=
  ⟨h.tr.apart S (fun ad ha => by obtain ⟨cur, hc⟩ := h.tr.ty ha; exact ne_type hc hg (by decide)), h.ids.apart S (fun ad ha => by obtain ⟨cur, hc⟩ := h.ids.ty ha; exact ne_type hc hg (by decide)), h.val.apart S (fun ad ha => by obtain ⟨cur, hc⟩ := h.val.ty ha; exact ne_type hc hg (by decide)), h.tx.apart S (fun ad ha => by obtain ⟨cur, hc⟩ := h.tx.ty ha; exact ne_type hc hg (by decide)), h.oids, h.oval, h.otx⟩
set_option maxRecDepth 100000 in
set_option maxHeartbeats 4000000 in
theorem sameItem_t (f g : Fr) (d : FD) (w : World) (HF : FrW w f d) (HG : FrW w g d) (hE : EqF f g) : Calls Try.prog 16 #[.agg (c34 f.key f.vn f.vw f.val), .agg (c34 g.key g.vn g.vw g.val)] w fun e w' => e = .returned (.bool true) ∧ Gro w w' := by
  refine s_enterR Try.func16 rfl Try.ntmps16 [.agg (c34 f.key f.vn f.vw f.val), .agg (c34 g.key g.vn g.vw g.val)] ?_
  intro U h; simp only [List.length_cons, List.length_nil, List.cons_append, List.nil_append, Nat.reduceAdd, Nat.reduceSub, List.reduceReplicate] at h; subst h
  have GG := Gro.refl w
  have lfv := xc_len1 HF.val
  have lgv := xc_len1 HG.val
  have lft := xc_len1 HF.tr
  have lgt := xc_len1 HG.tr
  have lfx := xc_len1 HF.tx
  have lgx := xc_len1 HG.tx
  refine wp_seq (wp_region_lit ?_)
  refine s_box 2 rfl rfl 38 _ rfl _ rfl (c34 f.key f.vn f.vw f.val) rfl ?_
  intro w1 g1 G eg1 kg1
  have bg1 := size_base GG eg1
  replace GG := GG.trans G
  clear G eg1
  refine s_box 3 rfl rfl 38 _ rfl _ rfl (c34 g.key g.vn g.vw g.val) rfl ?_
  intro w2 g2 G eg2 kg2
  have bg2 := size_base GG eg2
  have dg1g2 := lt_new kg1 eg2
  replace kg1 := G.has kg1
  replace GG := GG.trans G
  clear G eg2
  refine mv 4 (.bool false) ?_
  refine nr ?_; intro U h; simp only [z0, z1] at h; subst h
  refine wpList_nil (then_n (wp_seq ?_))
  refine wp_region_opq ?_
  intro OPS hY
  have y5 := hY 5 10 rfl
  have y12 := hY 12 17 rfl
  clear hY
  refine sv 5 (.pointer (some ⟨g1, 0, none⟩)) (run_fld 38 _ 0 rfl _ _ rfl _) (sv 6 (.agg (c23 f.key)) (run_lda 27 _ rfl g1 0 16 rfl 38 _ kg1 _ Try.underlying27 rfl si23 _) (sv 7 (.pointer (some ⟨g2, 0, none⟩)) (run_fld 38 _ 0 rfl _ _ rfl _) ?_))
  refine nr ?_; intro U h; simp only [z0, z1] at h; subst h
  refine sv 8 (.agg (c23 g.key)) (run_lda 27 _ rfl g2 0 16 rfl 38 _ kg2 _ Try.underlying27 rfl si23 _) (sv 9 (.bool true) (run_cmpA .eql 27 _ _ _ rfl _ _ rfl rfl (by kernel_rfl) _ ((eq23 f.key g.key _).trans (by rw [decide_eq_true hE.key]))) (mv 10 (.bool true) ?_))
  refine nr ?_; intro U h; simp only [z0, z1] at h; subst h
  refine s_gvalY 11 rfl rfl y5 rfl (.pointer (some ⟨g1, 16, none⟩)) (run_fld 38 _ 1 rfl _ _ rfl _) (s_gvalY 12 rfl rfl y5 rfl (.agg (c31 f.vn f.vw)) (run_lda 35 _ rfl g1 16 17 rfl 38 _ kg1 _ Try.underlying35 rfl si31 _) (s_gvalY 13 rfl rfl y5 rfl (.pointer (some ⟨g2, 16, none⟩)) (run_fld 38 _ 1 rfl _ _ rfl _) ?_))
  refine nr ?_; intro U h; simp only [z0, z1] at h; subst h
  refine s_gvalY 14 rfl rfl y5 rfl (.agg (c31 g.vn g.vw)) (run_lda 35 _ rfl g2 16 17 rfl 38 _ kg2 _ Try.underlying35 rfl si31 _) (s_gvalY 15 rfl rfl y5 rfl (.bool true) (run_cmpA .eql 35 _ _ _ rfl _ _ rfl rfl (by kernel_rfl) _ ((eq31 f.vn g.vn f.vw g.vw _).trans (by rw [decide_eq_true hE.vn, decide_eq_true hE.vw]; rfl))) (mv 16 (.bool true) ?_))
  refine nr ?_; intro U h; simp only [z0, z1] at h; subst h
  refine mv 17 (.bool true) (s_gvalY 18 rfl rfl y12 rfl (.pointer (some ⟨g1, 33, none⟩)) (run_fld 38 _ 2 rfl _ _ rfl _) (s_gvalY 19 rfl rfl y12 rfl (.slice f.val.ao f.val.n f.val.cap) (run_ldc 36 _ rfl g1 33 rfl 38 _ kg1 (na32 _) _ rfl) ?_))
  refine nr ?_; intro U h; simp only [z0, z1] at h; subst h
  refine s_gvalY 20 rfl rfl y12 rfl (.string (bas d.val)) (run_text_op bT 9 Try.underlying9 _ rfl (l := d.val) (by rw [← lfv]; rfl) (xc_nc (HF.gro GG).val HF.oval)) (s_gvalY 21 rfl rfl y12 rfl (.pointer (some ⟨g2, 33, none⟩)) (run_fld 38 _ 2 rfl _ _ rfl _) (s_gvalY 22 rfl rfl y12 rfl (.slice g.val.ao g.val.n g.val.cap) (run_ldc 36 _ rfl g2 33 rfl 38 _ kg2 (na32 _) _ rfl) ?_))
  refine nr ?_; intro U h; simp only [z0, z1] at h; subst h
  refine s_gvalY 23 rfl rfl y12 rfl (.string (bas d.val)) (run_text_op bT 9 Try.underlying9 _ rfl (l := d.val) (by rw [← lgv]; rfl) (xc_nc (HG.gro GG).val HG.oval)) (s_gvalY 24 rfl rfl y12 rfl (.bool true) (run_eqs_op _ _ _ rfl _ _ rfl rfl true (decide_eq_true rfl) _) (mv 25 (.bool true) ?_))
  refine nr ?_; intro U h; simp only [z0, z1] at h; subst h
  refine mv 4 (.bool true) (wpList_nil (then_n (wp_ret ?_)))
  refine bodyPost_ret (results_tmp Try.results16 _ _ _) rfl ?_
  exact ⟨rfl, GG⟩
set_option maxRecDepth 100000 in
set_option maxHeartbeats 4000000 in
theorem same_t (f g : Fr) (d : FD) (w : World) (HF : FrW w f d) (HG : FrW w g d) (hE : EqF f g) (hk : f.kind = g.kind) (hl : Lens d) : Calls Try.prog 7 #[.agg (c36 f.kind f.pw f.pn f.toA f.a f.b f.n f.fi f.fn f.ti f.tn f.tr f.ids f.key f.vn f.vw f.val f.op f.ttl f.tx), .agg (c36 g.kind g.pw g.pn g.toA g.a g.b g.n g.fi g.fn g.ti g.tn g.tr g.ids g.key g.vn g.vw g.val g.op g.ttl g.tx)] w fun e w' => e = .returned (.bool true) ∧ Gro w w' := by
  refine s_enterR Try.func7 rfl Try.ntmps7 [.agg (c36 f.kind f.pw f.pn f.toA f.a f.b f.n f.fi f.fn f.ti f.tn f.tr f.ids f.key f.vn f.vw f.val f.op f.ttl f.tx), .agg (c36 g.kind g.pw g.pn g.toA g.a g.b g.n g.fi g.fn g.ti g.tn g.tr g.ids g.key g.vn g.vw g.val g.op g.ttl g.tx)] ?_
  intro U h; simp only [List.length_cons, List.length_nil, List.cons_append, List.nil_append, Nat.reduceAdd, Nat.reduceSub, List.reduceReplicate] at h; subst h
  have GG := Gro.refl w
  have hl1 := hl.1
  have hl2 := hl.2
  have lfv := xc_len1 HF.val
  have lgv := xc_len1 HG.val
  have lft := xc_len1 HF.tr
  have lgt := xc_len1 HG.tr
  have lfx := xc_len1 HF.tx
  have lgx := xc_len1 HG.tx
  have HFt : XC w 1 f.tr.ao f.tr.cap d.tr.length (d.tr.map (Value.int .i64 ·)) := by rw [← lft]; exact HF.tr
  have HGt : XC w 1 g.tr.ao g.tr.cap d.tr.length (d.tr.map (Value.int .i64 ·)) := by rw [← lgt]; exact HG.tr
  have lfi : f.ids.n = d.ids.length := by have h3 := HF.ids.len; rw [cellsI_len HF.oids] at h3; omega
  have lgi : g.ids.n = d.ids.length := by have h3 := HG.ids.len; rw [cellsI_len HG.oids] at h3; omega
  refine wp_seq (wp_region_lit ?_)
  refine s_box 2 rfl rfl 40 _ rfl _ rfl (c36 f.kind f.pw f.pn f.toA f.a f.b f.n f.fi f.fn f.ti f.tn f.tr f.ids f.key f.vn f.vw f.val f.op f.ttl f.tx) rfl ?_
  intro w1 g1 G eg1 kg1
  have bg1 := size_base GG eg1
  replace GG := GG.trans G
  clear G eg1
  refine s_box 3 rfl rfl 40 _ rfl _ rfl (c36 g.kind g.pw g.pn g.toA g.a g.b g.n g.fi g.fn g.ti g.tn g.tr g.ids g.key g.vn g.vw g.val g.op g.ttl g.tx) rfl ?_
  intro w2 g2 G eg2 kg2
  have bg2 := size_base GG eg2
  have dg1g2 := lt_new kg1 eg2
  replace kg1 := G.has kg1
  replace GG := GG.trans G
  clear G eg2
  refine mv 4 (.bool false) ?_
  refine nr ?_; intro U h; simp only [z0, z1] at h; subst h
  refine wpList_nil (then_n (wp_seq (wp_seq ?_)))
  refine wp_region_opq ?_
  intro OPS hY
  have y7 := hY 7 14 rfl
  clear hY
  refine sv 7 (.pointer (some ⟨g1, 56, none⟩)) (run_fld 40 _ 8 rfl _ _ rfl _) (sv 8 (.slice f.tr.ao f.tr.n f.tr.cap) (run_ldc 32 _ rfl g1 56 rfl 40 _ kg1 (na28 _) _ rfl) (sv 9 (.int .i64 ((f.tr.n : Nat) : Int)) (run_len Try.underlying32 _ rfl _ _ _ rfl _) ?_))
  refine nr ?_; intro U h; simp only [z0, z1] at h; subst h
  refine sv 10 (.pointer (some ⟨g2, 56, none⟩)) (run_fld 40 _ 8 rfl _ _ rfl _) (sv 11 (.slice g.tr.ao g.tr.n g.tr.cap) (run_ldc 32 _ rfl g2 56 rfl 40 _ kg2 (na28 _) _ rfl) (sv 12 (.int .i64 ((g.tr.n : Nat) : Int)) (run_len Try.underlying32 _ rfl _ _ _ rfl _) ?_))
  refine nr ?_; intro U h; simp only [z0, z1] at h; subst h
  refine sv 13 (.bool false) (run_neq_k 3 .i64 _ _ _ rfl Try.underlying3 ((f.tr.n : Nat) : Int) ((g.tr.n : Nat) : Int) rfl rfl false (decide_eq_true (by omega)) _) (mv 14 (.bool false) (s_gvalY 15 rfl rfl y7 rfl (.pointer (some ⟨g1, 57, none⟩)) (run_fld 40 _ 9 rfl _ _ rfl _) ?_))
  refine nr ?_; intro U h; simp only [z0, z1] at h; subst h
  refine s_gvalY 16 rfl rfl y7 rfl (.slice f.ids.ao f.ids.n f.ids.cap) (run_ldc 33 _ rfl g1 57 rfl 40 _ kg1 (na29 _) _ rfl) (s_gvalY 17 rfl rfl y7 rfl (.int .i64 ((f.ids.n : Nat) : Int)) (run_len Try.underlying33 _ rfl _ _ _ rfl _) (s_gvalY 18 rfl rfl y7 rfl (.pointer (some ⟨g2, 57, none⟩)) (run_fld 40 _ 9 rfl _ _ rfl _) ?_))
  refine nr ?_; intro U h; simp only [z0, z1] at h; subst h
  refine s_gvalY 19 rfl rfl y7 rfl (.slice g.ids.ao g.ids.n g.ids.cap) (run_ldc 33 _ rfl g2 57 rfl 40 _ kg2 (na29 _) _ rfl) (s_gvalY 20 rfl rfl y7 rfl (.int .i64 ((g.ids.n : Nat) : Int)) (run_len Try.underlying33 _ rfl _ _ _ rfl _) (s_gvalY 21 rfl rfl y7 rfl (.bool false) (run_neq_k 3 .i64 _ _ _ rfl Try.underlying3 ((f.ids.n : Nat) : Int) ((g.ids.n : Nat) : Int) rfl rfl false (decide_eq_true (by omega)) _) ?_))
  refine nr ?_; intro U h; simp only [z0, z1] at h; subst h
  refine mv 22 (.bool false) (wpList_nil (then_n (wp_cond_false rfl (wp_skip (then_n (wp_seq (wp_seq (wp_region_lit (mv 5 (.int .i64 0) (wpList_nil (then_n (wp_block ?_))))))))))))
  refine wp_loopN (fun mz az wv => ∃ (j : Nat) (us1 : Nat → Value), mz = d.tr.length - j ∧ az = ⟨[.agg (c36 f.kind f.pw f.pn f.toA f.a f.b f.n f.fi f.fn f.ti f.tn f.tr f.ids f.key f.vn f.vw f.val f.op f.ttl f.tx), .agg (c36 g.kind g.pw g.pn g.toA g.a g.b g.n g.fi g.fn g.ti g.tn g.tr g.ids g.key g.vn g.vw g.val g.op g.ttl g.tx), .pointer (some ⟨g1, 0, none⟩), .pointer (some ⟨g2, 0, none⟩), us1 0, .int .i64 ((j : Nat) : Int), undef, .pointer (some ⟨g1, 56, none⟩), .slice f.tr.ao f.tr.n f.tr.cap, .int .i64 ((f.tr.n : Nat) : Int), .pointer (some ⟨g2, 56, none⟩), .slice g.tr.ao g.tr.n g.tr.cap, .int .i64 ((g.tr.n : Nat) : Int), .bool false, .bool false, .pointer (some ⟨g1, 57, none⟩), .slice f.ids.ao f.ids.n f.ids.cap, .int .i64 ((f.ids.n : Nat) : Int), .pointer (some ⟨g2, 57, none⟩), .slice g.ids.ao g.ids.n g.ids.cap, .int .i64 ((g.ids.n : Nat) : Int), .bool false, .bool false, us1 1, us1 2, us1 3, us1 4, us1 5, us1 6, us1 7, us1 8, us1 9, us1 10, us1 11, us1 12, us1 13, us1 14, us1 15, us1 16, us1 17, us1 18, undef, undef, undef, undef, undef, undef, undef, undef, undef, undef, undef, undef, undef, undef, undef, undef, undef, undef, undef, undef, undef, undef, undef, undef, undef, undef, undef, undef, undef, undef, undef, undef, undef, undef, undef, undef, undef, undef, undef, undef, undef, undef, undef, undef, undef, undef, undef, undef, undef, undef, undef, undef, undef, undef, undef, undef, undef, undef, undef, undef, undef, undef, undef, undef, undef, undef, undef, undef, undef, undef, undef, undef, undef, undef, undef, undef, undef, undef, undef, undef, undef, undef, undef, undef, undef, undef, undef, undef, undef, undef, undef, undef, undef, undef, undef, undef, undef, undef, undef, undef, undef, undef].toArray, []⟩ ∧ j ≤ d.tr.length ∧ Gro w wv ∧ wv.heap[g1]? = some (.cells (c36 f.kind f.pw f.pn f.toA f.a f.b f.n f.fi f.fn f.ti f.tn f.tr f.ids f.key f.vn f.vw f.val f.op f.ttl f.tx) 40 (0, 0)) ∧ wv.heap[g2]? = some (.cells (c36 g.kind g.pw g.pn g.toA g.a g.b g.n g.fi g.fn g.ti g.tn g.tr g.ids g.key g.vn g.vw g.val g.op g.ttl g.tx) 40 (0, 0))) ?_ _ ⟨0, usB [4, 23, 24, 25, 26, 27, 28, 29, 30, 31, 32, 33, 34, 35, 36, 37, 38, 39, 40] rfl rfl ⟨Nat.zero_le _, GG, kg1, kg2⟩⟩
  clear kg1 kg2 GG
  rintro mz az wv ⟨j, us1, rfl, rfl, hj, GG, kg1, kg2⟩
  refine wp_seq (wp_seq (wp_region_lit (mv 23 (.int .i64 ((j : Nat) : Int)) ?_)))
  refine nr ?_; intro U h; simp only [z0, z1] at h; subst h
  refine sv 24 (.pointer (some ⟨g1, 56, none⟩)) (run_fld 40 _ 8 rfl _ _ rfl _) (sv 25 (.slice f.tr.ao f.tr.n f.tr.cap) (run_ldc 32 _ rfl g1 56 rfl 40 _ kg1 (na28 _) _ rfl) (sv 26 (.int .i64 ((f.tr.n : Nat) : Int)) (run_len Try.underlying32 _ rfl _ _ _ rfl _) ?_))
  refine nr ?_; intro U h; simp only [z0, z1] at h; subst h
  obtain ⟨p1, hp1⟩ : ∃ p, decide (((j : Nat) : Int) < ((f.tr.n : Nat) : Int)) = p := ⟨_, rfl⟩
  refine sv 27 (.bool p1) (run_lssT 3 _ _ _ rfl ((j : Nat) : Int) ((f.tr.n : Nat) : Int) rfl rfl p1 hp1 _) ?_
  refine nr ?_; intro U h; simp only [z0, z1] at h; subst h
  cases p1
  refine wpList_nil (then_n (wp_cond_false rfl (wp_exit (then_x (then_x (blk_x (then_n (wp_seq (wp_seq (wp_region_lit (mv 6 (.int .i64 0) (wpList_nil (then_n (wp_block ?_))))))))))))))
  refine wp_loopN (fun mz az wv => ∃ (i : Nat) (us2 : Nat → Value), mz = d.ids.length - i ∧ az = ⟨[.agg (c36 f.kind f.pw f.pn f.toA f.a f.b f.n f.fi f.fn f.ti f.tn f.tr f.ids f.key f.vn f.vw f.val f.op f.ttl f.tx), .agg (c36 g.kind g.pw g.pn g.toA g.a g.b g.n g.fi g.fn g.ti g.tn g.tr g.ids g.key g.vn g.vw g.val g.op g.ttl g.tx), .pointer (some ⟨g1, 0, none⟩), .pointer (some ⟨g2, 0, none⟩), us2 0, .int .i64 ((j : Nat) : Int), .int .i64 ((i : Nat) : Int), .pointer (some ⟨g1, 56, none⟩), .slice f.tr.ao f.tr.n f.tr.cap, .int .i64 ((f.tr.n : Nat) : Int), .pointer (some ⟨g2, 56, none⟩), .slice g.tr.ao g.tr.n g.tr.cap, .int .i64 ((g.tr.n : Nat) : Int), .bool false, .bool false, .pointer (some ⟨g1, 57, none⟩), .slice f.ids.ao f.ids.n f.ids.cap, .int .i64 ((f.ids.n : Nat) : Int), .pointer (some ⟨g2, 57, none⟩), .slice g.ids.ao g.ids.n g.ids.cap, .int .i64 ((g.ids.n : Nat) : Int), .bool false, .bool false, .int .i64 ((j : Nat) : Int), .pointer (some ⟨g1, 56, none⟩), .slice f.tr.ao f.tr.n f.tr.cap, .int .i64 ((f.tr.n : Nat) : Int), .bool false, us1 6, us1 7, us1 8, us1 9, us1 10, us1 11, us1 12, us1 13, us1 14, us1 15, us1 16, us1 17, us1 18, us2 1, us2 2, us2 3, us2 4, us2 5, us2 6, us2 7, us2 8, us2 9, us2 10, us2 11, us2 12, us2 13, us2 14, us2 15, us2 16, us2 17, us2 18, undef, undef, undef, undef, undef, undef, undef, undef, undef, undef, undef, undef, undef, undef, undef, undef, undef, undef, undef, undef, undef, undef, undef, undef, undef, undef, undef, undef, undef, undef, undef, undef, undef, undef, undef, undef, undef, undef, undef, undef, undef, undef, undef, undef, undef, undef, undef, undef, undef, undef, undef, undef, undef, undef, undef, undef, undef, undef, undef, undef, undef, undef, undef, undef, undef, undef, undef, undef, undef, undef, undef, undef, undef, undef, undef, undef, undef, undef, undef, undef, undef, undef, undef, undef].toArray, []⟩ ∧ i ≤ d.ids.length ∧ Gro w wv ∧ wv.heap[g1]? = some (.cells (c36 f.kind f.pw f.pn f.toA f.a f.b f.n f.fi f.fn f.ti f.tn f.tr f.ids f.key f.vn f.vw f.val f.op f.ttl f.tx) 40 (0, 0)) ∧ wv.heap[g2]? = some (.cells (c36 g.kind g.pw g.pn g.toA g.a g.b g.n g.fi g.fn g.ti g.tn g.tr g.ids g.key g.vn g.vw g.val g.op g.ttl g.tx) 40 (0, 0))) ?_ _ ⟨0, usB [4, 41, 42, 43, 44, 45, 46, 47, 48, 49, 50, 51, 52, 53, 54, 55, 56, 57, 58] rfl rfl ⟨Nat.zero_le _, GG, kg1, kg2⟩⟩
  clear kg1 kg2 GG
  rintro mz az wv ⟨i, us2, rfl, rfl, hi, GG, kg1, kg2⟩
  refine wp_seq (wp_seq (wp_region_lit (mv 41 (.int .i64 ((i : Nat) : Int)) (sv 42 (.pointer (some ⟨g1, 57, none⟩)) (run_fld 40 _ 9 rfl _ _ rfl _) ?_))))
  refine nr ?_; intro U h; simp only [z0, z1] at h; subst h
  refine sv 43 (.slice f.ids.ao f.ids.n f.ids.cap) (run_ldc 33 _ rfl g1 57 rfl 40 _ kg1 (na29 _) _ rfl) (sv 44 (.int .i64 ((f.ids.n : Nat) : Int)) (run_len Try.underlying33 _ rfl _ _ _ rfl _) ?_)
  refine nr ?_; intro U h; simp only [z0, z1] at h; subst h
  obtain ⟨p2, hp2⟩ : ∃ p, decide (((i : Nat) : Int) < ((f.ids.n : Nat) : Int)) = p := ⟨_, rfl⟩
  refine sv 45 (.bool p2) (run_lssT 3 _ _ _ rfl ((i : Nat) : Int) ((f.ids.n : Nat) : Int) rfl rfl p2 hp2 _) ?_
  refine nr ?_; intro U h; simp only [z0, z1] at h; subst h
  cases p2
  refine wpList_nil (then_n (wp_cond_false rfl (wp_exit (then_x (then_x (blk_x (then_n (wp_seq ?_))))))))
  refine wp_region_opq ?_
  simp only [List.append]
  intro OPS hY
  have y5 := hY 5 64 rfl
  have y12 := hY 12 71 rfl
  have y19 := hY 19 78 rfl
  have y26 := hY 26 85 rfl
  have y33 := hY 33 92 rfl
  have y40 := hY 40 99 rfl
  have y47 := hY 47 106 rfl
  have y54 := hY 54 113 rfl
  have y61 := hY 61 120 rfl
  have y68 := hY 68 127 rfl
  have y75 := hY 75 134 rfl
  clear hY
  refine sv 59 (.pointer (some ⟨g1, 0, none⟩)) (run_fld 40 _ 0 rfl _ _ rfl _) (sv 60 (.int .i64 f.kind) (run_ldc 3 _ rfl g1 0 rfl 40 _ kg1 (na3 _) _ rfl) (sv 61 (.pointer (some ⟨g2, 0, none⟩)) (run_fld 40 _ 0 rfl _ _ rfl _) ?_))
  refine nr ?_; intro U h; simp only [z0, z1] at h; subst h
  refine sv 62 (.int .i64 g.kind) (run_ldc 3 _ rfl g2 0 rfl 40 _ kg2 (na3 _) _ rfl) (sv 63 (.bool true) (run_eq_k 3 .i64 _ _ _ rfl Try.underlying3 f.kind g.kind rfl rfl true (decide_eq_true hk) _) (mv 64 (.bool true) ?_))
  refine nr ?_; intro U h; simp only [z0, z1] at h; subst h
  refine s_gvalY 65 rfl rfl y5 rfl (.pointer (some ⟨g1, 1, none⟩)) (run_fld 40 _ 1 rfl _ _ rfl _) (s_gvalY 66 rfl rfl y5 rfl (.agg (c25 f.pw f.pn)) (run_lda 29 _ rfl g1 1 17 rfl 40 _ kg1 _ Try.underlying29 rfl si25 _) (s_gvalY 67 rfl rfl y5 rfl (.pointer (some ⟨g2, 1, none⟩)) (run_fld 40 _ 1 rfl _ _ rfl _) ?_))
  refine nr ?_; intro U h; simp only [z0, z1] at h; subst h
  refine s_gvalY 68 rfl rfl y5 rfl (.agg (c25 g.pw g.pn)) (run_lda 29 _ rfl g2 1 17 rfl 40 _ kg2 _ Try.underlying29 rfl si25 _) (s_gvalY 69 rfl rfl y5 rfl (.bool true) (run_cmpA .eql 29 _ _ _ rfl _ _ rfl rfl (by kernel_rfl) _ ((eq25 f.pw g.pw f.pn g.pn _).trans (by rw [decide_eq_true hE.pw, decide_eq_true hE.pn]; rfl))) (mv 70 (.bool true) ?_))
  refine nr ?_; intro U h; simp only [z0, z1] at h; subst h
  refine mv 71 (.bool true) (s_gvalY 72 rfl rfl y12 rfl (.pointer (some ⟨g1, 18, none⟩)) (run_fld 40 _ 2 rfl _ _ rfl _) (s_gvalY 73 rfl rfl y12 rfl (.bool f.toA) (run_ldc 4 _ rfl g1 18 rfl 40 _ kg1 (na4 _) _ rfl) ?_))
  refine nr ?_; intro U h; simp only [z0, z1] at h; subst h
  refine s_gvalY 74 rfl rfl y12 rfl (.pointer (some ⟨g2, 18, none⟩)) (run_fld 40 _ 2 rfl _ _ rfl _) (s_gvalY 75 rfl rfl y12 rfl (.bool g.toA) (run_ldc 4 _ rfl g2 18 rfl 40 _ kg2 (na4 _) _ rfl) (s_gvalY 76 rfl rfl y12 rfl (.bool true) (run_eqB 4 _ _ _ rfl f.toA g.toA rfl rfl Try.underlying4 true (decide_eq_true hE.toA) _) ?_))
  refine nr ?_; intro U h; simp only [z0, z1] at h; subst h
  refine mv 77 (.bool true) (mv 78 (.bool true) (s_gvalY 79 rfl rfl y19 rfl (.pointer (some ⟨g1, 19, none⟩)) (run_fld 40 _ 3 rfl _ _ rfl _) ?_))
  refine nr ?_; intro U h; simp only [z0, z1] at h; subst h
  refine s_gvalY 80 rfl rfl y19 rfl (.agg (c23 f.a)) (run_lda 27 _ rfl g1 19 16 rfl 40 _ kg1 _ Try.underlying27 rfl si23 _) (s_gvalY 81 rfl rfl y19 rfl (.pointer (some ⟨g2, 19, none⟩)) (run_fld 40 _ 3 rfl _ _ rfl _) (s_gvalY 82 rfl rfl y19 rfl (.agg (c23 g.a)) (run_lda 27 _ rfl g2 19 16 rfl 40 _ kg2 _ Try.underlying27 rfl si23 _) ?_))
  refine nr ?_; intro U h; simp only [z0, z1] at h; subst h
  refine s_gvalY 83 rfl rfl y19 rfl (.bool true) (run_cmpA .eql 27 _ _ _ rfl _ _ rfl rfl (by kernel_rfl) _ ((eq23 f.a g.a _).trans (by rw [decide_eq_true hE.a]))) (mv 84 (.bool true) (mv 85 (.bool true) ?_))
  refine nr ?_; intro U h; simp only [z0, z1] at h; subst h
  refine s_gvalY 86 rfl rfl y26 rfl (.pointer (some ⟨g1, 35, none⟩)) (run_fld 40 _ 4 rfl _ _ rfl _) (s_gvalY 87 rfl rfl y26 rfl (.agg (c23 f.b)) (run_lda 27 _ rfl g1 35 16 rfl 40 _ kg1 _ Try.underlying27 rfl si23 _) (s_gvalY 88 rfl rfl y26 rfl (.pointer (some ⟨g2, 35, none⟩)) (run_fld 40 _ 4 rfl _ _ rfl _) ?_))
  refine nr ?_; intro U h; simp only [z0, z1] at h; subst h
  refine s_gvalY 89 rfl rfl y26 rfl (.agg (c23 g.b)) (run_lda 27 _ rfl g2 35 16 rfl 40 _ kg2 _ Try.underlying27 rfl si23 _) (s_gvalY 90 rfl rfl y26 rfl (.bool true) (run_cmpA .eql 27 _ _ _ rfl _ _ rfl rfl (by kernel_rfl) _ ((eq23 f.b g.b _).trans (by rw [decide_eq_true hE.b]))) (mv 91 (.bool true) ?_))
  refine nr ?_; intro U h; simp only [z0, z1] at h; subst h
  refine mv 92 (.bool true) (s_gvalY 93 rfl rfl y33 rfl (.pointer (some ⟨g1, 51, none⟩)) (run_fld 40 _ 5 rfl _ _ rfl _) (s_gvalY 94 rfl rfl y33 rfl (.int .i64 f.n) (run_ldc 2 _ rfl g1 51 rfl 40 _ kg1 (na2 _) _ rfl) ?_))
  refine nr ?_; intro U h; simp only [z0, z1] at h; subst h
  refine s_gvalY 95 rfl rfl y33 rfl (.pointer (some ⟨g2, 51, none⟩)) (run_fld 40 _ 5 rfl _ _ rfl _) (s_gvalY 96 rfl rfl y33 rfl (.int .i64 g.n) (run_ldc 2 _ rfl g2 51 rfl 40 _ kg2 (na2 _) _ rfl) (s_gvalY 97 rfl rfl y33 rfl (.bool true) (run_eq_k 2 .i64 _ _ _ rfl Try.underlying2 f.n g.n rfl rfl true (decide_eq_true hE.n) _) ?_))
  refine nr ?_; intro U h; simp only [z0, z1] at h; subst h
  refine mv 98 (.bool true) (mv 99 (.bool true) (s_gvalY 100 rfl rfl y40 rfl (.pointer (some ⟨g1, 52, none⟩)) (run_fld 40 _ 6 rfl _ _ rfl _) ?_))
  refine nr ?_; intro U h; simp only [z0, z1] at h; subst h
  refine s_gvalY 101 rfl rfl y40 rfl (.agg (c27 f.fi f.fn)) (run_lda 31 _ rfl g1 52 2 rfl 40 _ kg1 _ Try.underlying31 rfl si27 _) (s_gvalY 102 rfl rfl y40 rfl (.pointer (some ⟨g2, 52, none⟩)) (run_fld 40 _ 6 rfl _ _ rfl _) (s_gvalY 103 rfl rfl y40 rfl (.agg (c27 g.fi g.fn)) (run_lda 31 _ rfl g2 52 2 rfl 40 _ kg2 _ Try.underlying31 rfl si27 _) ?_))
  refine nr ?_; intro U h; simp only [z0, z1] at h; subst h
  refine s_gvalY 104 rfl rfl y40 rfl (.bool true) (run_cmpA .eql 31 _ _ _ rfl _ _ rfl rfl (by kernel_rfl) _ ((eq27 f.fi g.fi f.fn g.fn _).trans (by rw [decide_eq_true hE.fi, decide_eq_true hE.fn]; rfl))) (mv 105 (.bool true) (mv 106 (.bool true) ?_))
  refine nr ?_; intro U h; simp only [z0, z1] at h; subst h
  refine s_gvalY 107 rfl rfl y47 rfl (.pointer (some ⟨g1, 54, none⟩)) (run_fld 40 _ 7 rfl _ _ rfl _) (s_gvalY 108 rfl rfl y47 rfl (.agg (c27 f.ti f.tn)) (run_lda 31 _ rfl g1 54 2 rfl 40 _ kg1 _ Try.underlying31 rfl si27 _) (s_gvalY 109 rfl rfl y47 rfl (.pointer (some ⟨g2, 54, none⟩)) (run_fld 40 _ 7 rfl _ _ rfl _) ?_))
  refine nr ?_; intro U h; simp only [z0, z1] at h; subst h
  refine s_gvalY 110 rfl rfl y47 rfl (.agg (c27 g.ti g.tn)) (run_lda 31 _ rfl g2 54 2 rfl 40 _ kg2 _ Try.underlying31 rfl si27 _) (s_gvalY 111 rfl rfl y47 rfl (.bool true) (run_cmpA .eql 31 _ _ _ rfl _ _ rfl rfl (by kernel_rfl) _ ((eq27 f.ti g.ti f.tn g.tn _).trans (by rw [decide_eq_true hE.ti, decide_eq_true hE.tn]; rfl))) (mv 112 (.bool true) ?_))
  refine nr ?_; intro U h; simp only [z0, z1] at h; subst h
  refine mv 113 (.bool true) (s_gvalY 114 rfl rfl y54 rfl (.pointer (some ⟨g1, 58, none⟩)) (run_fld 40 _ 10 rfl _ _ rfl _) (s_gvalY 115 rfl rfl y54 rfl (.agg (c34 f.key f.vn f.vw f.val)) (run_lda 38 _ rfl g1 58 34 rfl 40 _ kg1 _ Try.underlying38 rfl si34 _) ?_))
  refine nr ?_; intro U h; simp only [z0, z1] at h; subst h
  refine s_gvalY 116 rfl rfl y54 rfl (.pointer (some ⟨g2, 58, none⟩)) (run_fld 40 _ 10 rfl _ _ rfl _) (s_gvalY 117 rfl rfl y54 rfl (.agg (c34 g.key g.vn g.vw g.val)) (run_lda 38 _ rfl g2 58 34 rfl 40 _ kg2 _ Try.underlying38 rfl si34 _) ?_)
  refine s_gcallvY 118 rfl rfl y54 rfl _ 16 Try.call16 rfl rfl _ rfl [.agg (c34 f.key f.vn f.vw f.val), .agg (c34 g.key g.vn g.vw g.val)] rfl (sameItem_t f g d _ (HF.gro GG) (HG.gro GG) hE) ?_
  intro w3 G
  replace kg1 := G.has kg1
  replace kg2 := G.has kg2
  replace GG := GG.trans G
  clear G
  refine nr ?_; intro U h; simp only [z0, z1] at h; subst h
  refine mv 119 (.bool true) (mv 120 (.bool true) (s_gvalY 121 rfl rfl y61 rfl (.pointer (some ⟨g1, 92, none⟩)) (run_fld 40 _ 11 rfl _ _ rfl _) ?_))
  refine nr ?_; intro U h; simp only [z0, z1] at h; subst h
  refine s_gvalY 122 rfl rfl y61 rfl (.int .i64 f.op) (run_ldc 3 _ rfl g1 92 rfl 40 _ kg1 (na3 _) _ rfl) (s_gvalY 123 rfl rfl y61 rfl (.pointer (some ⟨g2, 92, none⟩)) (run_fld 40 _ 11 rfl _ _ rfl _) (s_gvalY 124 rfl rfl y61 rfl (.int .i64 g.op) (run_ldc 3 _ rfl g2 92 rfl 40 _ kg2 (na3 _) _ rfl) ?_))
  refine nr ?_; intro U h; simp only [z0, z1] at h; subst h
  refine s_gvalY 125 rfl rfl y61 rfl (.bool true) (run_eq_k 3 .i64 _ _ _ rfl Try.underlying3 f.op g.op rfl rfl true (decide_eq_true hE.op) _) (mv 126 (.bool true) (mv 127 (.bool true) ?_))
  refine nr ?_; intro U h; simp only [z0, z1] at h; subst h
  refine s_gvalY 128 rfl rfl y68 rfl (.pointer (some ⟨g1, 93, none⟩)) (run_fld 40 _ 12 rfl _ _ rfl _) (s_gvalY 129 rfl rfl y68 rfl (.int .i64 f.ttl) (run_ldc 3 _ rfl g1 93 rfl 40 _ kg1 (na3 _) _ rfl) (s_gvalY 130 rfl rfl y68 rfl (.pointer (some ⟨g2, 93, none⟩)) (run_fld 40 _ 12 rfl _ _ rfl _) ?_))
  refine nr ?_; intro U h; simp only [z0, z1] at h; subst h
  refine s_gvalY 131 rfl rfl y68 rfl (.int .i64 g.ttl) (run_ldc 3 _ rfl g2 93 rfl 40 _ kg2 (na3 _) _ rfl) (s_gvalY 132 rfl rfl y68 rfl (.bool true) (run_eq_k 3 .i64 _ _ _ rfl Try.underlying3 f.ttl g.ttl rfl rfl true (decide_eq_true hE.ttl) _) (mv 133 (.bool true) ?_))
  refine nr ?_; intro U h; simp only [z0, z1] at h; subst h
  refine mv 134 (.bool true) (s_gvalY 135 rfl rfl y75 rfl (.pointer (some ⟨g1, 94, none⟩)) (run_fld 40 _ 13 rfl _ _ rfl _) (s_gvalY 136 rfl rfl y75 rfl (.slice f.tx.ao f.tx.n f.tx.cap) (run_ldc 36 _ rfl g1 94 rfl 40 _ kg1 (na32 _) _ rfl) ?_))
  refine nr ?_; intro U h; simp only [z0, z1] at h; subst h
  refine s_gvalY 137 rfl rfl y75 rfl (.string (bas d.tx)) (run_text_op bT 9 Try.underlying9 _ rfl (l := d.tx) (by rw [← lfx]; rfl) (xc_nc (HF.gro GG).tx HF.otx)) (s_gvalY 138 rfl rfl y75 rfl (.pointer (some ⟨g2, 94, none⟩)) (run_fld 40 _ 13 rfl _ _ rfl _) (s_gvalY 139 rfl rfl y75 rfl (.slice g.tx.ao g.tx.n g.tx.cap) (run_ldc 36 _ rfl g2 94 rfl 40 _ kg2 (na32 _) _ rfl) ?_))
  refine nr ?_; intro U h; simp only [z0, z1] at h; subst h
  refine s_gvalY 140 rfl rfl y75 rfl (.string (bas d.tx)) (run_text_op bT 9 Try.underlying9 _ rfl (l := d.tx) (by rw [← lgx]; rfl) (xc_nc (HG.gro GG).tx HG.otx)) (s_gvalY 141 rfl rfl y75 rfl (.bool true) (run_eqs_op _ _ _ rfl _ _ rfl rfl true (decide_eq_true rfl) _) (mv 142 (.bool true) ?_))
  refine nr ?_; intro U h; simp only [z0, z1] at h; subst h
  refine mv 4 (.bool true) (wpList_nil (then_n (wp_ret ?_)))
  refine bodyPost_ret (results_tmp Try.results7 _ _ _) rfl ?_
  exact ⟨rfl, GG⟩
  have hin : i < d.ids.length := by have := of_decide_eq_true hp2; omega
  obtain ⟨ad, hao⟩ := HF.ids.some (by omega)
  obtain ⟨bd, hbo⟩ := HG.ids.some (by omega)
  have hc1 := cellsI_at d.ids i HF.oids hin
  have hc2 := (HF.oids _ (getD_mem d.ids [] i hin)).1
  have E1c : (((cellsI d.ids).drop (i * 16)).take 16).toArray = c23 (idF (d.ids.getD i [])) := by rw [hc1, ← bA_c23 hc2]; rfl
  refine wpList_nil (then_n (wp_cond_true rfl (wp_skip (then_n (wp_seq (wp_block (wp_seq ?_)))))))
  refine wp_region_exA (A := ?Ax1) 10 [(0, 48), (1, 49), (2, 50), (3, 51), (4, 52), (5, 53), (6, 54), (7, 55), (8, 56), (9, 57)] [.val (.pointer (some ⟨g1, 57, none⟩)), .val (.slice f.ids.ao f.ids.n f.ids.cap), .val (.int .i64 ((i : Nat) : Int)), .val (.pointer (some (ad.add (i * 16)))), .val (.agg (c23 (idF (d.ids.getD i [])))), .val (.pointer (some ⟨g2, 57, none⟩)), .val (.slice g.ids.ao g.ids.n g.ids.cap), .val (.int .i64 ((i : Nat) : Int)), .val (.pointer (some (bd.add (i * 16)))), .val (.agg (c23 (idF (d.ids.getD i []))))] follows (by kernel_rfl) rfl ?hAx1 (opsA_cons ?o0x1 (opsA_cons ?o1x1 (opsA_cons ?o2x1 (opsA_cons ?o3x1 (opsA_cons ?o4x1 (opsA_cons ?o5x1 (opsA_cons ?o6x1 (opsA_cons ?o7x1 (opsA_cons ?o8x1 (opsA_cons ?o9x1 opsA_nil)))))))))) ?restx1
  case hAx1 =>
    intro ptrs
    simp only [full, foldSlots, filledE, postE, List.foldl_cons, List.foldl_nil, List.getD_cons_zero, List.getD_cons_succ, fill_val, List.set_cons_zero, List.set_cons_succ]
    exact rfl
  case o0x1 => exact fun _ _ hw _ => opE_value (v := .pointer (some ⟨g1, 57, none⟩)) rfl (run_fld 40 _ 9 rfl _ _ rfl _)
  case o1x1 => exact fun _ _ hw _ => opE_value (v := .slice f.ids.ao f.ids.n f.ids.cap) rfl (run_ldc 33 _ rfl g1 57 rfl 40 _ (hw.has kg1) (na29 _) _ rfl)
  case o2x1 => exact fun _ _ _ _ => opE_move (v := .int .i64 ((i : Nat) : Int)) _ rfl rfl rfl
  case o3x1 => exact fun _ _ hw _ => opE_value (v := .pointer (some (ad.add (i * 16)))) rfl (run_idxX iT29 _ _ rfl ad f.ids.n f.ids.cap i (by exact congrArg (fun a => Value.slice a f.ids.n f.ids.cap) hao) rfl (by omega) _)
  case o4x1 => exact fun _ _ hw _ => opE_value (v := .agg (c23 (idF (d.ids.getD i [])))) rfl (run_ldXv iT29 _ Try.underlying27 rfl _ rfl ad i rfl _ (by rw [← hao]; exact HF.ids.gro (GG.drew.trans hw)) (by omega) _ E1c)
  case o5x1 => exact fun _ _ hw _ => opE_value (v := .pointer (some ⟨g2, 57, none⟩)) rfl (run_fld 40 _ 9 rfl _ _ rfl _)
  case o6x1 => exact fun _ _ hw _ => opE_value (v := .slice g.ids.ao g.ids.n g.ids.cap) rfl (run_ldc 33 _ rfl g2 57 rfl 40 _ (hw.has kg2) (na29 _) _ rfl)
  case o7x1 => exact fun _ _ _ _ => opE_move (v := .int .i64 ((i : Nat) : Int)) _ rfl rfl rfl
  case o8x1 => exact fun _ _ hw _ => opE_value (v := .pointer (some (bd.add (i * 16)))) rfl (run_idxX iT29 _ _ rfl bd g.ids.n g.ids.cap i (by exact congrArg (fun a => Value.slice a g.ids.n g.ids.cap) hbo) rfl (by omega) _)
  case o9x1 => exact fun _ _ hw _ => opE_value (v := .agg (c23 (idF (d.ids.getD i [])))) rfl (run_ldXv iT29 _ Try.underlying27 rfl _ rfl bd i rfl _ (by rw [← hbo]; exact HG.ids.gro (GG.drew.trans hw)) (by omega) _ E1c)
  intro ptrs w3 GD hxE
  simp only [List.drop_succ_cons, List.drop_zero]
  replace kg1 := GD.has kg1
  replace kg2 := GD.has kg2
  replace GG := GG.drew.trans GD
  clear GD
  refine sv 58 (.bool false) (run_cmpA .neq 27 _ _ _ rfl _ _ rfl rfl (by kernel_rfl) _ ((ne23 _ _ _).trans (by simp))) (wpList_nil (then_n (wp_cond_false rfl (wp_skip (blk_n (then_n (wp_region_lit (mv 46 (.int .i64 ((i : Nat) : Int)) ?_))))))))
  refine nr ?_; intro U h; simp only [z0, z1] at h; subst h
  refine sv 47 (.int .i64 ((i + 1 : Nat) : Int)) (run_add64 _ _ _ rfl ((i : Nat) : Int) 1 _ rfl rfl (by omega) (by omega) (by omega) _) (mv 6 (.int .i64 ((i + 1 : Nat) : Int)) (wpList_nil (then_n ?_)))
  exact ⟨_, (by omega : d.ids.length - (i + 1) < d.ids.length - i), i + 1, usB [4, 41, 42, 43, 44, 45, 46, 47, 48, 49, 50, 51, 52, 53, 54, 55, 56, 57, 58] rfl rfl ⟨hin, GG, kg1, kg2⟩⟩
  have hjn : j < d.tr.length := by have := of_decide_eq_true hp1; omega
  obtain ⟨ad, hao, clA⟩ := xc_at1 (HFt.gro GG) hjn
  obtain ⟨bd, hbo, clB⟩ := xc_at1 (HGt.gro GG) hjn
  refine wpList_nil (then_n (wp_cond_true rfl (wp_skip (then_n (wp_seq (wp_block (wp_seq ?_)))))))
  refine wp_region_exA (A := ?Ax2) 10 [(0, 30), (1, 31), (2, 32), (3, 33), (4, 34), (5, 35), (6, 36), (7, 37), (8, 38), (9, 39)] [.val (.pointer (some ⟨g1, 56, none⟩)), .val (.slice f.tr.ao f.tr.n f.tr.cap), .val (.int .i64 ((j : Nat) : Int)), .val (.pointer (some (ad.add j))), .val (.int .i64 (d.tr.getD j 0)), .val (.pointer (some ⟨g2, 56, none⟩)), .val (.slice g.tr.ao g.tr.n g.tr.cap), .val (.int .i64 ((j : Nat) : Int)), .val (.pointer (some (bd.add j))), .val (.int .i64 (d.tr.getD j 0))] follows (by kernel_rfl) rfl ?hAx2 (opsA_cons ?o0x2 (opsA_cons ?o1x2 (opsA_cons ?o2x2 (opsA_cons ?o3x2 (opsA_cons ?o4x2 (opsA_cons ?o5x2 (opsA_cons ?o6x2 (opsA_cons ?o7x2 (opsA_cons ?o8x2 (opsA_cons ?o9x2 opsA_nil)))))))))) ?restx2
  case hAx2 =>
    intro ptrs
    simp only [full, foldSlots, filledE, postE, List.foldl_cons, List.foldl_nil, List.getD_cons_zero, List.getD_cons_succ, fill_val, List.set_cons_zero, List.set_cons_succ]
    exact rfl
  case o0x2 => exact fun _ _ hw _ => opE_value (v := .pointer (some ⟨g1, 56, none⟩)) rfl (run_fld 40 _ 8 rfl _ _ rfl _)
  case o1x2 => exact fun _ _ hw _ => opE_value (v := .slice f.tr.ao f.tr.n f.tr.cap) rfl (run_ldc 32 _ rfl g1 56 rfl 40 _ (hw.has kg1) (na28 _) _ rfl)
  case o2x2 => exact fun _ _ _ _ => opE_move (v := .int .i64 ((j : Nat) : Int)) _ rfl rfl rfl
  case o3x2 => exact fun _ _ hw _ => opE_value (v := .pointer (some (ad.add j))) rfl (run_idx1 iT28 _ _ rfl ad f.tr.n f.tr.cap j (by exact congrArg (fun a => Value.slice a f.tr.n f.tr.cap) hao) rfl (by omega) _)
  case o4x2 => exact fun _ _ hw _ => opE_value (v := .int .i64 (d.tr.getD j 0)) rfl (run_ldc1 3 (na3 _) _ rfl (ad.add j) rfl _ (cell_gro hw clA))
  case o5x2 => exact fun _ _ hw _ => opE_value (v := .pointer (some ⟨g2, 56, none⟩)) rfl (run_fld 40 _ 8 rfl _ _ rfl _)
  case o6x2 => exact fun _ _ hw _ => opE_value (v := .slice g.tr.ao g.tr.n g.tr.cap) rfl (run_ldc 32 _ rfl g2 56 rfl 40 _ (hw.has kg2) (na28 _) _ rfl)
  case o7x2 => exact fun _ _ _ _ => opE_move (v := .int .i64 ((j : Nat) : Int)) _ rfl rfl rfl
  case o8x2 => exact fun _ _ hw _ => opE_value (v := .pointer (some (bd.add j))) rfl (run_idx1 iT28 _ _ rfl bd g.tr.n g.tr.cap j (by exact congrArg (fun a => Value.slice a g.tr.n g.tr.cap) hbo) rfl (by omega) _)
  case o9x2 => exact fun _ _ hw _ => opE_value (v := .int .i64 (d.tr.getD j 0)) rfl (run_ldc1 3 (na3 _) _ rfl (bd.add j) rfl _ (cell_gro hw clB))
  intro ptrs w3 GD hxE
  simp only [List.drop_succ_cons, List.drop_zero]
  replace kg1 := GD.has kg1
  replace kg2 := GD.has kg2
  replace GG := GG.drew.trans GD
  clear GD
  refine sv 40 (.bool false) (run_neq_k 3 .i64 _ _ _ rfl Try.underlying3 (d.tr.getD j 0) (d.tr.getD j 0) rfl rfl false (decide_eq_true rfl) _) ?_
  refine nr ?_; intro U h; simp only [z0, z1] at h; subst h
  refine wpList_nil (then_n (wp_cond_false rfl (wp_skip (blk_n (then_n (wp_region_lit (mv 28 (.int .i64 ((j : Nat) : Int)) (sv 29 (.int .i64 ((j + 1 : Nat) : Int)) (run_add64 _ _ _ rfl ((j : Nat) : Int) 1 _ rfl rfl (by omega) (by omega) (by omega) _) (mv 5 (.int .i64 ((j + 1 : Nat) : Int)) ?_)))))))))
  refine nr ?_; intro U h; simp only [z0, z1] at h; subst h
  refine wpList_nil (then_n ?_)
  exact ⟨_, (by omega : d.tr.length - (j + 1) < d.tr.length - j), j + 1, usB [4, 23, 24, 25, 26, 27, 28, 29, 30, 31, 32, 33, 34, 35, 36, 37, 38, 39, 40] rfl rfl ⟨hjn, GG, kg1, kg2⟩⟩
end Go.Proofs.Ythmcnlmphikicab
