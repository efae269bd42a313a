/- A plain frame's body is there just where its kind is (FrameBodies). -/
import Derived.Test.YthmcnlmphikicaaDL4
import Derived.Test.YthmcnlmphikicaaDK4
namespace Go.Proofs.Ythmcnlmphikicaa
open Go.RowKit
theorem opE_invK {ops : Array Oper} {o : Oper} {A : Act} {w : World} (hw : Region.wanted o (yielded ops A.tmps) = true) (x : Operand) (ho : o.op = .call { callee := .invoke x "Kind", args := #[], argTypes := #[] }) (b : Value) (hx : A.eval x = b) (k : Int) (H : KindOK b k) : OpE Try.prog ops (.val (.int .i64 k)) o A w := by
  obtain ⟨f, vs, h1, h2⟩ := H.run w
  exact ⟨by rw [if_pos hw, run_inv x "Kind" ho b hx h1]; exact h2.mono fun e w' ⟨he, hg⟩ => ⟨_, he, hg, rfl⟩⟩
theorem of_k (k : Nat) (h1 : 1 ≤ k) (h2 : k ≤ 12) (f : Fr) (hk : f.kind = (k : Int)) (d : FD) (w : World) (HW : FrW w f d) (HS : FrS f) : Calls Try.prog 16 #[.agg (frA f)] w fun e w' => ∃ s1 s2 s3 s4 : Sl, e = .returned (.tuple #[bodyV k { f with tr := s1, ids := s2, val := s3, tx := s4 }, .bool true]) ∧ FrO w' w.heap.size { f with tr := s1, ids := s2, val := s3, tx := s4 } d ∧ Gro w w' :=
  of_any k h1 h2 f hk d w HW HS
set_option maxRecDepth 100000 in
set_option maxHeartbeats 4000000 in
theorem frameBodies_no (w : World) (f : Fr) (d : FD) (HW : FrW w f d) (HS : FrS f) (hk : ¬ (1 ≤ f.kind ∧ f.kind ≤ 12)) : Calls Try.prog 5 #[.agg (c36 f.kind f.pw f.pn f.toA f.a f.b f.n f.fi f.fn f.ti f.tn f.tr f.ids f.key f.vn f.vw f.val f.op f.ttl f.tx)] w fun e w' => e = .returned (.bool true) ∧ Gro w w' := by
  refine s_enterR Try.func5 rfl Try.ntmps5 [.agg (c36 f.kind f.pw f.pn f.toA f.a f.b f.n f.fi f.fn f.ti f.tn f.tr f.ids f.key f.vn f.vw f.val f.op f.ttl f.tx)] ?_
  intro U h; simp only [List.length_cons, List.length_nil, List.cons_append, List.nil_append, Nat.reduceAdd, Nat.reduceSub, List.reduceReplicate] at h; subst h
  have GG := Gro.refl w
  refine wp_seq (wp_region_lit ?_)
  refine s_box 1 rfl rfl 36 _ rfl _ rfl (c36 f.kind f.pw f.pn f.toA f.a f.b f.n f.fi f.fn f.ti f.tn f.tr f.ids f.key f.vn f.vw f.val f.op f.ttl f.tx) rfl ?_
  intro w1 g1 G eg1 kg1
  have bg1 := size_base GG eg1
  replace GG := GG.trans G
  clear G eg1
  refine mv 2 (.bool false) ?_
  refine nr ?_; intro U h; simp only [z0, z1] at h; subst h
  refine wpList_nil (then_n (wp_seq (wp_region_lit (sv 8 (.agg (c36 f.kind f.pw f.pn f.toA f.a f.b f.n f.fi f.fn f.ti f.tn f.tr f.ids f.key f.vn f.vw f.val f.op f.ttl f.tx)) (run_lda 36 _ rfl g1 0 95 rfl 36 _ kg1 _ Try.underlying36 rfl si36 _) ?_))))
  refine s_callv 9 rfl rfl _ 16 Try.call16 rfl rfl _ rfl [.agg (c36 f.kind f.pw f.pn f.toA f.a f.b f.n f.fi f.fn f.ti f.tn f.tr f.ids f.key f.vn f.vw f.val f.op f.ttl f.tx)] rfl (of_not f hk d _ (HW.gro GG) HS) ?_
  intro w2 G
  replace kg1 := G.has kg1
  replace GG := GG.trans G
  clear G
  refine nr ?_; intro U h; simp only [z0, z1] at h; subst h
  refine mv 7 (.tuple #[.nilIface, .bool false]) (mv 10 (.nilIface) ?_)
  refine nr ?_; intro U h; simp only [z0, z1] at h; subst h
  refine mv 11 (.bool false) (mv 3 (.nilIface) ?_)
  refine nr ?_; intro U h; simp only [z0, z1] at h; subst h
  refine mv 4 (.bool false) (wpList_nil (then_n (wp_seq (wp_region_lit (sv 13 (.agg (c36 f.kind f.pw f.pn f.toA f.a f.b f.n f.fi f.fn f.ti f.tn f.tr f.ids f.key f.vn f.vw f.val f.op f.ttl f.tx)) (run_lda 36 _ rfl g1 0 95 rfl 36 _ kg1 _ Try.underlying36 rfl si36 _) ?_)))))
  refine nr ?_; intro U h; simp only [z0, z1] at h; subst h
  refine s_callv 14 rfl rfl _ 17 Try.call17 rfl rfl _ rfl [.agg (c36 f.kind f.pw f.pn f.toA f.a f.b f.n f.fi f.fn f.ti f.tn f.tr f.ids f.key f.vn f.vw f.val f.op f.ttl f.tx)] rfl (bare_no f hk d _ (HW.gro GG) HS) ?_
  intro w3 G
  replace kg1 := G.has kg1
  replace GG := GG.trans G
  clear G
  refine mv 12 (.tuple #[.agg (c36 0 zF 0 false zF zF 0 0 0 0 0 Sl.nil Sl.nil zF 0 zF Sl.nil 0 0 Sl.nil), .bool false]) ?_
  refine nr ?_; intro U h; simp only [z0, z1] at h; subst h
  refine mv 15 (.agg (c36 0 zF 0 false zF zF 0 0 0 0 0 Sl.nil Sl.nil zF 0 zF Sl.nil 0 0 Sl.nil)) (mv 16 (.bool false) ?_)
  refine nr ?_; intro U h; simp only [z0, z1] at h; subst h
  refine s_alloc 5 rfl rfl 36 rfl _ zv36 _ rfl ?_
  intro w4 g2 G eg2 kg2
  have bg2 := size_base GG eg2
  have dg1g2 := lt_new kg1 eg2
  replace kg1 := G.has kg1
  replace GG := GG.trans G
  clear G eg2
  refine s_store rfl rfl 36 _ _ rfl g2 0 rfl (.agg (c36 0 zF 0 false zF zF 0 0 0 0 0 Sl.nil Sl.nil zF 0 zF Sl.nil 0 0 Sl.nil)) rfl 36 _ kg2 (c36 0 zF 0 false zF zF 0 0 0 0 0 Sl.nil Sl.nil zF 0 zF Sl.nil 0 0 Sl.nil) rfl (by kernel_rfl) (Nat.le_of_ble_eq_true rfl) (by kernel_rfl) (c36 0 zF 0 false zF zF 0 0 0 0 0 Sl.nil Sl.nil zF 0 zF Sl.nil 0 0 Sl.nil) (by kernel_rfl) ?_
  intro w6 St
  replace kg1 := St.has (by omega) kg1
  replace GG := GG.store St bg2
  replace kg2 := St.new
  clear St
  refine mv 6 (.bool false) ?_
  refine nr ?_; intro U h; simp only [z0, z1] at h; subst h
  refine wpList_nil (then_n (wp_seq (wp_seq ?_)))
  refine wp_region_opq ?_
  intro OPS hY
  have y3 := hY 3 20 rfl
  clear hY
  refine mv 17 (.bool false) (mv 18 (.bool false) ?_)
  refine nr ?_; intro U h; simp only [z0, z1] at h; subst h
  refine sv 19 (.bool false) (run_binop .neq 4 _ _ _ rfl _ _ _ rfl rfl (by kernel_rfl) (by kernel_rfl)) (mv 20 (.bool false) ?_)
  refine nr ?_; intro U h; simp only [z0, z1] at h; subst h
  refine s_gvalY 21 rfl rfl y3 rfl (.bool false) (rfl) (s_gvalY 22 rfl rfl y3 rfl (.bool true) (run_nt _ _ rfl false rfl) ?_)
  refine nr ?_; intro U h; simp only [z0, z1] at h; subst h
  refine mv 23 (.bool true) (wpList_nil (then_n (wp_cond_true rfl (wp_seq ?_))))
  refine wp_region_opq ?_
  intro OPS hY
  have y1 := hY 1 25 rfl
  have y6 := hY 6 30 rfl
  clear hY
  refine s_callv 24 rfl rfl _ 12 Try.call12 rfl rfl _ rfl [] rfl (fixed_any _) ?_
  intro w7 G
  replace kg1 := G.has kg1
  replace kg2 := G.has kg2
  replace GG := GG.trans G
  clear G
  refine nr ?_; intro U h; simp only [z0, z1] at h; subst h
  refine mv 25 (.bool true) (s_gvalY 26 rfl rfl y1 rfl (.bool false) (rfl) ?_)
  refine nr ?_; intro U h; simp only [z0, z1] at h; subst h
  refine s_gvalY 27 rfl rfl y1 rfl (.bool false) (rfl) (s_gvalY 28 rfl rfl y1 rfl (.bool true) (run_eqB 4 _ _ _ rfl false false rfl rfl Try.underlying4 true (by decide) _) ?_)
  refine nr ?_; intro U h; simp only [z0, z1] at h; subst h
  refine mv 29 (.bool true) (mv 30 (.bool true) ?_)
  refine nr ?_; intro U h; simp only [z0, z1] at h; subst h
  refine s_gvalY 31 rfl rfl y6 rfl (.nilIface) (rfl) (s_gvalY 32 rfl rfl y6 rfl (.bool true) (run_binop .eql 48 _ _ _ rfl _ _ _ rfl rfl (by kernel_rfl) (by kernel_rfl)) ?_)
  refine nr ?_; intro U h; simp only [z0, z1] at h; subst h
  refine mv 33 (.bool true) (mv 2 (.bool true) ?_)
  refine nr ?_; intro U h; simp only [z0, z1] at h; subst h
  refine wpList_nil (then_n (wp_ret (then_r ?_)))
  refine bodyPost_ret (results_tmp Try.results5 _ _ _) rfl ?_
  exact ⟨rfl, GG⟩
set_option maxRecDepth 100000 in
set_option maxHeartbeats 4000000 in
theorem frameBodies_is (w : World) (f : Fr) (d : FD) (HW : FrW w f d) (HS : FrS f) (hl : Lens d) (k : Nat) (h1 : 1 ≤ k) (h2 : k ≤ 12) (hk : f.kind = (k : Int)) : Calls Try.prog 5 #[.agg (c36 f.kind f.pw f.pn f.toA f.a f.b f.n f.fi f.fn f.ti f.tn f.tr f.ids f.key f.vn f.vw f.val f.op f.ttl f.tx)] w fun e w' => e = .returned (.bool true) ∧ Gro w w' := by
  refine s_enterR Try.func5 rfl Try.ntmps5 [.agg (c36 f.kind f.pw f.pn f.toA f.a f.b f.n f.fi f.fn f.ti f.tn f.tr f.ids f.key f.vn f.vw f.val f.op f.ttl f.tx)] ?_
  intro U h; simp only [List.length_cons, List.length_nil, List.cons_append, List.nil_append, Nat.reduceAdd, Nat.reduceSub, List.reduceReplicate] at h; subst h
  have GG := Gro.refl w
  refine wp_seq (wp_region_lit ?_)
  refine s_box 1 rfl rfl 36 _ rfl _ rfl (c36 f.kind f.pw f.pn f.toA f.a f.b f.n f.fi f.fn f.ti f.tn f.tr f.ids f.key f.vn f.vw f.val f.op f.ttl f.tx) rfl ?_
  intro w1 g1 G eg1 kg1
  have bg1 := size_base GG eg1
  replace GG := GG.trans G
  clear G eg1
  refine mv 2 (.bool false) ?_
  refine nr ?_; intro U h; simp only [z0, z1] at h; subst h
  refine wpList_nil (then_n (wp_seq (wp_region_lit (sv 8 (.agg (c36 f.kind f.pw f.pn f.toA f.a f.b f.n f.fi f.fn f.ti f.tn f.tr f.ids f.key f.vn f.vw f.val f.op f.ttl f.tx)) (run_lda 36 _ rfl g1 0 95 rfl 36 _ kg1 _ Try.underlying36 rfl si36 _) ?_))))
  refine s_callx 9 rfl rfl _ 16 Try.call16 rfl rfl _ rfl [.agg (c36 f.kind f.pw f.pn f.toA f.a f.b f.n f.fi f.fn f.ti f.tn f.tr f.ids f.key f.vn f.vw f.val f.op f.ttl f.tx)] rfl (of_k k h1 h2 f hk d _ (HW.gro GG) HS) (fun _ _ ⟨_, _, _, _, he, _⟩ => ⟨_, he⟩) ?_
  rintro v w2 ⟨s1, s2, s3, s4, he, HA, G⟩
  cases he
  have e1 : s1.n = f.tr.n := HA.frw.trn.trans HW.trn.symm
  have e2 : s2.n = f.ids.n := HA.frw.idn.trans HW.idn.symm
  have e3 : s3.n = f.val.n := HA.frw.valn.trans HW.valn.symm
  have e4 : s4.n = f.tx.n := HA.frw.txn.trans HW.txn.symm
  have hrq := right_eq k h1 h2 f d s1 s2 s3 s4 e1 e2 e3 e4
  have hbf := bare_eqf k h1 h2 f s1 s2 s3 s4
  have HSb : FrS ({ f with tr := s1, ids := s2, val := s3, tx := s4 } : Fr) := ⟨⟨by show s1.n * 8 ≤ _; rw [e1]; exact HS.tr.out⟩, ⟨by show s2.n * 16 ≤ _; rw [e2]; exact HS.ids.out⟩, ⟨by show s3.n * 1 ≤ _; rw [e3]; exact HS.val.out⟩, ⟨by show s4.n * 1 ≤ _; rw [e4]; exact HS.tx.out⟩⟩
  clear e1 e2 e3 e4
  obtain ⟨fb, hfb⟩ : ∃ fb, ({ f with tr := s1, ids := s2, val := s3, tx := s4 } : Fr) = fb := ⟨_, rfl⟩
  rw [hfb] at HA hrq hbf HSb ⊢
  clear hfb
  obtain ⟨tb, vb, hb⟩ := body_iface k h1 h2 fb
  obtain ⟨q, hq⟩ : ∃ q, rightB (bare k fb) (bareD k d) (ownB k fb) = q := ⟨_, rfl⟩
  have H18 : ∀ x, FrW x fb d → Calls Try.prog 18 #[.iface tb vb] x fun e w' => e = .returned (.bool q) ∧ Gro x w' := fun x hx => by rw [← hb, ← hq]; exact right_any k h1 h2 fb d x hx hl
  have H19 : ∀ x, FrW x f d → Calls Try.prog 19 #[.agg (frA f)] x fun e w' => e = .returned (.bool q) ∧ Gro x w' := fun x hx => by rw [← hq, hrq, ← hk]; exact right_d f d x hx hl
  have H20 : ∀ x, FrW x fb d → Calls Try.prog 20 #[.iface tb vb] x fun e w' => ∃ v, e = .returned v ∧ Gro x w' ∧ (frE k fb d).p v w' := fun x hx => by rw [← hb]; exact plain_E k h1 h2 fb d x hx HSb
  have HK9 : KindOK (.iface tb vb) (k : Int) := by rw [← hb]; exact kind_any k h1 h2 fb
  rw [hb]
  clear hb hrq hq HSb
  replace kg1 := G.has kg1
  replace GG := GG.trans G
  clear G
  refine nr ?_; intro U h; simp only [z0, z1] at h; subst h
  refine mv 7 (.tuple #[.iface tb (vb), .bool true]) (mv 10 (.iface tb (vb)) ?_)
  refine nr ?_; intro U h; simp only [z0, z1] at h; subst h
  refine mv 11 (.bool true) (mv 3 (.iface tb (vb)) ?_)
  refine nr ?_; intro U h; simp only [z0, z1] at h; subst h
  refine mv 4 (.bool true) (wpList_nil (then_n (wp_seq (wp_region_lit (sv 13 (.agg (c36 f.kind f.pw f.pn f.toA f.a f.b f.n f.fi f.fn f.ti f.tn f.tr f.ids f.key f.vn f.vw f.val f.op f.ttl f.tx)) (run_lda 36 _ rfl g1 0 95 rfl 36 _ kg1 _ Try.underlying36 rfl si36 _) ?_)))))
  refine nr ?_; intro U h; simp only [z0, z1] at h; subst h
  refine s_callx 14 rfl rfl _ 17 Try.call17 rfl rfl _ rfl [.agg (c36 f.kind f.pw f.pn f.toA f.a f.b f.n f.fi f.fn f.ti f.tn f.tr f.ids f.key f.vn f.vw f.val f.op f.ttl f.tx)] rfl (bare_k k h1 h2 f hk d _ (HW.gro GG) HS) (fun _ _ ⟨_, he, _⟩ => ⟨_, he⟩) ?_
  rintro v w3 ⟨g, he, G, hgE, hgk, HG⟩
  cases he
  replace kg1 := G.has kg1
  replace HA := HA.gro G
  replace GG := GG.trans G
  clear G
  refine mv 12 (.tuple #[.agg (c36 g.kind g.pw g.pn g.toA g.a g.b g.n g.fi g.fn g.ti g.tn g.tr g.ids g.key g.vn g.vw g.val g.op g.ttl g.tx), .bool true]) ?_
  refine nr ?_; intro U h; simp only [z0, z1] at h; subst h
  refine mv 15 (.agg (c36 g.kind g.pw g.pn g.toA g.a g.b g.n g.fi g.fn g.ti g.tn g.tr g.ids g.key g.vn g.vw g.val g.op g.ttl g.tx)) (mv 16 (.bool true) ?_)
  refine nr ?_; intro U h; simp only [z0, z1] at h; subst h
  refine s_alloc 5 rfl rfl 36 rfl _ zv36 _ rfl ?_
  intro w4 g2 G eg2 kg2
  have bg2 := size_base GG eg2
  have dg1g2 := lt_new kg1 eg2
  replace kg1 := G.has kg1
  replace HA := HA.gro G
  replace HG := HG.gro G
  replace GG := GG.trans G
  clear G eg2
  refine s_store rfl rfl 36 _ _ rfl g2 0 rfl (.agg (c36 g.kind g.pw g.pn g.toA g.a g.b g.n g.fi g.fn g.ti g.tn g.tr g.ids g.key g.vn g.vw g.val g.op g.ttl g.tx)) rfl 36 _ kg2 (c36 g.kind g.pw g.pn g.toA g.a g.b g.n g.fi g.fn g.ti g.tn g.tr g.ids g.key g.vn g.vw g.val g.op g.ttl g.tx) rfl (by kernel_rfl) (Nat.le_of_ble_eq_true rfl) (by kernel_rfl) (c36 g.kind g.pw g.pn g.toA g.a g.b g.n g.fi g.fn g.ti g.tn g.tr g.ids g.key g.vn g.vw g.val g.op g.ttl g.tx) (by kernel_rfl) ?_
  intro w6 St
  replace kg1 := St.has (by omega) kg1
  replace HA := HA.stT St kg2
  replace HG := HG.stT St kg2
  replace GG := GG.store St bg2
  replace kg2 := St.new
  clear St
  refine mv 6 (.bool true) ?_
  refine nr ?_; intro U h; simp only [z0, z1] at h; subst h
  refine wpList_nil (then_n (wp_seq (wp_seq ?_)))
  refine wp_region_opq ?_
  intro OPS hY
  have y3 := hY 3 20 rfl
  clear hY
  refine mv 17 (.bool true) (mv 18 (.bool true) ?_)
  refine nr ?_; intro U h; simp only [z0, z1] at h; subst h
  refine sv 19 (.bool false) (run_binop .neq 4 _ _ _ rfl _ _ _ rfl rfl (by kernel_rfl) (by kernel_rfl)) (mv 20 (.bool false) ?_)
  refine nr ?_; intro U h; simp only [z0, z1] at h; subst h
  refine s_gvalY 21 rfl rfl y3 rfl (.bool true) (rfl) (s_gvalY 22 rfl rfl y3 rfl (.bool false) (run_nt _ _ rfl true rfl) ?_)
  refine nr ?_; intro U h; simp only [z0, z1] at h; subst h
  refine mv 23 (.bool false) (wpList_nil (then_n (wp_cond_false rfl (wp_skip (then_n (wp_seq ?_))))))
  refine wp_region_exA (A := ?Ax1) 23 [(0, 34), (1, 35), (2, 36), (3, 37), (4, 38), (5, 39), (6, 40), (7, 41), (8, 42), (9, 43), (10, 44), (11, 45), (12, 46), (13, 47), (14, 48), (15, 49), (16, 50), (17, 51), (18, 52), (19, 53), (20, 54), (21, 55), (22, 56)] [.val (.bool true), .val (.bool true), .val (.iface tb (vb)), .val (.bool true), .val (.bool true), .val (.bool true), .val (.iface tb (vb)), .val (.int .i64 ((k : Nat) : Int)), .val (.pointer (some ⟨g1, 0, none⟩)), .val (.int .i64 f.kind), .val (.bool true), .val (.bool true), .val (.bool true), .val (.iface tb (vb)), .val (.bool q), .val (.agg (c36 f.kind f.pw f.pn f.toA f.a f.b f.n f.fi f.fn f.ti f.tn f.tr f.ids f.key f.vn f.vw f.val f.op f.ttl f.tx)), .val (.bool q), .val (.bool true), .val (.bool true), .val (.bool true), .val (.iface tb (vb)), frE k fb d, .val (.agg (c36 g.kind g.pw g.pn g.toA g.a g.b g.n g.fi g.fn g.ti g.tn g.tr g.ids g.key g.vn g.vw g.val g.op g.ttl g.tx))] follows (by kernel_rfl) rfl ?hAx1 (opsA_cons ?o0x1 (opsA_cons ?o1x1 (opsA_cons ?o2x1 (opsA_cons ?o3x1 (opsA_cons ?o4x1 (opsA_cons ?o5x1 (opsA_cons ?o6x1 (opsA_cons ?o7x1 (opsA_cons ?o8x1 (opsA_cons ?o9x1 (opsA_cons ?o10x1 (opsA_cons ?o11x1 (opsA_cons ?o12x1 (opsA_cons ?o13x1 (opsA_cons ?o14x1 (opsA_cons ?o15x1 (opsA_cons ?o16x1 (opsA_cons ?o17x1 (opsA_cons ?o18x1 (opsA_cons ?o19x1 (opsA_cons ?o20x1 (opsA_cons ?o21x1 (opsA_cons ?o22x1 opsA_nil))))))))))))))))))))))) ?restx1
  case hAx1 =>
    intro ptrs
    simp only [full, foldSlots, filledE, postE, List.foldl_cons, List.foldl_nil, List.getD_cons_zero, List.getD_cons_succ, fill_val, fill_fr, List.set_cons_zero, List.set_cons_succ]
    exact rfl
  case o0x1 => exact fun _ _ hw _ => opE_call (.val (.bool true)) rfl _ 12 Try.call12 rfl rfl _ rfl [] rfl ((fixed_any _).mono fun e w' ⟨he, hg⟩ => ⟨_, he, hg, rfl⟩)
  case o1x1 => exact fun _ _ _ _ => opE_move (v := .bool true) _ rfl rfl rfl
  case o2x1 => exact fun _ _ _ _ => opE_move (v := .iface tb (vb)) _ rfl rfl rfl
  case o3x1 => exact fun _ _ hw _ => opE_value (v := .bool true) rfl (run_binop .neq 48 _ _ _ rfl _ _ _ rfl rfl (by kernel_rfl) (by kernel_rfl))
  case o4x1 => exact fun _ _ _ _ => opE_pick (v := .bool true) _ _ _ rfl rfl true rfl rfl
  case o5x1 => exact fun _ _ _ _ => opE_move (v := .bool true) _ rfl rfl rfl
  case o6x1 => exact fun _ _ _ _ => opE_move (v := .iface tb (vb)) _ rfl rfl rfl
  case o7x1 => exact fun _ _ _ _ => opE_invK rfl _ rfl (.iface tb vb) rfl _ HK9
  case o8x1 => exact fun _ _ hw _ => opE_value (v := .pointer (some ⟨g1, 0, none⟩)) rfl (run_fld 36 _ 0 rfl _ _ rfl _)
  case o9x1 => exact fun _ _ hw _ => opE_value (v := .int .i64 f.kind) rfl (run_ldc 3 _ rfl g1 0 rfl 36 _ (hw.has kg1) (na3 _) _ rfl)
  case o10x1 => exact fun _ _ hw _ => opE_value (v := .bool true) rfl (run_eq_k 3 .i64 _ _ _ rfl Try.underlying3 ((k : Nat) : Int) f.kind rfl rfl true (decide_eq_true hk.symm) _)
  case o11x1 => exact fun _ _ _ _ => opE_pick (v := .bool true) _ _ _ rfl rfl true rfl rfl
  case o12x1 => exact fun _ _ _ _ => opE_move (v := .bool true) _ rfl rfl rfl
  case o13x1 => exact fun _ _ _ _ => opE_move (v := .iface tb (vb)) _ rfl rfl rfl
  case o14x1 => exact fun _ _ hw _ => opE_call (.val (.bool q)) rfl _ 18 Try.call18 rfl rfl _ rfl [.iface tb (vb)] rfl ((H18 _ (HA.frw.gro ((Gro.refl _).drew.trans hw))).mono fun e w' ⟨he, hg⟩ => ⟨_, he, hg, rfl⟩)
  case o15x1 => exact fun _ _ hw _ => opE_value (v := .agg (c36 f.kind f.pw f.pn f.toA f.a f.b f.n f.fi f.fn f.ti f.tn f.tr f.ids f.key f.vn f.vw f.val f.op f.ttl f.tx)) rfl (run_lda 36 _ rfl g1 0 95 rfl 36 _ (hw.has kg1) _ Try.underlying36 rfl si36 _)
  case o16x1 => exact fun _ _ hw _ => opE_call (.val (.bool q)) rfl _ 19 Try.call19 rfl rfl _ rfl [.agg (c36 f.kind f.pw f.pn f.toA f.a f.b f.n f.fi f.fn f.ti f.tn f.tr f.ids f.key f.vn f.vw f.val f.op f.ttl f.tx)] rfl ((H19 _ (HW.gro (GG.drew.trans hw))).mono fun e w' ⟨he, hg⟩ => ⟨_, he, hg, rfl⟩)
  case o17x1 => exact fun _ _ hw _ => opE_value (v := .bool true) rfl (run_eqB 4 _ _ _ rfl q q rfl rfl Try.underlying4 true (decide_eq_true rfl) _)
  case o18x1 => exact fun _ _ _ _ => opE_pick (v := .bool true) _ _ _ rfl rfl true rfl rfl
  case o19x1 => exact fun _ _ _ _ => opE_move (v := .bool true) _ rfl rfl rfl
  case o20x1 => exact fun _ _ _ _ => opE_move (v := .iface tb (vb)) _ rfl rfl rfl
  case o21x1 => exact fun _ _ hw _ => opE_call (frE k fb d) rfl _ 20 Try.call20 rfl rfl _ rfl [.iface tb (vb)] rfl (H20 _ (HA.frw.gro ((Gro.refl _).drew.trans hw)))
  case o22x1 => exact fun _ _ hw _ => opE_value (v := .agg (c36 g.kind g.pw g.pn g.toA g.a g.b g.n g.fi g.fn g.ti g.tn g.tr g.ids g.key g.vn g.vw g.val g.op g.ttl g.tx)) rfl (run_lda 36 _ rfl g2 0 95 rfl 36 _ (hw.has kg2) _ Try.underlying36 rfl si36 _)
  intro ptrs w7 GD hxE
  simp only [List.drop_succ_cons, List.drop_zero]
  replace kg1 := GD.has kg1
  replace kg2 := GD.has kg2
  replace HA := HA.gro ((Gro.refl _).drew.trans GD)
  replace HG := HG.gro ((Gro.refl _).drew.trans GD)
  replace GG := GG.drew.trans GD
  obtain ⟨⟨g9, hv9, h9E, h9k, HP⟩, _⟩ := hxE
  replace hv9 : ptrs 21 = .agg (c36 g9.kind g9.pw g9.pn g9.toA g9.a g9.b g9.n g9.fi g9.fn g9.ti g9.tn g9.tr g9.ids g9.key g9.vn g9.vw g9.val g9.op g9.ttl g9.tx) := hv9
  simp only [hv9]
  clear hv9
  clear GD
  refine s_gcallv 57 rfl rfl _ 13 Try.call13 rfl rfl _ rfl [.agg (c36 g9.kind g9.pw g9.pn g9.toA g9.a g9.b g9.n g9.fi g9.fn g9.ti g9.tn g9.tr g9.ids g9.key g9.vn g9.vw g9.val g9.op g9.ttl g9.tx), .agg (c36 g.kind g.pw g.pn g.toA g.a g.b g.n g.fi g.fn g.ti g.tn g.tr g.ids g.key g.vn g.vw g.val g.op g.ttl g.tx)] rfl (same_t g9 g (bareD k d) _ HP.frw HG.frw (h9E.trans (hbf.trans hgE.symm)) (h9k.trans hgk.symm) (lens_bare k d hl)) ?_
  intro w8 G
  replace kg1 := G.has kg1
  replace kg2 := G.has kg2
  replace HA := HA.gro G
  replace HG := HG.gro G
  replace GG := GG.trans G
  clear G
  refine nr ?_; intro U h; simp only [z0, z1] at h; subst h
  refine mv 58 (.bool true) (mv 2 (.bool true) ?_)
  refine nr ?_; intro U h; simp only [z0, z1] at h; subst h
  refine wpList_nil (then_n (wp_ret ?_))
  refine bodyPost_ret (results_tmp Try.results5 _ _ _) rfl ?_
  exact ⟨rfl, GG⟩
theorem frameBodies_any (w : World) (f : Fr) (d : FD) (HW : FrW w f d) (HS : FrS f) (hl : Lens d) : Calls Try.prog 5 #[.agg (frA f)] w fun e w' => e = .returned (.bool true) ∧ Gro w w' := by
  by_cases hk : 1 ≤ f.kind ∧ f.kind ≤ 12
  · exact frameBodies_is w f d HW HS hl f.kind.toNat (by omega) (by omega) (by omega)
  · exact frameBodies_no w f d HW HS hk
end Go.Proofs.Ythmcnlmphikicaa
