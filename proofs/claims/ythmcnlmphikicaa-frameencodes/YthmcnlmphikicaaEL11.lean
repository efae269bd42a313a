/- A frame's bytes (the document's Encode). -/
import Derived.Test.YthmcnlmphikicaaEL10
namespace Go.Proofs.Ythmcnlmphikicaa
open Go.RowKit
set_option maxRecDepth 100000 in
set_option maxHeartbeats 4000000 in
theorem encode_d (f : Fr) (d : FD) (w : World) (HF : FrW w f d) (HS : FrS f) (hl : Lens d) (HR : FrR f) (k : Nat) (h1 : 1 ≤ k) (h2 : k ≤ 12) (hk : f.kind = (k : Int)) (hs : sameB f (bare k f) d (bareD k d) = true) (hr : okF f d (formL f.kind) (formL f.kind).length = true) : Calls Try.prog 11 #[.agg (c36 f.kind f.pw f.pn f.toA f.a f.b f.n f.fi f.fn f.ti f.tn f.tr f.ids f.key f.vn f.vw f.val f.op f.ttl f.tx)] w fun e w' => ∃ ao cap, e = .returned (.tuple #[.slice ao (encN f d k (formL f.kind) (formL f.kind).length).length cap, .int .i64 0]) ∧ OB w' 5 .u8 w.heap.size ao cap (encN f d k (formL f.kind) (formL f.kind).length) ∧ Gro w w' := by
  refine s_enterR Try.func11 rfl Try.ntmps11 [.agg (c36 f.kind f.pw f.pn f.toA f.a f.b f.n f.fi f.fn f.ti f.tn f.tr f.ids f.key f.vn f.vw f.val f.op f.ttl f.tx)] ?_
  intro U h; simp only [List.length_cons, List.length_nil, List.cons_append, List.nil_append, Nat.reduceAdd, Nat.reduceSub, List.reduceReplicate] at h; subst h
  have GG := Gro.refl w
  obtain ⟨F, hF⟩ : ∃ F, formL f.kind = F := ⟨_, rfl⟩
  have hF7 := formL_ok f.kind
  rw [hF] at hF7 hr ⊢
  obtain ⟨hF7, hFb⟩ := hF7
  have hokc := okF_at f d F _ hr
  have lft := xc_len1 HF.tr
  have lfi := HF.idn
  have lfv := HF.valn
  have lfx := HF.txn
  have HFt : XC w 1 f.tr.ao f.tr.cap d.tr.length (d.tr.map (Value.int .i64 ·)) := by rw [← lft]; exact HF.tr
  obtain ⟨hE1, hdd⟩ := eqf_same hs
  have hnk : nI f.kind = numL k := by rw [hk]; rfl
  have hnt : nI ((f.tr.n : Nat) : Int) = numL d.tr.length := by rw [lft]; rfl
  have hni : nI ((f.ids.n : Nat) : Int) = numL d.ids.length := by rw [lfi]; rfl
  have hr_pn := HR.pn
  have hr_n := HR.n
  have hr_fi := HR.fi
  have hr_fn := HR.fn
  have hr_ti := HR.ti
  have hr_tn := HR.tn
  have hr_vn := HR.vn
  have hr_op := HR.op
  have hr_ttl := HR.ttl
  refine wp_seq (wp_region_lit ?_)
  refine s_box 1 rfl rfl 36 _ rfl _ rfl (c36 f.kind f.pw f.pn f.toA f.a f.b f.n f.fi f.fn f.ti f.tn f.tr f.ids f.key f.vn f.vw f.val f.op f.ttl f.tx) rfl ?_
  intro w1 g1 G eg1 kg1
  have bg1 := size_base GG eg1
  replace GG := GG.trans G
  clear G eg1
  refine mv 2 (.slice none 0 0) (mv 3 (.int .i64 0) (wpList_nil (then_n (wp_seq (wp_region_lit (sv 12 (.agg (c36 f.kind f.pw f.pn f.toA f.a f.b f.n f.fi f.fn f.ti f.tn f.tr f.ids f.key f.vn f.vw f.val f.op f.ttl f.tx)) (run_lda 36 _ rfl g1 0 95 rfl 36 _ kg1 _ Try.underlying36 rfl si36 _) ?_))))))
  refine s_callx 13 rfl rfl _ 17 Try.call17 rfl rfl _ rfl [.agg (c36 f.kind f.pw f.pn f.toA f.a f.b f.n f.fi f.fn f.ti f.tn f.tr f.ids f.key f.vn f.vw f.val f.op f.ttl f.tx)] rfl (bare_k k h1 h2 f hk d _ (HF.gro GG) HS) (fun _ _ ⟨_, he, _⟩ => ⟨_, he⟩) ?_
  rintro v w2 ⟨g, he, G, hgE, hgk, HG⟩
  cases he
  rw [hdd] at HG
  replace kg1 := G.has kg1
  replace GG := GG.trans G
  clear G
  refine nr ?_; intro U h; simp only [z0, z1] at h; subst h
  refine mv 11 (.tuple #[.agg (c36 g.kind g.pw g.pn g.toA g.a g.b g.n g.fi g.fn g.ti g.tn g.tr g.ids g.key g.vn g.vw g.val g.op g.ttl g.tx), .bool true]) (mv 14 (.agg (c36 g.kind g.pw g.pn g.toA g.a g.b g.n g.fi g.fn g.ti g.tn g.tr g.ids g.key g.vn g.vw g.val g.op g.ttl g.tx)) (mv 15 (.bool true) ?_))
  refine s_alloc 4 rfl rfl 36 rfl _ zv36 _ rfl ?_
  intro w3 g2 G eg2 kg2
  have bg2 := size_base GG eg2
  have dg1g2 := lt_new kg1 eg2
  replace kg1 := G.has kg1
  replace HG := HG.gro G
  replace GG := GG.trans G
  clear G eg2
  refine s_store rfl rfl 36 _ _ rfl g2 0 rfl (.agg (c36 g.kind g.pw g.pn g.toA g.a g.b g.n g.fi g.fn g.ti g.tn g.tr g.ids g.key g.vn g.vw g.val g.op g.ttl g.tx)) rfl 36 _ kg2 (c36 g.kind g.pw g.pn g.toA g.a g.b g.n g.fi g.fn g.ti g.tn g.tr g.ids g.key g.vn g.vw g.val g.op g.ttl g.tx) rfl (by kernel_rfl) (Nat.le_of_ble_eq_true rfl) (by kernel_rfl) (c36 g.kind g.pw g.pn g.toA g.a g.b g.n g.fi g.fn g.ti g.tn g.tr g.ids g.key g.vn g.vw g.val g.op g.ttl g.tx) (by kernel_rfl) ?_
  intro w5 St
  replace kg1 := St.has (by omega) kg1
  replace HG := HG.stT St kg2
  replace GG := GG.store St bg2
  replace kg2 := St.new
  clear St
  refine mv 5 (.bool true) ?_
  refine nr ?_; intro U h; simp only [z0, z1] at h; subst h
  refine wpList_nil (then_n (wp_seq (wp_seq ?_)))
  refine wp_region_opq ?_
  intro OPS hY
  have y2 := hY 2 18 rfl
  have y8 := hY 8 24 rfl
  clear hY
  refine mv 16 (.bool true) (sv 17 (.bool false) (run_nt _ _ rfl true rfl) (mv 18 (.bool false) (s_gvalY 19 rfl rfl y2 rfl (.agg (c36 f.kind f.pw f.pn f.toA f.a f.b f.n f.fi f.fn f.ti f.tn f.tr f.ids f.key f.vn f.vw f.val f.op f.ttl f.tx)) (run_lda 36 _ rfl g1 0 95 rfl 36 _ kg1 _ Try.underlying36 rfl si36 _) (s_gvalY 20 rfl rfl y2 rfl (.agg (c36 g.kind g.pw g.pn g.toA g.a g.b g.n g.fi g.fn g.ti g.tn g.tr g.ids g.key g.vn g.vw g.val g.op g.ttl g.tx)) (run_lda 36 _ rfl g2 0 95 rfl 36 _ kg2 _ Try.underlying36 rfl si36 _) ?_))))
  refine nr ?_; intro U h; simp only [z0, z1] at h; subst h
  refine s_gcallvY 21 rfl rfl y2 rfl _ 13 Try.call13 rfl rfl _ rfl [.agg (c36 f.kind f.pw f.pn f.toA f.a f.b f.n f.fi f.fn f.ti f.tn f.tr f.ids f.key f.vn f.vw f.val f.op f.ttl f.tx), .agg (c36 g.kind g.pw g.pn g.toA g.a g.b g.n g.fi g.fn g.ti g.tn g.tr g.ids g.key g.vn g.vw g.val g.op g.ttl g.tx)] rfl (same_t f g d _ (HF.gro GG) HG.frw (hE1.trans hgE.symm) (hk.trans hgk.symm) hl) ?_
  intro w6 G
  replace kg1 := G.has kg1
  replace kg2 := G.has kg2
  replace HG := HG.gro G
  replace GG := GG.trans G
  clear G
  refine s_gvalY 22 rfl rfl y2 rfl (.bool false) (run_nt _ _ rfl true rfl) (mv 23 (.bool false) (mv 24 (.bool false) (s_gvalY 25 rfl rfl y8 rfl (.agg (c36 f.kind f.pw f.pn f.toA f.a f.b f.n f.fi f.fn f.ti f.tn f.tr f.ids f.key f.vn f.vw f.val f.op f.ttl f.tx)) (run_lda 36 _ rfl g1 0 95 rfl 36 _ kg1 _ Try.underlying36 rfl si36 _) ?_)))
  refine nr ?_; intro U h; simp only [z0, z1] at h; subst h
  refine s_gcallvY 26 rfl rfl y8 rfl _ 19 Try.call19 rfl rfl _ rfl [.agg (c36 f.kind f.pw f.pn f.toA f.a f.b f.n f.fi f.fn f.ti f.tn f.tr f.ids f.key f.vn f.vw f.val f.op f.ttl f.tx)] rfl ((by have h := right_d f d _ (HF.gro GG) hl; rw [hF, hr] at h; exact h)) ?_
  intro w7 G
  replace kg1 := G.has kg1
  replace kg2 := G.has kg2
  replace HG := HG.gro G
  replace GG := GG.trans G
  clear G
  refine s_gvalY 27 rfl rfl y8 rfl (.bool false) (run_nt _ _ rfl true rfl) (mv 28 (.bool false) (wpList_nil (then_n (wp_cond_false rfl (wp_skip (then_n (wp_seq (wp_region_lit (sv 29 (.pointer (some ⟨g1, 0, none⟩)) (run_fld 36 _ 0 rfl _ _ rfl _) (sv 30 (.int .i64 f.kind) (run_ldc 3 _ rfl g1 0 rfl 36 _ kg1 (na3 _) _ rfl) ?_))))))))))
  refine nr ?_; intro U h; simp only [z0, z1] at h; subst h
  obtain ⟨B, hB⟩ : ∃ B, w7.heap.size = B := ⟨_, rfl⟩
  have lg1 : g1 < B := lt_new kg1 hB
  have hwB : w.heap.size ≤ B := by rw [← hB]; exact GG.size
  refine s_callx 31 rfl rfl _ 26 Try.call26 rfl rfl _ rfl [.int .i64 f.kind] rfl (num_i (f.kind) (by omega) (by omega) _) (fun _ _ ⟨_, _, he, _⟩ => ⟨_, he⟩) ?_
  rintro v w8 ⟨ax31, cx31, he, HX31, G⟩
  cases he
  rw [hnk] at HX31 ⊢
  rw [hB] at HX31
  have HB := HX31
  have hBs : B ≤ _ := Nat.le_trans (Nat.le_of_eq hB.symm) G.size
  clear HX31
  clear HG
  replace kg1 := G.has kg1
  replace GG := GG.trans G
  clear G
  refine mv 6 (.slice ax31 ((numL k).length) cx31) (wpList_nil (then_n (wp_seq (wp_region_lit (sv 32 (.pointer (some ⟨g1, 0, none⟩)) (run_fld 36 _ 0 rfl _ _ rfl _) (sv 33 (.int .i64 f.kind) (run_ldc 3 _ rfl g1 0 rfl 36 _ kg1 (na3 _) _ rfl) ?_))))))
  refine s_callv 34 rfl rfl _ 27 Try.call27 rfl rfl _ rfl [.int .i64 f.kind] rfl (form_any f.kind F hF _) ?_
  intro w9 G
  replace hBs := Nat.le_trans hBs G.size
  replace kg1 := G.has kg1
  replace HB := HB.gro G
  replace GG := GG.trans G
  clear G
  refine nr ?_; intro U h; simp only [z0, z1] at h; subst h
  refine mv 7 (.string (bas F)) (wpList_nil (then_n (wp_seq (wp_seq (wp_region_lit (mv 8 (.int .i64 0) (wpList_nil (then_n (wp_block ?_)))))))))
  refine wp_loopN (fun mz az wv => ∃ (i : Nat) (ao : Option Addr) (cap : Nat) (us1 : Nat → Value), mz = F.length - i ∧ az = ⟨[.agg (c36 f.kind f.pw f.pn f.toA f.a f.b f.n f.fi f.fn f.ti f.tn f.tr f.ids f.key f.vn f.vw f.val f.op f.ttl f.tx), .pointer (some ⟨g1, 0, none⟩), .slice none 0 0, .int .i64 0, .pointer (some ⟨g2, 0, none⟩), .bool true, .slice ao ((encN f d k F i).length) cap, .string (bas F), .int .i64 ((i : Nat) : Int), us1 0, us1 1, .tuple #[.agg (c36 g.kind g.pw g.pn g.toA g.a g.b g.n g.fi g.fn g.ti g.tn g.tr g.ids g.key g.vn g.vw g.val g.op g.ttl g.tx), .bool true], .agg (c36 f.kind f.pw f.pn f.toA f.a f.b f.n f.fi f.fn f.ti f.tn f.tr f.ids f.key f.vn f.vw f.val f.op f.ttl f.tx), .tuple #[.agg (c36 g.kind g.pw g.pn g.toA g.a g.b g.n g.fi g.fn g.ti g.tn g.tr g.ids g.key g.vn g.vw g.val g.op g.ttl g.tx), .bool true], .agg (c36 g.kind g.pw g.pn g.toA g.a g.b g.n g.fi g.fn g.ti g.tn g.tr g.ids g.key g.vn g.vw g.val g.op g.ttl g.tx), .bool true, .bool true, .bool false, .bool false, .agg (c36 f.kind f.pw f.pn f.toA f.a f.b f.n f.fi f.fn f.ti f.tn f.tr f.ids f.key f.vn f.vw f.val f.op f.ttl f.tx), .agg (c36 g.kind g.pw g.pn g.toA g.a g.b g.n g.fi g.fn g.ti g.tn g.tr g.ids g.key g.vn g.vw g.val g.op g.ttl g.tx), .bool true, .bool false, .bool false, .bool false, .agg (c36 f.kind f.pw f.pn f.toA f.a f.b f.n f.fi f.fn f.ti f.tn f.tr f.ids f.key f.vn f.vw f.val f.op f.ttl f.tx), .bool true, .bool false, .bool false, .pointer (some ⟨g1, 0, none⟩), .int .i64 f.kind, .slice ax31 ((numL k).length) cx31, .pointer (some ⟨g1, 0, none⟩), .int .i64 f.kind, .string (bas F), us1 2, us1 3, us1 4, us1 5, us1 6, us1 7, us1 8, us1 9, us1 10, us1 11, us1 12, us1 13, us1 14, us1 15, us1 16, us1 17, us1 18, us1 19, us1 20, us1 21, us1 22, us1 23, us1 24, us1 25, us1 26, us1 27, us1 28, us1 29, us1 30, us1 31, us1 32, us1 33, us1 34, us1 35, us1 36, us1 37, us1 38, us1 39, us1 40, us1 41, us1 42, us1 43, us1 44, us1 45, us1 46, us1 47, us1 48, us1 49, us1 50, us1 51, us1 52, us1 53, us1 54, us1 55, us1 56, us1 57, us1 58, us1 59, us1 60, us1 61, us1 62, us1 63, us1 64, us1 65, us1 66, us1 67, us1 68, us1 69, us1 70, us1 71, us1 72, us1 73, us1 74, us1 75, us1 76, us1 77, us1 78, us1 79, us1 80, us1 81, us1 82, us1 83, us1 84, us1 85, us1 86, us1 87, us1 88, us1 89, us1 90, us1 91, us1 92, us1 93, us1 94, us1 95, us1 96, us1 97, us1 98, us1 99, us1 100, us1 101, us1 102, us1 103, us1 104, us1 105, us1 106, us1 107, us1 108, us1 109, us1 110, us1 111, us1 112, us1 113, us1 114, us1 115, us1 116, us1 117, us1 118, us1 119, us1 120, us1 121, us1 122, us1 123, us1 124, us1 125, us1 126, us1 127, us1 128, us1 129, us1 130, us1 131, us1 132, us1 133, us1 134, us1 135, us1 136, us1 137, us1 138, us1 139, us1 140, us1 141, us1 142, us1 143, us1 144, us1 145, us1 146, us1 147, us1 148, us1 149, us1 150, us1 151, us1 152, us1 153, us1 154, us1 155, us1 156, us1 157, us1 158, us1 159, us1 160, us1 161, us1 162, us1 163, us1 164, us1 165, us1 166, us1 167, us1 168, us1 169, us1 170, us1 171, us1 172, us1 173, us1 174, us1 175, us1 176, undef].toArray, []⟩ ∧ i ≤ F.length ∧ (encN f d k F i).length ≤ 9 + 6000 * i ∧ Gro w wv ∧ wv.heap[g1]? = some (.cells (c36 f.kind f.pw f.pn f.toA f.a f.b f.n f.fi f.fn f.ti f.tn f.tr f.ids f.key f.vn f.vw f.val f.op f.ttl f.tx) 36 (0, 0)) ∧ OB wv 5 .u8 B ao cap (encN f d k F i) ∧ B ≤ wv.heap.size) ?_ _ ⟨0, ax31, cx31, usB [9, 10, 35, 36, 37, 38, 39, 40, 41, 42, 43, 44, 45, 46, 47, 48, 49, 50, 51, 52, 53, 54, 55, 56, 57, 58, 59, 60, 61, 62, 63, 64, 65, 66, 67, 68, 69, 70, 71, 72, 73, 74, 75, 76, 77, 78, 79, 80, 81, 82, 83, 84, 85, 86, 87, 88, 89, 90, 91, 92, 93, 94, 95, 96, 97, 98, 99, 100, 101, 102, 103, 104, 105, 106, 107, 108, 109, 110, 111, 112, 113, 114, 115, 116, 117, 118, 119, 120, 121, 122, 123, 124, 125, 126, 127, 128, 129, 130, 131, 132, 133, 134, 135, 136, 137, 138, 139, 140, 141, 142, 143, 144, 145, 146, 147, 148, 149, 150, 151, 152, 153, 154, 155, 156, 157, 158, 159, 160, 161, 162, 163, 164, 165, 166, 167, 168, 169, 170, 171, 172, 173, 174, 175, 176, 177, 178, 179, 180, 181, 182, 183, 184, 185, 186, 187, 188, 189, 190, 191, 192, 193, 194, 195, 196, 197, 198, 199, 200, 201, 202, 203, 204, 205, 206, 207, 208, 209] rfl rfl ⟨Nat.zero_le _, numL_le k, GG, kg1, HB, hBs⟩⟩
  clear kg1 GG HB
  rintro mz az wv ⟨i, ao, cap, us1, rfl, rfl, hi, hLn, GG, kg1, HB, hBs⟩
  refine wp_seq (wp_seq (wp_region_lit (mv 35 (.int .i64 ((i : Nat) : Int)) (mv 36 (.string (bas F)) (sv 37 (.int .i64 ((F.length : Nat) : Int)) (run_slen _ rfl Try.underlying9 F rfl _) ?_)))))
  refine nr ?_; intro U h; simp only [z0, z1] at h; subst h
  obtain ⟨p1, hp1⟩ : ∃ p, decide (((i : Nat) : Int) < ((F.length : Nat) : Int)) = p := ⟨_, rfl⟩
  refine sv 38 (.bool p1) (run_lssT 3 _ _ _ rfl ((i : Nat) : Int) ((F.length : Nat) : Int) rfl rfl p1 hp1 _) ?_
  refine nr ?_; intro U h; simp only [z0, z1] at h; subst h
  cases p1
  have hie : i = F.length := by have := of_decide_eq_false hp1; omega
  refine wpList_nil (then_n (wp_cond_false rfl (wp_exit (then_x (then_x (blk_x (then_n (wp_seq (wp_region_lit (mv 210 (.slice ao ((encN f d k F i).length) cap) (mv 2 (.slice ao ((encN f d k F i).length) cap) (mv 3 (.int .i64 0) (wpList_nil (then_n (wp_ret ?_)))))))))))))))
  refine bodyPost_ret (results_tmp2 Try.results11 _ _ _) rfl ?_
  subst hie
  exact ⟨ao, cap, rfl, HB.mono hwB, GG⟩
  have hin : i < F.length := by have := of_decide_eq_true hp1; omega
  obtain ⟨c, hc⟩ : ∃ c, F.getD i 0 = c := ⟨_, rfl⟩
  refine wpList_nil (then_n (wp_cond_true rfl (wp_skip (then_n (wp_seq (wp_block (wp_seq (wp_region_lit (mv 41 (.string (bas F)) (mv 42 (.int .i64 ((i : Nat) : Int)) ?_))))))))))
  refine nr ?_; intro U h; simp only [z0, z1] at h; subst h
  refine sv 43 (.int .u8 ((c : Nat) : Int)) ((run_sidx _ _ rfl F hFb rfl i hin rfl _).trans (by rw [hc])) (wpList_nil (then_n (wp_block (wp_seq (wp_region_lit ?_)))))
  obtain ⟨p2, hp2⟩ : ∃ p, decide (((c : Nat) : Int) = 102) = p := ⟨_, rfl⟩
  refine sv 45 (.bool p2) (run_eq_k 5 .u8 _ _ _ rfl Try.underlying5 ((c : Nat) : Int) 102 rfl rfl p2 hp2 _) ?_
  refine nr ?_; intro U h; simp only [z0, z1] at h; subst h
  cases p2
  refine s_val _ rfl rfl (.bool false) rfl ?_
  refine wpList_nil (then_n (wp_cond_false rfl (wp_seq (wp_region_lit ?_))))
  obtain ⟨p3, hp3⟩ : ∃ p, decide (((c : Nat) : Int) = 116) = p := ⟨_, rfl⟩
  refine sv 58 (.bool p3) (run_eq_k 5 .u8 _ _ _ rfl Try.underlying5 ((c : Nat) : Int) 116 rfl rfl p3 hp3 _) ?_
  refine nr ?_; intro U h; simp only [z0, z1] at h; subst h
  cases p3
  refine s_val _ rfl rfl (.bool false) rfl ?_
  refine wpList_nil (then_n (wp_cond_false rfl (wp_seq (wp_region_lit ?_))))
  obtain ⟨p4, hp4⟩ : ∃ p, decide (((c : Nat) : Int) = 110) = p := ⟨_, rfl⟩
  refine sv 71 (.bool p4) (run_eq_k 5 .u8 _ _ _ rfl Try.underlying5 ((c : Nat) : Int) 110 rfl rfl p4 hp4 _) ?_
  refine nr ?_; intro U h; simp only [z0, z1] at h; subst h
  cases p4
  refine s_val _ rfl rfl (.bool false) rfl ?_
  refine wpList_nil (then_n (wp_cond_false rfl (wp_seq (wp_region_lit ?_))))
  obtain ⟨p5, hp5⟩ : ∃ p, decide (((c : Nat) : Int) = 112) = p := ⟨_, rfl⟩
  refine sv 78 (.bool p5) (run_eq_k 5 .u8 _ _ _ rfl Try.underlying5 ((c : Nat) : Int) 112 rfl rfl p5 hp5 _) ?_
  refine nr ?_; intro U h; simp only [z0, z1] at h; subst h
  cases p5
  refine s_val _ rfl rfl (.bool false) rfl ?_
  refine wpList_nil (then_n (wp_cond_false rfl (wp_seq (wp_region_lit ?_))))
  obtain ⟨p6, hp6⟩ : ∃ p, decide (((c : Nat) : Int) = 97) = p := ⟨_, rfl⟩
  refine sv 90 (.bool p6) (run_eq_k 5 .u8 _ _ _ rfl Try.underlying5 ((c : Nat) : Int) 97 rfl rfl p6 hp6 _) ?_
  refine nr ?_; intro U h; simp only [z0, z1] at h; subst h
  cases p6
  refine s_val _ rfl rfl (.bool false) rfl ?_
  refine wpList_nil (then_n (wp_cond_false rfl (wp_seq (wp_region_lit ?_))))
  obtain ⟨p7, hp7⟩ : ∃ p, decide (((c : Nat) : Int) = 98) = p := ⟨_, rfl⟩
  refine sv 96 (.bool p7) (run_eq_k 5 .u8 _ _ _ rfl Try.underlying5 ((c : Nat) : Int) 98 rfl rfl p7 hp7 _) ?_
  refine nr ?_; intro U h; simp only [z0, z1] at h; subst h
  cases p7
  refine s_val _ rfl rfl (.bool false) rfl ?_
  refine wpList_nil (then_n (wp_cond_false rfl (wp_seq (wp_region_lit ?_))))
  obtain ⟨p8, hp8⟩ : ∃ p, decide (((c : Nat) : Int) = 100) = p := ⟨_, rfl⟩
  refine sv 102 (.bool p8) (run_eq_k 5 .u8 _ _ _ rfl Try.underlying5 ((c : Nat) : Int) 100 rfl rfl p8 hp8 _) ?_
  refine nr ?_; intro U h; simp only [z0, z1] at h; subst h
  cases p8
  refine s_val _ rfl rfl (.bool false) rfl ?_
  refine wpList_nil (then_n (wp_cond_false rfl (wp_seq (wp_region_lit ?_))))
  obtain ⟨p9, hp9⟩ : ∃ p, decide (((c : Nat) : Int) = 114) = p := ⟨_, rfl⟩
  refine sv 112 (.bool p9) (run_eq_k 5 .u8 _ _ _ rfl Try.underlying5 ((c : Nat) : Int) 114 rfl rfl p9 hp9 _) ?_
  refine nr ?_; intro U h; simp only [z0, z1] at h; subst h
  cases p9
  refine s_val _ rfl rfl (.bool false) rfl ?_
  refine wpList_nil (then_n (wp_cond_false rfl (wp_seq (wp_region_lit ?_))))
  obtain ⟨p10, hp10⟩ : ∃ p, decide (((c : Nat) : Int) = 115) = p := ⟨_, rfl⟩
  refine sv 135 (.bool p10) (run_eq_k 5 .u8 _ _ _ rfl Try.underlying5 ((c : Nat) : Int) 115 rfl rfl p10 hp10 _) ?_
  refine nr ?_; intro U h; simp only [z0, z1] at h; subst h
  cases p10
  refine s_val _ rfl rfl (.bool false) rfl ?_
  refine wpList_nil (then_n (wp_cond_false rfl (wp_seq (wp_seq (wp_region_lit ?_)))))
  obtain ⟨p11, hp11⟩ : ∃ p, decide (((c : Nat) : Int) = 105) = p := ⟨_, rfl⟩
  refine sv 157 (.bool p11) (run_eq_k 5 .u8 _ _ _ rfl Try.underlying5 ((c : Nat) : Int) 105 rfl rfl p11 hp11 _) ?_
  refine nr ?_; intro U h; simp only [z0, z1] at h; subst h
  cases p11
  refine s_val _ rfl rfl (.bool false) rfl ?_
  refine wpList_nil (then_n (wp_cond_false rfl (wp_region_lit ?_)))
  obtain ⟨p12, hp12⟩ : ∃ p, decide (((c : Nat) : Int) = 107) = p := ⟨_, rfl⟩
  refine sv 158 (.bool p12) (run_eq_k 5 .u8 _ _ _ rfl Try.underlying5 ((c : Nat) : Int) 107 rfl rfl p12 hp12 _) ?_
  refine nr ?_; intro U h; simp only [z0, z1] at h; subst h
  cases p12
  refine s_val _ rfl rfl (.bool false) rfl ?_
  refine wpList_nil (then_n (wp_cond_false rfl (wp_seq (wp_seq (wp_region_lit ?_)))))
  obtain ⟨p13, hp13⟩ : ∃ p, decide (((c : Nat) : Int) = 108) = p := ⟨_, rfl⟩
  refine sv 188 (.bool p13) (run_eq_k 5 .u8 _ _ _ rfl Try.underlying5 ((c : Nat) : Int) 108 rfl rfl p13 hp13 _) ?_
  refine nr ?_; intro U h; simp only [z0, z1] at h; subst h
  cases p13
  refine s_val _ rfl rfl (.bool false) rfl ?_
  refine wpList_nil (then_n (wp_cond_false rfl (wp_region_lit ?_)))
  obtain ⟨p14, hp14⟩ : ∃ p, decide (((c : Nat) : Int) = 111) = p := ⟨_, rfl⟩
  refine sv 189 (.bool p14) (run_eq_k 5 .u8 _ _ _ rfl Try.underlying5 ((c : Nat) : Int) 111 rfl rfl p14 hp14 _) ?_
  refine nr ?_; intro U h; simp only [z0, z1] at h; subst h
  cases p14
  refine s_val _ rfl rfl (.bool false) rfl ?_
  refine wpList_nil (then_n (wp_cond_false rfl (wp_seq (wp_region_lit ?_))))
  obtain ⟨p15, hp15⟩ : ∃ p, decide (((c : Nat) : Int) = 119) = p := ⟨_, rfl⟩
  refine sv 196 (.bool p15) (run_eq_k 5 .u8 _ _ _ rfl Try.underlying5 ((c : Nat) : Int) 119 rfl rfl p15 hp15 _) ?_
  refine nr ?_; intro U h; simp only [z0, z1] at h; subst h
  cases p15
  refine s_val _ rfl rfl (.bool false) rfl ?_
  refine wpList_nil (then_n (wp_cond_false rfl (wp_seq (wp_seq (wp_region_lit ?_)))))
  obtain ⟨p16, hp16⟩ : ∃ p, decide (((c : Nat) : Int) = 120) = p := ⟨_, rfl⟩
  refine sv 203 (.bool p16) (run_eq_k 5 .u8 _ _ _ rfl Try.underlying5 ((c : Nat) : Int) 120 rfl rfl p16 hp16 _) ?_
  refine nr ?_; intro U h; simp only [z0, z1] at h; subst h
  cases p16
  refine s_val _ rfl rfl (.bool false) rfl ?_
  refine wpList_nil (then_n (wp_cond_false rfl (wp_region_lit ?_)))
  obtain ⟨p17, hp17⟩ : ∃ p, decide (((c : Nat) : Int) = 121) = p := ⟨_, rfl⟩
  refine sv 204 (.bool p17) (run_eq_k 5 .u8 _ _ _ rfl Try.underlying5 ((c : Nat) : Int) 121 rfl rfl p17 hp17 _) ?_
  refine nr ?_; intro U h; simp only [z0, z1] at h; subst h
  cases p17
  refine s_val _ rfl rfl (.bool false) rfl ?_
  refine wpList_nil (then_n (wp_cond_false rfl (wp_skip (blk_n (blk_n (then_n (wp_region_lit (mv 39 (.int .i64 ((i : Nat) : Int)) (sv 40 (.int .i64 ((i + 1 : Nat) : Int)) (run_add64 _ _ _ rfl ((i : Nat) : Int) 1 _ rfl rfl (by omega) (by omega) (by omega) _) (mv 8 (.int .i64 ((i + 1 : Nat) : Int)) (wpList_nil (then_n ?_))))))))))))
  have hL9 : encN f d k F i = encN f d k F (i + 1) := by simp only [encN, hc, letL, hp2, hp3, hp4, hp5, hp6, hp7, hp8, hp9, hp10, hp11, hp12, hp13, hp14, hp15, hp16, hp17, cond_false, trailL, idsL, List.append_assoc, List.append_nil]
  rw [hL9] at hLn HB ⊢
  exact ⟨_, (by omega : F.length - (i + 1) < F.length - i), i + 1, ao, cap, usB [9, 10, 35, 36, 37, 38, 39, 40, 41, 42, 43, 44, 45, 46, 47, 48, 49, 50, 51, 52, 53, 54, 55, 56, 57, 58, 59, 60, 61, 62, 63, 64, 65, 66, 67, 68, 69, 70, 71, 72, 73, 74, 75, 76, 77, 78, 79, 80, 81, 82, 83, 84, 85, 86, 87, 88, 89, 90, 91, 92, 93, 94, 95, 96, 97, 98, 99, 100, 101, 102, 103, 104, 105, 106, 107, 108, 109, 110, 111, 112, 113, 114, 115, 116, 117, 118, 119, 120, 121, 122, 123, 124, 125, 126, 127, 128, 129, 130, 131, 132, 133, 134, 135, 136, 137, 138, 139, 140, 141, 142, 143, 144, 145, 146, 147, 148, 149, 150, 151, 152, 153, 154, 155, 156, 157, 158, 159, 160, 161, 162, 163, 164, 165, 166, 167, 168, 169, 170, 171, 172, 173, 174, 175, 176, 177, 178, 179, 180, 181, 182, 183, 184, 185, 186, 187, 188, 189, 190, 191, 192, 193, 194, 195, 196, 197, 198, 199, 200, 201, 202, 203, 204, 205, 206, 207, 208, 209] rfl rfl ⟨hin, (by omega), GG, kg1, HB, hBs⟩⟩
  have hc0 : c = 121 := by have := of_decide_eq_true hp17; omega
  have hcc := hokc i hin
  rw [hc, hc0, okc_y] at hcc
  simp only [decide_eq_true_eq] at hcc
  refine mv 202 (.bool true) ?_
  refine nr ?_; intro U h; simp only [z0, z1] at h; subst h
  refine wpList_nil (then_n (wp_cond_true rfl (wp_region_lit (mv 205 (.slice ao ((encN f d k F i).length) cap) (sv 206 (.pointer (some ⟨g1, 94, none⟩)) (run_fld 36 _ 13 rfl _ _ rfl _) (sv 207 (.slice f.tx.ao f.tx.n f.tx.cap) (run_ldc 32 _ rfl g1 94 rfl 36 _ kg1 (na32 _) _ rfl) ?_))))))
  refine nr ?_; intro U h; simp only [z0, z1] at h; subst h
  have HT := txt_d f.tx.ao f.tx.cap d.tx _ (xc_nc (HF.gro GG).tx HF.otx) (by omega)
  rw [← lfx] at HT
  refine s_callx 208 rfl rfl _ 28 Try.call28 rfl rfl _ rfl [.slice f.tx.ao f.tx.n f.tx.cap] rfl (HT) (fun _ _ ⟨_, _, he, _⟩ => ⟨_, he⟩) ?_
  rintro v w10 ⟨ax208, cx208, he, HX208, G⟩
  cases he
  clear HT
  replace hBs := Nat.le_trans hBs G.size
  replace kg1 := G.has kg1
  replace HB := HB.gro G
  replace GG := GG.trans G
  clear G
  refine nr ?_; intro U h; simp only [z0, z1] at h; subst h
  have hq9 : (textL d.tx).length ≤ 4105 := by have := numL_le d.tx.length; rw [textL, List.length_append]; omega
  refine s_app bT 209 rfl rfl _ _ rfl rfl HB (l' := textL d.tx) rfl (HX208.nc) (by omega) (by decide) hBs ?_
  intro ay209 cy209 w11 HB2 BL
  replace kg1 := (BL.block _ lg1).trans kg1
  replace GG : Gro w _ := below_trans GG (BL.mono hwB)
  replace hBs := Nat.le_trans hBs BL.size
  clear HB BL
  have HB := HB2
  clear HB2
  replace hLn : (encN f d k F i ++ textL d.tx).length ≤ 9 + 6000 * i + 4105 := by rw [List.length_append]; omega
  clear hq9
  refine mv 6 (.slice ay209 ((encN f d k F i ++ textL d.tx).length) cy209) (wpList_nil (blk_n (blk_n (then_n (wp_region_lit (mv 39 (.int .i64 ((i : Nat) : Int)) (sv 40 (.int .i64 ((i + 1 : Nat) : Int)) (run_add64 _ _ _ rfl ((i : Nat) : Int) 1 _ rfl rfl (by omega) (by omega) (by omega) _) (mv 8 (.int .i64 ((i + 1 : Nat) : Int)) ?_))))))))
  refine nr ?_; intro U h; simp only [z0, z1] at h; subst h
  refine wpList_nil (then_n ?_)
  have hL9 : encN f d k F i ++ textL d.tx = encN f d k F (i + 1) := by simp only [encN, hc, letL, hp2, hp3, hp4, hp5, hp6, hp7, hp8, hp9, hp10, hp11, hp12, hp13, hp14, hp15, hp16, hp17, cond_true, cond_false, trailL, idsL, List.append_assoc]
  rw [hL9] at hLn HB ⊢
  exact ⟨_, (by omega : F.length - (i + 1) < F.length - i), i + 1, ay209, cy209, usB [9, 10, 35, 36, 37, 38, 39, 40, 41, 42, 43, 44, 45, 46, 47, 48, 49, 50, 51, 52, 53, 54, 55, 56, 57, 58, 59, 60, 61, 62, 63, 64, 65, 66, 67, 68, 69, 70, 71, 72, 73, 74, 75, 76, 77, 78, 79, 80, 81, 82, 83, 84, 85, 86, 87, 88, 89, 90, 91, 92, 93, 94, 95, 96, 97, 98, 99, 100, 101, 102, 103, 104, 105, 106, 107, 108, 109, 110, 111, 112, 113, 114, 115, 116, 117, 118, 119, 120, 121, 122, 123, 124, 125, 126, 127, 128, 129, 130, 131, 132, 133, 134, 135, 136, 137, 138, 139, 140, 141, 142, 143, 144, 145, 146, 147, 148, 149, 150, 151, 152, 153, 154, 155, 156, 157, 158, 159, 160, 161, 162, 163, 164, 165, 166, 167, 168, 169, 170, 171, 172, 173, 174, 175, 176, 177, 178, 179, 180, 181, 182, 183, 184, 185, 186, 187, 188, 189, 190, 191, 192, 193, 194, 195, 196, 197, 198, 199, 200, 201, 202, 203, 204, 205, 206, 207, 208, 209] rfl rfl ⟨hin, (by omega), GG, kg1, HB, hBs⟩⟩
  have hc0 : c = 120 := by have := of_decide_eq_true hp16; omega
  have hcc := hokc i hin
  rw [hc, hc0, okc_x] at hcc
  simp only [decide_eq_true_eq] at hcc
  refine mv 202 (.bool true) (wpList_nil (then_n (wp_cond_true rfl (wp_skip (then_n (wp_cond_true rfl (wp_region_lit (mv 205 (.slice ao ((encN f d k F i).length) cap) (sv 206 (.pointer (some ⟨g1, 94, none⟩)) (run_fld 36 _ 13 rfl _ _ rfl _) (sv 207 (.slice f.tx.ao f.tx.n f.tx.cap) (run_ldc 32 _ rfl g1 94 rfl 36 _ kg1 (na32 _) _ rfl) ?_))))))))))
  refine nr ?_; intro U h; simp only [z0, z1] at h; subst h
  have HT := txt_d f.tx.ao f.tx.cap d.tx _ (xc_nc (HF.gro GG).tx HF.otx) (by omega)
  rw [← lfx] at HT
  refine s_callx 208 rfl rfl _ 28 Try.call28 rfl rfl _ rfl [.slice f.tx.ao f.tx.n f.tx.cap] rfl (HT) (fun _ _ ⟨_, _, he, _⟩ => ⟨_, he⟩) ?_
  rintro v w10 ⟨ax208, cx208, he, HX208, G⟩
  cases he
  clear HT
  replace hBs := Nat.le_trans hBs G.size
  replace kg1 := G.has kg1
  replace HB := HB.gro G
  replace GG := GG.trans G
  clear G
  refine nr ?_; intro U h; simp only [z0, z1] at h; subst h
  have hq9 : (textL d.tx).length ≤ 4105 := by have := numL_le d.tx.length; rw [textL, List.length_append]; omega
  refine s_app bT 209 rfl rfl _ _ rfl rfl HB (l' := textL d.tx) rfl (HX208.nc) (by omega) (by decide) hBs ?_
  intro ay209 cy209 w11 HB2 BL
  replace kg1 := (BL.block _ lg1).trans kg1
  replace GG : Gro w _ := below_trans GG (BL.mono hwB)
  replace hBs := Nat.le_trans hBs BL.size
  clear HB BL
  have HB := HB2
  clear HB2
  replace hLn : (encN f d k F i ++ textL d.tx).length ≤ 9 + 6000 * i + 4105 := by rw [List.length_append]; omega
  clear hq9
  refine mv 6 (.slice ay209 ((encN f d k F i ++ textL d.tx).length) cy209) (wpList_nil (blk_n (blk_n (then_n (wp_region_lit (mv 39 (.int .i64 ((i : Nat) : Int)) (sv 40 (.int .i64 ((i + 1 : Nat) : Int)) (run_add64 _ _ _ rfl ((i : Nat) : Int) 1 _ rfl rfl (by omega) (by omega) (by omega) _) (mv 8 (.int .i64 ((i + 1 : Nat) : Int)) ?_))))))))
  refine nr ?_; intro U h; simp only [z0, z1] at h; subst h
  refine wpList_nil (then_n ?_)
  have hL9 : encN f d k F i ++ textL d.tx = encN f d k F (i + 1) := by simp only [encN, hc, letL, hp2, hp3, hp4, hp5, hp6, hp7, hp8, hp9, hp10, hp11, hp12, hp13, hp14, hp15, hp16, cond_true, cond_false, trailL, idsL, List.append_assoc]
  rw [hL9] at hLn HB ⊢
  exact ⟨_, (by omega : F.length - (i + 1) < F.length - i), i + 1, ay209, cy209, usB [9, 10, 35, 36, 37, 38, 39, 40, 41, 42, 43, 44, 45, 46, 47, 48, 49, 50, 51, 52, 53, 54, 55, 56, 57, 58, 59, 60, 61, 62, 63, 64, 65, 66, 67, 68, 69, 70, 71, 72, 73, 74, 75, 76, 77, 78, 79, 80, 81, 82, 83, 84, 85, 86, 87, 88, 89, 90, 91, 92, 93, 94, 95, 96, 97, 98, 99, 100, 101, 102, 103, 104, 105, 106, 107, 108, 109, 110, 111, 112, 113, 114, 115, 116, 117, 118, 119, 120, 121, 122, 123, 124, 125, 126, 127, 128, 129, 130, 131, 132, 133, 134, 135, 136, 137, 138, 139, 140, 141, 142, 143, 144, 145, 146, 147, 148, 149, 150, 151, 152, 153, 154, 155, 156, 157, 158, 159, 160, 161, 162, 163, 164, 165, 166, 167, 168, 169, 170, 171, 172, 173, 174, 175, 176, 177, 178, 179, 180, 181, 182, 183, 184, 185, 186, 187, 188, 189, 190, 191, 192, 193, 194, 195, 196, 197, 198, 199, 200, 201, 202, 203, 204, 205, 206, 207, 208, 209] rfl rfl ⟨hin, (by omega), GG, kg1, HB, hBs⟩⟩
  have hc0 : c = 119 := by have := of_decide_eq_true hp15; omega
  have hcc := hokc i hin
  rw [hc, hc0, okc_w] at hcc
  simp only [Bool.and_eq_true, decide_eq_true_eq] at hcc
  refine mv 195 (.bool true) (wpList_nil (then_n (wp_cond_true rfl (wp_region_lit (mv 197 (.slice ao ((encN f d k F i).length) cap) (sv 198 (.pointer (some ⟨g1, 93, none⟩)) (run_fld 36 _ 12 rfl _ _ rfl _) (sv 199 (.int .i64 f.ttl) (run_ldc 3 _ rfl g1 93 rfl 36 _ kg1 (na3 _) _ rfl) ?_)))))))
  refine s_callx 200 rfl rfl _ 26 Try.call26 rfl rfl _ rfl [.int .i64 f.ttl] rfl (num_i (f.ttl) (by omega) (by omega) _) (fun _ _ ⟨_, _, he, _⟩ => ⟨_, he⟩) ?_
  rintro v w10 ⟨ax200, cx200, he, HX200, G⟩
  cases he
  replace hBs := Nat.le_trans hBs G.size
  replace kg1 := G.has kg1
  replace HB := HB.gro G
  replace GG := GG.trans G
  clear G
  refine nr ?_; intro U h; simp only [z0, z1] at h; subst h
  have hq9 : (nI (f.ttl)).length ≤ 9 := nI_len _
  refine s_app bT 201 rfl rfl _ _ rfl rfl HB (l' := nI (f.ttl)) rfl (HX200.nc) (by omega) (by decide) hBs ?_
  intro ay201 cy201 w11 HB2 BL
  replace kg1 := (BL.block _ lg1).trans kg1
  replace GG : Gro w _ := below_trans GG (BL.mono hwB)
  replace hBs := Nat.le_trans hBs BL.size
  clear HB BL
  have HB := HB2
  clear HB2
  replace hLn : (encN f d k F i ++ nI (f.ttl)).length ≤ 9 + 6000 * i + 9 := by rw [List.length_append]; omega
  clear hq9
  refine mv 6 (.slice ay201 ((encN f d k F i ++ nI (f.ttl)).length) cy201) (wpList_nil (blk_n (blk_n (then_n (wp_region_lit (mv 39 (.int .i64 ((i : Nat) : Int)) (sv 40 (.int .i64 ((i + 1 : Nat) : Int)) (run_add64 _ _ _ rfl ((i : Nat) : Int) 1 _ rfl rfl (by omega) (by omega) (by omega) _) (mv 8 (.int .i64 ((i + 1 : Nat) : Int)) ?_))))))))
  refine nr ?_; intro U h; simp only [z0, z1] at h; subst h
  refine wpList_nil (then_n ?_)
  have hL9 : encN f d k F i ++ nI (f.ttl) = encN f d k F (i + 1) := by simp only [encN, hc, letL, hp2, hp3, hp4, hp5, hp6, hp7, hp8, hp9, hp10, hp11, hp12, hp13, hp14, hp15, cond_true, cond_false, trailL, idsL, List.append_assoc]
  rw [hL9] at hLn HB ⊢
  exact ⟨_, (by omega : F.length - (i + 1) < F.length - i), i + 1, ay201, cy201, usB [9, 10, 35, 36, 37, 38, 39, 40, 41, 42, 43, 44, 45, 46, 47, 48, 49, 50, 51, 52, 53, 54, 55, 56, 57, 58, 59, 60, 61, 62, 63, 64, 65, 66, 67, 68, 69, 70, 71, 72, 73, 74, 75, 76, 77, 78, 79, 80, 81, 82, 83, 84, 85, 86, 87, 88, 89, 90, 91, 92, 93, 94, 95, 96, 97, 98, 99, 100, 101, 102, 103, 104, 105, 106, 107, 108, 109, 110, 111, 112, 113, 114, 115, 116, 117, 118, 119, 120, 121, 122, 123, 124, 125, 126, 127, 128, 129, 130, 131, 132, 133, 134, 135, 136, 137, 138, 139, 140, 141, 142, 143, 144, 145, 146, 147, 148, 149, 150, 151, 152, 153, 154, 155, 156, 157, 158, 159, 160, 161, 162, 163, 164, 165, 166, 167, 168, 169, 170, 171, 172, 173, 174, 175, 176, 177, 178, 179, 180, 181, 182, 183, 184, 185, 186, 187, 188, 189, 190, 191, 192, 193, 194, 195, 196, 197, 198, 199, 200, 201, 202, 203, 204, 205, 206, 207, 208, 209] rfl rfl ⟨hin, (by omega), GG, kg1, HB, hBs⟩⟩
  have hc0 : c = 111 := by have := of_decide_eq_true hp14; omega
  have hcc := hokc i hin
  rw [hc, hc0, okc_o] at hcc
  simp only [Bool.and_eq_true, decide_eq_true_eq] at hcc
  refine mv 187 (.bool true) (wpList_nil (then_n (wp_cond_true rfl (wp_region_lit (mv 190 (.slice ao ((encN f d k F i).length) cap) (sv 191 (.pointer (some ⟨g1, 92, none⟩)) (run_fld 36 _ 11 rfl _ _ rfl _) (sv 192 (.int .i64 f.op) (run_ldc 3 _ rfl g1 92 rfl 36 _ kg1 (na3 _) _ rfl) ?_)))))))
  refine s_callx 193 rfl rfl _ 26 Try.call26 rfl rfl _ rfl [.int .i64 f.op] rfl (num_i (f.op) (by omega) (by omega) _) (fun _ _ ⟨_, _, he, _⟩ => ⟨_, he⟩) ?_
  rintro v w10 ⟨ax193, cx193, he, HX193, G⟩
  cases he
  replace hBs := Nat.le_trans hBs G.size
  replace kg1 := G.has kg1
  replace HB := HB.gro G
  replace GG := GG.trans G
  clear G
  refine nr ?_; intro U h; simp only [z0, z1] at h; subst h
  have hq9 : (nI (f.op)).length ≤ 9 := nI_len _
  refine s_app bT 194 rfl rfl _ _ rfl rfl HB (l' := nI (f.op)) rfl (HX193.nc) (by omega) (by decide) hBs ?_
  intro ay194 cy194 w11 HB2 BL
  replace kg1 := (BL.block _ lg1).trans kg1
  replace GG : Gro w _ := below_trans GG (BL.mono hwB)
  replace hBs := Nat.le_trans hBs BL.size
  clear HB BL
  have HB := HB2
  clear HB2
  replace hLn : (encN f d k F i ++ nI (f.op)).length ≤ 9 + 6000 * i + 9 := by rw [List.length_append]; omega
  clear hq9
  refine mv 6 (.slice ay194 ((encN f d k F i ++ nI (f.op)).length) cy194) (wpList_nil (blk_n (blk_n (then_n (wp_region_lit (mv 39 (.int .i64 ((i : Nat) : Int)) (sv 40 (.int .i64 ((i + 1 : Nat) : Int)) (run_add64 _ _ _ rfl ((i : Nat) : Int) 1 _ rfl rfl (by omega) (by omega) (by omega) _) (mv 8 (.int .i64 ((i + 1 : Nat) : Int)) ?_))))))))
  refine nr ?_; intro U h; simp only [z0, z1] at h; subst h
  refine wpList_nil (then_n ?_)
  have hL9 : encN f d k F i ++ nI (f.op) = encN f d k F (i + 1) := by simp only [encN, hc, letL, hp2, hp3, hp4, hp5, hp6, hp7, hp8, hp9, hp10, hp11, hp12, hp13, hp14, cond_true, cond_false, trailL, idsL, List.append_assoc]
  rw [hL9] at hLn HB ⊢
  exact ⟨_, (by omega : F.length - (i + 1) < F.length - i), i + 1, ay194, cy194, usB [9, 10, 35, 36, 37, 38, 39, 40, 41, 42, 43, 44, 45, 46, 47, 48, 49, 50, 51, 52, 53, 54, 55, 56, 57, 58, 59, 60, 61, 62, 63, 64, 65, 66, 67, 68, 69, 70, 71, 72, 73, 74, 75, 76, 77, 78, 79, 80, 81, 82, 83, 84, 85, 86, 87, 88, 89, 90, 91, 92, 93, 94, 95, 96, 97, 98, 99, 100, 101, 102, 103, 104, 105, 106, 107, 108, 109, 110, 111, 112, 113, 114, 115, 116, 117, 118, 119, 120, 121, 122, 123, 124, 125, 126, 127, 128, 129, 130, 131, 132, 133, 134, 135, 136, 137, 138, 139, 140, 141, 142, 143, 144, 145, 146, 147, 148, 149, 150, 151, 152, 153, 154, 155, 156, 157, 158, 159, 160, 161, 162, 163, 164, 165, 166, 167, 168, 169, 170, 171, 172, 173, 174, 175, 176, 177, 178, 179, 180, 181, 182, 183, 184, 185, 186, 187, 188, 189, 190, 191, 192, 193, 194, 195, 196, 197, 198, 199, 200, 201, 202, 203, 204, 205, 206, 207, 208, 209] rfl rfl ⟨hin, (by omega), GG, kg1, HB, hBs⟩⟩
  have hc0 : c = 108 := by have := of_decide_eq_true hp13; omega
  have hcc := hokc i hin
  rw [hc, hc0, okc_l] at hcc
  simp only [Bool.and_eq_true, decide_eq_true_eq] at hcc
  refine mv 187 (.bool true) (wpList_nil (then_n (wp_cond_true rfl (wp_skip (then_n (wp_cond_true rfl (wp_region_lit (mv 190 (.slice ao ((encN f d k F i).length) cap) (sv 191 (.pointer (some ⟨g1, 92, none⟩)) (run_fld 36 _ 11 rfl _ _ rfl _) (sv 192 (.int .i64 f.op) (run_ldc 3 _ rfl g1 92 rfl 36 _ kg1 (na3 _) _ rfl) ?_))))))))))
  refine s_callx 193 rfl rfl _ 26 Try.call26 rfl rfl _ rfl [.int .i64 f.op] rfl (num_i (f.op) (by omega) (by omega) _) (fun _ _ ⟨_, _, he, _⟩ => ⟨_, he⟩) ?_
  rintro v w10 ⟨ax193, cx193, he, HX193, G⟩
  cases he
  replace hBs := Nat.le_trans hBs G.size
  replace kg1 := G.has kg1
  replace HB := HB.gro G
  replace GG := GG.trans G
  clear G
  refine nr ?_; intro U h; simp only [z0, z1] at h; subst h
  have hq9 : (nI (f.op)).length ≤ 9 := nI_len _
  refine s_app bT 194 rfl rfl _ _ rfl rfl HB (l' := nI (f.op)) rfl (HX193.nc) (by omega) (by decide) hBs ?_
  intro ay194 cy194 w11 HB2 BL
  replace kg1 := (BL.block _ lg1).trans kg1
  replace GG : Gro w _ := below_trans GG (BL.mono hwB)
  replace hBs := Nat.le_trans hBs BL.size
  clear HB BL
  have HB := HB2
  clear HB2
  replace hLn : (encN f d k F i ++ nI (f.op)).length ≤ 9 + 6000 * i + 9 := by rw [List.length_append]; omega
  clear hq9
  refine mv 6 (.slice ay194 ((encN f d k F i ++ nI (f.op)).length) cy194) (wpList_nil (blk_n (blk_n (then_n (wp_region_lit (mv 39 (.int .i64 ((i : Nat) : Int)) (sv 40 (.int .i64 ((i + 1 : Nat) : Int)) (run_add64 _ _ _ rfl ((i : Nat) : Int) 1 _ rfl rfl (by omega) (by omega) (by omega) _) (mv 8 (.int .i64 ((i + 1 : Nat) : Int)) ?_))))))))
  refine nr ?_; intro U h; simp only [z0, z1] at h; subst h
  refine wpList_nil (then_n ?_)
  have hL9 : encN f d k F i ++ nI (f.op) = encN f d k F (i + 1) := by simp only [encN, hc, letL, hp2, hp3, hp4, hp5, hp6, hp7, hp8, hp9, hp10, hp11, hp12, hp13, cond_true, cond_false, trailL, idsL, List.append_assoc]
  rw [hL9] at hLn HB ⊢
  exact ⟨_, (by omega : F.length - (i + 1) < F.length - i), i + 1, ay194, cy194, usB [9, 10, 35, 36, 37, 38, 39, 40, 41, 42, 43, 44, 45, 46, 47, 48, 49, 50, 51, 52, 53, 54, 55, 56, 57, 58, 59, 60, 61, 62, 63, 64, 65, 66, 67, 68, 69, 70, 71, 72, 73, 74, 75, 76, 77, 78, 79, 80, 81, 82, 83, 84, 85, 86, 87, 88, 89, 90, 91, 92, 93, 94, 95, 96, 97, 98, 99, 100, 101, 102, 103, 104, 105, 106, 107, 108, 109, 110, 111, 112, 113, 114, 115, 116, 117, 118, 119, 120, 121, 122, 123, 124, 125, 126, 127, 128, 129, 130, 131, 132, 133, 134, 135, 136, 137, 138, 139, 140, 141, 142, 143, 144, 145, 146, 147, 148, 149, 150, 151, 152, 153, 154, 155, 156, 157, 158, 159, 160, 161, 162, 163, 164, 165, 166, 167, 168, 169, 170, 171, 172, 173, 174, 175, 176, 177, 178, 179, 180, 181, 182, 183, 184, 185, 186, 187, 188, 189, 190, 191, 192, 193, 194, 195, 196, 197, 198, 199, 200, 201, 202, 203, 204, 205, 206, 207, 208, 209] rfl rfl ⟨hin, (by omega), GG, kg1, HB, hBs⟩⟩
  have hc0 : c = 107 := by have := of_decide_eq_true hp12; omega
  have hcc := hokc i hin
  rw [hc, hc0, okc_k] at hcc
  simp only [decide_eq_true_eq] at hcc
  refine mv 156 (.bool true) (wpList_nil (then_n (wp_cond_true rfl (wp_seq (wp_region_lit (mv 159 (.slice ao ((encN f d k F i).length) cap) (sv 160 (.pointer (some ⟨g1, 58, none⟩)) (run_fld 36 _ 10 rfl _ _ rfl _) (sv 161 (.pointer (some ⟨g1, 58, none⟩)) (run_fld 34 _ 0 rfl _ _ rfl _) (sv 162 (.slice (some ⟨g1, 58, none⟩) ((idL f.key).length) 16) (run_arrO _ rfl g1 58 rfl _) ?_)))))))))
  refine nr ?_; intro U h; simp only [z0, z1] at h; subst h
  have hq9 : (idL f.key).length ≤ 16 := Nat.le_refl _
  refine s_app bT 163 rfl rfl _ _ rfl rfl HB (l' := idL f.key) rfl (nc_id kg1 f.key HR.key (by kernel_rfl)) (by omega) (by decide) hBs ?_
  intro ay163 cy163 w10 HB2 BL
  replace kg1 := (BL.block _ lg1).trans kg1
  replace GG : Gro w _ := below_trans GG (BL.mono hwB)
  replace hBs := Nat.le_trans hBs BL.size
  clear HB BL
  have HB := HB2
  clear HB2
  replace hLn : (encN f d k F i ++ idL f.key).length ≤ 9 + 6000 * i + 16 := by rw [List.length_append]; omega
  clear hq9
  refine mv 6 (.slice ay163 ((encN f d k F i ++ idL f.key).length) cy163) (wpList_nil (then_n (wp_seq (wp_region_lit (mv 164 (.slice ay163 ((encN f d k F i ++ idL f.key).length) cy163) (sv 165 (.pointer (some ⟨g1, 58, none⟩)) (run_fld 36 _ 10 rfl _ _ rfl _) (sv 166 (.pointer (some ⟨g1, 74, none⟩)) (run_fld 34 _ 1 rfl _ _ rfl _) ?_)))))))
  refine nr ?_; intro U h; simp only [z0, z1] at h; subst h
  refine sv 167 (.pointer (some ⟨g1, 74, none⟩)) (run_fld 31 _ 0 rfl _ _ rfl _) (sv 168 (.int .i64 f.vn) (run_ldc 2 _ rfl g1 74 rfl 36 _ kg1 (na2 _) _ rfl) ?_)
  refine s_callx 169 rfl rfl _ 26 Try.call26 rfl rfl _ rfl [.int .i64 f.vn] rfl (num_i (f.vn) (by omega) (by omega) _) (fun _ _ ⟨_, _, he, _⟩ => ⟨_, he⟩) ?_
  rintro v w11 ⟨ax169, cx169, he, HX169, G⟩
  cases he
  replace hBs := Nat.le_trans hBs G.size
  replace kg1 := G.has kg1
  replace HB := HB.gro G
  replace GG := GG.trans G
  clear G
  refine nr ?_; intro U h; simp only [z0, z1] at h; subst h
  have hq9 : (nI (f.vn)).length ≤ 9 := nI_len _
  refine s_app bT 170 rfl rfl _ _ rfl rfl HB (l' := nI (f.vn)) rfl (HX169.nc) (by omega) (by decide) hBs ?_
  intro ay170 cy170 w12 HB2 BL
  replace kg1 := (BL.block _ lg1).trans kg1
  replace GG : Gro w _ := below_trans GG (BL.mono hwB)
  replace hBs := Nat.le_trans hBs BL.size
  clear HB BL
  have HB := HB2
  clear HB2
  replace hLn : (encN f d k F i ++ idL f.key ++ nI (f.vn)).length ≤ 9 + 6000 * i + 16 + 9 := by rw [List.length_append]; omega
  clear hq9
  refine mv 6 (.slice ay170 ((encN f d k F i ++ idL f.key ++ nI (f.vn)).length) cy170) (wpList_nil (then_n (wp_seq (wp_region_lit (mv 171 (.slice ay170 ((encN f d k F i ++ idL f.key ++ nI (f.vn)).length) cy170) (sv 172 (.pointer (some ⟨g1, 58, none⟩)) (run_fld 36 _ 10 rfl _ _ rfl _) (sv 173 (.pointer (some ⟨g1, 74, none⟩)) (run_fld 34 _ 1 rfl _ _ rfl _) ?_)))))))
  refine nr ?_; intro U h; simp only [z0, z1] at h; subst h
  refine sv 174 (.pointer (some ⟨g1, 75, none⟩)) (run_fld 31 _ 1 rfl _ _ rfl _) (sv 175 (.slice (some ⟨g1, 75, none⟩) ((idL f.vw).length) 16) (run_arrO _ rfl g1 75 rfl _) ?_)
  refine nr ?_; intro U h; simp only [z0, z1] at h; subst h
  have hq9 : (idL f.vw).length ≤ 16 := Nat.le_refl _
  refine s_app bT 176 rfl rfl _ _ rfl rfl HB (l' := idL f.vw) rfl (nc_id kg1 f.vw HR.vw (by kernel_rfl)) (by omega) (by decide) hBs ?_
  intro ay176 cy176 w13 HB2 BL
  replace kg1 := (BL.block _ lg1).trans kg1
  replace GG : Gro w _ := below_trans GG (BL.mono hwB)
  replace hBs := Nat.le_trans hBs BL.size
  clear HB BL
  have HB := HB2
  clear HB2
  replace hLn : (encN f d k F i ++ idL f.key ++ nI (f.vn) ++ idL f.vw).length ≤ 9 + 6000 * i + 16 + 9 + 16 := by rw [List.length_append]; omega
  clear hq9
  refine mv 6 (.slice ay176 ((encN f d k F i ++ idL f.key ++ nI (f.vn) ++ idL f.vw).length) cy176) (wpList_nil (then_n (wp_seq (wp_region_lit (mv 177 (.string (bas F)) (mv 178 (.int .i64 ((i : Nat) : Int)) (sv 179 (.int .u8 ((c : Nat) : Int)) ((run_sidx _ _ rfl F hFb rfl i hin rfl _).trans (by rw [hc])) ?_)))))))
  refine nr ?_; intro U h; simp only [z0, z1] at h; subst h
  refine sv 180 (.bool false) (run_eq_k 5 .u8 _ _ _ rfl Try.underlying5 ((c : Nat) : Int) 105 rfl rfl false hp11 _) (wpList_nil (then_n (wp_cond_false rfl (wp_skip (blk_n (blk_n (then_n (wp_region_lit (mv 39 (.int .i64 ((i : Nat) : Int)) (sv 40 (.int .i64 ((i + 1 : Nat) : Int)) (run_add64 _ _ _ rfl ((i : Nat) : Int) 1 _ rfl rfl (by omega) (by omega) (by omega) _) (mv 8 (.int .i64 ((i + 1 : Nat) : Int)) (wpList_nil (then_n ?_)))))))))))))
  have hL9 : encN f d k F i ++ idL f.key ++ nI (f.vn) ++ idL f.vw = encN f d k F (i + 1) := by simp only [encN, hc, letL, hp2, hp3, hp4, hp5, hp6, hp7, hp8, hp9, hp10, hp11, hp12, cond_true, cond_false, trailL, idsL, List.append_assoc]
  rw [hL9] at hLn HB ⊢
  exact ⟨_, (by omega : F.length - (i + 1) < F.length - i), i + 1, ay176, cy176, usB [9, 10, 35, 36, 37, 38, 39, 40, 41, 42, 43, 44, 45, 46, 47, 48, 49, 50, 51, 52, 53, 54, 55, 56, 57, 58, 59, 60, 61, 62, 63, 64, 65, 66, 67, 68, 69, 70, 71, 72, 73, 74, 75, 76, 77, 78, 79, 80, 81, 82, 83, 84, 85, 86, 87, 88, 89, 90, 91, 92, 93, 94, 95, 96, 97, 98, 99, 100, 101, 102, 103, 104, 105, 106, 107, 108, 109, 110, 111, 112, 113, 114, 115, 116, 117, 118, 119, 120, 121, 122, 123, 124, 125, 126, 127, 128, 129, 130, 131, 132, 133, 134, 135, 136, 137, 138, 139, 140, 141, 142, 143, 144, 145, 146, 147, 148, 149, 150, 151, 152, 153, 154, 155, 156, 157, 158, 159, 160, 161, 162, 163, 164, 165, 166, 167, 168, 169, 170, 171, 172, 173, 174, 175, 176, 177, 178, 179, 180, 181, 182, 183, 184, 185, 186, 187, 188, 189, 190, 191, 192, 193, 194, 195, 196, 197, 198, 199, 200, 201, 202, 203, 204, 205, 206, 207, 208, 209] rfl rfl ⟨hin, (by omega), GG, kg1, HB, hBs⟩⟩
  have hc0 : c = 105 := by have := of_decide_eq_true hp11; omega
  have hcc := hokc i hin
  rw [hc, hc0, okc_i] at hcc
  simp only [Bool.and_eq_true, decide_eq_true_eq] at hcc
  refine mv 156 (.bool true) ?_
  refine nr ?_; intro U h; simp only [z0, z1] at h; subst h
  refine wpList_nil (then_n (wp_cond_true rfl (wp_skip (then_n (wp_cond_true rfl (wp_seq (wp_region_lit (mv 159 (.slice ao ((encN f d k F i).length) cap) (sv 160 (.pointer (some ⟨g1, 58, none⟩)) (run_fld 36 _ 10 rfl _ _ rfl _) (sv 161 (.pointer (some ⟨g1, 58, none⟩)) (run_fld 34 _ 0 rfl _ _ rfl _) (sv 162 (.slice (some ⟨g1, 58, none⟩) ((idL f.key).length) 16) (run_arrO _ rfl g1 58 rfl _) ?_)))))))))))
  refine nr ?_; intro U h; simp only [z0, z1] at h; subst h
  have hq9 : (idL f.key).length ≤ 16 := Nat.le_refl _
  refine s_app bT 163 rfl rfl _ _ rfl rfl HB (l' := idL f.key) rfl (nc_id kg1 f.key HR.key (by kernel_rfl)) (by omega) (by decide) hBs ?_
  intro ay163 cy163 w10 HB2 BL
  replace kg1 := (BL.block _ lg1).trans kg1
  replace GG : Gro w _ := below_trans GG (BL.mono hwB)
  replace hBs := Nat.le_trans hBs BL.size
  clear HB BL
  have HB := HB2
  clear HB2
  replace hLn : (encN f d k F i ++ idL f.key).length ≤ 9 + 6000 * i + 16 := by rw [List.length_append]; omega
  clear hq9
  refine mv 6 (.slice ay163 ((encN f d k F i ++ idL f.key).length) cy163) (wpList_nil (then_n (wp_seq (wp_region_lit (mv 164 (.slice ay163 ((encN f d k F i ++ idL f.key).length) cy163) (sv 165 (.pointer (some ⟨g1, 58, none⟩)) (run_fld 36 _ 10 rfl _ _ rfl _) (sv 166 (.pointer (some ⟨g1, 74, none⟩)) (run_fld 34 _ 1 rfl _ _ rfl _) ?_)))))))
  refine nr ?_; intro U h; simp only [z0, z1] at h; subst h
  refine sv 167 (.pointer (some ⟨g1, 74, none⟩)) (run_fld 31 _ 0 rfl _ _ rfl _) (sv 168 (.int .i64 f.vn) (run_ldc 2 _ rfl g1 74 rfl 36 _ kg1 (na2 _) _ rfl) ?_)
  refine s_callx 169 rfl rfl _ 26 Try.call26 rfl rfl _ rfl [.int .i64 f.vn] rfl (num_i (f.vn) (by omega) (by omega) _) (fun _ _ ⟨_, _, he, _⟩ => ⟨_, he⟩) ?_
  rintro v w11 ⟨ax169, cx169, he, HX169, G⟩
  cases he
  replace hBs := Nat.le_trans hBs G.size
  replace kg1 := G.has kg1
  replace HB := HB.gro G
  replace GG := GG.trans G
  clear G
  refine nr ?_; intro U h; simp only [z0, z1] at h; subst h
  have hq9 : (nI (f.vn)).length ≤ 9 := nI_len _
  refine s_app bT 170 rfl rfl _ _ rfl rfl HB (l' := nI (f.vn)) rfl (HX169.nc) (by omega) (by decide) hBs ?_
  intro ay170 cy170 w12 HB2 BL
  replace kg1 := (BL.block _ lg1).trans kg1
  replace GG : Gro w _ := below_trans GG (BL.mono hwB)
  replace hBs := Nat.le_trans hBs BL.size
  clear HB BL
  have HB := HB2
  clear HB2
  replace hLn : (encN f d k F i ++ idL f.key ++ nI (f.vn)).length ≤ 9 + 6000 * i + 16 + 9 := by rw [List.length_append]; omega
  clear hq9
  refine mv 6 (.slice ay170 ((encN f d k F i ++ idL f.key ++ nI (f.vn)).length) cy170) (wpList_nil (then_n (wp_seq (wp_region_lit (mv 171 (.slice ay170 ((encN f d k F i ++ idL f.key ++ nI (f.vn)).length) cy170) (sv 172 (.pointer (some ⟨g1, 58, none⟩)) (run_fld 36 _ 10 rfl _ _ rfl _) (sv 173 (.pointer (some ⟨g1, 74, none⟩)) (run_fld 34 _ 1 rfl _ _ rfl _) ?_)))))))
  refine nr ?_; intro U h; simp only [z0, z1] at h; subst h
  refine sv 174 (.pointer (some ⟨g1, 75, none⟩)) (run_fld 31 _ 1 rfl _ _ rfl _) (sv 175 (.slice (some ⟨g1, 75, none⟩) ((idL f.vw).length) 16) (run_arrO _ rfl g1 75 rfl _) ?_)
  refine nr ?_; intro U h; simp only [z0, z1] at h; subst h
  have hq9 : (idL f.vw).length ≤ 16 := Nat.le_refl _
  refine s_app bT 176 rfl rfl _ _ rfl rfl HB (l' := idL f.vw) rfl (nc_id kg1 f.vw HR.vw (by kernel_rfl)) (by omega) (by decide) hBs ?_
  intro ay176 cy176 w13 HB2 BL
  replace kg1 := (BL.block _ lg1).trans kg1
  replace GG : Gro w _ := below_trans GG (BL.mono hwB)
  replace hBs := Nat.le_trans hBs BL.size
  clear HB BL
  have HB := HB2
  clear HB2
  replace hLn : (encN f d k F i ++ idL f.key ++ nI (f.vn) ++ idL f.vw).length ≤ 9 + 6000 * i + 16 + 9 + 16 := by rw [List.length_append]; omega
  clear hq9
  refine mv 6 (.slice ay176 ((encN f d k F i ++ idL f.key ++ nI (f.vn) ++ idL f.vw).length) cy176) (wpList_nil (then_n (wp_seq (wp_region_lit (mv 177 (.string (bas F)) (mv 178 (.int .i64 ((i : Nat) : Int)) (sv 179 (.int .u8 ((c : Nat) : Int)) ((run_sidx _ _ rfl F hFb rfl i hin rfl _).trans (by rw [hc])) ?_)))))))
  refine nr ?_; intro U h; simp only [z0, z1] at h; subst h
  refine sv 180 (.bool true) (run_eq_k 5 .u8 _ _ _ rfl Try.underlying5 ((c : Nat) : Int) 105 rfl rfl true hp11 _) (wpList_nil (then_n (wp_cond_true rfl (wp_region_lit (mv 181 (.slice ay176 ((encN f d k F i ++ idL f.key ++ nI (f.vn) ++ idL f.vw).length) cy176) (sv 182 (.pointer (some ⟨g1, 58, none⟩)) (run_fld 36 _ 10 rfl _ _ rfl _) (sv 183 (.pointer (some ⟨g1, 91, none⟩)) (run_fld 34 _ 2 rfl _ _ rfl _) (sv 184 (.slice f.val.ao f.val.n f.val.cap) (run_ldc 32 _ rfl g1 91 rfl 36 _ kg1 (na32 _) _ rfl) ?_))))))))
  refine nr ?_; intro U h; simp only [z0, z1] at h; subst h
  have HT := txt_d f.val.ao f.val.cap d.val _ (xc_nc (HF.gro GG).val HF.oval) (by omega)
  rw [← lfv] at HT
  refine s_callx 185 rfl rfl _ 28 Try.call28 rfl rfl _ rfl [.slice f.val.ao f.val.n f.val.cap] rfl (HT) (fun _ _ ⟨_, _, he, _⟩ => ⟨_, he⟩) ?_
  rintro v w14 ⟨ax185, cx185, he, HX185, G⟩
  cases he
  clear HT
  replace hBs := Nat.le_trans hBs G.size
  replace kg1 := G.has kg1
  replace HB := HB.gro G
  replace GG := GG.trans G
  clear G
  refine nr ?_; intro U h; simp only [z0, z1] at h; subst h
  have hq9 : (textL d.val).length ≤ 4105 := by have := numL_le d.val.length; rw [textL, List.length_append]; omega
  refine s_app bT 186 rfl rfl _ _ rfl rfl HB (l' := textL d.val) rfl (HX185.nc) (by omega) (by decide) hBs ?_
  intro ay186 cy186 w15 HB2 BL
  replace kg1 := (BL.block _ lg1).trans kg1
  replace GG : Gro w _ := below_trans GG (BL.mono hwB)
  replace hBs := Nat.le_trans hBs BL.size
  clear HB BL
  have HB := HB2
  clear HB2
  replace hLn : (encN f d k F i ++ idL f.key ++ nI (f.vn) ++ idL f.vw ++ textL d.val).length ≤ 9 + 6000 * i + 16 + 9 + 16 + 4105 := by rw [List.length_append]; omega
  clear hq9
  refine mv 6 (.slice ay186 ((encN f d k F i ++ idL f.key ++ nI (f.vn) ++ idL f.vw ++ textL d.val).length) cy186) (wpList_nil (blk_n (blk_n (then_n (wp_region_lit (mv 39 (.int .i64 ((i : Nat) : Int)) (sv 40 (.int .i64 ((i + 1 : Nat) : Int)) (run_add64 _ _ _ rfl ((i : Nat) : Int) 1 _ rfl rfl (by omega) (by omega) (by omega) _) (mv 8 (.int .i64 ((i + 1 : Nat) : Int)) ?_))))))))
  refine nr ?_; intro U h; simp only [z0, z1] at h; subst h
  refine wpList_nil (then_n ?_)
  have hL9 : encN f d k F i ++ idL f.key ++ nI (f.vn) ++ idL f.vw ++ textL d.val = encN f d k F (i + 1) := by simp only [encN, hc, letL, hp2, hp3, hp4, hp5, hp6, hp7, hp8, hp9, hp10, hp11, cond_true, cond_false, trailL, idsL, List.append_assoc]
  rw [hL9] at hLn HB ⊢
  exact ⟨_, (by omega : F.length - (i + 1) < F.length - i), i + 1, ay186, cy186, usB [9, 10, 35, 36, 37, 38, 39, 40, 41, 42, 43, 44, 45, 46, 47, 48, 49, 50, 51, 52, 53, 54, 55, 56, 57, 58, 59, 60, 61, 62, 63, 64, 65, 66, 67, 68, 69, 70, 71, 72, 73, 74, 75, 76, 77, 78, 79, 80, 81, 82, 83, 84, 85, 86, 87, 88, 89, 90, 91, 92, 93, 94, 95, 96, 97, 98, 99, 100, 101, 102, 103, 104, 105, 106, 107, 108, 109, 110, 111, 112, 113, 114, 115, 116, 117, 118, 119, 120, 121, 122, 123, 124, 125, 126, 127, 128, 129, 130, 131, 132, 133, 134, 135, 136, 137, 138, 139, 140, 141, 142, 143, 144, 145, 146, 147, 148, 149, 150, 151, 152, 153, 154, 155, 156, 157, 158, 159, 160, 161, 162, 163, 164, 165, 166, 167, 168, 169, 170, 171, 172, 173, 174, 175, 176, 177, 178, 179, 180, 181, 182, 183, 184, 185, 186, 187, 188, 189, 190, 191, 192, 193, 194, 195, 196, 197, 198, 199, 200, 201, 202, 203, 204, 205, 206, 207, 208, 209] rfl rfl ⟨hin, (by omega), GG, kg1, HB, hBs⟩⟩
  have hc0 : c = 115 := by have := of_decide_eq_true hp10; omega
  have hcc := hokc i hin
  rw [hc, hc0, okc_s] at hcc
  simp only [decide_eq_true_eq] at hcc
  refine mv 134 (.bool true) (wpList_nil (then_n (wp_cond_true rfl (wp_seq (wp_region_lit (mv 136 (.slice ao ((encN f d k F i).length) cap) (sv 137 (.pointer (some ⟨g1, 57, none⟩)) (run_fld 36 _ 9 rfl _ _ rfl _) (sv 138 (.slice f.ids.ao f.ids.n f.ids.cap) (run_ldc 29 _ rfl g1 57 rfl 36 _ kg1 (na29 _) _ rfl) (sv 139 (.int .i64 ((f.ids.n : Nat) : Int)) (run_len Try.underlying29 _ rfl _ _ _ rfl _) ?_)))))))))
  refine nr ?_; intro U h; simp only [z0, z1] at h; subst h
  refine s_callx 140 rfl rfl _ 26 Try.call26 rfl rfl _ rfl [.int .i64 ((f.ids.n : Nat) : Int)] rfl (num_i (((f.ids.n : Nat) : Int)) (by omega) (by omega) _) (fun _ _ ⟨_, _, he, _⟩ => ⟨_, he⟩) ?_
  rintro v w10 ⟨ax140, cx140, he, HX140, G⟩
  cases he
  replace hBs := Nat.le_trans hBs G.size
  replace kg1 := G.has kg1
  replace HB := HB.gro G
  replace GG := GG.trans G
  clear G
  refine nr ?_; intro U h; simp only [z0, z1] at h; subst h
  have hq9 : (nI (((f.ids.n : Nat) : Int))).length ≤ 9 := nI_len _
  refine s_app bT 141 rfl rfl _ _ rfl rfl HB (l' := nI (((f.ids.n : Nat) : Int))) rfl (HX140.nc) (by omega) (by decide) hBs ?_
  intro ay141 cy141 w11 HB2 BL
  replace kg1 := (BL.block _ lg1).trans kg1
  replace GG : Gro w _ := below_trans GG (BL.mono hwB)
  replace hBs := Nat.le_trans hBs BL.size
  clear HB BL
  have HB := HB2
  clear HB2
  replace hLn : (encN f d k F i ++ nI (((f.ids.n : Nat) : Int))).length ≤ 9 + 6000 * i + 9 := by rw [List.length_append]; omega
  clear hq9
  refine mv 6 (.slice ay141 ((encN f d k F i ++ nI (((f.ids.n : Nat) : Int))).length) cy141) (wpList_nil (then_n (wp_seq (wp_region_lit (mv 10 (.int .i64 0) (wpList_nil (then_n (wp_block ?_))))))))
  refine wp_loopN (fun mz az wv => ∃ (j : Nat) (ao2 : Option Addr) (cap2 : Nat) (us2 : Nat → Value), mz = d.ids.length - j ∧ az = ⟨[.agg (c36 f.kind f.pw f.pn f.toA f.a f.b f.n f.fi f.fn f.ti f.tn f.tr f.ids f.key f.vn f.vw f.val f.op f.ttl f.tx), .pointer (some ⟨g1, 0, none⟩), .slice none 0 0, .int .i64 0, .pointer (some ⟨g2, 0, none⟩), .bool true, .slice ao2 ((accI (encN f d k F i ++ nI (((f.ids.n : Nat) : Int))) d.ids j).length) cap2, .string (bas F), .int .i64 ((i : Nat) : Int), us1 0, .int .i64 ((j : Nat) : Int), .tuple #[.agg (c36 g.kind g.pw g.pn g.toA g.a g.b g.n g.fi g.fn g.ti g.tn g.tr g.ids g.key g.vn g.vw g.val g.op g.ttl g.tx), .bool true], .agg (c36 f.kind f.pw f.pn f.toA f.a f.b f.n f.fi f.fn f.ti f.tn f.tr f.ids f.key f.vn f.vw f.val f.op f.ttl f.tx), .tuple #[.agg (c36 g.kind g.pw g.pn g.toA g.a g.b g.n g.fi g.fn g.ti g.tn g.tr g.ids g.key g.vn g.vw g.val g.op g.ttl g.tx), .bool true], .agg (c36 g.kind g.pw g.pn g.toA g.a g.b g.n g.fi g.fn g.ti g.tn g.tr g.ids g.key g.vn g.vw g.val g.op g.ttl g.tx), .bool true, .bool true, .bool false, .bool false, .agg (c36 f.kind f.pw f.pn f.toA f.a f.b f.n f.fi f.fn f.ti f.tn f.tr f.ids f.key f.vn f.vw f.val f.op f.ttl f.tx), .agg (c36 g.kind g.pw g.pn g.toA g.a g.b g.n g.fi g.fn g.ti g.tn g.tr g.ids g.key g.vn g.vw g.val g.op g.ttl g.tx), .bool true, .bool false, .bool false, .bool false, .agg (c36 f.kind f.pw f.pn f.toA f.a f.b f.n f.fi f.fn f.ti f.tn f.tr f.ids f.key f.vn f.vw f.val f.op f.ttl f.tx), .bool true, .bool false, .bool false, .pointer (some ⟨g1, 0, none⟩), .int .i64 f.kind, .slice ax31 ((numL k).length) cx31, .pointer (some ⟨g1, 0, none⟩), .int .i64 f.kind, .string (bas F), .int .i64 ((i : Nat) : Int), .string (bas F), .int .i64 ((F.length : Nat) : Int), .bool true, us1 6, us1 7, .string (bas F), .int .i64 ((i : Nat) : Int), .int .u8 ((c : Nat) : Int), .bool false, .bool false, us1 13, us1 14, us1 15, us1 16, us1 17, us1 18, us1 19, us1 20, us1 21, us1 22, us1 23, .bool false, .bool false, us1 26, us1 27, us1 28, us1 29, us1 30, us1 31, us1 32, us1 33, us1 34, us1 35, us1 36, .bool false, .bool false, us1 39, us1 40, us1 41, us1 42, us1 43, .bool false, .bool false, us1 46, us1 47, us1 48, us1 49, us1 50, us1 51, us1 52, us1 53, us1 54, us1 55, .bool false, .bool false, us1 58, us1 59, us1 60, us1 61, .bool false, .bool false, us1 64, us1 65, us1 66, us1 67, .bool false, .bool false, us1 70, us1 71, us1 72, us1 73, us1 74, us1 75, us1 76, us1 77, .bool false, .bool false, us1 80, us1 81, us1 82, us1 83, us1 84, us1 85, us1 86, us1 87, us1 88, us1 89, us1 90, us1 91, us1 92, us1 93, us1 94, us1 95, us1 96, us1 97, us1 98, us1 99, us1 100, .bool true, .bool true, .slice ao ((encN f d k F i).length) cap, .pointer (some ⟨g1, 57, none⟩), .slice f.ids.ao f.ids.n f.ids.cap, .int .i64 ((f.ids.n : Nat) : Int), .slice ax140 ((nI (((f.ids.n : Nat) : Int))).length) cx140, .slice ay141 ((encN f d k F i ++ nI (((f.ids.n : Nat) : Int))).length) cy141, us2 0, us2 1, us2 2, us2 3, us2 4, us2 5, us2 6, us2 7, us2 8, us2 9, us2 10, us2 11, us2 12, us2 13, us1 123, us1 124, us1 125, us1 126, us1 127, us1 128, us1 129, us1 130, us1 131, us1 132, us1 133, us1 134, us1 135, us1 136, us1 137, us1 138, us1 139, us1 140, us1 141, us1 142, us1 143, us1 144, us1 145, us1 146, us1 147, us1 148, us1 149, us1 150, us1 151, us1 152, us1 153, us1 154, us1 155, us1 156, us1 157, us1 158, us1 159, us1 160, us1 161, us1 162, us1 163, us1 164, us1 165, us1 166, us1 167, us1 168, us1 169, us1 170, us1 171, us1 172, us1 173, us1 174, us1 175, us1 176, undef].toArray, []⟩ ∧ j ≤ d.ids.length ∧ (accI (encN f d k F i ++ nI (((f.ids.n : Nat) : Int))) d.ids j).length ≤ 9 + 6000 * i + 9 + 16 * j ∧ Gro w wv ∧ wv.heap[g1]? = some (.cells (c36 f.kind f.pw f.pn f.toA f.a f.b f.n f.fi f.fn f.ti f.tn f.tr f.ids f.key f.vn f.vw f.val f.op f.ttl f.tx) 36 (0, 0)) ∧ OB wv 5 .u8 B ao2 cap2 (accI (encN f d k F i ++ nI (((f.ids.n : Nat) : Int))) d.ids j) ∧ B ≤ wv.heap.size) ?_ _ ⟨0, ay141, cy141, usB [142, 143, 144, 145, 146, 147, 148, 149, 150, 151, 152, 153, 154, 155] rfl rfl ⟨Nat.zero_le _, hLn, GG, kg1, HB, hBs⟩⟩
  clear kg1 GG HB
  rintro mz az wv ⟨j, ao2, cap2, us2, rfl, rfl, hj, hLn, GG, kg1, HB, hBs⟩
  refine wp_seq (wp_seq (wp_region_lit (mv 142 (.int .i64 ((j : Nat) : Int)) (sv 143 (.pointer (some ⟨g1, 57, none⟩)) (run_fld 36 _ 9 rfl _ _ rfl _) ?_))))
  refine nr ?_; intro U h; simp only [z0, z1] at h; subst h
  refine sv 144 (.slice f.ids.ao f.ids.n f.ids.cap) (run_ldc 29 _ rfl g1 57 rfl 36 _ kg1 (na29 _) _ rfl) (sv 145 (.int .i64 ((f.ids.n : Nat) : Int)) (run_len Try.underlying29 _ rfl _ _ _ rfl _) ?_)
  refine nr ?_; intro U h; simp only [z0, z1] at h; subst h
  obtain ⟨p11, hp11⟩ : ∃ p, decide (((j : Nat) : Int) < ((f.ids.n : Nat) : Int)) = p := ⟨_, rfl⟩
  refine sv 146 (.bool p11) (run_lssT 3 _ _ _ rfl ((j : Nat) : Int) ((f.ids.n : Nat) : Int) rfl rfl p11 hp11 _) ?_
  refine nr ?_; intro U h; simp only [z0, z1] at h; subst h
  cases p11
  have hje : j = d.ids.length := by have := of_decide_eq_false hp11; omega
  refine wpList_nil (then_n (wp_cond_false rfl (wp_exit (then_x (then_x (blk_x (blk_n (blk_n (then_n (wp_region_lit (mv 39 (.int .i64 ((i : Nat) : Int)) (sv 40 (.int .i64 ((i + 1 : Nat) : Int)) (run_add64 _ _ _ rfl ((i : Nat) : Int) 1 _ rfl rfl (by omega) (by omega) (by omega) _) (mv 8 (.int .i64 ((i + 1 : Nat) : Int)) (wpList_nil (then_n ?_)))))))))))))))
  have hL9 : accI (encN f d k F i ++ nI (((f.ids.n : Nat) : Int))) d.ids j = encN f d k F (i + 1) := by rw [hje, accI_eq]; simp only [encN, hc, letL, hp2, hp3, hp4, hp5, hp6, hp7, hp8, hp9, hp10, cond_true, cond_false, trailL, idsL, hni, List.append_assoc]
  rw [hL9] at hLn HB ⊢
  exact ⟨_, (by omega : F.length - (i + 1) < F.length - i), i + 1, ao2, cap2, usB [9, 10, 35, 36, 37, 38, 39, 40, 41, 42, 43, 44, 45, 46, 47, 48, 49, 50, 51, 52, 53, 54, 55, 56, 57, 58, 59, 60, 61, 62, 63, 64, 65, 66, 67, 68, 69, 70, 71, 72, 73, 74, 75, 76, 77, 78, 79, 80, 81, 82, 83, 84, 85, 86, 87, 88, 89, 90, 91, 92, 93, 94, 95, 96, 97, 98, 99, 100, 101, 102, 103, 104, 105, 106, 107, 108, 109, 110, 111, 112, 113, 114, 115, 116, 117, 118, 119, 120, 121, 122, 123, 124, 125, 126, 127, 128, 129, 130, 131, 132, 133, 134, 135, 136, 137, 138, 139, 140, 141, 142, 143, 144, 145, 146, 147, 148, 149, 150, 151, 152, 153, 154, 155, 156, 157, 158, 159, 160, 161, 162, 163, 164, 165, 166, 167, 168, 169, 170, 171, 172, 173, 174, 175, 176, 177, 178, 179, 180, 181, 182, 183, 184, 185, 186, 187, 188, 189, 190, 191, 192, 193, 194, 195, 196, 197, 198, 199, 200, 201, 202, 203, 204, 205, 206, 207, 208, 209] rfl rfl ⟨hin, (by omega), GG, kg1, HB, hBs⟩⟩
  have hjn : j < d.ids.length := by have := of_decide_eq_true hp11; omega
  obtain ⟨ad, hao⟩ := HF.ids.some (by omega)
  have hl16 := (HF.oids _ (getD_mem d.ids [] j hjn)).1
  refine wpList_nil (then_n (wp_cond_true rfl (wp_skip (then_n (wp_seq (wp_block (wp_region_lit (mv 149 (.slice ao2 ((accI (encN f d k F i ++ nI (((f.ids.n : Nat) : Int))) d.ids j).length) cap2) (sv 150 (.pointer (some ⟨g1, 57, none⟩)) (run_fld 36 _ 9 rfl _ _ rfl _) ?_)))))))))
  refine nr ?_; intro U h; simp only [z0, z1] at h; subst h
  refine sv 151 (.slice f.ids.ao f.ids.n f.ids.cap) (run_ldc 29 _ rfl g1 57 rfl 36 _ kg1 (na29 _) _ rfl) (mv 152 (.int .i64 ((j : Nat) : Int)) (sv 153 (.pointer (some (ad.add (j * 16)))) (run_idxX iT29 _ _ rfl ad f.ids.n f.ids.cap j (by exact congrArg (fun a => Value.slice a f.ids.n f.ids.cap) hao) rfl (by omega) _) (sv 154 (.slice (some (ad.add (j * 16))) ((d.ids.getD j []).length) 16) ((run_arrA _ rfl (ad.add (j * 16)) rfl _).trans (by rw [hl16])) ?_)))
  refine nr ?_; intro U h; simp only [z0, z1] at h; subst h
  have hq9 : (d.ids.getD j []).length ≤ 16 := Nat.le_of_eq hl16
  refine s_app bT 155 rfl rfl _ _ rfl rfl HB (l' := d.ids.getD j []) rfl (nc_el (by rw [← hao]; exact HF.ids.gro GG) HF.oids j hjn) (by omega) (by decide) hBs ?_
  intro ay155 cy155 w12 HB2 BL
  replace kg1 := (BL.block _ lg1).trans kg1
  replace GG : Gro w _ := below_trans GG (BL.mono hwB)
  replace hBs := Nat.le_trans hBs BL.size
  clear HB BL
  have HB := HB2
  clear HB2
  replace hLn : (accI (encN f d k F i ++ nI (((f.ids.n : Nat) : Int))) d.ids j ++ d.ids.getD j []).length ≤ 9 + 6000 * i + 9 + 16 * j + 16 := by rw [List.length_append]; omega
  clear hq9
  refine mv 6 (.slice ay155 ((accI (encN f d k F i ++ nI (((f.ids.n : Nat) : Int))) d.ids j ++ d.ids.getD j []).length) cy155) (wpList_nil (blk_n (then_n (wp_region_lit (mv 147 (.int .i64 ((j : Nat) : Int)) (sv 148 (.int .i64 ((j + 1 : Nat) : Int)) (run_add64 _ _ _ rfl ((j : Nat) : Int) 1 _ rfl rfl (by omega) (by omega) (by omega) _) (mv 10 (.int .i64 ((j + 1 : Nat) : Int)) ?_)))))))
  refine nr ?_; intro U h; simp only [z0, z1] at h; subst h
  refine wpList_nil (then_n ?_)
  exact ⟨_, (by omega : d.ids.length - (j + 1) < d.ids.length - j), j + 1, ay155, cy155, usB [142, 143, 144, 145, 146, 147, 148, 149, 150, 151, 152, 153, 154, 155] rfl rfl ⟨hjn, (show (accI (encN f d k F i ++ nI (((f.ids.n : Nat) : Int))) d.ids j ++ _).length ≤ _ by omega), GG, kg1, HB, hBs⟩⟩
  have hc0 : c = 114 := by have := of_decide_eq_true hp9; omega
  have hcc := hokc i hin
  rw [hc, hc0, okc_r] at hcc
  simp only [Bool.and_eq_true, decide_eq_true_eq] at hcc
  have hel := (trOK_iff d.tr).1 ((trN_trOK d.tr).symm.trans hcc.2)
  have hc64 := hcc.1
  refine mv 111 (.bool true) (wpList_nil (then_n (wp_cond_true rfl (wp_seq (wp_region_lit (mv 113 (.slice ao ((encN f d k F i).length) cap) (sv 114 (.pointer (some ⟨g1, 56, none⟩)) (run_fld 36 _ 8 rfl _ _ rfl _) (sv 115 (.slice f.tr.ao f.tr.n f.tr.cap) (run_ldc 28 _ rfl g1 56 rfl 36 _ kg1 (na28 _) _ rfl) (sv 116 (.int .i64 ((f.tr.n : Nat) : Int)) (run_len Try.underlying28 _ rfl _ _ _ rfl _) ?_)))))))))
  refine nr ?_; intro U h; simp only [z0, z1] at h; subst h
  refine s_callx 117 rfl rfl _ 26 Try.call26 rfl rfl _ rfl [.int .i64 ((f.tr.n : Nat) : Int)] rfl (num_i (((f.tr.n : Nat) : Int)) (by omega) (by omega) _) (fun _ _ ⟨_, _, he, _⟩ => ⟨_, he⟩) ?_
  rintro v w10 ⟨ax117, cx117, he, HX117, G⟩
  cases he
  replace hBs := Nat.le_trans hBs G.size
  replace kg1 := G.has kg1
  replace HB := HB.gro G
  replace GG := GG.trans G
  clear G
  refine nr ?_; intro U h; simp only [z0, z1] at h; subst h
  have hq9 : (nI (((f.tr.n : Nat) : Int))).length ≤ 9 := nI_len _
  refine s_app bT 118 rfl rfl _ _ rfl rfl HB (l' := nI (((f.tr.n : Nat) : Int))) rfl (HX117.nc) (by omega) (by decide) hBs ?_
  intro ay118 cy118 w11 HB2 BL
  replace kg1 := (BL.block _ lg1).trans kg1
  replace GG : Gro w _ := below_trans GG (BL.mono hwB)
  replace hBs := Nat.le_trans hBs BL.size
  clear HB BL
  have HB := HB2
  clear HB2
  replace hLn : (encN f d k F i ++ nI (((f.tr.n : Nat) : Int))).length ≤ 9 + 6000 * i + 9 := by rw [List.length_append]; omega
  clear hq9
  refine mv 6 (.slice ay118 ((encN f d k F i ++ nI (((f.tr.n : Nat) : Int))).length) cy118) (wpList_nil (then_n (wp_seq (wp_region_lit (mv 9 (.int .i64 0) (wpList_nil (then_n (wp_block ?_))))))))
  refine wp_loopN (fun mz az wv => ∃ (j : Nat) (ao2 : Option Addr) (cap2 : Nat) (us2 : Nat → Value), mz = d.tr.length - j ∧ az = ⟨[.agg (c36 f.kind f.pw f.pn f.toA f.a f.b f.n f.fi f.fn f.ti f.tn f.tr f.ids f.key f.vn f.vw f.val f.op f.ttl f.tx), .pointer (some ⟨g1, 0, none⟩), .slice none 0 0, .int .i64 0, .pointer (some ⟨g2, 0, none⟩), .bool true, .slice ao2 ((accT (encN f d k F i ++ nI (((f.tr.n : Nat) : Int))) d.tr j).length) cap2, .string (bas F), .int .i64 ((i : Nat) : Int), .int .i64 ((j : Nat) : Int), us1 1, .tuple #[.agg (c36 g.kind g.pw g.pn g.toA g.a g.b g.n g.fi g.fn g.ti g.tn g.tr g.ids g.key g.vn g.vw g.val g.op g.ttl g.tx), .bool true], .agg (c36 f.kind f.pw f.pn f.toA f.a f.b f.n f.fi f.fn f.ti f.tn f.tr f.ids f.key f.vn f.vw f.val f.op f.ttl f.tx), .tuple #[.agg (c36 g.kind g.pw g.pn g.toA g.a g.b g.n g.fi g.fn g.ti g.tn g.tr g.ids g.key g.vn g.vw g.val g.op g.ttl g.tx), .bool true], .agg (c36 g.kind g.pw g.pn g.toA g.a g.b g.n g.fi g.fn g.ti g.tn g.tr g.ids g.key g.vn g.vw g.val g.op g.ttl g.tx), .bool true, .bool true, .bool false, .bool false, .agg (c36 f.kind f.pw f.pn f.toA f.a f.b f.n f.fi f.fn f.ti f.tn f.tr f.ids f.key f.vn f.vw f.val f.op f.ttl f.tx), .agg (c36 g.kind g.pw g.pn g.toA g.a g.b g.n g.fi g.fn g.ti g.tn g.tr g.ids g.key g.vn g.vw g.val g.op g.ttl g.tx), .bool true, .bool false, .bool false, .bool false, .agg (c36 f.kind f.pw f.pn f.toA f.a f.b f.n f.fi f.fn f.ti f.tn f.tr f.ids f.key f.vn f.vw f.val f.op f.ttl f.tx), .bool true, .bool false, .bool false, .pointer (some ⟨g1, 0, none⟩), .int .i64 f.kind, .slice ax31 ((numL k).length) cx31, .pointer (some ⟨g1, 0, none⟩), .int .i64 f.kind, .string (bas F), .int .i64 ((i : Nat) : Int), .string (bas F), .int .i64 ((F.length : Nat) : Int), .bool true, us1 6, us1 7, .string (bas F), .int .i64 ((i : Nat) : Int), .int .u8 ((c : Nat) : Int), .bool false, .bool false, us1 13, us1 14, us1 15, us1 16, us1 17, us1 18, us1 19, us1 20, us1 21, us1 22, us1 23, .bool false, .bool false, us1 26, us1 27, us1 28, us1 29, us1 30, us1 31, us1 32, us1 33, us1 34, us1 35, us1 36, .bool false, .bool false, us1 39, us1 40, us1 41, us1 42, us1 43, .bool false, .bool false, us1 46, us1 47, us1 48, us1 49, us1 50, us1 51, us1 52, us1 53, us1 54, us1 55, .bool false, .bool false, us1 58, us1 59, us1 60, us1 61, .bool false, .bool false, us1 64, us1 65, us1 66, us1 67, .bool false, .bool false, us1 70, us1 71, us1 72, us1 73, us1 74, us1 75, us1 76, us1 77, .bool true, .bool true, .slice ao ((encN f d k F i).length) cap, .pointer (some ⟨g1, 56, none⟩), .slice f.tr.ao f.tr.n f.tr.cap, .int .i64 ((f.tr.n : Nat) : Int), .slice ax117 ((nI (((f.tr.n : Nat) : Int))).length) cx117, .slice ay118 ((encN f d k F i ++ nI (((f.tr.n : Nat) : Int))).length) cy118, us2 0, us2 1, us2 2, us2 3, us2 4, us2 5, us2 6, us2 7, us2 8, us2 9, us2 10, us2 11, us2 12, us2 13, us2 14, us1 101, us1 102, us1 103, us1 104, us1 105, us1 106, us1 107, us1 108, us1 109, us1 110, us1 111, us1 112, us1 113, us1 114, us1 115, us1 116, us1 117, us1 118, us1 119, us1 120, us1 121, us1 122, us1 123, us1 124, us1 125, us1 126, us1 127, us1 128, us1 129, us1 130, us1 131, us1 132, us1 133, us1 134, us1 135, us1 136, us1 137, us1 138, us1 139, us1 140, us1 141, us1 142, us1 143, us1 144, us1 145, us1 146, us1 147, us1 148, us1 149, us1 150, us1 151, us1 152, us1 153, us1 154, us1 155, us1 156, us1 157, us1 158, us1 159, us1 160, us1 161, us1 162, us1 163, us1 164, us1 165, us1 166, us1 167, us1 168, us1 169, us1 170, us1 171, us1 172, us1 173, us1 174, us1 175, us1 176, undef].toArray, []⟩ ∧ j ≤ d.tr.length ∧ (accT (encN f d k F i ++ nI (((f.tr.n : Nat) : Int))) d.tr j).length ≤ 9 + 6000 * i + 9 + 9 * j ∧ Gro w wv ∧ wv.heap[g1]? = some (.cells (c36 f.kind f.pw f.pn f.toA f.a f.b f.n f.fi f.fn f.ti f.tn f.tr f.ids f.key f.vn f.vw f.val f.op f.ttl f.tx) 36 (0, 0)) ∧ OB wv 5 .u8 B ao2 cap2 (accT (encN f d k F i ++ nI (((f.tr.n : Nat) : Int))) d.tr j) ∧ B ≤ wv.heap.size) ?_ _ ⟨0, ay118, cy118, usB [119, 120, 121, 122, 123, 124, 125, 126, 127, 128, 129, 130, 131, 132, 133] rfl rfl ⟨Nat.zero_le _, hLn, GG, kg1, HB, hBs⟩⟩
  clear kg1 GG HB
  rintro mz az wv ⟨j, ao2, cap2, us2, rfl, rfl, hj, hLn, GG, kg1, HB, hBs⟩
  refine wp_seq (wp_seq (wp_region_lit (mv 119 (.int .i64 ((j : Nat) : Int)) (sv 120 (.pointer (some ⟨g1, 56, none⟩)) (run_fld 36 _ 8 rfl _ _ rfl _) ?_))))
  refine nr ?_; intro U h; simp only [z0, z1] at h; subst h
  refine sv 121 (.slice f.tr.ao f.tr.n f.tr.cap) (run_ldc 28 _ rfl g1 56 rfl 36 _ kg1 (na28 _) _ rfl) (sv 122 (.int .i64 ((f.tr.n : Nat) : Int)) (run_len Try.underlying28 _ rfl _ _ _ rfl _) ?_)
  refine nr ?_; intro U h; simp only [z0, z1] at h; subst h
  obtain ⟨p10, hp10⟩ : ∃ p, decide (((j : Nat) : Int) < ((f.tr.n : Nat) : Int)) = p := ⟨_, rfl⟩
  refine sv 123 (.bool p10) (run_lssT 3 _ _ _ rfl ((j : Nat) : Int) ((f.tr.n : Nat) : Int) rfl rfl p10 hp10 _) ?_
  refine nr ?_; intro U h; simp only [z0, z1] at h; subst h
  cases p10
  have hje : j = d.tr.length := by have := of_decide_eq_false hp10; omega
  refine wpList_nil (then_n (wp_cond_false rfl (wp_exit (then_x (then_x (blk_x (blk_n (blk_n (then_n (wp_region_lit (mv 39 (.int .i64 ((i : Nat) : Int)) (sv 40 (.int .i64 ((i + 1 : Nat) : Int)) (run_add64 _ _ _ rfl ((i : Nat) : Int) 1 _ rfl rfl (by omega) (by omega) (by omega) _) (mv 8 (.int .i64 ((i + 1 : Nat) : Int)) (wpList_nil (then_n ?_)))))))))))))))
  have hL9 : accT (encN f d k F i ++ nI (((f.tr.n : Nat) : Int))) d.tr j = encN f d k F (i + 1) := by rw [hje, accT_eq]; simp only [encN, hc, letL, hp2, hp3, hp4, hp5, hp6, hp7, hp8, hp9, cond_true, cond_false, trailL, idsL, hnt, List.append_assoc]
  rw [hL9] at hLn HB ⊢
  exact ⟨_, (by omega : F.length - (i + 1) < F.length - i), i + 1, ao2, cap2, usB [9, 10, 35, 36, 37, 38, 39, 40, 41, 42, 43, 44, 45, 46, 47, 48, 49, 50, 51, 52, 53, 54, 55, 56, 57, 58, 59, 60, 61, 62, 63, 64, 65, 66, 67, 68, 69, 70, 71, 72, 73, 74, 75, 76, 77, 78, 79, 80, 81, 82, 83, 84, 85, 86, 87, 88, 89, 90, 91, 92, 93, 94, 95, 96, 97, 98, 99, 100, 101, 102, 103, 104, 105, 106, 107, 108, 109, 110, 111, 112, 113, 114, 115, 116, 117, 118, 119, 120, 121, 122, 123, 124, 125, 126, 127, 128, 129, 130, 131, 132, 133, 134, 135, 136, 137, 138, 139, 140, 141, 142, 143, 144, 145, 146, 147, 148, 149, 150, 151, 152, 153, 154, 155, 156, 157, 158, 159, 160, 161, 162, 163, 164, 165, 166, 167, 168, 169, 170, 171, 172, 173, 174, 175, 176, 177, 178, 179, 180, 181, 182, 183, 184, 185, 186, 187, 188, 189, 190, 191, 192, 193, 194, 195, 196, 197, 198, 199, 200, 201, 202, 203, 204, 205, 206, 207, 208, 209] rfl rfl ⟨hin, (by omega), GG, kg1, HB, hBs⟩⟩
  have hjn : j < d.tr.length := by have := of_decide_eq_true hp10; omega
  obtain ⟨ad, hao, clA⟩ := xc_at1 (HFt.gro GG) hjn
  have hej := hel _ (getD_mem d.tr 0 j hjn)
  refine wpList_nil (then_n (wp_cond_true rfl (wp_skip (then_n (wp_seq (wp_block (wp_region_lit (mv 126 (.slice ao2 ((accT (encN f d k F i ++ nI (((f.tr.n : Nat) : Int))) d.tr j).length) cap2) (sv 127 (.pointer (some ⟨g1, 56, none⟩)) (run_fld 36 _ 8 rfl _ _ rfl _) ?_)))))))))
  refine nr ?_; intro U h; simp only [z0, z1] at h; subst h
  refine sv 128 (.slice f.tr.ao f.tr.n f.tr.cap) (run_ldc 28 _ rfl g1 56 rfl 36 _ kg1 (na28 _) _ rfl) (mv 129 (.int .i64 ((j : Nat) : Int)) (sv 130 (.pointer (some (ad.add j))) (run_idx1 iT28 _ _ rfl ad f.tr.n f.tr.cap j (by exact congrArg (fun a => Value.slice a f.tr.n f.tr.cap) hao) rfl (by omega) _) (sv 131 (.int .i64 (d.tr.getD j 0)) (run_ldc1 3 (na3 _) _ rfl (ad.add j) rfl _ clA) ?_)))
  refine s_callx 132 rfl rfl _ 26 Try.call26 rfl rfl _ rfl [.int .i64 (d.tr.getD j 0)] rfl (num_i ((d.tr.getD j 0)) (by omega) (by omega) _) (fun _ _ ⟨_, _, he, _⟩ => ⟨_, he⟩) ?_
  rintro v w12 ⟨ax132, cx132, he, HX132, G⟩
  cases he
  replace hBs := Nat.le_trans hBs G.size
  replace kg1 := G.has kg1
  replace HB := HB.gro G
  replace GG := GG.trans G
  clear G
  refine nr ?_; intro U h; simp only [z0, z1] at h; subst h
  have hq9 : (nI ((d.tr.getD j 0))).length ≤ 9 := nI_len _
  refine s_app bT 133 rfl rfl _ _ rfl rfl HB (l' := nI ((d.tr.getD j 0))) rfl (HX132.nc) (by omega) (by decide) hBs ?_
  intro ay133 cy133 w13 HB2 BL
  replace kg1 := (BL.block _ lg1).trans kg1
  replace GG : Gro w _ := below_trans GG (BL.mono hwB)
  replace hBs := Nat.le_trans hBs BL.size
  clear HB BL
  have HB := HB2
  clear HB2
  replace hLn : (accT (encN f d k F i ++ nI (((f.tr.n : Nat) : Int))) d.tr j ++ nI ((d.tr.getD j 0))).length ≤ 9 + 6000 * i + 9 + 9 * j + 9 := by rw [List.length_append]; omega
  clear hq9
  refine mv 6 (.slice ay133 ((accT (encN f d k F i ++ nI (((f.tr.n : Nat) : Int))) d.tr j ++ nI ((d.tr.getD j 0))).length) cy133) (wpList_nil (blk_n (then_n (wp_region_lit (mv 124 (.int .i64 ((j : Nat) : Int)) (sv 125 (.int .i64 ((j + 1 : Nat) : Int)) (run_add64 _ _ _ rfl ((j : Nat) : Int) 1 _ rfl rfl (by omega) (by omega) (by omega) _) (mv 9 (.int .i64 ((j + 1 : Nat) : Int)) ?_)))))))
  refine nr ?_; intro U h; simp only [z0, z1] at h; subst h
  refine wpList_nil (then_n ?_)
  exact ⟨_, (by omega : d.tr.length - (j + 1) < d.tr.length - j), j + 1, ay133, cy133, usB [119, 120, 121, 122, 123, 124, 125, 126, 127, 128, 129, 130, 131, 132, 133] rfl rfl ⟨hjn, (show (accT (encN f d k F i ++ nI (((f.tr.n : Nat) : Int))) d.tr j ++ _).length ≤ _ by omega), GG, kg1, HB, hBs⟩⟩
  refine mv 101 (.bool true) (wpList_nil (then_n (wp_cond_true rfl (wp_seq (wp_region_lit (sv 103 (.pointer (some ⟨g1, 18, none⟩)) (run_fld 36 _ 2 rfl _ _ rfl _) ?_))))))
  refine nr ?_; intro U h; simp only [z0, z1] at h; subst h
  obtain ⟨p9, hp9⟩ : ∃ p, f.toA = p := ⟨_, rfl⟩
  refine sv 104 (.bool p9) ((run_ldc 4 _ rfl g1 18 rfl 36 _ kg1 (na4 _) _ rfl).trans (by rw [hp9]; rfl)) ?_
  refine nr ?_; intro U h; simp only [z0, z1] at h; subst h
  cases p9
  refine wpList_nil (then_n (wp_cond_false rfl (wp_region_lit (mv 108 (.slice ao ((encN f d k F i).length) cap) ?_))))
  refine s_bsl 109 rfl rfl 32 1 _ rfl [(0, .int .u8 0)] rfl #[.int .u8 0] 5 (by kernel_rfl) ?_
  intro w10 g3 G eg3 kg3
  replace hBs := Nat.le_trans hBs G.size
  replace kg1 := G.has kg1
  replace HB := HB.gro G
  replace GG := GG.trans G
  clear G
  clear eg3
  refine nr ?_; intro U h; simp only [z0, z1] at h; subst h
  have hq9 : (l00).length ≤ 2 := by decide
  refine s_app bT 110 rfl rfl _ _ rfl rfl HB (l' := l00) rfl (nc_0 kg3) (by omega) (by decide) hBs ?_
  intro ay110 cy110 w11 HB2 BL
  replace kg1 := (BL.block _ lg1).trans kg1
  replace GG : Gro w _ := below_trans GG (BL.mono hwB)
  replace hBs := Nat.le_trans hBs BL.size
  clear HB BL
  have HB := HB2
  clear HB2
  replace hLn : (encN f d k F i ++ l00).length ≤ 9 + 6000 * i + 2 := by rw [List.length_append]; omega
  clear hq9
  refine mv 6 (.slice ay110 ((encN f d k F i ++ l00).length) cy110) (wpList_nil (blk_n (blk_n (then_n (wp_region_lit (mv 39 (.int .i64 ((i : Nat) : Int)) (sv 40 (.int .i64 ((i + 1 : Nat) : Int)) (run_add64 _ _ _ rfl ((i : Nat) : Int) 1 _ rfl rfl (by omega) (by omega) (by omega) _) (mv 8 (.int .i64 ((i + 1 : Nat) : Int)) ?_))))))))
  refine nr ?_; intro U h; simp only [z0, z1] at h; subst h
  refine wpList_nil (then_n ?_)
  have hL9 : encN f d k F i ++ l00 = encN f d k F (i + 1) := by simp only [encN, hc, letL, hp2, hp3, hp4, hp5, hp6, hp7, hp8, hp9, cond_true, cond_false, flagL_f, trailL, idsL, List.append_assoc]
  rw [hL9] at hLn HB ⊢
  exact ⟨_, (by omega : F.length - (i + 1) < F.length - i), i + 1, ay110, cy110, usB [9, 10, 35, 36, 37, 38, 39, 40, 41, 42, 43, 44, 45, 46, 47, 48, 49, 50, 51, 52, 53, 54, 55, 56, 57, 58, 59, 60, 61, 62, 63, 64, 65, 66, 67, 68, 69, 70, 71, 72, 73, 74, 75, 76, 77, 78, 79, 80, 81, 82, 83, 84, 85, 86, 87, 88, 89, 90, 91, 92, 93, 94, 95, 96, 97, 98, 99, 100, 101, 102, 103, 104, 105, 106, 107, 108, 109, 110, 111, 112, 113, 114, 115, 116, 117, 118, 119, 120, 121, 122, 123, 124, 125, 126, 127, 128, 129, 130, 131, 132, 133, 134, 135, 136, 137, 138, 139, 140, 141, 142, 143, 144, 145, 146, 147, 148, 149, 150, 151, 152, 153, 154, 155, 156, 157, 158, 159, 160, 161, 162, 163, 164, 165, 166, 167, 168, 169, 170, 171, 172, 173, 174, 175, 176, 177, 178, 179, 180, 181, 182, 183, 184, 185, 186, 187, 188, 189, 190, 191, 192, 193, 194, 195, 196, 197, 198, 199, 200, 201, 202, 203, 204, 205, 206, 207, 208, 209] rfl rfl ⟨hin, (by omega), GG, kg1, HB, hBs⟩⟩
  refine wpList_nil (then_n (wp_cond_true rfl (wp_region_lit (mv 105 (.slice ao ((encN f d k F i).length) cap) ?_))))
  refine s_bsl 106 rfl rfl 32 2 _ rfl [(0, .int .u8 1), (1, .int .u8 1)] rfl #[.int .u8 1, .int .u8 1] 5 (by kernel_rfl) ?_
  intro w10 g3 G eg3 kg3
  replace hBs := Nat.le_trans hBs G.size
  replace kg1 := G.has kg1
  replace HB := HB.gro G
  replace GG := GG.trans G
  clear G
  clear eg3
  refine nr ?_; intro U h; simp only [z0, z1] at h; subst h
  have hq9 : (l11).length ≤ 2 := by decide
  refine s_app bT 107 rfl rfl _ _ rfl rfl HB (l' := l11) rfl (nc_11 kg3) (by omega) (by decide) hBs ?_
  intro ay107 cy107 w11 HB2 BL
  replace kg1 := (BL.block _ lg1).trans kg1
  replace GG : Gro w _ := below_trans GG (BL.mono hwB)
  replace hBs := Nat.le_trans hBs BL.size
  clear HB BL
  have HB := HB2
  clear HB2
  replace hLn : (encN f d k F i ++ l11).length ≤ 9 + 6000 * i + 2 := by rw [List.length_append]; omega
  clear hq9
  refine mv 6 (.slice ay107 ((encN f d k F i ++ l11).length) cy107) (wpList_nil (blk_n (blk_n (then_n (wp_region_lit (mv 39 (.int .i64 ((i : Nat) : Int)) (sv 40 (.int .i64 ((i + 1 : Nat) : Int)) (run_add64 _ _ _ rfl ((i : Nat) : Int) 1 _ rfl rfl (by omega) (by omega) (by omega) _) (mv 8 (.int .i64 ((i + 1 : Nat) : Int)) ?_))))))))
  refine nr ?_; intro U h; simp only [z0, z1] at h; subst h
  refine wpList_nil (then_n ?_)
  have hL9 : encN f d k F i ++ l11 = encN f d k F (i + 1) := by simp only [encN, hc, letL, hp2, hp3, hp4, hp5, hp6, hp7, hp8, hp9, cond_true, cond_false, flagL_t, trailL, idsL, List.append_assoc]
  rw [hL9] at hLn HB ⊢
  exact ⟨_, (by omega : F.length - (i + 1) < F.length - i), i + 1, ay107, cy107, usB [9, 10, 35, 36, 37, 38, 39, 40, 41, 42, 43, 44, 45, 46, 47, 48, 49, 50, 51, 52, 53, 54, 55, 56, 57, 58, 59, 60, 61, 62, 63, 64, 65, 66, 67, 68, 69, 70, 71, 72, 73, 74, 75, 76, 77, 78, 79, 80, 81, 82, 83, 84, 85, 86, 87, 88, 89, 90, 91, 92, 93, 94, 95, 96, 97, 98, 99, 100, 101, 102, 103, 104, 105, 106, 107, 108, 109, 110, 111, 112, 113, 114, 115, 116, 117, 118, 119, 120, 121, 122, 123, 124, 125, 126, 127, 128, 129, 130, 131, 132, 133, 134, 135, 136, 137, 138, 139, 140, 141, 142, 143, 144, 145, 146, 147, 148, 149, 150, 151, 152, 153, 154, 155, 156, 157, 158, 159, 160, 161, 162, 163, 164, 165, 166, 167, 168, 169, 170, 171, 172, 173, 174, 175, 176, 177, 178, 179, 180, 181, 182, 183, 184, 185, 186, 187, 188, 189, 190, 191, 192, 193, 194, 195, 196, 197, 198, 199, 200, 201, 202, 203, 204, 205, 206, 207, 208, 209] rfl rfl ⟨hin, (by omega), GG, kg1, HB, hBs⟩⟩
  refine mv 95 (.bool true) (wpList_nil (then_n (wp_cond_true rfl (wp_region_lit (mv 97 (.slice ao ((encN f d k F i).length) cap) (sv 98 (.pointer (some ⟨g1, 35, none⟩)) (run_fld 36 _ 4 rfl _ _ rfl _) (sv 99 (.slice (some ⟨g1, 35, none⟩) ((idL f.b).length) 16) (run_arrO _ rfl g1 35 rfl _) ?_)))))))
  refine nr ?_; intro U h; simp only [z0, z1] at h; subst h
  have hq9 : (idL f.b).length ≤ 16 := Nat.le_refl _
  refine s_app bT 100 rfl rfl _ _ rfl rfl HB (l' := idL f.b) rfl (nc_id kg1 f.b HR.b (by kernel_rfl)) (by omega) (by decide) hBs ?_
  intro ay100 cy100 w10 HB2 BL
  replace kg1 := (BL.block _ lg1).trans kg1
  replace GG : Gro w _ := below_trans GG (BL.mono hwB)
  replace hBs := Nat.le_trans hBs BL.size
  clear HB BL
  have HB := HB2
  clear HB2
  replace hLn : (encN f d k F i ++ idL f.b).length ≤ 9 + 6000 * i + 16 := by rw [List.length_append]; omega
  clear hq9
  refine mv 6 (.slice ay100 ((encN f d k F i ++ idL f.b).length) cy100) (wpList_nil (blk_n (blk_n (then_n (wp_region_lit (mv 39 (.int .i64 ((i : Nat) : Int)) (sv 40 (.int .i64 ((i + 1 : Nat) : Int)) (run_add64 _ _ _ rfl ((i : Nat) : Int) 1 _ rfl rfl (by omega) (by omega) (by omega) _) (mv 8 (.int .i64 ((i + 1 : Nat) : Int)) ?_))))))))
  refine nr ?_; intro U h; simp only [z0, z1] at h; subst h
  refine wpList_nil (then_n ?_)
  have hL9 : encN f d k F i ++ idL f.b = encN f d k F (i + 1) := by simp only [encN, hc, letL, hp2, hp3, hp4, hp5, hp6, hp7, cond_true, cond_false, trailL, idsL, List.append_assoc]
  rw [hL9] at hLn HB ⊢
  exact ⟨_, (by omega : F.length - (i + 1) < F.length - i), i + 1, ay100, cy100, usB [9, 10, 35, 36, 37, 38, 39, 40, 41, 42, 43, 44, 45, 46, 47, 48, 49, 50, 51, 52, 53, 54, 55, 56, 57, 58, 59, 60, 61, 62, 63, 64, 65, 66, 67, 68, 69, 70, 71, 72, 73, 74, 75, 76, 77, 78, 79, 80, 81, 82, 83, 84, 85, 86, 87, 88, 89, 90, 91, 92, 93, 94, 95, 96, 97, 98, 99, 100, 101, 102, 103, 104, 105, 106, 107, 108, 109, 110, 111, 112, 113, 114, 115, 116, 117, 118, 119, 120, 121, 122, 123, 124, 125, 126, 127, 128, 129, 130, 131, 132, 133, 134, 135, 136, 137, 138, 139, 140, 141, 142, 143, 144, 145, 146, 147, 148, 149, 150, 151, 152, 153, 154, 155, 156, 157, 158, 159, 160, 161, 162, 163, 164, 165, 166, 167, 168, 169, 170, 171, 172, 173, 174, 175, 176, 177, 178, 179, 180, 181, 182, 183, 184, 185, 186, 187, 188, 189, 190, 191, 192, 193, 194, 195, 196, 197, 198, 199, 200, 201, 202, 203, 204, 205, 206, 207, 208, 209] rfl rfl ⟨hin, (by omega), GG, kg1, HB, hBs⟩⟩
  refine mv 89 (.bool true) (wpList_nil (then_n (wp_cond_true rfl (wp_region_lit (mv 91 (.slice ao ((encN f d k F i).length) cap) (sv 92 (.pointer (some ⟨g1, 19, none⟩)) (run_fld 36 _ 3 rfl _ _ rfl _) (sv 93 (.slice (some ⟨g1, 19, none⟩) ((idL f.a).length) 16) (run_arrO _ rfl g1 19 rfl _) ?_)))))))
  refine nr ?_; intro U h; simp only [z0, z1] at h; subst h
  have hq9 : (idL f.a).length ≤ 16 := Nat.le_refl _
  refine s_app bT 94 rfl rfl _ _ rfl rfl HB (l' := idL f.a) rfl (nc_id kg1 f.a HR.a (by kernel_rfl)) (by omega) (by decide) hBs ?_
  intro ay94 cy94 w10 HB2 BL
  replace kg1 := (BL.block _ lg1).trans kg1
  replace GG : Gro w _ := below_trans GG (BL.mono hwB)
  replace hBs := Nat.le_trans hBs BL.size
  clear HB BL
  have HB := HB2
  clear HB2
  replace hLn : (encN f d k F i ++ idL f.a).length ≤ 9 + 6000 * i + 16 := by rw [List.length_append]; omega
  clear hq9
  refine mv 6 (.slice ay94 ((encN f d k F i ++ idL f.a).length) cy94) (wpList_nil (blk_n (blk_n (then_n (wp_region_lit (mv 39 (.int .i64 ((i : Nat) : Int)) (sv 40 (.int .i64 ((i + 1 : Nat) : Int)) (run_add64 _ _ _ rfl ((i : Nat) : Int) 1 _ rfl rfl (by omega) (by omega) (by omega) _) (mv 8 (.int .i64 ((i + 1 : Nat) : Int)) ?_))))))))
  refine nr ?_; intro U h; simp only [z0, z1] at h; subst h
  refine wpList_nil (then_n ?_)
  have hL9 : encN f d k F i ++ idL f.a = encN f d k F (i + 1) := by simp only [encN, hc, letL, hp2, hp3, hp4, hp5, hp6, cond_true, cond_false, trailL, idsL, List.append_assoc]
  rw [hL9] at hLn HB ⊢
  exact ⟨_, (by omega : F.length - (i + 1) < F.length - i), i + 1, ay94, cy94, usB [9, 10, 35, 36, 37, 38, 39, 40, 41, 42, 43, 44, 45, 46, 47, 48, 49, 50, 51, 52, 53, 54, 55, 56, 57, 58, 59, 60, 61, 62, 63, 64, 65, 66, 67, 68, 69, 70, 71, 72, 73, 74, 75, 76, 77, 78, 79, 80, 81, 82, 83, 84, 85, 86, 87, 88, 89, 90, 91, 92, 93, 94, 95, 96, 97, 98, 99, 100, 101, 102, 103, 104, 105, 106, 107, 108, 109, 110, 111, 112, 113, 114, 115, 116, 117, 118, 119, 120, 121, 122, 123, 124, 125, 126, 127, 128, 129, 130, 131, 132, 133, 134, 135, 136, 137, 138, 139, 140, 141, 142, 143, 144, 145, 146, 147, 148, 149, 150, 151, 152, 153, 154, 155, 156, 157, 158, 159, 160, 161, 162, 163, 164, 165, 166, 167, 168, 169, 170, 171, 172, 173, 174, 175, 176, 177, 178, 179, 180, 181, 182, 183, 184, 185, 186, 187, 188, 189, 190, 191, 192, 193, 194, 195, 196, 197, 198, 199, 200, 201, 202, 203, 204, 205, 206, 207, 208, 209] rfl rfl ⟨hin, (by omega), GG, kg1, HB, hBs⟩⟩
  have hc0 : c = 112 := by have := of_decide_eq_true hp5; omega
  have hcc := hokc i hin
  rw [hc, hc0, okc_p] at hcc
  simp only [decide_eq_true_eq] at hcc
  refine mv 77 (.bool true) (wpList_nil (then_n (wp_cond_true rfl ?_)))
  obtain ⟨M, hM⟩ : ∃ M, wv.heap.size = M := ⟨_, rfl⟩
  have hown9 := fun ad ha => (HB.ge ad ha).2
  rw [hM] at hown9
  have hq9 : (idL f.pw).length ≤ 16 := Nat.le_refl _
  refine wp_region_pl (A := ?Av) (R0 := fun x => PE w g1 B M f x ∧ OB x 5 .u8 B ao cap (encN f d k F i)) (R1 := PE w g1 B M f) 8 [(0, 79), (1, 80), (2, 81), (3, 82), (4, 83), (5, 84), (6, 85), (7, 86)] [.val (.slice ao ((encN f d k F i).length) cap), .val (.pointer (some ⟨g1, 1, none⟩)), .val (.pointer (some ⟨g1, 1, none⟩)), .val (.slice (some ⟨g1, 1, none⟩) ((idL f.pw).length) 16), rowE B (encN f d k F i ++ idL f.pw), .val (.pointer (some ⟨g1, 1, none⟩)), .val (.pointer (some ⟨g1, 17, none⟩)), .val (.int .i64 f.pn)] 4 (fun _ => false) (fun x y => ∀ q, M ≤ q → q < x.heap.size → y.heap[q]? = x.heap[q]?) follows (by kernel_rfl) rfl (by decide) (fun j hj hne _ v a b _ hb hp => match j, hj, hne, hp with | 0, _, _, hp => hp | 1, _, _, hp => hp | 2, _, _, hp => hp | 3, _, _, hp => hp | 4, _, hne, _ => absurd rfl hne | 5, _, _, hp => hp | 6, _, _, hp => hp | 7, _, _, hp => hp | m + 8, hj, _, _ => absurd hj (by omega)) (by kernel_rfl) ⟨⟨GG.drew, (Gro.refl _).drew.has kg1, Nat.le_trans hBs (Gro.refl _).drew.size, Nat.le_trans (Nat.le_of_eq hM.symm) (Gro.refl _).drew.size⟩, HB.gro (Gro.refl _).drew⟩ (fun _ _ h g => ⟨h.1.gro g, h.2.gro g⟩) (fun _ _ h g => h.gro g) ?hAv (opsL_a (by decide) rfl ?o0v (opsL_a (by decide) rfl ?o1v (opsL_a (by decide) rfl ?o2v (opsL_a (by decide) rfl ?o3v (opsL_e ?o4v (opsL_a (by decide) rfl ?o5v (opsL_a (by decide) rfl ?o6v (opsL_a (by decide) rfl ?o7v opsL_nil)))))))) ?restv
  case hAv =>
    intro ptrs
    simp only [full, foldSlots, filledE, postE, List.foldl_cons, List.foldl_nil, List.getD_cons_zero, List.getD_cons_succ, fill_val, fill_row, List.set_cons_zero, List.set_cons_succ]
    exact rfl
  case o0v => exact fun _ _ _ _ => opE_move (v := .slice ao ((encN f d k F i).length) cap) _ rfl rfl rfl
  case o1v => exact fun _ _ _ _ => opE_value (v := .pointer (some ⟨g1, 1, none⟩)) rfl (run_fld 36 _ 1 rfl _ _ rfl _)
  case o2v => exact fun _ _ _ _ => opE_value (v := .pointer (some ⟨g1, 1, none⟩)) rfl (run_fld 25 _ 0 rfl _ _ rfl _)
  case o3v => exact fun _ _ _ _ => opE_value (v := .slice (some ⟨g1, 1, none⟩) ((idL f.pw).length) 16) rfl (run_arrO _ rfl g1 1 rfl _)
  case o4v =>
    intro ptrs w' hw hE
    refine opX_app bT _ rfl _ _ rfl (l := encN f d k F i) (l' := idL f.pw) rfl hw.2 rfl (nc_id hw.1.k1 f.pw HR.pw (by kernel_rfl)) (by omega) (by decide) hw.1.bs ?_
    intro ao2 cap2 w9 h1 h2 h3
    exact ⟨⟨⟨below_trans hw.1.gg (h2.mono hwB), (h2.block _ lg1).trans hw.1.k1, Nat.le_trans hw.1.bs h2.size, Nat.le_trans hw.1.ms h2.size⟩, fun q hq hlt => h3 q hlt (fun ad ha => by have := hown9 ad ha; omega)⟩, ao2, cap2, rfl, h1⟩
  case o5v => exact fun _ _ _ _ => opE_value (v := .pointer (some ⟨g1, 1, none⟩)) rfl (run_fld 36 _ 1 rfl _ _ rfl _)
  case o6v => exact fun _ _ _ _ => opE_value (v := .pointer (some ⟨g1, 17, none⟩)) rfl (run_fld 25 _ 1 rfl _ _ rfl _)
  case o7v =>
    intro ptrs w' hw hE
    have hK1 := hw.elim (fun h => h.1.k1) (fun h => h.k1)
    exact opE_value (v := .int .i64 f.pn) rfl (run_ldc 2 _ rfl g1 17 rfl 36 _ hK1 (na2 _) _ rfl)
  intro ptrs w10 HPE hxE
  simp only [List.drop_succ_cons, List.drop_zero]
  obtain ⟨⟨ao5, cap5, hv5, HB5⟩, _⟩ := hxE
  simp only [hv5]
  clear GG kg1 HB hBs hv5
  have GG := HPE.gg
  have kg1 := HPE.k1
  have hBs := HPE.bs
  have HB := HB5
  clear HPE HB5 hown9 hM
  replace hLn : (encN f d k F i ++ idL f.pw).length ≤ 9 + 6000 * i + 16 := by rw [List.length_append]; omega
  clear hq9
  refine s_callx 87 rfl rfl _ 26 Try.call26 rfl rfl _ rfl [.int .i64 f.pn] rfl (num_i (f.pn) (by omega) (by omega) _) (fun _ _ ⟨_, _, he, _⟩ => ⟨_, he⟩) ?_
  rintro v w11 ⟨ax87, cx87, he, HX87, G⟩
  cases he
  replace hBs := Nat.le_trans hBs G.size
  replace kg1 := G.has kg1
  replace HB := HB.gro G
  replace GG := GG.trans G
  clear G
  refine nr ?_; intro U h; simp only [z0, z1] at h; subst h
  have hq9 : (nI (f.pn)).length ≤ 9 := nI_len _
  refine s_app bT 88 rfl rfl _ _ rfl rfl HB (l' := nI (f.pn)) rfl (HX87.nc) (by omega) (by decide) hBs ?_
  intro ay88 cy88 w12 HB2 BL
  replace kg1 := (BL.block _ lg1).trans kg1
  replace GG : Gro w _ := below_trans GG (BL.mono hwB)
  replace hBs := Nat.le_trans hBs BL.size
  clear HB BL
  have HB := HB2
  clear HB2
  replace hLn : (encN f d k F i ++ idL f.pw ++ nI (f.pn)).length ≤ 9 + 6000 * i + 16 + 9 := by rw [List.length_append]; omega
  clear hq9
  refine mv 6 (.slice ay88 ((encN f d k F i ++ idL f.pw ++ nI (f.pn)).length) cy88) (wpList_nil (blk_n (blk_n (then_n (wp_region_lit (mv 39 (.int .i64 ((i : Nat) : Int)) (sv 40 (.int .i64 ((i + 1 : Nat) : Int)) (run_add64 _ _ _ rfl ((i : Nat) : Int) 1 _ rfl rfl (by omega) (by omega) (by omega) _) (mv 8 (.int .i64 ((i + 1 : Nat) : Int)) ?_))))))))
  refine nr ?_; intro U h; simp only [z0, z1] at h; subst h
  refine wpList_nil (then_n ?_)
  have hL9 : encN f d k F i ++ idL f.pw ++ nI (f.pn) = encN f d k F (i + 1) := by simp only [encN, hc, letL, hp2, hp3, hp4, hp5, cond_true, cond_false, trailL, idsL, List.append_assoc]
  rw [hL9] at hLn HB ⊢
  exact ⟨_, (by omega : F.length - (i + 1) < F.length - i), i + 1, ay88, cy88, usB [9, 10, 35, 36, 37, 38, 39, 40, 41, 42, 43, 44, 45, 46, 47, 48, 49, 50, 51, 52, 53, 54, 55, 56, 57, 58, 59, 60, 61, 62, 63, 64, 65, 66, 67, 68, 69, 70, 71, 72, 73, 74, 75, 76, 77, 78, 79, 80, 81, 82, 83, 84, 85, 86, 87, 88, 89, 90, 91, 92, 93, 94, 95, 96, 97, 98, 99, 100, 101, 102, 103, 104, 105, 106, 107, 108, 109, 110, 111, 112, 113, 114, 115, 116, 117, 118, 119, 120, 121, 122, 123, 124, 125, 126, 127, 128, 129, 130, 131, 132, 133, 134, 135, 136, 137, 138, 139, 140, 141, 142, 143, 144, 145, 146, 147, 148, 149, 150, 151, 152, 153, 154, 155, 156, 157, 158, 159, 160, 161, 162, 163, 164, 165, 166, 167, 168, 169, 170, 171, 172, 173, 174, 175, 176, 177, 178, 179, 180, 181, 182, 183, 184, 185, 186, 187, 188, 189, 190, 191, 192, 193, 194, 195, 196, 197, 198, 199, 200, 201, 202, 203, 204, 205, 206, 207, 208, 209] rfl rfl ⟨hin, (by omega), GG, kg1, HB, hBs⟩⟩
  have hc0 : c = 110 := by have := of_decide_eq_true hp4; omega
  have hcc := hokc i hin
  rw [hc, hc0, okc_n] at hcc
  simp only [decide_eq_true_eq] at hcc
  refine mv 70 (.bool true) (wpList_nil (then_n (wp_cond_true rfl (wp_region_lit (mv 72 (.slice ao ((encN f d k F i).length) cap) (sv 73 (.pointer (some ⟨g1, 51, none⟩)) (run_fld 36 _ 5 rfl _ _ rfl _) (sv 74 (.int .i64 f.n) (run_ldc 2 _ rfl g1 51 rfl 36 _ kg1 (na2 _) _ rfl) ?_)))))))
  refine s_callx 75 rfl rfl _ 26 Try.call26 rfl rfl _ rfl [.int .i64 f.n] rfl (num_i (f.n) (by omega) (by omega) _) (fun _ _ ⟨_, _, he, _⟩ => ⟨_, he⟩) ?_
  rintro v w10 ⟨ax75, cx75, he, HX75, G⟩
  cases he
  replace hBs := Nat.le_trans hBs G.size
  replace kg1 := G.has kg1
  replace HB := HB.gro G
  replace GG := GG.trans G
  clear G
  refine nr ?_; intro U h; simp only [z0, z1] at h; subst h
  have hq9 : (nI (f.n)).length ≤ 9 := nI_len _
  refine s_app bT 76 rfl rfl _ _ rfl rfl HB (l' := nI (f.n)) rfl (HX75.nc) (by omega) (by decide) hBs ?_
  intro ay76 cy76 w11 HB2 BL
  replace kg1 := (BL.block _ lg1).trans kg1
  replace GG : Gro w _ := below_trans GG (BL.mono hwB)
  replace hBs := Nat.le_trans hBs BL.size
  clear HB BL
  have HB := HB2
  clear HB2
  replace hLn : (encN f d k F i ++ nI (f.n)).length ≤ 9 + 6000 * i + 9 := by rw [List.length_append]; omega
  clear hq9
  refine mv 6 (.slice ay76 ((encN f d k F i ++ nI (f.n)).length) cy76) (wpList_nil (blk_n (blk_n (then_n (wp_region_lit (mv 39 (.int .i64 ((i : Nat) : Int)) (sv 40 (.int .i64 ((i + 1 : Nat) : Int)) (run_add64 _ _ _ rfl ((i : Nat) : Int) 1 _ rfl rfl (by omega) (by omega) (by omega) _) (mv 8 (.int .i64 ((i + 1 : Nat) : Int)) ?_))))))))
  refine nr ?_; intro U h; simp only [z0, z1] at h; subst h
  refine wpList_nil (then_n ?_)
  have hL9 : encN f d k F i ++ nI (f.n) = encN f d k F (i + 1) := by simp only [encN, hc, letL, hp2, hp3, hp4, cond_true, cond_false, trailL, idsL, List.append_assoc]
  rw [hL9] at hLn HB ⊢
  exact ⟨_, (by omega : F.length - (i + 1) < F.length - i), i + 1, ay76, cy76, usB [9, 10, 35, 36, 37, 38, 39, 40, 41, 42, 43, 44, 45, 46, 47, 48, 49, 50, 51, 52, 53, 54, 55, 56, 57, 58, 59, 60, 61, 62, 63, 64, 65, 66, 67, 68, 69, 70, 71, 72, 73, 74, 75, 76, 77, 78, 79, 80, 81, 82, 83, 84, 85, 86, 87, 88, 89, 90, 91, 92, 93, 94, 95, 96, 97, 98, 99, 100, 101, 102, 103, 104, 105, 106, 107, 108, 109, 110, 111, 112, 113, 114, 115, 116, 117, 118, 119, 120, 121, 122, 123, 124, 125, 126, 127, 128, 129, 130, 131, 132, 133, 134, 135, 136, 137, 138, 139, 140, 141, 142, 143, 144, 145, 146, 147, 148, 149, 150, 151, 152, 153, 154, 155, 156, 157, 158, 159, 160, 161, 162, 163, 164, 165, 166, 167, 168, 169, 170, 171, 172, 173, 174, 175, 176, 177, 178, 179, 180, 181, 182, 183, 184, 185, 186, 187, 188, 189, 190, 191, 192, 193, 194, 195, 196, 197, 198, 199, 200, 201, 202, 203, 204, 205, 206, 207, 208, 209] rfl rfl ⟨hin, (by omega), GG, kg1, HB, hBs⟩⟩
  have hc0 : c = 116 := by have := of_decide_eq_true hp3; omega
  have hcc := hokc i hin
  rw [hc, hc0, okc_t] at hcc
  simp only [Bool.and_eq_true, decide_eq_true_eq] at hcc
  refine mv 57 (.bool true) (wpList_nil (then_n (wp_cond_true rfl ?_)))
  obtain ⟨M, hM⟩ : ∃ M, wv.heap.size = M := ⟨_, rfl⟩
  have hown9 := fun ad ha => (HB.ge ad ha).2
  rw [hM] at hown9
  have hq9 : (nI (f.ti)).length ≤ 9 := nI_len _
  refine wp_region_pl (A := ?Az) (R0 := fun x => PE w g1 B M f x ∧ OB x 5 .u8 B ao cap (encN f d k F i)) (R1 := PE w g1 B M f) 9 [(0, 59), (1, 60), (2, 61), (3, 62), (4, 63), (5, 64), (6, 65), (7, 66), (8, 67)] [.val (.slice ao ((encN f d k F i).length) cap), .val (.pointer (some ⟨g1, 54, none⟩)), .val (.pointer (some ⟨g1, 54, none⟩)), .val (.int .i64 f.ti), rowE M (nI (f.ti)), rowE B (encN f d k F i ++ nI (f.ti)), .val (.pointer (some ⟨g1, 54, none⟩)), .val (.pointer (some ⟨g1, 55, none⟩)), .val (.int .i64 f.tn)] 5 (fun _ => false) (fun x y => ∀ q, M ≤ q → q < x.heap.size → y.heap[q]? = x.heap[q]?) follows (by kernel_rfl) rfl (by decide) (fun j hj hne _ v a b _ hb hp => match j, hj, hne, hp with | 0, _, _, hp => hp | 1, _, _, hp => hp | 2, _, _, hp => hp | 3, _, _, hp => hp | 4, _, _, hp => Exists.elim hp fun ao hp => Exists.elim hp fun cap hp => ⟨ao, cap, hp.1, hp.2.same hb⟩ | 5, _, hne, _ => absurd rfl hne | 6, _, _, hp => hp | 7, _, _, hp => hp | 8, _, _, hp => hp | m + 9, hj, _, _ => absurd hj (by omega)) (by kernel_rfl) ⟨⟨GG.drew, (Gro.refl _).drew.has kg1, Nat.le_trans hBs (Gro.refl _).drew.size, Nat.le_trans (Nat.le_of_eq hM.symm) (Gro.refl _).drew.size⟩, HB.gro (Gro.refl _).drew⟩ (fun _ _ h g => ⟨h.1.gro g, h.2.gro g⟩) (fun _ _ h g => h.gro g) ?hAz (opsL_a (by decide) rfl ?o0z (opsL_a (by decide) rfl ?o1z (opsL_a (by decide) rfl ?o2z (opsL_a (by decide) rfl ?o3z (opsL_a (by decide) rfl ?o4z (opsL_e ?o5z (opsL_a (by decide) rfl ?o6z (opsL_a (by decide) rfl ?o7z (opsL_a (by decide) rfl ?o8z opsL_nil))))))))) ?restz
  case hAz =>
    intro ptrs
    simp only [full, foldSlots, filledE, postE, List.foldl_cons, List.foldl_nil, List.getD_cons_zero, List.getD_cons_succ, fill_val, fill_row, List.set_cons_zero, List.set_cons_succ]
    exact rfl
  case o0z => exact fun _ _ _ _ => opE_move (v := .slice ao ((encN f d k F i).length) cap) _ rfl rfl rfl
  case o1z => exact fun _ _ _ _ => opE_value (v := .pointer (some ⟨g1, 54, none⟩)) rfl (run_fld 36 _ 7 rfl _ _ rfl _)
  case o2z => exact fun _ _ _ _ => opE_value (v := .pointer (some ⟨g1, 54, none⟩)) rfl (run_fld 27 _ 0 rfl _ _ rfl _)
  case o3z =>
    intro ptrs w' hw hE
    have hK1 := hw.elim (fun h => h.1.k1) (fun h => h.k1)
    exact opE_value (v := .int .i64 f.ti) rfl (run_ldc 2 _ rfl g1 54 rfl 36 _ hK1 (na2 _) _ rfl)
  case o4z =>
    intro ptrs w' hw hE
    have hm9 := hw.elim (fun h => h.1.ms) (fun h => h.ms)
    exact opE_call (rowE M (nI (f.ti))) rfl _ 26 Try.call26 rfl rfl _ rfl [.int .i64 f.ti] rfl ((num_i (f.ti) (by omega) (by omega) w').mono fun e w2 ⟨ao, cap, he, ho, g⟩ => ⟨_, he, g, ao, cap, rfl, ho.mono hm9⟩)
  case o5z =>
    intro ptrs w' hw hE
    obtain ⟨⟨ao9, cap9, hv9, hnc⟩, _⟩ := hE
    refine opX_app bT _ rfl _ _ rfl (l := encN f d k F i) (l' := nI (f.ti)) (ao' := ao9) (cap' := cap9) rfl hw.2 hv9 hnc.nc (by omega) (by decide) hw.1.bs ?_
    intro ao2 cap2 w9 h1 h2 h3
    exact ⟨⟨⟨below_trans hw.1.gg (h2.mono hwB), (h2.block _ lg1).trans hw.1.k1, Nat.le_trans hw.1.bs h2.size, Nat.le_trans hw.1.ms h2.size⟩, fun q hq hlt => h3 q hlt (fun ad ha => by have := hown9 ad ha; omega)⟩, ao2, cap2, rfl, h1⟩
  case o6z => exact fun _ _ _ _ => opE_value (v := .pointer (some ⟨g1, 54, none⟩)) rfl (run_fld 36 _ 7 rfl _ _ rfl _)
  case o7z => exact fun _ _ _ _ => opE_value (v := .pointer (some ⟨g1, 55, none⟩)) rfl (run_fld 27 _ 1 rfl _ _ rfl _)
  case o8z =>
    intro ptrs w' hw hE
    have hK1 := hw.elim (fun h => h.1.k1) (fun h => h.k1)
    exact opE_value (v := .int .i64 f.tn) rfl (run_ldc 2 _ rfl g1 55 rfl 36 _ hK1 (na2 _) _ rfl)
  intro ptrs w10 HPE hxE
  simp only [List.drop_succ_cons, List.drop_zero]
  obtain ⟨_, ⟨ao5, cap5, hv5, HB5⟩, _⟩ := hxE
  simp only [hv5]
  clear GG kg1 HB hBs hv5
  have GG := HPE.gg
  have kg1 := HPE.k1
  have hBs := HPE.bs
  have HB := HB5
  clear HPE HB5 hown9 hM
  replace hLn : (encN f d k F i ++ nI (f.ti)).length ≤ 9 + 6000 * i + 9 := by rw [List.length_append]; omega
  clear hq9
  refine s_callx 68 rfl rfl _ 26 Try.call26 rfl rfl _ rfl [.int .i64 f.tn] rfl (num_i (f.tn) (by omega) (by omega) _) (fun _ _ ⟨_, _, he, _⟩ => ⟨_, he⟩) ?_
  rintro v w11 ⟨ax68, cx68, he, HX68, G⟩
  cases he
  replace hBs := Nat.le_trans hBs G.size
  replace kg1 := G.has kg1
  replace HB := HB.gro G
  replace GG := GG.trans G
  clear G
  refine nr ?_; intro U h; simp only [z0, z1] at h; subst h
  have hq9 : (nI (f.tn)).length ≤ 9 := nI_len _
  refine s_app bT 69 rfl rfl _ _ rfl rfl HB (l' := nI (f.tn)) rfl (HX68.nc) (by omega) (by decide) hBs ?_
  intro ay69 cy69 w12 HB2 BL
  replace kg1 := (BL.block _ lg1).trans kg1
  replace GG : Gro w _ := below_trans GG (BL.mono hwB)
  replace hBs := Nat.le_trans hBs BL.size
  clear HB BL
  have HB := HB2
  clear HB2
  replace hLn : (encN f d k F i ++ nI (f.ti) ++ nI (f.tn)).length ≤ 9 + 6000 * i + 9 + 9 := by rw [List.length_append]; omega
  clear hq9
  refine mv 6 (.slice ay69 ((encN f d k F i ++ nI (f.ti) ++ nI (f.tn)).length) cy69) (wpList_nil (blk_n (blk_n (then_n (wp_region_lit (mv 39 (.int .i64 ((i : Nat) : Int)) (sv 40 (.int .i64 ((i + 1 : Nat) : Int)) (run_add64 _ _ _ rfl ((i : Nat) : Int) 1 _ rfl rfl (by omega) (by omega) (by omega) _) (mv 8 (.int .i64 ((i + 1 : Nat) : Int)) ?_))))))))
  refine nr ?_; intro U h; simp only [z0, z1] at h; subst h
  refine wpList_nil (then_n ?_)
  have hL9 : encN f d k F i ++ nI (f.ti) ++ nI (f.tn) = encN f d k F (i + 1) := by simp only [encN, hc, letL, hp2, hp3, cond_true, cond_false, trailL, idsL, List.append_assoc]
  rw [hL9] at hLn HB ⊢
  exact ⟨_, (by omega : F.length - (i + 1) < F.length - i), i + 1, ay69, cy69, usB [9, 10, 35, 36, 37, 38, 39, 40, 41, 42, 43, 44, 45, 46, 47, 48, 49, 50, 51, 52, 53, 54, 55, 56, 57, 58, 59, 60, 61, 62, 63, 64, 65, 66, 67, 68, 69, 70, 71, 72, 73, 74, 75, 76, 77, 78, 79, 80, 81, 82, 83, 84, 85, 86, 87, 88, 89, 90, 91, 92, 93, 94, 95, 96, 97, 98, 99, 100, 101, 102, 103, 104, 105, 106, 107, 108, 109, 110, 111, 112, 113, 114, 115, 116, 117, 118, 119, 120, 121, 122, 123, 124, 125, 126, 127, 128, 129, 130, 131, 132, 133, 134, 135, 136, 137, 138, 139, 140, 141, 142, 143, 144, 145, 146, 147, 148, 149, 150, 151, 152, 153, 154, 155, 156, 157, 158, 159, 160, 161, 162, 163, 164, 165, 166, 167, 168, 169, 170, 171, 172, 173, 174, 175, 176, 177, 178, 179, 180, 181, 182, 183, 184, 185, 186, 187, 188, 189, 190, 191, 192, 193, 194, 195, 196, 197, 198, 199, 200, 201, 202, 203, 204, 205, 206, 207, 208, 209] rfl rfl ⟨hin, (by omega), GG, kg1, HB, hBs⟩⟩
  have hc0 : c = 102 := by have := of_decide_eq_true hp2; omega
  have hcc := hokc i hin
  rw [hc, hc0, okc_f] at hcc
  simp only [Bool.and_eq_true, decide_eq_true_eq] at hcc
  refine mv 44 (.bool true) (wpList_nil (then_n (wp_cond_true rfl ?_)))
  obtain ⟨M, hM⟩ : ∃ M, wv.heap.size = M := ⟨_, rfl⟩
  have hown9 := fun ad ha => (HB.ge ad ha).2
  rw [hM] at hown9
  have hq9 : (nI (f.fi)).length ≤ 9 := nI_len _
  refine wp_region_pl (A := ?Ay) (R0 := fun x => PE w g1 B M f x ∧ OB x 5 .u8 B ao cap (encN f d k F i)) (R1 := PE w g1 B M f) 9 [(0, 46), (1, 47), (2, 48), (3, 49), (4, 50), (5, 51), (6, 52), (7, 53), (8, 54)] [.val (.slice ao ((encN f d k F i).length) cap), .val (.pointer (some ⟨g1, 52, none⟩)), .val (.pointer (some ⟨g1, 52, none⟩)), .val (.int .i64 f.fi), rowE M (nI (f.fi)), rowE B (encN f d k F i ++ nI (f.fi)), .val (.pointer (some ⟨g1, 52, none⟩)), .val (.pointer (some ⟨g1, 53, none⟩)), .val (.int .i64 f.fn)] 5 (fun _ => false) (fun x y => ∀ q, M ≤ q → q < x.heap.size → y.heap[q]? = x.heap[q]?) follows (by kernel_rfl) rfl (by decide) (fun j hj hne _ v a b _ hb hp => match j, hj, hne, hp with | 0, _, _, hp => hp | 1, _, _, hp => hp | 2, _, _, hp => hp | 3, _, _, hp => hp | 4, _, _, hp => Exists.elim hp fun ao hp => Exists.elim hp fun cap hp => ⟨ao, cap, hp.1, hp.2.same hb⟩ | 5, _, hne, _ => absurd rfl hne | 6, _, _, hp => hp | 7, _, _, hp => hp | 8, _, _, hp => hp | m + 9, hj, _, _ => absurd hj (by omega)) (by kernel_rfl) ⟨⟨GG.drew, (Gro.refl _).drew.has kg1, Nat.le_trans hBs (Gro.refl _).drew.size, Nat.le_trans (Nat.le_of_eq hM.symm) (Gro.refl _).drew.size⟩, HB.gro (Gro.refl _).drew⟩ (fun _ _ h g => ⟨h.1.gro g, h.2.gro g⟩) (fun _ _ h g => h.gro g) ?hAy (opsL_a (by decide) rfl ?o0y (opsL_a (by decide) rfl ?o1y (opsL_a (by decide) rfl ?o2y (opsL_a (by decide) rfl ?o3y (opsL_a (by decide) rfl ?o4y (opsL_e ?o5y (opsL_a (by decide) rfl ?o6y (opsL_a (by decide) rfl ?o7y (opsL_a (by decide) rfl ?o8y opsL_nil))))))))) ?resty
  case hAy =>
    intro ptrs
    simp only [full, foldSlots, filledE, postE, List.foldl_cons, List.foldl_nil, List.getD_cons_zero, List.getD_cons_succ, fill_val, fill_row, List.set_cons_zero, List.set_cons_succ]
    exact rfl
  case o0y => exact fun _ _ _ _ => opE_move (v := .slice ao ((encN f d k F i).length) cap) _ rfl rfl rfl
  case o1y => exact fun _ _ _ _ => opE_value (v := .pointer (some ⟨g1, 52, none⟩)) rfl (run_fld 36 _ 6 rfl _ _ rfl _)
  case o2y => exact fun _ _ _ _ => opE_value (v := .pointer (some ⟨g1, 52, none⟩)) rfl (run_fld 27 _ 0 rfl _ _ rfl _)
  case o3y =>
    intro ptrs w' hw hE
    have hK1 := hw.elim (fun h => h.1.k1) (fun h => h.k1)
    exact opE_value (v := .int .i64 f.fi) rfl (run_ldc 2 _ rfl g1 52 rfl 36 _ hK1 (na2 _) _ rfl)
  case o4y =>
    intro ptrs w' hw hE
    have hm9 := hw.elim (fun h => h.1.ms) (fun h => h.ms)
    exact opE_call (rowE M (nI (f.fi))) rfl _ 26 Try.call26 rfl rfl _ rfl [.int .i64 f.fi] rfl ((num_i (f.fi) (by omega) (by omega) w').mono fun e w2 ⟨ao, cap, he, ho, g⟩ => ⟨_, he, g, ao, cap, rfl, ho.mono hm9⟩)
  case o5y =>
    intro ptrs w' hw hE
    obtain ⟨⟨ao9, cap9, hv9, hnc⟩, _⟩ := hE
    refine opX_app bT _ rfl _ _ rfl (l := encN f d k F i) (l' := nI (f.fi)) (ao' := ao9) (cap' := cap9) rfl hw.2 hv9 hnc.nc (by omega) (by decide) hw.1.bs ?_
    intro ao2 cap2 w9 h1 h2 h3
    exact ⟨⟨⟨below_trans hw.1.gg (h2.mono hwB), (h2.block _ lg1).trans hw.1.k1, Nat.le_trans hw.1.bs h2.size, Nat.le_trans hw.1.ms h2.size⟩, fun q hq hlt => h3 q hlt (fun ad ha => by have := hown9 ad ha; omega)⟩, ao2, cap2, rfl, h1⟩
  case o6y => exact fun _ _ _ _ => opE_value (v := .pointer (some ⟨g1, 52, none⟩)) rfl (run_fld 36 _ 6 rfl _ _ rfl _)
  case o7y => exact fun _ _ _ _ => opE_value (v := .pointer (some ⟨g1, 53, none⟩)) rfl (run_fld 27 _ 1 rfl _ _ rfl _)
  case o8y =>
    intro ptrs w' hw hE
    have hK1 := hw.elim (fun h => h.1.k1) (fun h => h.k1)
    exact opE_value (v := .int .i64 f.fn) rfl (run_ldc 2 _ rfl g1 53 rfl 36 _ hK1 (na2 _) _ rfl)
  intro ptrs w10 HPE hxE
  simp only [List.drop_succ_cons, List.drop_zero]
  obtain ⟨_, ⟨ao5, cap5, hv5, HB5⟩, _⟩ := hxE
  simp only [hv5]
  clear GG kg1 HB hBs hv5
  have GG := HPE.gg
  have kg1 := HPE.k1
  have hBs := HPE.bs
  have HB := HB5
  clear HPE HB5 hown9 hM
  replace hLn : (encN f d k F i ++ nI (f.fi)).length ≤ 9 + 6000 * i + 9 := by rw [List.length_append]; omega
  clear hq9
  refine s_callx 55 rfl rfl _ 26 Try.call26 rfl rfl _ rfl [.int .i64 f.fn] rfl (num_i (f.fn) (by omega) (by omega) _) (fun _ _ ⟨_, _, he, _⟩ => ⟨_, he⟩) ?_
  rintro v w11 ⟨ax55, cx55, he, HX55, G⟩
  cases he
  replace hBs := Nat.le_trans hBs G.size
  replace kg1 := G.has kg1
  replace HB := HB.gro G
  replace GG := GG.trans G
  clear G
  refine nr ?_; intro U h; simp only [z0, z1] at h; subst h
  have hq9 : (nI (f.fn)).length ≤ 9 := nI_len _
  refine s_app bT 56 rfl rfl _ _ rfl rfl HB (l' := nI (f.fn)) rfl (HX55.nc) (by omega) (by decide) hBs ?_
  intro ay56 cy56 w12 HB2 BL
  replace kg1 := (BL.block _ lg1).trans kg1
  replace GG : Gro w _ := below_trans GG (BL.mono hwB)
  replace hBs := Nat.le_trans hBs BL.size
  clear HB BL
  have HB := HB2
  clear HB2
  replace hLn : (encN f d k F i ++ nI (f.fi) ++ nI (f.fn)).length ≤ 9 + 6000 * i + 9 + 9 := by rw [List.length_append]; omega
  clear hq9
  refine mv 6 (.slice ay56 ((encN f d k F i ++ nI (f.fi) ++ nI (f.fn)).length) cy56) (wpList_nil (blk_n (blk_n (then_n (wp_region_lit (mv 39 (.int .i64 ((i : Nat) : Int)) (sv 40 (.int .i64 ((i + 1 : Nat) : Int)) (run_add64 _ _ _ rfl ((i : Nat) : Int) 1 _ rfl rfl (by omega) (by omega) (by omega) _) (mv 8 (.int .i64 ((i + 1 : Nat) : Int)) ?_))))))))
  refine nr ?_; intro U h; simp only [z0, z1] at h; subst h
  refine wpList_nil (then_n ?_)
  have hL9 : encN f d k F i ++ nI (f.fi) ++ nI (f.fn) = encN f d k F (i + 1) := by simp only [encN, hc, letL, hp2, cond_true, trailL, idsL, List.append_assoc]
  rw [hL9] at hLn HB ⊢
  exact ⟨_, (by omega : F.length - (i + 1) < F.length - i), i + 1, ay56, cy56, usB [9, 10, 35, 36, 37, 38, 39, 40, 41, 42, 43, 44, 45, 46, 47, 48, 49, 50, 51, 52, 53, 54, 55, 56, 57, 58, 59, 60, 61, 62, 63, 64, 65, 66, 67, 68, 69, 70, 71, 72, 73, 74, 75, 76, 77, 78, 79, 80, 81, 82, 83, 84, 85, 86, 87, 88, 89, 90, 91, 92, 93, 94, 95, 96, 97, 98, 99, 100, 101, 102, 103, 104, 105, 106, 107, 108, 109, 110, 111, 112, 113, 114, 115, 116, 117, 118, 119, 120, 121, 122, 123, 124, 125, 126, 127, 128, 129, 130, 131, 132, 133, 134, 135, 136, 137, 138, 139, 140, 141, 142, 143, 144, 145, 146, 147, 148, 149, 150, 151, 152, 153, 154, 155, 156, 157, 158, 159, 160, 161, 162, 163, 164, 165, 166, 167, 168, 169, 170, 171, 172, 173, 174, 175, 176, 177, 178, 179, 180, 181, 182, 183, 184, 185, 186, 187, 188, 189, 190, 191, 192, 193, 194, 195, 196, 197, 198, 199, 200, 201, 202, 203, 204, 205, 206, 207, 208, 209] rfl rfl ⟨hin, (by omega), GG, kg1, HB, hBs⟩⟩
end Go.Proofs.Ythmcnlmphikicaa
