/- What counts of a frame is within its bounds (the document's Right). -/
import Derived.Test.YthmcnlmphikicaaDL1
namespace Go.Proofs.Ythmcnlmphikicaa
open Go.RowKit
def trN (l : List Int) : Nat → Bool
  | 0 => true
  | j + 1 => trN l j && (decide (0 ≤ l.getD j 0) && decide (l.getD j 0 ≤ 5))
def okc (f : Fr) (d : FD) (c : Nat) : Bool :=
  bif decide (((c : Nat) : Int) = 102) then decide (0 ≤ f.fi) && decide (0 ≤ f.fn) 
  else bif decide (((c : Nat) : Int) = 116) then decide (0 ≤ f.ti) && decide (0 ≤ f.tn) 
  else bif decide (((c : Nat) : Int) = 110) then decide (0 ≤ f.n) 
  else bif decide (((c : Nat) : Int) = 112) then decide (0 ≤ f.pn) 
  else bif decide (((c : Nat) : Int) = 114) then decide (((f.tr.n : Nat) : Int) ≤ 64) && trN d.tr d.tr.length 
  else bif decide (((c : Nat) : Int) = 115) then decide (((f.ids.n : Nat) : Int) ≤ 16) 
  else bif decide (((c : Nat) : Int) = 105) then decide (0 ≤ f.vn) && decide (((f.val.n : Nat) : Int) ≤ 64) 
  else bif decide (((c : Nat) : Int) = 107) then decide (0 ≤ f.vn) 
  else bif decide (((c : Nat) : Int) = 108) then decide (0 ≤ f.op) && decide (f.op ≤ 3) 
  else bif decide (((c : Nat) : Int) = 111) then decide (1 ≤ f.op) && decide (f.op ≤ 4) 
  else bif decide (((c : Nat) : Int) = 119) then decide (0 ≤ f.ttl) && decide (f.ttl ≤ 64) 
  else bif decide (((c : Nat) : Int) = 120) then decide (((f.tx.n : Nat) : Int) ≤ 4096) 
  else bif decide (((c : Nat) : Int) = 121) then decide (((f.tx.n : Nat) : Int) ≤ 64)
  else true
def okF (f : Fr) (d : FD) (F : List Nat) : Nat → Bool
  | 0 => !decide (F = [63])
  | i + 1 => okF f d F i && okc f d (F.getD i 0)
theorem usK {m m' : Nat} {F : List Value} {mk : (Nat → Value) → List Value} {R : Prop} (r : R) (hm : m = m' := by exact rfl) (h : F = mk fun k => F.getD k undef := by as_aux_lemma => kernel_rfl) : ∃ us : Nat → Value, m = m' ∧ (⟨F.toArray, []⟩ : Act) = ⟨(mk us).toArray, []⟩ ∧ R :=
  ⟨_, hm, by rw [← h], r⟩
set_option maxRecDepth 100000 in
set_option maxHeartbeats 4000000 in
theorem right_d (f : Fr) (d : FD) (w : World) (HF : FrW w f d) (hl : Lens d) : Calls Try.prog 19 #[.agg (c36 f.kind f.pw f.pn f.toA f.a f.b f.n f.fi f.fn f.ti f.tn f.tr f.ids f.key f.vn f.vw f.val f.op f.ttl f.tx)] w fun e w' => e = .returned (.bool (okF f d (formL f.kind) (formL f.kind).length)) ∧ Gro w w' := by
  refine s_enterR Try.func19 rfl Try.ntmps19 [.agg (c36 f.kind f.pw f.pn f.toA f.a f.b f.n f.fi f.fn f.ti f.tn f.tr f.ids f.key f.vn f.vw f.val f.op f.ttl f.tx)] ?_
  intro U h; simp only [List.length_cons, List.length_nil, List.cons_append, List.nil_append, Nat.reduceAdd, Nat.reduceSub, List.reduceReplicate] at h; subst h
  have GG := Gro.refl w
  have hl1 := hl.1
  have hl2 := hl.2
  obtain ⟨F, hF⟩ : ∃ F, formL f.kind = F := ⟨_, rfl⟩
  have hF7 := formL_ok f.kind
  rw [hF] at hF7 ⊢
  obtain ⟨hF7, hFb⟩ := hF7
  have lft := xc_len1 HF.tr
  have HFt : XC w 1 f.tr.ao f.tr.cap d.tr.length (d.tr.map (Value.int .i64 ·)) := by rw [← lft]; exact HF.tr
  obtain ⟨p0, hp0⟩ : ∃ p, decide (F = [63]) = p := ⟨_, rfl⟩
  have h63 := (formL_63 f.kind F hF).trans hp0
  refine wp_seq (wp_region_lit ?_)
  refine s_box 1 rfl rfl 36 _ rfl _ rfl (c36 f.kind f.pw f.pn f.toA f.a f.b f.n f.fi f.fn f.ti f.tn f.tr f.ids f.key f.vn f.vw f.val f.op f.ttl f.tx) rfl ?_
  intro w1 g1 G eg1 kg1
  have bg1 := size_base GG eg1
  replace GG := GG.trans G
  clear G eg1
  refine mv 2 (.bool false) ?_
  refine nr ?_; intro U h; simp only [z0, z1] at h; subst h
  refine wpList_nil (then_n (wp_seq (wp_region_lit (sv 7 (.pointer (some ⟨g1, 0, none⟩)) (run_fld 36 _ 0 rfl _ _ rfl _) (sv 8 (.int .i64 f.kind) (run_ldc 3 _ rfl g1 0 rfl 36 _ kg1 (na3 _) _ rfl) ?_)))))
  refine nr ?_; intro U h; simp only [z0, z1] at h; subst h
  refine s_callv 9 rfl rfl _ 27 Try.call27 rfl rfl _ rfl [.int .i64 f.kind] rfl (form_any f.kind F hF _) ?_
  intro w2 G
  replace kg1 := G.has kg1
  replace GG := GG.trans G
  clear G
  refine mv 3 (.string (bas F)) ?_
  refine nr ?_; intro U h; simp only [z0, z1] at h; subst h
  refine wpList_nil (then_n (wp_seq (wp_region_lit (mv 10 (.string (bas F)) (sv 11 (.bool (!p0)) (run_nes_op _ _ _ rfl _ _ rfl rfl p0 h63 _) ?_)))))
  refine nr ?_; intro U h; simp only [z0, z1] at h; subst h
  refine mv 4 (.bool (!p0)) (wpList_nil (then_n (wp_seq (wp_seq (wp_region_lit (mv 5 (.int .i64 0) ?_))))))
  refine nr ?_; intro U h; simp only [z0, z1] at h; subst h
  refine wpList_nil (then_n (wp_block ?_))
  refine wp_loopN (fun mz az wv => ∃ (i : Nat) (ok : Bool) (us1 : Nat → Value), mz = F.length - i ∧ az = ⟨[.agg (c36 f.kind f.pw f.pn f.toA f.a f.b f.n f.fi f.fn f.ti f.tn f.tr f.ids f.key f.vn f.vw f.val f.op f.ttl f.tx), .pointer (some ⟨g1, 0, none⟩), .bool false, .string (bas F), .bool ok, .int .i64 ((i : Nat) : Int), us1 6, .pointer (some ⟨g1, 0, none⟩), .int .i64 f.kind, .string (bas F), .string (bas F), .bool (!p0), us1 12, us1 13, us1 14, us1 15, us1 16, us1 17, us1 18, us1 19, us1 20, us1 21, us1 22, us1 23, us1 24, us1 25, us1 26, us1 27, us1 28, us1 29, us1 30, us1 31, us1 32, us1 33, us1 34, us1 35, us1 36, us1 37, us1 38, us1 39, us1 40, us1 41, us1 42, us1 43, us1 44, us1 45, us1 46, us1 47, us1 48, us1 49, us1 50, us1 51, us1 52, us1 53, us1 54, us1 55, us1 56, us1 57, us1 58, us1 59, us1 60, us1 61, us1 62, us1 63, us1 64, us1 65, us1 66, us1 67, us1 68, us1 69, us1 70, us1 71, us1 72, us1 73, us1 74, us1 75, us1 76, us1 77, us1 78, us1 79, us1 80, us1 81, us1 82, us1 83, us1 84, us1 85, us1 86, us1 87, us1 88, us1 89, us1 90, us1 91, us1 92, us1 93, us1 94, us1 95, us1 96, us1 97, us1 98, us1 99, us1 100, us1 101, us1 102, us1 103, us1 104, us1 105, us1 106, us1 107, us1 108, us1 109, us1 110, us1 111, us1 112, us1 113, us1 114, us1 115, us1 116, us1 117, us1 118, us1 119, us1 120, us1 121, us1 122, us1 123, us1 124, us1 125, us1 126, us1 127, us1 128, us1 129, us1 130, us1 131, us1 132, us1 133, us1 134, us1 135, us1 136, us1 137, us1 138, us1 139, us1 140, us1 141, us1 142, us1 143, us1 144, us1 145, us1 146, us1 147, us1 148, us1 149, us1 150, us1 151, us1 152, us1 153, us1 154, us1 155, us1 156, us1 157, us1 158, us1 159, us1 160, us1 161, us1 162, us1 163, us1 164, us1 165, us1 166, us1 167, us1 168, us1 169, us1 170, us1 171, us1 172, us1 173, us1 174, us1 175, us1 176, us1 177, us1 178, us1 179, us1 180, us1 181, us1 182, us1 183, us1 184, us1 185, us1 186, us1 187, us1 188, us1 189, us1 190, us1 191, us1 192, us1 193, undef].toArray, []⟩ ∧ i ≤ F.length ∧ ok = okF f d F i ∧ Gro w wv ∧ wv.heap[g1]? = some (.cells (c36 f.kind f.pw f.pn f.toA f.a f.b f.n f.fi f.fn f.ti f.tn f.tr f.ids f.key f.vn f.vw f.val f.op f.ttl f.tx) 36 (0, 0))) ?_ _ ⟨0, (!p0), usK ⟨Nat.zero_le _, by rw [okF, hp0], GG, kg1⟩⟩
  clear kg1 GG
  rintro mz az wv ⟨i, ok, us1, rfl, rfl, hi, hok, GG, kg1⟩
  refine wp_seq (wp_seq (wp_region_lit (mv 12 (.int .i64 ((i : Nat) : Int)) (mv 13 (.string (bas F)) ?_))))
  refine nr ?_; intro U h; simp only [z0, z1] at h; subst h
  refine sv 14 (.int .i64 ((F.length : Nat) : Int)) (run_slen _ rfl Try.underlying9 F rfl _) ?_
  refine nr ?_; intro U h; simp only [z0, z1] at h; subst h
  obtain ⟨p1, hp1⟩ : ∃ p, decide (((i : Nat) : Int) < ((F.length : Nat) : Int)) = p := ⟨_, rfl⟩
  refine sv 15 (.bool p1) (run_lssT 3 _ _ _ rfl ((i : Nat) : Int) ((F.length : Nat) : Int) rfl rfl p1 hp1 _) ?_
  refine nr ?_; intro U h; simp only [z0, z1] at h; subst h
  cases p1
  have hie : i = F.length := by have := of_decide_eq_false hp1; omega
  refine wpList_nil (then_n (wp_cond_false rfl (wp_exit (then_x (then_x (blk_x (then_n (wp_seq (wp_region_lit ?_)))))))))
  cases ok
  refine mv 194 (.bool false) (mv 2 (.bool false) ?_)
  refine nr ?_; intro U h; simp only [z0, z1] at h; subst h
  refine wpList_nil (then_n (wp_ret ?_))
  refine bodyPost_ret (results_tmp Try.results19 _ _ _) rfl ?_
  rw [hok, hie]
  exact ⟨rfl, GG⟩
  refine mv 194 (.bool true) (mv 2 (.bool true) ?_)
  refine nr ?_; intro U h; simp only [z0, z1] at h; subst h
  refine wpList_nil (then_n (wp_ret ?_))
  refine bodyPost_ret (results_tmp Try.results19 _ _ _) rfl ?_
  rw [hok, hie]
  exact ⟨rfl, GG⟩
  have hin : i < F.length := by have := of_decide_eq_true hp1; omega
  obtain ⟨c, hc⟩ : ∃ c, F.getD i 0 = c := ⟨_, rfl⟩
  refine wpList_nil (then_n (wp_cond_true rfl (wp_skip (then_n (wp_seq (wp_block (wp_seq (wp_region_lit (mv 18 (.string (bas F)) (mv 19 (.int .i64 ((i : Nat) : Int)) ?_))))))))))
  refine nr ?_; intro U h; simp only [z0, z1] at h; subst h
  refine sv 20 (.int .u8 ((c : Nat) : Int)) ((run_sidx _ _ rfl F hFb rfl i hin rfl _).trans (by rw [hc])) (wpList_nil (then_n (wp_block (wp_seq (wp_region_lit ?_)))))
  obtain ⟨p2, hp2⟩ : ∃ p, decide (((c : Nat) : Int) = 102) = p := ⟨_, rfl⟩
  refine sv 22 (.bool p2) (run_eq_k 5 .u8 _ _ _ rfl Try.underlying5 ((c : Nat) : Int) 102 rfl rfl p2 hp2 _) ?_
  refine nr ?_; intro U h; simp only [z0, z1] at h; subst h
  cases p2
  refine s_val _ rfl rfl (.bool false) rfl ?_
  refine wpList_nil (then_n (wp_cond_false rfl (wp_seq (wp_region_lit ?_))))
  obtain ⟨p3, hp3⟩ : ∃ p, decide (((c : Nat) : Int) = 116) = p := ⟨_, rfl⟩
  refine sv 37 (.bool p3) (run_eq_k 5 .u8 _ _ _ rfl Try.underlying5 ((c : Nat) : Int) 116 rfl rfl p3 hp3 _) ?_
  refine nr ?_; intro U h; simp only [z0, z1] at h; subst h
  cases p3
  refine s_val _ rfl rfl (.bool false) rfl ?_
  refine wpList_nil (then_n (wp_cond_false rfl (wp_seq (wp_region_lit ?_))))
  obtain ⟨p4, hp4⟩ : ∃ p, decide (((c : Nat) : Int) = 110) = p := ⟨_, rfl⟩
  refine sv 52 (.bool p4) (run_eq_k 5 .u8 _ _ _ rfl Try.underlying5 ((c : Nat) : Int) 110 rfl rfl p4 hp4 _) ?_
  refine nr ?_; intro U h; simp only [z0, z1] at h; subst h
  cases p4
  refine s_val _ rfl rfl (.bool false) rfl ?_
  refine wpList_nil (then_n (wp_cond_false rfl (wp_seq (wp_region_lit ?_))))
  obtain ⟨p5, hp5⟩ : ∃ p, decide (((c : Nat) : Int) = 112) = p := ⟨_, rfl⟩
  refine sv 60 (.bool p5) (run_eq_k 5 .u8 _ _ _ rfl Try.underlying5 ((c : Nat) : Int) 112 rfl rfl p5 hp5 _) ?_
  refine nr ?_; intro U h; simp only [z0, z1] at h; subst h
  cases p5
  refine s_val _ rfl rfl (.bool false) rfl ?_
  refine wpList_nil (then_n (wp_cond_false rfl (wp_seq (wp_region_lit ?_))))
  obtain ⟨p6, hp6⟩ : ∃ p, decide (((c : Nat) : Int) = 114) = p := ⟨_, rfl⟩
  refine sv 69 (.bool p6) (run_eq_k 5 .u8 _ _ _ rfl Try.underlying5 ((c : Nat) : Int) 114 rfl rfl p6 hp6 _) ?_
  refine nr ?_; intro U h; simp only [z0, z1] at h; subst h
  cases p6
  refine s_val _ rfl rfl (.bool false) rfl ?_
  refine wpList_nil (then_n (wp_cond_false rfl (wp_seq (wp_region_lit ?_))))
  obtain ⟨p7, hp7⟩ : ∃ p, decide (((c : Nat) : Int) = 115) = p := ⟨_, rfl⟩
  refine sv 102 (.bool p7) (run_eq_k 5 .u8 _ _ _ rfl Try.underlying5 ((c : Nat) : Int) 115 rfl rfl p7 hp7 _) ?_
  refine nr ?_; intro U h; simp only [z0, z1] at h; subst h
  cases p7
  refine s_val _ rfl rfl (.bool false) rfl ?_
  refine wpList_nil (then_n (wp_cond_false rfl (wp_seq (wp_region_lit ?_))))
  obtain ⟨p8, hp8⟩ : ∃ p, decide (((c : Nat) : Int) = 105) = p := ⟨_, rfl⟩
  refine sv 111 (.bool p8) (run_eq_k 5 .u8 _ _ _ rfl Try.underlying5 ((c : Nat) : Int) 105 rfl rfl p8 hp8 _) ?_
  refine nr ?_; intro U h; simp only [z0, z1] at h; subst h
  cases p8
  refine s_val _ rfl rfl (.bool false) rfl ?_
  refine wpList_nil (then_n (wp_cond_false rfl (wp_seq (wp_region_lit ?_))))
  obtain ⟨p9, hp9⟩ : ∃ p, decide (((c : Nat) : Int) = 107) = p := ⟨_, rfl⟩
  refine sv 128 (.bool p9) (run_eq_k 5 .u8 _ _ _ rfl Try.underlying5 ((c : Nat) : Int) 107 rfl rfl p9 hp9 _) ?_
  refine nr ?_; intro U h; simp only [z0, z1] at h; subst h
  cases p9
  refine s_val _ rfl rfl (.bool false) rfl ?_
  refine wpList_nil (then_n (wp_cond_false rfl (wp_seq (wp_region_lit ?_))))
  obtain ⟨p10, hp10⟩ : ∃ p, decide (((c : Nat) : Int) = 108) = p := ⟨_, rfl⟩
  refine sv 138 (.bool p10) (run_eq_k 5 .u8 _ _ _ rfl Try.underlying5 ((c : Nat) : Int) 108 rfl rfl p10 hp10 _) ?_
  refine nr ?_; intro U h; simp only [z0, z1] at h; subst h
  cases p10
  refine s_val _ rfl rfl (.bool false) rfl ?_
  refine wpList_nil (then_n (wp_cond_false rfl (wp_seq (wp_region_lit ?_))))
  obtain ⟨p11, hp11⟩ : ∃ p, decide (((c : Nat) : Int) = 111) = p := ⟨_, rfl⟩
  refine sv 151 (.bool p11) (run_eq_k 5 .u8 _ _ _ rfl Try.underlying5 ((c : Nat) : Int) 111 rfl rfl p11 hp11 _) ?_
  refine nr ?_; intro U h; simp only [z0, z1] at h; subst h
  cases p11
  refine s_val _ rfl rfl (.bool false) rfl ?_
  refine wpList_nil (then_n (wp_cond_false rfl (wp_seq (wp_region_lit ?_))))
  obtain ⟨p12, hp12⟩ : ∃ p, decide (((c : Nat) : Int) = 119) = p := ⟨_, rfl⟩
  refine sv 164 (.bool p12) (run_eq_k 5 .u8 _ _ _ rfl Try.underlying5 ((c : Nat) : Int) 119 rfl rfl p12 hp12 _) ?_
  refine nr ?_; intro U h; simp only [z0, z1] at h; subst h
  cases p12
  refine s_val _ rfl rfl (.bool false) rfl ?_
  refine wpList_nil (then_n (wp_cond_false rfl (wp_seq (wp_region_lit ?_))))
  obtain ⟨p13, hp13⟩ : ∃ p, decide (((c : Nat) : Int) = 120) = p := ⟨_, rfl⟩
  refine sv 177 (.bool p13) (run_eq_k 5 .u8 _ _ _ rfl Try.underlying5 ((c : Nat) : Int) 120 rfl rfl p13 hp13 _) ?_
  refine nr ?_; intro U h; simp only [z0, z1] at h; subst h
  cases p13
  refine s_val _ rfl rfl (.bool false) rfl ?_
  refine wpList_nil (then_n (wp_cond_false rfl (wp_seq (wp_region_lit ?_))))
  obtain ⟨p14, hp14⟩ : ∃ p, decide (((c : Nat) : Int) = 121) = p := ⟨_, rfl⟩
  refine sv 186 (.bool p14) (run_eq_k 5 .u8 _ _ _ rfl Try.underlying5 ((c : Nat) : Int) 121 rfl rfl p14 hp14 _) ?_
  refine nr ?_; intro U h; simp only [z0, z1] at h; subst h
  cases p14
  refine s_val _ rfl rfl (.bool false) rfl ?_
  refine wpList_nil (then_n (wp_cond_false rfl (wp_skip (blk_n (blk_n (then_n (wp_region_lit (mv 16 (.int .i64 ((i : Nat) : Int)) ?_))))))))
  refine nr ?_; intro U h; simp only [z0, z1] at h; subst h
  refine sv 17 (.int .i64 ((i + 1 : Nat) : Int)) (run_add64 _ _ _ rfl ((i : Nat) : Int) 1 _ rfl rfl (by omega) (by omega) (by omega) _) (mv 5 (.int .i64 ((i + 1 : Nat) : Int)) ?_)
  refine nr ?_; intro U h; simp only [z0, z1] at h; subst h
  refine wpList_nil (then_n ?_)
  have hnx : ok = okF f d F (i + 1) := by simp only [okF, hc, okc, ← hok, hp2, hp3, hp4, hp5, hp6, hp7, hp8, hp9, hp10, hp11, hp12, hp13, hp14, cond_false, Bool.and_true]
  exact ⟨_, (by omega : F.length - (i + 1) < F.length - i), i + 1, ok, usK ⟨hin, hnx, GG, kg1⟩⟩
  refine mv 185 (.bool true) (wpList_nil (then_n (wp_cond_true rfl ?_)))
  refine wp_region_opq ?_
  intro OPS hY
  have y1 := hY 1 188 rfl
  clear hY
  cases ok
  refine mv 187 (.bool false) ?_
  refine nr ?_; intro U h; simp only [z0, z1] at h; subst h
  refine mv 188 (.bool false) (s_skipY 189 rfl rfl y1 rfl ?_)
  refine nr ?_; intro U h; simp only [z0, z1] at h; subst h
  refine s_skipY 190 rfl rfl y1 rfl (s_skipY 191 rfl rfl y1 rfl ?_)
  refine nr ?_; intro U h; simp only [z0, z1] at h; subst h
  refine s_skipY 192 rfl rfl y1 rfl (mv 193 (.bool false) ?_)
  refine nr ?_; intro U h; simp only [z0, z1] at h; subst h
  refine mv 4 (.bool false) (wpList_nil (blk_n (blk_n (then_n (wp_region_lit (mv 16 (.int .i64 ((i : Nat) : Int)) ?_))))))
  refine nr ?_; intro U h; simp only [z0, z1] at h; subst h
  refine sv 17 (.int .i64 ((i + 1 : Nat) : Int)) (run_add64 _ _ _ rfl ((i : Nat) : Int) 1 _ rfl rfl (by omega) (by omega) (by omega) _) (mv 5 (.int .i64 ((i + 1 : Nat) : Int)) ?_)
  refine nr ?_; intro U h; simp only [z0, z1] at h; subst h
  refine wpList_nil (then_n ?_)
  have hnx : false = okF f d F (i + 1) := by simp only [okF, hc, okc, ← hok, hp2, hp3, hp4, hp5, hp6, hp7, hp8, hp9, hp10, hp11, hp12, hp13, hp14, cond_true, cond_false, Bool.false_and]
  exact ⟨_, (by omega : F.length - (i + 1) < F.length - i), i + 1, false, usK ⟨hin, hnx, GG, kg1⟩⟩
  refine mv 187 (.bool true) (mv 188 (.bool true) ?_)
  refine nr ?_; intro U h; simp only [z0, z1] at h; subst h
  refine s_gvalY 189 rfl rfl y1 rfl (.pointer (some ⟨g1, 94, none⟩)) (run_fld 36 _ 13 rfl _ _ rfl _) (s_gvalY 190 rfl rfl y1 rfl (.slice f.tx.ao f.tx.n f.tx.cap) (run_ldc 32 _ rfl g1 94 rfl 36 _ kg1 (na32 _) _ rfl) ?_)
  refine nr ?_; intro U h; simp only [z0, z1] at h; subst h
  refine s_gvalY 191 rfl rfl y1 rfl (.int .i64 ((f.tx.n : Nat) : Int)) (run_len Try.underlying32 _ rfl _ _ _ rfl _) ?_
  refine nr ?_; intro U h; simp only [z0, z1] at h; subst h
  obtain ⟨p15, hp15⟩ : ∃ p, decide (((f.tx.n : Nat) : Int) ≤ 64) = p := ⟨_, rfl⟩
  refine s_gvalY 192 rfl rfl y1 rfl (.bool p15) (run_leqT 3 _ _ _ rfl ((f.tx.n : Nat) : Int) 64 rfl rfl p15 hp15 _) ?_
  refine nr ?_; intro U h; simp only [z0, z1] at h; subst h
  cases p15
  refine s_val _ rfl rfl (.bool false) rfl ?_
  refine s_val _ rfl rfl (.bool false) rfl ?_
  refine nr ?_; intro U h; simp only [z0, z1] at h; subst h
  refine wpList_nil (blk_n (blk_n (then_n (wp_region_lit (mv 16 (.int .i64 ((i : Nat) : Int)) (sv 17 (.int .i64 ((i + 1 : Nat) : Int)) (run_add64 _ _ _ rfl ((i : Nat) : Int) 1 _ rfl rfl (by omega) (by omega) (by omega) _) ?_))))))
  refine nr ?_; intro U h; simp only [z0, z1] at h; subst h
  refine mv 5 (.int .i64 ((i + 1 : Nat) : Int)) (wpList_nil (then_n ?_))
  have hnx : false = okF f d F (i + 1) := by simp only [okF, hc, okc, ← hok, hp2, hp3, hp4, hp5, hp6, hp7, hp8, hp9, hp10, hp11, hp12, hp13, hp14, hp15, cond_true, cond_false, Bool.and_false]
  exact ⟨_, (by omega : F.length - (i + 1) < F.length - i), i + 1, false, usK ⟨hin, hnx, GG, kg1⟩⟩
  refine mv 193 (.bool true) ?_
  refine nr ?_; intro U h; simp only [z0, z1] at h; subst h
  refine mv 4 (.bool true) (wpList_nil (blk_n (blk_n (then_n (wp_region_lit (mv 16 (.int .i64 ((i : Nat) : Int)) ?_))))))
  refine nr ?_; intro U h; simp only [z0, z1] at h; subst h
  refine sv 17 (.int .i64 ((i + 1 : Nat) : Int)) (run_add64 _ _ _ rfl ((i : Nat) : Int) 1 _ rfl rfl (by omega) (by omega) (by omega) _) (mv 5 (.int .i64 ((i + 1 : Nat) : Int)) ?_)
  refine nr ?_; intro U h; simp only [z0, z1] at h; subst h
  refine wpList_nil (then_n ?_)
  have hnx : true = okF f d F (i + 1) := by simp only [okF, hc, okc, ← hok, hp2, hp3, hp4, hp5, hp6, hp7, hp8, hp9, hp10, hp11, hp12, hp13, hp14, hp15, cond_true, cond_false, Bool.and_true]
  exact ⟨_, (by omega : F.length - (i + 1) < F.length - i), i + 1, true, usK ⟨hin, hnx, GG, kg1⟩⟩
  refine mv 176 (.bool true) (wpList_nil (then_n (wp_cond_true rfl ?_)))
  refine wp_region_opq ?_
  intro OPS hY
  have y1 := hY 1 179 rfl
  clear hY
  cases ok
  refine mv 178 (.bool false) ?_
  refine nr ?_; intro U h; simp only [z0, z1] at h; subst h
  refine mv 179 (.bool false) (s_skipY 180 rfl rfl y1 rfl ?_)
  refine nr ?_; intro U h; simp only [z0, z1] at h; subst h
  refine s_skipY 181 rfl rfl y1 rfl (s_skipY 182 rfl rfl y1 rfl ?_)
  refine nr ?_; intro U h; simp only [z0, z1] at h; subst h
  refine s_skipY 183 rfl rfl y1 rfl (mv 184 (.bool false) ?_)
  refine nr ?_; intro U h; simp only [z0, z1] at h; subst h
  refine mv 4 (.bool false) (wpList_nil (blk_n (blk_n (then_n (wp_region_lit (mv 16 (.int .i64 ((i : Nat) : Int)) ?_))))))
  refine nr ?_; intro U h; simp only [z0, z1] at h; subst h
  refine sv 17 (.int .i64 ((i + 1 : Nat) : Int)) (run_add64 _ _ _ rfl ((i : Nat) : Int) 1 _ rfl rfl (by omega) (by omega) (by omega) _) (mv 5 (.int .i64 ((i + 1 : Nat) : Int)) ?_)
  refine nr ?_; intro U h; simp only [z0, z1] at h; subst h
  refine wpList_nil (then_n ?_)
  have hnx : false = okF f d F (i + 1) := by simp only [okF, hc, okc, ← hok, hp2, hp3, hp4, hp5, hp6, hp7, hp8, hp9, hp10, hp11, hp12, hp13, cond_true, cond_false, Bool.false_and]
  exact ⟨_, (by omega : F.length - (i + 1) < F.length - i), i + 1, false, usK ⟨hin, hnx, GG, kg1⟩⟩
  refine mv 178 (.bool true) (mv 179 (.bool true) ?_)
  refine nr ?_; intro U h; simp only [z0, z1] at h; subst h
  refine s_gvalY 180 rfl rfl y1 rfl (.pointer (some ⟨g1, 94, none⟩)) (run_fld 36 _ 13 rfl _ _ rfl _) (s_gvalY 181 rfl rfl y1 rfl (.slice f.tx.ao f.tx.n f.tx.cap) (run_ldc 32 _ rfl g1 94 rfl 36 _ kg1 (na32 _) _ rfl) ?_)
  refine nr ?_; intro U h; simp only [z0, z1] at h; subst h
  refine s_gvalY 182 rfl rfl y1 rfl (.int .i64 ((f.tx.n : Nat) : Int)) (run_len Try.underlying32 _ rfl _ _ _ rfl _) ?_
  refine nr ?_; intro U h; simp only [z0, z1] at h; subst h
  obtain ⟨p14, hp14⟩ : ∃ p, decide (((f.tx.n : Nat) : Int) ≤ 4096) = p := ⟨_, rfl⟩
  refine s_gvalY 183 rfl rfl y1 rfl (.bool p14) (run_leqT 3 _ _ _ rfl ((f.tx.n : Nat) : Int) 4096 rfl rfl p14 hp14 _) ?_
  refine nr ?_; intro U h; simp only [z0, z1] at h; subst h
  cases p14
  refine s_val _ rfl rfl (.bool false) rfl ?_
  refine s_val _ rfl rfl (.bool false) rfl ?_
  refine nr ?_; intro U h; simp only [z0, z1] at h; subst h
  refine wpList_nil (blk_n (blk_n (then_n (wp_region_lit (mv 16 (.int .i64 ((i : Nat) : Int)) (sv 17 (.int .i64 ((i + 1 : Nat) : Int)) (run_add64 _ _ _ rfl ((i : Nat) : Int) 1 _ rfl rfl (by omega) (by omega) (by omega) _) ?_))))))
  refine nr ?_; intro U h; simp only [z0, z1] at h; subst h
  refine mv 5 (.int .i64 ((i + 1 : Nat) : Int)) (wpList_nil (then_n ?_))
  have hnx : false = okF f d F (i + 1) := by simp only [okF, hc, okc, ← hok, hp2, hp3, hp4, hp5, hp6, hp7, hp8, hp9, hp10, hp11, hp12, hp13, hp14, cond_true, cond_false, Bool.and_false]
  exact ⟨_, (by omega : F.length - (i + 1) < F.length - i), i + 1, false, usK ⟨hin, hnx, GG, kg1⟩⟩
  refine mv 184 (.bool true) ?_
  refine nr ?_; intro U h; simp only [z0, z1] at h; subst h
  refine mv 4 (.bool true) (wpList_nil (blk_n (blk_n (then_n (wp_region_lit (mv 16 (.int .i64 ((i : Nat) : Int)) ?_))))))
  refine nr ?_; intro U h; simp only [z0, z1] at h; subst h
  refine sv 17 (.int .i64 ((i + 1 : Nat) : Int)) (run_add64 _ _ _ rfl ((i : Nat) : Int) 1 _ rfl rfl (by omega) (by omega) (by omega) _) (mv 5 (.int .i64 ((i + 1 : Nat) : Int)) ?_)
  refine nr ?_; intro U h; simp only [z0, z1] at h; subst h
  refine wpList_nil (then_n ?_)
  have hnx : true = okF f d F (i + 1) := by simp only [okF, hc, okc, ← hok, hp2, hp3, hp4, hp5, hp6, hp7, hp8, hp9, hp10, hp11, hp12, hp13, hp14, cond_true, cond_false, Bool.and_true]
  exact ⟨_, (by omega : F.length - (i + 1) < F.length - i), i + 1, true, usK ⟨hin, hnx, GG, kg1⟩⟩
  refine mv 163 (.bool true) (wpList_nil (then_n (wp_cond_true rfl ?_)))
  refine wp_region_opq ?_
  intro OPS hY
  have y1 := hY 1 166 rfl
  have y6 := hY 6 171 rfl
  clear hY
  cases ok
  refine mv 165 (.bool false) ?_
  refine nr ?_; intro U h; simp only [z0, z1] at h; subst h
  refine mv 166 (.bool false) (s_skipY 167 rfl rfl y1 rfl ?_)
  refine nr ?_; intro U h; simp only [z0, z1] at h; subst h
  refine s_skipY 168 rfl rfl y1 rfl (s_skipY 169 rfl rfl y1 rfl ?_)
  refine nr ?_; intro U h; simp only [z0, z1] at h; subst h
  refine mv 170 (.bool false) (mv 171 (.bool false) ?_)
  refine nr ?_; intro U h; simp only [z0, z1] at h; subst h
  refine s_skipY 172 rfl rfl y6 rfl (s_skipY 173 rfl rfl y6 rfl ?_)
  refine nr ?_; intro U h; simp only [z0, z1] at h; subst h
  refine s_skipY 174 rfl rfl y6 rfl (mv 175 (.bool false) ?_)
  refine nr ?_; intro U h; simp only [z0, z1] at h; subst h
  refine mv 4 (.bool false) (wpList_nil (blk_n (blk_n (then_n (wp_region_lit (mv 16 (.int .i64 ((i : Nat) : Int)) ?_))))))
  refine nr ?_; intro U h; simp only [z0, z1] at h; subst h
  refine sv 17 (.int .i64 ((i + 1 : Nat) : Int)) (run_add64 _ _ _ rfl ((i : Nat) : Int) 1 _ rfl rfl (by omega) (by omega) (by omega) _) (mv 5 (.int .i64 ((i + 1 : Nat) : Int)) ?_)
  refine nr ?_; intro U h; simp only [z0, z1] at h; subst h
  refine wpList_nil (then_n ?_)
  have hnx : false = okF f d F (i + 1) := by simp only [okF, hc, okc, ← hok, hp2, hp3, hp4, hp5, hp6, hp7, hp8, hp9, hp10, hp11, hp12, cond_true, cond_false, Bool.false_and]
  exact ⟨_, (by omega : F.length - (i + 1) < F.length - i), i + 1, false, usK ⟨hin, hnx, GG, kg1⟩⟩
  refine mv 165 (.bool true) (mv 166 (.bool true) ?_)
  refine nr ?_; intro U h; simp only [z0, z1] at h; subst h
  refine s_gvalY 167 rfl rfl y1 rfl (.pointer (some ⟨g1, 93, none⟩)) (run_fld 36 _ 12 rfl _ _ rfl _) (s_gvalY 168 rfl rfl y1 rfl (.int .i64 f.ttl) (run_ldc 3 _ rfl g1 93 rfl 36 _ kg1 (na3 _) _ rfl) ?_)
  refine nr ?_; intro U h; simp only [z0, z1] at h; subst h
  obtain ⟨p13, hp13⟩ : ∃ p, decide (0 ≤ f.ttl) = p := ⟨_, rfl⟩
  refine s_gvalY 169 rfl rfl y1 rfl (.bool p13) (run_geqT 3 _ _ _ rfl f.ttl 0 rfl rfl p13 hp13 _) ?_
  refine nr ?_; intro U h; simp only [z0, z1] at h; subst h
  cases p13
  refine s_val _ rfl rfl (.bool false) rfl ?_
  refine s_val _ rfl rfl (.bool false) rfl ?_
  refine nr ?_; intro U h; simp only [z0, z1] at h; subst h
  iterate 3 (refine s_skipY _ rfl rfl y6 rfl ?_; refine nr ?_; intro U h; simp only [z0, z1] at h; subst h)
  refine s_val _ rfl rfl (.bool false) rfl ?_
  refine s_val _ rfl rfl (.bool false) rfl ?_
  refine nr ?_; intro U h; simp only [z0, z1] at h; subst h
  refine wpList_nil (blk_n (blk_n (then_n (wp_region_lit (mv 16 (.int .i64 ((i : Nat) : Int)) (sv 17 (.int .i64 ((i + 1 : Nat) : Int)) (run_add64 _ _ _ rfl ((i : Nat) : Int) 1 _ rfl rfl (by omega) (by omega) (by omega) _) ?_))))))
  refine nr ?_; intro U h; simp only [z0, z1] at h; subst h
  refine mv 5 (.int .i64 ((i + 1 : Nat) : Int)) (wpList_nil (then_n ?_))
  have hnx : false = okF f d F (i + 1) := by simp only [okF, hc, okc, ← hok, hp2, hp3, hp4, hp5, hp6, hp7, hp8, hp9, hp10, hp11, hp12, hp13, cond_true, cond_false, Bool.and_false, Bool.false_and]
  exact ⟨_, (by omega : F.length - (i + 1) < F.length - i), i + 1, false, usK ⟨hin, hnx, GG, kg1⟩⟩
  refine mv 170 (.bool true) ?_
  refine nr ?_; intro U h; simp only [z0, z1] at h; subst h
  refine mv 171 (.bool true) (s_gvalY 172 rfl rfl y6 rfl (.pointer (some ⟨g1, 93, none⟩)) (run_fld 36 _ 12 rfl _ _ rfl _) ?_)
  refine nr ?_; intro U h; simp only [z0, z1] at h; subst h
  refine s_gvalY 173 rfl rfl y6 rfl (.int .i64 f.ttl) (run_ldc 3 _ rfl g1 93 rfl 36 _ kg1 (na3 _) _ rfl) ?_
  refine nr ?_; intro U h; simp only [z0, z1] at h; subst h
  obtain ⟨p14, hp14⟩ : ∃ p, decide (f.ttl ≤ 64) = p := ⟨_, rfl⟩
  refine s_gvalY 174 rfl rfl y6 rfl (.bool p14) (run_leqT 3 _ _ _ rfl f.ttl 64 rfl rfl p14 hp14 _) ?_
  refine nr ?_; intro U h; simp only [z0, z1] at h; subst h
  cases p14
  refine s_val _ rfl rfl (.bool false) rfl ?_
  refine s_val _ rfl rfl (.bool false) rfl ?_
  refine nr ?_; intro U h; simp only [z0, z1] at h; subst h
  refine wpList_nil (blk_n (blk_n (then_n (wp_region_lit (mv 16 (.int .i64 ((i : Nat) : Int)) (sv 17 (.int .i64 ((i + 1 : Nat) : Int)) (run_add64 _ _ _ rfl ((i : Nat) : Int) 1 _ rfl rfl (by omega) (by omega) (by omega) _) ?_))))))
  refine nr ?_; intro U h; simp only [z0, z1] at h; subst h
  refine mv 5 (.int .i64 ((i + 1 : Nat) : Int)) (wpList_nil (then_n ?_))
  have hnx : false = okF f d F (i + 1) := by simp only [okF, hc, okc, ← hok, hp2, hp3, hp4, hp5, hp6, hp7, hp8, hp9, hp10, hp11, hp12, hp13, hp14, cond_true, cond_false, Bool.and_false]
  exact ⟨_, (by omega : F.length - (i + 1) < F.length - i), i + 1, false, usK ⟨hin, hnx, GG, kg1⟩⟩
  refine mv 175 (.bool true) ?_
  refine nr ?_; intro U h; simp only [z0, z1] at h; subst h
  refine mv 4 (.bool true) (wpList_nil (blk_n (blk_n (then_n (wp_region_lit (mv 16 (.int .i64 ((i : Nat) : Int)) ?_))))))
  refine nr ?_; intro U h; simp only [z0, z1] at h; subst h
  refine sv 17 (.int .i64 ((i + 1 : Nat) : Int)) (run_add64 _ _ _ rfl ((i : Nat) : Int) 1 _ rfl rfl (by omega) (by omega) (by omega) _) (mv 5 (.int .i64 ((i + 1 : Nat) : Int)) ?_)
  refine nr ?_; intro U h; simp only [z0, z1] at h; subst h
  refine wpList_nil (then_n ?_)
  have hnx : true = okF f d F (i + 1) := by simp only [okF, hc, okc, ← hok, hp2, hp3, hp4, hp5, hp6, hp7, hp8, hp9, hp10, hp11, hp12, hp13, hp14, cond_true, cond_false, Bool.and_true]
  exact ⟨_, (by omega : F.length - (i + 1) < F.length - i), i + 1, true, usK ⟨hin, hnx, GG, kg1⟩⟩
  refine mv 150 (.bool true) (wpList_nil (then_n (wp_cond_true rfl ?_)))
  refine wp_region_opq ?_
  intro OPS hY
  have y1 := hY 1 153 rfl
  have y6 := hY 6 158 rfl
  clear hY
  cases ok
  refine mv 152 (.bool false) ?_
  refine nr ?_; intro U h; simp only [z0, z1] at h; subst h
  refine mv 153 (.bool false) (s_skipY 154 rfl rfl y1 rfl ?_)
  refine nr ?_; intro U h; simp only [z0, z1] at h; subst h
  refine s_skipY 155 rfl rfl y1 rfl (s_skipY 156 rfl rfl y1 rfl ?_)
  refine nr ?_; intro U h; simp only [z0, z1] at h; subst h
  refine mv 157 (.bool false) (mv 158 (.bool false) ?_)
  refine nr ?_; intro U h; simp only [z0, z1] at h; subst h
  refine s_skipY 159 rfl rfl y6 rfl (s_skipY 160 rfl rfl y6 rfl ?_)
  refine nr ?_; intro U h; simp only [z0, z1] at h; subst h
  refine s_skipY 161 rfl rfl y6 rfl (mv 162 (.bool false) ?_)
  refine nr ?_; intro U h; simp only [z0, z1] at h; subst h
  refine mv 4 (.bool false) (wpList_nil (blk_n (blk_n (then_n (wp_region_lit (mv 16 (.int .i64 ((i : Nat) : Int)) ?_))))))
  refine nr ?_; intro U h; simp only [z0, z1] at h; subst h
  refine sv 17 (.int .i64 ((i + 1 : Nat) : Int)) (run_add64 _ _ _ rfl ((i : Nat) : Int) 1 _ rfl rfl (by omega) (by omega) (by omega) _) (mv 5 (.int .i64 ((i + 1 : Nat) : Int)) ?_)
  refine nr ?_; intro U h; simp only [z0, z1] at h; subst h
  refine wpList_nil (then_n ?_)
  have hnx : false = okF f d F (i + 1) := by simp only [okF, hc, okc, ← hok, hp2, hp3, hp4, hp5, hp6, hp7, hp8, hp9, hp10, hp11, cond_true, cond_false, Bool.false_and]
  exact ⟨_, (by omega : F.length - (i + 1) < F.length - i), i + 1, false, usK ⟨hin, hnx, GG, kg1⟩⟩
  refine mv 152 (.bool true) (mv 153 (.bool true) ?_)
  refine nr ?_; intro U h; simp only [z0, z1] at h; subst h
  refine s_gvalY 154 rfl rfl y1 rfl (.pointer (some ⟨g1, 92, none⟩)) (run_fld 36 _ 11 rfl _ _ rfl _) (s_gvalY 155 rfl rfl y1 rfl (.int .i64 f.op) (run_ldc 3 _ rfl g1 92 rfl 36 _ kg1 (na3 _) _ rfl) ?_)
  refine nr ?_; intro U h; simp only [z0, z1] at h; subst h
  obtain ⟨p12, hp12⟩ : ∃ p, decide (1 ≤ f.op) = p := ⟨_, rfl⟩
  refine s_gvalY 156 rfl rfl y1 rfl (.bool p12) (run_geqT 3 _ _ _ rfl f.op 1 rfl rfl p12 hp12 _) ?_
  refine nr ?_; intro U h; simp only [z0, z1] at h; subst h
  cases p12
  refine s_val _ rfl rfl (.bool false) rfl ?_
  refine s_val _ rfl rfl (.bool false) rfl ?_
  refine nr ?_; intro U h; simp only [z0, z1] at h; subst h
  iterate 3 (refine s_skipY _ rfl rfl y6 rfl ?_; refine nr ?_; intro U h; simp only [z0, z1] at h; subst h)
  refine s_val _ rfl rfl (.bool false) rfl ?_
  refine s_val _ rfl rfl (.bool false) rfl ?_
  refine nr ?_; intro U h; simp only [z0, z1] at h; subst h
  refine wpList_nil (blk_n (blk_n (then_n (wp_region_lit (mv 16 (.int .i64 ((i : Nat) : Int)) (sv 17 (.int .i64 ((i + 1 : Nat) : Int)) (run_add64 _ _ _ rfl ((i : Nat) : Int) 1 _ rfl rfl (by omega) (by omega) (by omega) _) ?_))))))
  refine nr ?_; intro U h; simp only [z0, z1] at h; subst h
  refine mv 5 (.int .i64 ((i + 1 : Nat) : Int)) (wpList_nil (then_n ?_))
  have hnx : false = okF f d F (i + 1) := by simp only [okF, hc, okc, ← hok, hp2, hp3, hp4, hp5, hp6, hp7, hp8, hp9, hp10, hp11, hp12, cond_true, cond_false, Bool.and_false, Bool.false_and]
  exact ⟨_, (by omega : F.length - (i + 1) < F.length - i), i + 1, false, usK ⟨hin, hnx, GG, kg1⟩⟩
  refine mv 157 (.bool true) ?_
  refine nr ?_; intro U h; simp only [z0, z1] at h; subst h
  refine mv 158 (.bool true) (s_gvalY 159 rfl rfl y6 rfl (.pointer (some ⟨g1, 92, none⟩)) (run_fld 36 _ 11 rfl _ _ rfl _) ?_)
  refine nr ?_; intro U h; simp only [z0, z1] at h; subst h
  refine s_gvalY 160 rfl rfl y6 rfl (.int .i64 f.op) (run_ldc 3 _ rfl g1 92 rfl 36 _ kg1 (na3 _) _ rfl) ?_
  refine nr ?_; intro U h; simp only [z0, z1] at h; subst h
  obtain ⟨p13, hp13⟩ : ∃ p, decide (f.op ≤ 4) = p := ⟨_, rfl⟩
  refine s_gvalY 161 rfl rfl y6 rfl (.bool p13) (run_leqT 3 _ _ _ rfl f.op 4 rfl rfl p13 hp13 _) ?_
  refine nr ?_; intro U h; simp only [z0, z1] at h; subst h
  cases p13
  refine s_val _ rfl rfl (.bool false) rfl ?_
  refine s_val _ rfl rfl (.bool false) rfl ?_
  refine nr ?_; intro U h; simp only [z0, z1] at h; subst h
  refine wpList_nil (blk_n (blk_n (then_n (wp_region_lit (mv 16 (.int .i64 ((i : Nat) : Int)) (sv 17 (.int .i64 ((i + 1 : Nat) : Int)) (run_add64 _ _ _ rfl ((i : Nat) : Int) 1 _ rfl rfl (by omega) (by omega) (by omega) _) ?_))))))
  refine nr ?_; intro U h; simp only [z0, z1] at h; subst h
  refine mv 5 (.int .i64 ((i + 1 : Nat) : Int)) (wpList_nil (then_n ?_))
  have hnx : false = okF f d F (i + 1) := by simp only [okF, hc, okc, ← hok, hp2, hp3, hp4, hp5, hp6, hp7, hp8, hp9, hp10, hp11, hp12, hp13, cond_true, cond_false, Bool.and_false]
  exact ⟨_, (by omega : F.length - (i + 1) < F.length - i), i + 1, false, usK ⟨hin, hnx, GG, kg1⟩⟩
  refine mv 162 (.bool true) ?_
  refine nr ?_; intro U h; simp only [z0, z1] at h; subst h
  refine mv 4 (.bool true) (wpList_nil (blk_n (blk_n (then_n (wp_region_lit (mv 16 (.int .i64 ((i : Nat) : Int)) ?_))))))
  refine nr ?_; intro U h; simp only [z0, z1] at h; subst h
  refine sv 17 (.int .i64 ((i + 1 : Nat) : Int)) (run_add64 _ _ _ rfl ((i : Nat) : Int) 1 _ rfl rfl (by omega) (by omega) (by omega) _) (mv 5 (.int .i64 ((i + 1 : Nat) : Int)) ?_)
  refine nr ?_; intro U h; simp only [z0, z1] at h; subst h
  refine wpList_nil (then_n ?_)
  have hnx : true = okF f d F (i + 1) := by simp only [okF, hc, okc, ← hok, hp2, hp3, hp4, hp5, hp6, hp7, hp8, hp9, hp10, hp11, hp12, hp13, cond_true, cond_false, Bool.and_true]
  exact ⟨_, (by omega : F.length - (i + 1) < F.length - i), i + 1, true, usK ⟨hin, hnx, GG, kg1⟩⟩
  refine mv 137 (.bool true) (wpList_nil (then_n (wp_cond_true rfl ?_)))
  refine wp_region_opq ?_
  intro OPS hY
  have y1 := hY 1 140 rfl
  have y6 := hY 6 145 rfl
  clear hY
  cases ok
  refine mv 139 (.bool false) ?_
  refine nr ?_; intro U h; simp only [z0, z1] at h; subst h
  refine mv 140 (.bool false) (s_skipY 141 rfl rfl y1 rfl ?_)
  refine nr ?_; intro U h; simp only [z0, z1] at h; subst h
  refine s_skipY 142 rfl rfl y1 rfl (s_skipY 143 rfl rfl y1 rfl ?_)
  refine nr ?_; intro U h; simp only [z0, z1] at h; subst h
  refine mv 144 (.bool false) (mv 145 (.bool false) ?_)
  refine nr ?_; intro U h; simp only [z0, z1] at h; subst h
  refine s_skipY 146 rfl rfl y6 rfl (s_skipY 147 rfl rfl y6 rfl ?_)
  refine nr ?_; intro U h; simp only [z0, z1] at h; subst h
  refine s_skipY 148 rfl rfl y6 rfl (mv 149 (.bool false) ?_)
  refine nr ?_; intro U h; simp only [z0, z1] at h; subst h
  refine mv 4 (.bool false) (wpList_nil (blk_n (blk_n (then_n (wp_region_lit (mv 16 (.int .i64 ((i : Nat) : Int)) ?_))))))
  refine nr ?_; intro U h; simp only [z0, z1] at h; subst h
  refine sv 17 (.int .i64 ((i + 1 : Nat) : Int)) (run_add64 _ _ _ rfl ((i : Nat) : Int) 1 _ rfl rfl (by omega) (by omega) (by omega) _) (mv 5 (.int .i64 ((i + 1 : Nat) : Int)) ?_)
  refine nr ?_; intro U h; simp only [z0, z1] at h; subst h
  refine wpList_nil (then_n ?_)
  have hnx : false = okF f d F (i + 1) := by simp only [okF, hc, okc, ← hok, hp2, hp3, hp4, hp5, hp6, hp7, hp8, hp9, hp10, cond_true, cond_false, Bool.false_and]
  exact ⟨_, (by omega : F.length - (i + 1) < F.length - i), i + 1, false, usK ⟨hin, hnx, GG, kg1⟩⟩
  refine mv 139 (.bool true) (mv 140 (.bool true) ?_)
  refine nr ?_; intro U h; simp only [z0, z1] at h; subst h
  refine s_gvalY 141 rfl rfl y1 rfl (.pointer (some ⟨g1, 92, none⟩)) (run_fld 36 _ 11 rfl _ _ rfl _) (s_gvalY 142 rfl rfl y1 rfl (.int .i64 f.op) (run_ldc 3 _ rfl g1 92 rfl 36 _ kg1 (na3 _) _ rfl) ?_)
  refine nr ?_; intro U h; simp only [z0, z1] at h; subst h
  obtain ⟨p11, hp11⟩ : ∃ p, decide (0 ≤ f.op) = p := ⟨_, rfl⟩
  refine s_gvalY 143 rfl rfl y1 rfl (.bool p11) (run_geqT 3 _ _ _ rfl f.op 0 rfl rfl p11 hp11 _) ?_
  refine nr ?_; intro U h; simp only [z0, z1] at h; subst h
  cases p11
  refine s_val _ rfl rfl (.bool false) rfl ?_
  refine s_val _ rfl rfl (.bool false) rfl ?_
  refine nr ?_; intro U h; simp only [z0, z1] at h; subst h
  iterate 3 (refine s_skipY _ rfl rfl y6 rfl ?_; refine nr ?_; intro U h; simp only [z0, z1] at h; subst h)
  refine s_val _ rfl rfl (.bool false) rfl ?_
  refine s_val _ rfl rfl (.bool false) rfl ?_
  refine nr ?_; intro U h; simp only [z0, z1] at h; subst h
  refine wpList_nil (blk_n (blk_n (then_n (wp_region_lit (mv 16 (.int .i64 ((i : Nat) : Int)) (sv 17 (.int .i64 ((i + 1 : Nat) : Int)) (run_add64 _ _ _ rfl ((i : Nat) : Int) 1 _ rfl rfl (by omega) (by omega) (by omega) _) ?_))))))
  refine nr ?_; intro U h; simp only [z0, z1] at h; subst h
  refine mv 5 (.int .i64 ((i + 1 : Nat) : Int)) (wpList_nil (then_n ?_))
  have hnx : false = okF f d F (i + 1) := by simp only [okF, hc, okc, ← hok, hp2, hp3, hp4, hp5, hp6, hp7, hp8, hp9, hp10, hp11, cond_true, cond_false, Bool.and_false, Bool.false_and]
  exact ⟨_, (by omega : F.length - (i + 1) < F.length - i), i + 1, false, usK ⟨hin, hnx, GG, kg1⟩⟩
  refine mv 144 (.bool true) ?_
  refine nr ?_; intro U h; simp only [z0, z1] at h; subst h
  refine mv 145 (.bool true) (s_gvalY 146 rfl rfl y6 rfl (.pointer (some ⟨g1, 92, none⟩)) (run_fld 36 _ 11 rfl _ _ rfl _) ?_)
  refine nr ?_; intro U h; simp only [z0, z1] at h; subst h
  refine s_gvalY 147 rfl rfl y6 rfl (.int .i64 f.op) (run_ldc 3 _ rfl g1 92 rfl 36 _ kg1 (na3 _) _ rfl) ?_
  refine nr ?_; intro U h; simp only [z0, z1] at h; subst h
  obtain ⟨p12, hp12⟩ : ∃ p, decide (f.op ≤ 3) = p := ⟨_, rfl⟩
  refine s_gvalY 148 rfl rfl y6 rfl (.bool p12) (run_leqT 3 _ _ _ rfl f.op 3 rfl rfl p12 hp12 _) ?_
  refine nr ?_; intro U h; simp only [z0, z1] at h; subst h
  cases p12
  refine s_val _ rfl rfl (.bool false) rfl ?_
  refine s_val _ rfl rfl (.bool false) rfl ?_
  refine nr ?_; intro U h; simp only [z0, z1] at h; subst h
  refine wpList_nil (blk_n (blk_n (then_n (wp_region_lit (mv 16 (.int .i64 ((i : Nat) : Int)) (sv 17 (.int .i64 ((i + 1 : Nat) : Int)) (run_add64 _ _ _ rfl ((i : Nat) : Int) 1 _ rfl rfl (by omega) (by omega) (by omega) _) ?_))))))
  refine nr ?_; intro U h; simp only [z0, z1] at h; subst h
  refine mv 5 (.int .i64 ((i + 1 : Nat) : Int)) (wpList_nil (then_n ?_))
  have hnx : false = okF f d F (i + 1) := by simp only [okF, hc, okc, ← hok, hp2, hp3, hp4, hp5, hp6, hp7, hp8, hp9, hp10, hp11, hp12, cond_true, cond_false, Bool.and_false]
  exact ⟨_, (by omega : F.length - (i + 1) < F.length - i), i + 1, false, usK ⟨hin, hnx, GG, kg1⟩⟩
  refine mv 149 (.bool true) ?_
  refine nr ?_; intro U h; simp only [z0, z1] at h; subst h
  refine mv 4 (.bool true) (wpList_nil (blk_n (blk_n (then_n (wp_region_lit (mv 16 (.int .i64 ((i : Nat) : Int)) ?_))))))
  refine nr ?_; intro U h; simp only [z0, z1] at h; subst h
  refine sv 17 (.int .i64 ((i + 1 : Nat) : Int)) (run_add64 _ _ _ rfl ((i : Nat) : Int) 1 _ rfl rfl (by omega) (by omega) (by omega) _) (mv 5 (.int .i64 ((i + 1 : Nat) : Int)) ?_)
  refine nr ?_; intro U h; simp only [z0, z1] at h; subst h
  refine wpList_nil (then_n ?_)
  have hnx : true = okF f d F (i + 1) := by simp only [okF, hc, okc, ← hok, hp2, hp3, hp4, hp5, hp6, hp7, hp8, hp9, hp10, hp11, hp12, cond_true, cond_false, Bool.and_true]
  exact ⟨_, (by omega : F.length - (i + 1) < F.length - i), i + 1, true, usK ⟨hin, hnx, GG, kg1⟩⟩
  refine mv 127 (.bool true) (wpList_nil (then_n (wp_cond_true rfl ?_)))
  refine wp_region_opq ?_
  intro OPS hY
  have y1 := hY 1 130 rfl
  clear hY
  cases ok
  refine mv 129 (.bool false) ?_
  refine nr ?_; intro U h; simp only [z0, z1] at h; subst h
  refine mv 130 (.bool false) (s_skipY 131 rfl rfl y1 rfl ?_)
  refine nr ?_; intro U h; simp only [z0, z1] at h; subst h
  refine s_skipY 132 rfl rfl y1 rfl (s_skipY 133 rfl rfl y1 rfl ?_)
  refine nr ?_; intro U h; simp only [z0, z1] at h; subst h
  refine s_skipY 134 rfl rfl y1 rfl (s_skipY 135 rfl rfl y1 rfl ?_)
  refine nr ?_; intro U h; simp only [z0, z1] at h; subst h
  refine mv 136 (.bool false) (mv 4 (.bool false) ?_)
  refine nr ?_; intro U h; simp only [z0, z1] at h; subst h
  refine wpList_nil (blk_n (blk_n (then_n (wp_region_lit (mv 16 (.int .i64 ((i : Nat) : Int)) (sv 17 (.int .i64 ((i + 1 : Nat) : Int)) (run_add64 _ _ _ rfl ((i : Nat) : Int) 1 _ rfl rfl (by omega) (by omega) (by omega) _) ?_))))))
  refine nr ?_; intro U h; simp only [z0, z1] at h; subst h
  refine mv 5 (.int .i64 ((i + 1 : Nat) : Int)) (wpList_nil (then_n ?_))
  have hnx : false = okF f d F (i + 1) := by simp only [okF, hc, okc, ← hok, hp2, hp3, hp4, hp5, hp6, hp7, hp8, hp9, cond_true, cond_false, Bool.false_and]
  exact ⟨_, (by omega : F.length - (i + 1) < F.length - i), i + 1, false, usK ⟨hin, hnx, GG, kg1⟩⟩
  refine mv 129 (.bool true) ?_
  refine nr ?_; intro U h; simp only [z0, z1] at h; subst h
  refine mv 130 (.bool true) (s_gvalY 131 rfl rfl y1 rfl (.pointer (some ⟨g1, 58, none⟩)) (run_fld 36 _ 10 rfl _ _ rfl _) ?_)
  refine nr ?_; intro U h; simp only [z0, z1] at h; subst h
  refine s_gvalY 132 rfl rfl y1 rfl (.pointer (some ⟨g1, 74, none⟩)) (run_fld 34 _ 1 rfl _ _ rfl _) (s_gvalY 133 rfl rfl y1 rfl (.pointer (some ⟨g1, 74, none⟩)) (run_fld 31 _ 0 rfl _ _ rfl _) ?_)
  refine nr ?_; intro U h; simp only [z0, z1] at h; subst h
  refine s_gvalY 134 rfl rfl y1 rfl (.int .i64 f.vn) (run_ldc 2 _ rfl g1 74 rfl 36 _ kg1 (na2 _) _ rfl) ?_
  refine nr ?_; intro U h; simp only [z0, z1] at h; subst h
  obtain ⟨p10, hp10⟩ : ∃ p, decide (0 ≤ f.vn) = p := ⟨_, rfl⟩
  refine s_gvalY 135 rfl rfl y1 rfl (.bool p10) (run_geqT 2 _ _ _ rfl f.vn 0 rfl rfl p10 hp10 _) ?_
  refine nr ?_; intro U h; simp only [z0, z1] at h; subst h
  cases p10
  refine s_val _ rfl rfl (.bool false) rfl ?_
  refine s_val _ rfl rfl (.bool false) rfl ?_
  refine nr ?_; intro U h; simp only [z0, z1] at h; subst h
  refine wpList_nil (blk_n (blk_n (then_n (wp_region_lit (mv 16 (.int .i64 ((i : Nat) : Int)) (sv 17 (.int .i64 ((i + 1 : Nat) : Int)) (run_add64 _ _ _ rfl ((i : Nat) : Int) 1 _ rfl rfl (by omega) (by omega) (by omega) _) ?_))))))
  refine nr ?_; intro U h; simp only [z0, z1] at h; subst h
  refine mv 5 (.int .i64 ((i + 1 : Nat) : Int)) (wpList_nil (then_n ?_))
  have hnx : false = okF f d F (i + 1) := by simp only [okF, hc, okc, ← hok, hp2, hp3, hp4, hp5, hp6, hp7, hp8, hp9, hp10, cond_true, cond_false, Bool.and_false, Bool.false_and]
  exact ⟨_, (by omega : F.length - (i + 1) < F.length - i), i + 1, false, usK ⟨hin, hnx, GG, kg1⟩⟩
  refine mv 136 (.bool true) ?_
  refine nr ?_; intro U h; simp only [z0, z1] at h; subst h
  refine mv 4 (.bool true) (wpList_nil (blk_n (blk_n (then_n (wp_region_lit (mv 16 (.int .i64 ((i : Nat) : Int)) ?_))))))
  refine nr ?_; intro U h; simp only [z0, z1] at h; subst h
  refine sv 17 (.int .i64 ((i + 1 : Nat) : Int)) (run_add64 _ _ _ rfl ((i : Nat) : Int) 1 _ rfl rfl (by omega) (by omega) (by omega) _) (mv 5 (.int .i64 ((i + 1 : Nat) : Int)) ?_)
  refine nr ?_; intro U h; simp only [z0, z1] at h; subst h
  refine wpList_nil (then_n ?_)
  have hnx : true = okF f d F (i + 1) := by simp only [okF, hc, okc, ← hok, hp2, hp3, hp4, hp5, hp6, hp7, hp8, hp9, hp10, cond_true, cond_false, Bool.and_true, Bool.true_and]
  exact ⟨_, (by omega : F.length - (i + 1) < F.length - i), i + 1, true, usK ⟨hin, hnx, GG, kg1⟩⟩
  refine mv 110 (.bool true) (wpList_nil (then_n (wp_cond_true rfl ?_)))
  refine wp_region_opq ?_
  intro OPS hY
  have y1 := hY 1 113 rfl
  have y8 := hY 8 120 rfl
  clear hY
  cases ok
  refine mv 112 (.bool false) ?_
  refine nr ?_; intro U h; simp only [z0, z1] at h; subst h
  refine mv 113 (.bool false) (s_skipY 114 rfl rfl y1 rfl ?_)
  refine nr ?_; intro U h; simp only [z0, z1] at h; subst h
  refine s_skipY 115 rfl rfl y1 rfl (s_skipY 116 rfl rfl y1 rfl ?_)
  refine nr ?_; intro U h; simp only [z0, z1] at h; subst h
  refine s_skipY 117 rfl rfl y1 rfl (s_skipY 118 rfl rfl y1 rfl ?_)
  refine nr ?_; intro U h; simp only [z0, z1] at h; subst h
  refine mv 119 (.bool false) (mv 120 (.bool false) ?_)
  refine nr ?_; intro U h; simp only [z0, z1] at h; subst h
  refine s_skipY 121 rfl rfl y8 rfl (s_skipY 122 rfl rfl y8 rfl ?_)
  refine nr ?_; intro U h; simp only [z0, z1] at h; subst h
  refine s_skipY 123 rfl rfl y8 rfl (s_skipY 124 rfl rfl y8 rfl ?_)
  refine nr ?_; intro U h; simp only [z0, z1] at h; subst h
  refine s_skipY 125 rfl rfl y8 rfl (mv 126 (.bool false) ?_)
  refine nr ?_; intro U h; simp only [z0, z1] at h; subst h
  refine mv 4 (.bool false) (wpList_nil (blk_n (blk_n (then_n (wp_region_lit (mv 16 (.int .i64 ((i : Nat) : Int)) ?_))))))
  refine nr ?_; intro U h; simp only [z0, z1] at h; subst h
  refine sv 17 (.int .i64 ((i + 1 : Nat) : Int)) (run_add64 _ _ _ rfl ((i : Nat) : Int) 1 _ rfl rfl (by omega) (by omega) (by omega) _) (mv 5 (.int .i64 ((i + 1 : Nat) : Int)) ?_)
  refine nr ?_; intro U h; simp only [z0, z1] at h; subst h
  refine wpList_nil (then_n ?_)
  have hnx : false = okF f d F (i + 1) := by simp only [okF, hc, okc, ← hok, hp2, hp3, hp4, hp5, hp6, hp7, hp8, cond_true, cond_false, Bool.false_and]
  exact ⟨_, (by omega : F.length - (i + 1) < F.length - i), i + 1, false, usK ⟨hin, hnx, GG, kg1⟩⟩
  refine mv 112 (.bool true) (mv 113 (.bool true) ?_)
  refine nr ?_; intro U h; simp only [z0, z1] at h; subst h
  refine s_gvalY 114 rfl rfl y1 rfl (.pointer (some ⟨g1, 58, none⟩)) (run_fld 36 _ 10 rfl _ _ rfl _) (s_gvalY 115 rfl rfl y1 rfl (.pointer (some ⟨g1, 74, none⟩)) (run_fld 34 _ 1 rfl _ _ rfl _) ?_)
  refine nr ?_; intro U h; simp only [z0, z1] at h; subst h
  refine s_gvalY 116 rfl rfl y1 rfl (.pointer (some ⟨g1, 74, none⟩)) (run_fld 31 _ 0 rfl _ _ rfl _) (s_gvalY 117 rfl rfl y1 rfl (.int .i64 f.vn) (run_ldc 2 _ rfl g1 74 rfl 36 _ kg1 (na2 _) _ rfl) ?_)
  refine nr ?_; intro U h; simp only [z0, z1] at h; subst h
  obtain ⟨p9, hp9⟩ : ∃ p, decide (0 ≤ f.vn) = p := ⟨_, rfl⟩
  refine s_gvalY 118 rfl rfl y1 rfl (.bool p9) (run_geqT 2 _ _ _ rfl f.vn 0 rfl rfl p9 hp9 _) ?_
  refine nr ?_; intro U h; simp only [z0, z1] at h; subst h
  cases p9
  refine s_val _ rfl rfl (.bool false) rfl ?_
  refine s_val _ rfl rfl (.bool false) rfl ?_
  refine nr ?_; intro U h; simp only [z0, z1] at h; subst h
  iterate 5 (refine s_skipY _ rfl rfl y8 rfl ?_; refine nr ?_; intro U h; simp only [z0, z1] at h; subst h)
  refine s_val _ rfl rfl (.bool false) rfl ?_
  refine s_val _ rfl rfl (.bool false) rfl ?_
  refine nr ?_; intro U h; simp only [z0, z1] at h; subst h
  refine wpList_nil (blk_n (blk_n (then_n (wp_region_lit (mv 16 (.int .i64 ((i : Nat) : Int)) (sv 17 (.int .i64 ((i + 1 : Nat) : Int)) (run_add64 _ _ _ rfl ((i : Nat) : Int) 1 _ rfl rfl (by omega) (by omega) (by omega) _) ?_))))))
  refine nr ?_; intro U h; simp only [z0, z1] at h; subst h
  refine mv 5 (.int .i64 ((i + 1 : Nat) : Int)) (wpList_nil (then_n ?_))
  have hnx : false = okF f d F (i + 1) := by simp only [okF, hc, okc, ← hok, hp2, hp3, hp4, hp5, hp6, hp7, hp8, hp9, cond_true, cond_false, Bool.and_false, Bool.false_and]
  exact ⟨_, (by omega : F.length - (i + 1) < F.length - i), i + 1, false, usK ⟨hin, hnx, GG, kg1⟩⟩
  refine mv 119 (.bool true) ?_
  refine nr ?_; intro U h; simp only [z0, z1] at h; subst h
  refine mv 120 (.bool true) (s_gvalY 121 rfl rfl y8 rfl (.pointer (some ⟨g1, 58, none⟩)) (run_fld 36 _ 10 rfl _ _ rfl _) ?_)
  refine nr ?_; intro U h; simp only [z0, z1] at h; subst h
  refine s_gvalY 122 rfl rfl y8 rfl (.pointer (some ⟨g1, 91, none⟩)) (run_fld 34 _ 2 rfl _ _ rfl _) (s_gvalY 123 rfl rfl y8 rfl (.slice f.val.ao f.val.n f.val.cap) (run_ldc 32 _ rfl g1 91 rfl 36 _ kg1 (na32 _) _ rfl) ?_)
  refine nr ?_; intro U h; simp only [z0, z1] at h; subst h
  refine s_gvalY 124 rfl rfl y8 rfl (.int .i64 ((f.val.n : Nat) : Int)) (run_len Try.underlying32 _ rfl _ _ _ rfl _) ?_
  refine nr ?_; intro U h; simp only [z0, z1] at h; subst h
  obtain ⟨p10, hp10⟩ : ∃ p, decide (((f.val.n : Nat) : Int) ≤ 64) = p := ⟨_, rfl⟩
  refine s_gvalY 125 rfl rfl y8 rfl (.bool p10) (run_leqT 3 _ _ _ rfl ((f.val.n : Nat) : Int) 64 rfl rfl p10 hp10 _) ?_
  refine nr ?_; intro U h; simp only [z0, z1] at h; subst h
  cases p10
  refine s_val _ rfl rfl (.bool false) rfl ?_
  refine s_val _ rfl rfl (.bool false) rfl ?_
  refine nr ?_; intro U h; simp only [z0, z1] at h; subst h
  refine wpList_nil (blk_n (blk_n (then_n (wp_region_lit (mv 16 (.int .i64 ((i : Nat) : Int)) (sv 17 (.int .i64 ((i + 1 : Nat) : Int)) (run_add64 _ _ _ rfl ((i : Nat) : Int) 1 _ rfl rfl (by omega) (by omega) (by omega) _) ?_))))))
  refine nr ?_; intro U h; simp only [z0, z1] at h; subst h
  refine mv 5 (.int .i64 ((i + 1 : Nat) : Int)) (wpList_nil (then_n ?_))
  have hnx : false = okF f d F (i + 1) := by simp only [okF, hc, okc, ← hok, hp2, hp3, hp4, hp5, hp6, hp7, hp8, hp9, hp10, cond_true, cond_false, Bool.and_false]
  exact ⟨_, (by omega : F.length - (i + 1) < F.length - i), i + 1, false, usK ⟨hin, hnx, GG, kg1⟩⟩
  refine mv 126 (.bool true) ?_
  refine nr ?_; intro U h; simp only [z0, z1] at h; subst h
  refine mv 4 (.bool true) (wpList_nil (blk_n (blk_n (then_n (wp_region_lit (mv 16 (.int .i64 ((i : Nat) : Int)) ?_))))))
  refine nr ?_; intro U h; simp only [z0, z1] at h; subst h
  refine sv 17 (.int .i64 ((i + 1 : Nat) : Int)) (run_add64 _ _ _ rfl ((i : Nat) : Int) 1 _ rfl rfl (by omega) (by omega) (by omega) _) (mv 5 (.int .i64 ((i + 1 : Nat) : Int)) ?_)
  refine nr ?_; intro U h; simp only [z0, z1] at h; subst h
  refine wpList_nil (then_n ?_)
  have hnx : true = okF f d F (i + 1) := by simp only [okF, hc, okc, ← hok, hp2, hp3, hp4, hp5, hp6, hp7, hp8, hp9, hp10, cond_true, cond_false, Bool.and_true]
  exact ⟨_, (by omega : F.length - (i + 1) < F.length - i), i + 1, true, usK ⟨hin, hnx, GG, kg1⟩⟩
  refine mv 101 (.bool true) (wpList_nil (then_n (wp_cond_true rfl ?_)))
  refine wp_region_opq ?_
  intro OPS hY
  have y1 := hY 1 104 rfl
  clear hY
  cases ok
  refine mv 103 (.bool false) ?_
  refine nr ?_; intro U h; simp only [z0, z1] at h; subst h
  refine mv 104 (.bool false) (s_skipY 105 rfl rfl y1 rfl ?_)
  refine nr ?_; intro U h; simp only [z0, z1] at h; subst h
  refine s_skipY 106 rfl rfl y1 rfl (s_skipY 107 rfl rfl y1 rfl ?_)
  refine nr ?_; intro U h; simp only [z0, z1] at h; subst h
  refine s_skipY 108 rfl rfl y1 rfl (mv 109 (.bool false) ?_)
  refine nr ?_; intro U h; simp only [z0, z1] at h; subst h
  refine mv 4 (.bool false) (wpList_nil (blk_n (blk_n (then_n (wp_region_lit (mv 16 (.int .i64 ((i : Nat) : Int)) ?_))))))
  refine nr ?_; intro U h; simp only [z0, z1] at h; subst h
  refine sv 17 (.int .i64 ((i + 1 : Nat) : Int)) (run_add64 _ _ _ rfl ((i : Nat) : Int) 1 _ rfl rfl (by omega) (by omega) (by omega) _) (mv 5 (.int .i64 ((i + 1 : Nat) : Int)) ?_)
  refine nr ?_; intro U h; simp only [z0, z1] at h; subst h
  refine wpList_nil (then_n ?_)
  have hnx : false = okF f d F (i + 1) := by simp only [okF, hc, okc, ← hok, hp2, hp3, hp4, hp5, hp6, hp7, cond_true, cond_false, Bool.false_and]
  exact ⟨_, (by omega : F.length - (i + 1) < F.length - i), i + 1, false, usK ⟨hin, hnx, GG, kg1⟩⟩
  refine mv 103 (.bool true) (mv 104 (.bool true) ?_)
  refine nr ?_; intro U h; simp only [z0, z1] at h; subst h
  refine s_gvalY 105 rfl rfl y1 rfl (.pointer (some ⟨g1, 57, none⟩)) (run_fld 36 _ 9 rfl _ _ rfl _) (s_gvalY 106 rfl rfl y1 rfl (.slice f.ids.ao f.ids.n f.ids.cap) (run_ldc 29 _ rfl g1 57 rfl 36 _ kg1 (na29 _) _ rfl) ?_)
  refine nr ?_; intro U h; simp only [z0, z1] at h; subst h
  refine s_gvalY 107 rfl rfl y1 rfl (.int .i64 ((f.ids.n : Nat) : Int)) (run_len Try.underlying29 _ rfl _ _ _ rfl _) ?_
  refine nr ?_; intro U h; simp only [z0, z1] at h; subst h
  obtain ⟨p8, hp8⟩ : ∃ p, decide (((f.ids.n : Nat) : Int) ≤ 16) = p := ⟨_, rfl⟩
  refine s_gvalY 108 rfl rfl y1 rfl (.bool p8) (run_leqT 3 _ _ _ rfl ((f.ids.n : Nat) : Int) 16 rfl rfl p8 hp8 _) ?_
  refine nr ?_; intro U h; simp only [z0, z1] at h; subst h
  cases p8
  refine s_val _ rfl rfl (.bool false) rfl ?_
  refine s_val _ rfl rfl (.bool false) rfl ?_
  refine nr ?_; intro U h; simp only [z0, z1] at h; subst h
  refine wpList_nil (blk_n (blk_n (then_n (wp_region_lit (mv 16 (.int .i64 ((i : Nat) : Int)) (sv 17 (.int .i64 ((i + 1 : Nat) : Int)) (run_add64 _ _ _ rfl ((i : Nat) : Int) 1 _ rfl rfl (by omega) (by omega) (by omega) _) ?_))))))
  refine nr ?_; intro U h; simp only [z0, z1] at h; subst h
  refine mv 5 (.int .i64 ((i + 1 : Nat) : Int)) (wpList_nil (then_n ?_))
  have hnx : false = okF f d F (i + 1) := by simp only [okF, hc, okc, ← hok, hp2, hp3, hp4, hp5, hp6, hp7, hp8, cond_true, cond_false, Bool.and_false]
  exact ⟨_, (by omega : F.length - (i + 1) < F.length - i), i + 1, false, usK ⟨hin, hnx, GG, kg1⟩⟩
  refine mv 109 (.bool true) ?_
  refine nr ?_; intro U h; simp only [z0, z1] at h; subst h
  refine mv 4 (.bool true) (wpList_nil (blk_n (blk_n (then_n (wp_region_lit (mv 16 (.int .i64 ((i : Nat) : Int)) ?_))))))
  refine nr ?_; intro U h; simp only [z0, z1] at h; subst h
  refine sv 17 (.int .i64 ((i + 1 : Nat) : Int)) (run_add64 _ _ _ rfl ((i : Nat) : Int) 1 _ rfl rfl (by omega) (by omega) (by omega) _) (mv 5 (.int .i64 ((i + 1 : Nat) : Int)) ?_)
  refine nr ?_; intro U h; simp only [z0, z1] at h; subst h
  refine wpList_nil (then_n ?_)
  have hnx : true = okF f d F (i + 1) := by simp only [okF, hc, okc, ← hok, hp2, hp3, hp4, hp5, hp6, hp7, hp8, cond_true, cond_false, Bool.and_true]
  exact ⟨_, (by omega : F.length - (i + 1) < F.length - i), i + 1, true, usK ⟨hin, hnx, GG, kg1⟩⟩
  refine mv 68 (.bool true) (wpList_nil (then_n (wp_cond_true rfl (wp_seq ?_))))
  refine wp_region_opq ?_
  intro OPS hY
  have y1 := hY 1 71 rfl
  clear hY
  cases ok
  refine mv 70 (.bool false) ?_
  refine nr ?_; intro U h; simp only [z0, z1] at h; subst h
  refine mv 71 (.bool false) (s_skipY 72 rfl rfl y1 rfl ?_)
  refine nr ?_; intro U h; simp only [z0, z1] at h; subst h
  refine s_skipY 73 rfl rfl y1 rfl (s_skipY 74 rfl rfl y1 rfl ?_)
  refine nr ?_; intro U h; simp only [z0, z1] at h; subst h
  refine s_skipY 75 rfl rfl y1 rfl (mv 76 (.bool false) ?_)
  refine nr ?_; intro U h; simp only [z0, z1] at h; subst h
  refine mv 4 (.bool false) (wpList_nil (then_n (wp_seq (wp_region_lit (mv 6 (.int .i64 0) ?_)))))
  refine nr ?_; intro U h; simp only [z0, z1] at h; subst h
  refine wpList_nil (then_n (wp_block ?_))
  refine wp_loopN (fun mz az wv => ∃ (j : Nat) (okj : Bool) (us2 : Nat → Value), mz = d.tr.length - j ∧ az = ⟨[.agg (c36 f.kind f.pw f.pn f.toA f.a f.b f.n f.fi f.fn f.ti f.tn f.tr f.ids f.key f.vn f.vw f.val f.op f.ttl f.tx), .pointer (some ⟨g1, 0, none⟩), .bool false, .string (bas F), .bool okj, .int .i64 ((i : Nat) : Int), .int .i64 ((j : Nat) : Int), .pointer (some ⟨g1, 0, none⟩), .int .i64 f.kind, .string (bas F), .string (bas F), .bool (!p0), .int .i64 ((i : Nat) : Int), .string (bas F), .int .i64 ((F.length : Nat) : Int), .bool true, us1 16, us1 17, .string (bas F), .int .i64 ((i : Nat) : Int), .int .u8 ((c : Nat) : Int), .bool false, .bool false, us1 23, us1 24, us1 25, us1 26, us1 27, us1 28, us1 29, us1 30, us1 31, us1 32, us1 33, us1 34, us1 35, .bool false, .bool false, us1 38, us1 39, us1 40, us1 41, us1 42, us1 43, us1 44, us1 45, us1 46, us1 47, us1 48, us1 49, us1 50, .bool false, .bool false, us1 53, us1 54, us1 55, us1 56, us1 57, us1 58, .bool false, .bool false, us1 61, us1 62, us1 63, us1 64, us1 65, us1 66, us1 67, .bool true, .bool true, .bool false, .bool false, undef, undef, undef, undef, .bool false, us2 77, us2 78, us2 79, us2 80, us2 81, us2 82, us2 83, us2 84, us2 85, us2 86, us2 87, us2 88, us2 89, us2 90, us2 91, us2 92, us2 93, us2 94, us2 95, us2 96, us2 97, us2 98, us2 99, us2 100, us1 101, us1 102, us1 103, us1 104, us1 105, us1 106, us1 107, us1 108, us1 109, us1 110, us1 111, us1 112, us1 113, us1 114, us1 115, us1 116, us1 117, us1 118, us1 119, us1 120, us1 121, us1 122, us1 123, us1 124, us1 125, us1 126, us1 127, us1 128, us1 129, us1 130, us1 131, us1 132, us1 133, us1 134, us1 135, us1 136, us1 137, us1 138, us1 139, us1 140, us1 141, us1 142, us1 143, us1 144, us1 145, us1 146, us1 147, us1 148, us1 149, us1 150, us1 151, us1 152, us1 153, us1 154, us1 155, us1 156, us1 157, us1 158, us1 159, us1 160, us1 161, us1 162, us1 163, us1 164, us1 165, us1 166, us1 167, us1 168, us1 169, us1 170, us1 171, us1 172, us1 173, us1 174, us1 175, us1 176, us1 177, us1 178, us1 179, us1 180, us1 181, us1 182, us1 183, us1 184, us1 185, us1 186, us1 187, us1 188, us1 189, us1 190, us1 191, us1 192, us1 193, undef].toArray, []⟩ ∧ j ≤ d.tr.length ∧ okj = (false && trN d.tr j) ∧ Gro w wv ∧ wv.heap[g1]? = some (.cells (c36 f.kind f.pw f.pn f.toA f.a f.b f.n f.fi f.fn f.ti f.tn f.tr f.ids f.key f.vn f.vw f.val f.op f.ttl f.tx) 36 (0, 0))) ?_ _ ⟨0, false, usK ⟨Nat.zero_le _, rfl, GG, kg1⟩⟩
  clear kg1 GG
  rintro mz az wv ⟨j, okj, us2, rfl, rfl, hj, hokj, GG, kg1⟩
  refine wp_seq (wp_seq (wp_region_lit (mv 77 (.int .i64 ((j : Nat) : Int)) (sv 78 (.pointer (some ⟨g1, 56, none⟩)) (run_fld 36 _ 8 rfl _ _ rfl _) ?_))))
  refine nr ?_; intro U h; simp only [z0, z1] at h; subst h
  refine sv 79 (.slice f.tr.ao f.tr.n f.tr.cap) (run_ldc 28 _ rfl g1 56 rfl 36 _ kg1 (na28 _) _ rfl) (sv 80 (.int .i64 ((f.tr.n : Nat) : Int)) (run_len Try.underlying28 _ rfl _ _ _ rfl _) ?_)
  refine nr ?_; intro U h; simp only [z0, z1] at h; subst h
  obtain ⟨p7, hp7⟩ : ∃ p, decide (((j : Nat) : Int) < ((f.tr.n : Nat) : Int)) = p := ⟨_, rfl⟩
  refine sv 81 (.bool p7) (run_lssT 3 _ _ _ rfl ((j : Nat) : Int) ((f.tr.n : Nat) : Int) rfl rfl p7 hp7 _) ?_
  refine nr ?_; intro U h; simp only [z0, z1] at h; subst h
  cases p7
  have hje : j = d.tr.length := by have := of_decide_eq_false hp7; omega
  rw [hje] at hokj
  refine wpList_nil (then_n (wp_cond_false rfl (wp_exit (then_x (then_x (blk_x (blk_n (blk_n (then_n (wp_region_lit (mv 16 (.int .i64 ((i : Nat) : Int)) (sv 17 (.int .i64 ((i + 1 : Nat) : Int)) (run_add64 _ _ _ rfl ((i : Nat) : Int) 1 _ rfl rfl (by omega) (by omega) (by omega) _) ?_))))))))))))
  refine nr ?_; intro U h; simp only [z0, z1] at h; subst h
  refine mv 5 (.int .i64 ((i + 1 : Nat) : Int)) (wpList_nil (then_n ?_))
  have hnx : okj = okF f d F (i + 1) := by simp only [okF, hc, okc, ← hok, hokj, hp2, hp3, hp4, hp5, hp6, cond_true, cond_false, Bool.false_and]
  exact ⟨_, (by omega : F.length - (i + 1) < F.length - i), i + 1, okj, usK ⟨hin, hnx, GG, kg1⟩⟩
  have hjn : j < d.tr.length := by have := of_decide_eq_true hp7; omega
  obtain ⟨ad, hao, clA⟩ := xc_at1 (HFt.gro GG) hjn
  refine wpList_nil (then_n (wp_cond_true rfl (wp_skip (then_n (wp_seq (wp_block ?_))))))
  refine wp_region_opq ?_
  intro OPS hY
  have y1 := hY 1 85 rfl
  have y9 := hY 9 93 rfl
  clear hY
  cases okj
  refine mv 84 (.bool false) ?_
  refine nr ?_; intro U h; simp only [z0, z1] at h; subst h
  refine mv 85 (.bool false) (s_skipY 86 rfl rfl y1 rfl ?_)
  refine nr ?_; intro U h; simp only [z0, z1] at h; subst h
  refine s_skipY 87 rfl rfl y1 rfl (s_skipY 88 rfl rfl y1 rfl ?_)
  refine nr ?_; intro U h; simp only [z0, z1] at h; subst h
  refine s_skipY 89 rfl rfl y1 rfl (s_skipY 90 rfl rfl y1 rfl ?_)
  refine nr ?_; intro U h; simp only [z0, z1] at h; subst h
  refine s_skipY 91 rfl rfl y1 rfl (mv 92 (.bool false) ?_)
  refine nr ?_; intro U h; simp only [z0, z1] at h; subst h
  refine mv 93 (.bool false) (s_skipY 94 rfl rfl y9 rfl ?_)
  refine nr ?_; intro U h; simp only [z0, z1] at h; subst h
  refine s_skipY 95 rfl rfl y9 rfl (s_skipY 96 rfl rfl y9 rfl ?_)
  refine nr ?_; intro U h; simp only [z0, z1] at h; subst h
  refine s_skipY 97 rfl rfl y9 rfl (s_skipY 98 rfl rfl y9 rfl ?_)
  refine nr ?_; intro U h; simp only [z0, z1] at h; subst h
  refine s_skipY 99 rfl rfl y9 rfl (mv 100 (.bool false) ?_)
  refine nr ?_; intro U h; simp only [z0, z1] at h; subst h
  refine mv 4 (.bool false) (wpList_nil (blk_n (then_n (wp_region_lit (mv 82 (.int .i64 ((j : Nat) : Int)) ?_)))))
  refine nr ?_; intro U h; simp only [z0, z1] at h; subst h
  refine sv 83 (.int .i64 ((j + 1 : Nat) : Int)) (run_add64 _ _ _ rfl ((j : Nat) : Int) 1 _ rfl rfl (by omega) (by omega) (by omega) _) (mv 6 (.int .i64 ((j + 1 : Nat) : Int)) ?_)
  refine nr ?_; intro U h; simp only [z0, z1] at h; subst h
  refine wpList_nil (then_n ?_)
  have hnj : false = (false && trN d.tr (j + 1)) := by rw [trN, ← Bool.and_assoc false (trN d.tr j), ← hokj]; simp only [Bool.false_and]
  exact ⟨_, (by omega : d.tr.length - (j + 1) < d.tr.length - j), j + 1, false, usK ⟨hjn, hnj, GG, kg1⟩⟩
  refine mv 84 (.bool true) (mv 85 (.bool true) ?_)
  refine nr ?_; intro U h; simp only [z0, z1] at h; subst h
  refine s_gvalY 86 rfl rfl y1 rfl (.pointer (some ⟨g1, 56, none⟩)) (run_fld 36 _ 8 rfl _ _ rfl _) (s_gvalY 87 rfl rfl y1 rfl (.slice f.tr.ao f.tr.n f.tr.cap) (run_ldc 28 _ rfl g1 56 rfl 36 _ kg1 (na28 _) _ rfl) ?_)
  refine nr ?_; intro U h; simp only [z0, z1] at h; subst h
  refine s_gvalY 88 rfl rfl y1 rfl (.int .i64 ((j : Nat) : Int)) (rfl) (s_gvalY 89 rfl rfl y1 rfl (.pointer (some (ad.add j))) (run_idx1 iT28 _ _ rfl ad f.tr.n f.tr.cap j (by exact congrArg (fun a => Value.slice a f.tr.n f.tr.cap) hao) rfl (by omega) _) ?_)
  refine nr ?_; intro U h; simp only [z0, z1] at h; subst h
  refine s_gvalY 90 rfl rfl y1 rfl (.int .i64 (d.tr.getD j 0)) (run_ldc1 3 (na3 _) _ rfl (ad.add j) rfl _ clA) ?_
  refine nr ?_; intro U h; simp only [z0, z1] at h; subst h
  obtain ⟨p8, hp8⟩ : ∃ p, decide (0 ≤ (d.tr.getD j 0)) = p := ⟨_, rfl⟩
  refine s_gvalY 91 rfl rfl y1 rfl (.bool p8) (run_geqT 3 _ _ _ rfl (d.tr.getD j 0) 0 rfl rfl p8 hp8 _) ?_
  refine nr ?_; intro U h; simp only [z0, z1] at h; subst h
  cases p8
  refine s_val _ rfl rfl (.bool false) rfl ?_
  refine s_val _ rfl rfl (.bool false) rfl ?_
  refine nr ?_; intro U h; simp only [z0, z1] at h; subst h
  iterate 6 (refine s_skipY _ rfl rfl y9 rfl ?_; refine nr ?_; intro U h; simp only [z0, z1] at h; subst h)
  refine s_val _ rfl rfl (.bool false) rfl ?_
  refine s_val _ rfl rfl (.bool false) rfl ?_
  refine nr ?_; intro U h; simp only [z0, z1] at h; subst h
  refine wpList_nil (blk_n (then_n (wp_region_lit (mv 82 (.int .i64 ((j : Nat) : Int)) (sv 83 (.int .i64 ((j + 1 : Nat) : Int)) (run_add64 _ _ _ rfl ((j : Nat) : Int) 1 _ rfl rfl (by omega) (by omega) (by omega) _) ?_)))))
  refine nr ?_; intro U h; simp only [z0, z1] at h; subst h
  refine mv 6 (.int .i64 ((j + 1 : Nat) : Int)) (wpList_nil (then_n ?_))
  have hnj : false = (false && trN d.tr (j + 1)) := by rw [trN, ← Bool.and_assoc false (trN d.tr j), ← hokj]; simp only [hp8, Bool.and_false, Bool.false_and]
  exact ⟨_, (by omega : d.tr.length - (j + 1) < d.tr.length - j), j + 1, false, usK ⟨hjn, hnj, GG, kg1⟩⟩
  refine mv 92 (.bool true) ?_
  refine nr ?_; intro U h; simp only [z0, z1] at h; subst h
  refine mv 93 (.bool true) (s_gvalY 94 rfl rfl y9 rfl (.pointer (some ⟨g1, 56, none⟩)) (run_fld 36 _ 8 rfl _ _ rfl _) ?_)
  refine nr ?_; intro U h; simp only [z0, z1] at h; subst h
  refine s_gvalY 95 rfl rfl y9 rfl (.slice f.tr.ao f.tr.n f.tr.cap) (run_ldc 28 _ rfl g1 56 rfl 36 _ kg1 (na28 _) _ rfl) (s_gvalY 96 rfl rfl y9 rfl (.int .i64 ((j : Nat) : Int)) (rfl) ?_)
  refine nr ?_; intro U h; simp only [z0, z1] at h; subst h
  refine s_gvalY 97 rfl rfl y9 rfl (.pointer (some (ad.add j))) (run_idx1 iT28 _ _ rfl ad f.tr.n f.tr.cap j (by exact congrArg (fun a => Value.slice a f.tr.n f.tr.cap) hao) rfl (by omega) _) (s_gvalY 98 rfl rfl y9 rfl (.int .i64 (d.tr.getD j 0)) (run_ldc1 3 (na3 _) _ rfl (ad.add j) rfl _ clA) ?_)
  refine nr ?_; intro U h; simp only [z0, z1] at h; subst h
  obtain ⟨p9, hp9⟩ : ∃ p, decide ((d.tr.getD j 0) ≤ 5) = p := ⟨_, rfl⟩
  refine s_gvalY 99 rfl rfl y9 rfl (.bool p9) (run_leqT 3 _ _ _ rfl (d.tr.getD j 0) 5 rfl rfl p9 hp9 _) ?_
  refine nr ?_; intro U h; simp only [z0, z1] at h; subst h
  cases p9
  refine s_val _ rfl rfl (.bool false) rfl ?_
  refine s_val _ rfl rfl (.bool false) rfl ?_
  refine nr ?_; intro U h; simp only [z0, z1] at h; subst h
  refine wpList_nil (blk_n (then_n (wp_region_lit (mv 82 (.int .i64 ((j : Nat) : Int)) (sv 83 (.int .i64 ((j + 1 : Nat) : Int)) (run_add64 _ _ _ rfl ((j : Nat) : Int) 1 _ rfl rfl (by omega) (by omega) (by omega) _) ?_)))))
  refine nr ?_; intro U h; simp only [z0, z1] at h; subst h
  refine mv 6 (.int .i64 ((j + 1 : Nat) : Int)) (wpList_nil (then_n ?_))
  have hnj : false = (false && trN d.tr (j + 1)) := by rw [trN, ← Bool.and_assoc false (trN d.tr j), ← hokj]; simp only [hp8, hp9, Bool.and_false]
  exact ⟨_, (by omega : d.tr.length - (j + 1) < d.tr.length - j), j + 1, false, usK ⟨hjn, hnj, GG, kg1⟩⟩
  refine mv 100 (.bool true) ?_
  refine nr ?_; intro U h; simp only [z0, z1] at h; subst h
  refine mv 4 (.bool true) (wpList_nil (blk_n (then_n (wp_region_lit (mv 82 (.int .i64 ((j : Nat) : Int)) ?_)))))
  refine nr ?_; intro U h; simp only [z0, z1] at h; subst h
  refine sv 83 (.int .i64 ((j + 1 : Nat) : Int)) (run_add64 _ _ _ rfl ((j : Nat) : Int) 1 _ rfl rfl (by omega) (by omega) (by omega) _) (mv 6 (.int .i64 ((j + 1 : Nat) : Int)) ?_)
  refine nr ?_; intro U h; simp only [z0, z1] at h; subst h
  refine wpList_nil (then_n ?_)
  have hnj : true = (false && trN d.tr (j + 1)) := by rw [trN, ← Bool.and_assoc false (trN d.tr j), ← hokj]; simp only [hp8, hp9, Bool.and_true]
  exact ⟨_, (by omega : d.tr.length - (j + 1) < d.tr.length - j), j + 1, true, usK ⟨hjn, hnj, GG, kg1⟩⟩
  refine mv 70 (.bool true) (mv 71 (.bool true) ?_)
  refine nr ?_; intro U h; simp only [z0, z1] at h; subst h
  refine s_gvalY 72 rfl rfl y1 rfl (.pointer (some ⟨g1, 56, none⟩)) (run_fld 36 _ 8 rfl _ _ rfl _) (s_gvalY 73 rfl rfl y1 rfl (.slice f.tr.ao f.tr.n f.tr.cap) (run_ldc 28 _ rfl g1 56 rfl 36 _ kg1 (na28 _) _ rfl) ?_)
  refine nr ?_; intro U h; simp only [z0, z1] at h; subst h
  refine s_gvalY 74 rfl rfl y1 rfl (.int .i64 ((f.tr.n : Nat) : Int)) (run_len Try.underlying28 _ rfl _ _ _ rfl _) ?_
  refine nr ?_; intro U h; simp only [z0, z1] at h; subst h
  obtain ⟨p7, hp7⟩ : ∃ p, decide (((f.tr.n : Nat) : Int) ≤ 64) = p := ⟨_, rfl⟩
  refine s_gvalY 75 rfl rfl y1 rfl (.bool p7) (run_leqT 3 _ _ _ rfl ((f.tr.n : Nat) : Int) 64 rfl rfl p7 hp7 _) ?_
  refine nr ?_; intro U h; simp only [z0, z1] at h; subst h
  cases p7
  refine s_val _ rfl rfl (.bool false) rfl ?_
  refine s_val _ rfl rfl (.bool false) rfl ?_
  refine nr ?_; intro U h; simp only [z0, z1] at h; subst h
  refine wpList_nil (then_n (wp_seq (wp_region_lit (mv 6 (.int .i64 0) (wpList_nil (then_n (wp_block ?_)))))))
  refine wp_loopN (fun mz az wv => ∃ (j : Nat) (okj : Bool) (us2 : Nat → Value), mz = d.tr.length - j ∧ az = ⟨[.agg (c36 f.kind f.pw f.pn f.toA f.a f.b f.n f.fi f.fn f.ti f.tn f.tr f.ids f.key f.vn f.vw f.val f.op f.ttl f.tx), .pointer (some ⟨g1, 0, none⟩), .bool false, .string (bas F), .bool okj, .int .i64 ((i : Nat) : Int), .int .i64 ((j : Nat) : Int), .pointer (some ⟨g1, 0, none⟩), .int .i64 f.kind, .string (bas F), .string (bas F), .bool (!p0), .int .i64 ((i : Nat) : Int), .string (bas F), .int .i64 ((F.length : Nat) : Int), .bool true, us1 16, us1 17, .string (bas F), .int .i64 ((i : Nat) : Int), .int .u8 ((c : Nat) : Int), .bool false, .bool false, us1 23, us1 24, us1 25, us1 26, us1 27, us1 28, us1 29, us1 30, us1 31, us1 32, us1 33, us1 34, us1 35, .bool false, .bool false, us1 38, us1 39, us1 40, us1 41, us1 42, us1 43, us1 44, us1 45, us1 46, us1 47, us1 48, us1 49, us1 50, .bool false, .bool false, us1 53, us1 54, us1 55, us1 56, us1 57, us1 58, .bool false, .bool false, us1 61, us1 62, us1 63, us1 64, us1 65, us1 66, us1 67, .bool true, .bool true, .bool true, .bool true, .pointer (some ⟨g1, 56, none⟩), .slice f.tr.ao f.tr.n f.tr.cap, .int .i64 ((f.tr.n : Nat) : Int), .bool false, .bool false, us2 77, us2 78, us2 79, us2 80, us2 81, us2 82, us2 83, us2 84, us2 85, us2 86, us2 87, us2 88, us2 89, us2 90, us2 91, us2 92, us2 93, us2 94, us2 95, us2 96, us2 97, us2 98, us2 99, us2 100, us1 101, us1 102, us1 103, us1 104, us1 105, us1 106, us1 107, us1 108, us1 109, us1 110, us1 111, us1 112, us1 113, us1 114, us1 115, us1 116, us1 117, us1 118, us1 119, us1 120, us1 121, us1 122, us1 123, us1 124, us1 125, us1 126, us1 127, us1 128, us1 129, us1 130, us1 131, us1 132, us1 133, us1 134, us1 135, us1 136, us1 137, us1 138, us1 139, us1 140, us1 141, us1 142, us1 143, us1 144, us1 145, us1 146, us1 147, us1 148, us1 149, us1 150, us1 151, us1 152, us1 153, us1 154, us1 155, us1 156, us1 157, us1 158, us1 159, us1 160, us1 161, us1 162, us1 163, us1 164, us1 165, us1 166, us1 167, us1 168, us1 169, us1 170, us1 171, us1 172, us1 173, us1 174, us1 175, us1 176, us1 177, us1 178, us1 179, us1 180, us1 181, us1 182, us1 183, us1 184, us1 185, us1 186, us1 187, us1 188, us1 189, us1 190, us1 191, us1 192, us1 193, undef].toArray, []⟩ ∧ j ≤ d.tr.length ∧ okj = (false && trN d.tr j) ∧ Gro w wv ∧ wv.heap[g1]? = some (.cells (c36 f.kind f.pw f.pn f.toA f.a f.b f.n f.fi f.fn f.ti f.tn f.tr f.ids f.key f.vn f.vw f.val f.op f.ttl f.tx) 36 (0, 0))) ?_ _ ⟨0, false, usK ⟨Nat.zero_le _, rfl, GG, kg1⟩⟩
  clear kg1 GG
  rintro mz az wv ⟨j, okj, us2, rfl, rfl, hj, hokj, GG, kg1⟩
  refine wp_seq (wp_seq (wp_region_lit (mv 77 (.int .i64 ((j : Nat) : Int)) ?_)))
  refine nr ?_; intro U h; simp only [z0, z1] at h; subst h
  refine sv 78 (.pointer (some ⟨g1, 56, none⟩)) (run_fld 36 _ 8 rfl _ _ rfl _) (sv 79 (.slice f.tr.ao f.tr.n f.tr.cap) (run_ldc 28 _ rfl g1 56 rfl 36 _ kg1 (na28 _) _ rfl) ?_)
  refine nr ?_; intro U h; simp only [z0, z1] at h; subst h
  refine sv 80 (.int .i64 ((f.tr.n : Nat) : Int)) (run_len Try.underlying28 _ rfl _ _ _ rfl _) ?_
  refine nr ?_; intro U h; simp only [z0, z1] at h; subst h
  obtain ⟨p8, hp8⟩ : ∃ p, decide (((j : Nat) : Int) < ((f.tr.n : Nat) : Int)) = p := ⟨_, rfl⟩
  refine sv 81 (.bool p8) (run_lssT 3 _ _ _ rfl ((j : Nat) : Int) ((f.tr.n : Nat) : Int) rfl rfl p8 hp8 _) ?_
  refine nr ?_; intro U h; simp only [z0, z1] at h; subst h
  cases p8
  have hje : j = d.tr.length := by have := of_decide_eq_false hp8; omega
  rw [hje] at hokj
  refine wpList_nil (then_n (wp_cond_false rfl (wp_exit (then_x (then_x (blk_x (blk_n (blk_n (then_n (wp_region_lit (mv 16 (.int .i64 ((i : Nat) : Int)) (sv 17 (.int .i64 ((i + 1 : Nat) : Int)) (run_add64 _ _ _ rfl ((i : Nat) : Int) 1 _ rfl rfl (by omega) (by omega) (by omega) _) ?_))))))))))))
  refine nr ?_; intro U h; simp only [z0, z1] at h; subst h
  refine mv 5 (.int .i64 ((i + 1 : Nat) : Int)) (wpList_nil (then_n ?_))
  have hnx : okj = okF f d F (i + 1) := by simp only [okF, hc, okc, ← hok, hokj, hp2, hp3, hp4, hp5, hp6, hp7, cond_true, cond_false, Bool.and_false, Bool.false_and]
  exact ⟨_, (by omega : F.length - (i + 1) < F.length - i), i + 1, okj, usK ⟨hin, hnx, GG, kg1⟩⟩
  have hjn : j < d.tr.length := by have := of_decide_eq_true hp8; omega
  obtain ⟨ad, hao, clA⟩ := xc_at1 (HFt.gro GG) hjn
  refine wpList_nil (then_n (wp_cond_true rfl (wp_skip (then_n (wp_seq (wp_block ?_))))))
  refine wp_region_opq ?_
  intro OPS hY
  have y1 := hY 1 85 rfl
  have y9 := hY 9 93 rfl
  clear hY
  cases okj
  refine mv 84 (.bool false) ?_
  refine nr ?_; intro U h; simp only [z0, z1] at h; subst h
  refine mv 85 (.bool false) (s_skipY 86 rfl rfl y1 rfl ?_)
  refine nr ?_; intro U h; simp only [z0, z1] at h; subst h
  refine s_skipY 87 rfl rfl y1 rfl (s_skipY 88 rfl rfl y1 rfl ?_)
  refine nr ?_; intro U h; simp only [z0, z1] at h; subst h
  refine s_skipY 89 rfl rfl y1 rfl (s_skipY 90 rfl rfl y1 rfl ?_)
  refine nr ?_; intro U h; simp only [z0, z1] at h; subst h
  refine s_skipY 91 rfl rfl y1 rfl (mv 92 (.bool false) ?_)
  refine nr ?_; intro U h; simp only [z0, z1] at h; subst h
  refine mv 93 (.bool false) (s_skipY 94 rfl rfl y9 rfl ?_)
  refine nr ?_; intro U h; simp only [z0, z1] at h; subst h
  refine s_skipY 95 rfl rfl y9 rfl (s_skipY 96 rfl rfl y9 rfl ?_)
  refine nr ?_; intro U h; simp only [z0, z1] at h; subst h
  refine s_skipY 97 rfl rfl y9 rfl (s_skipY 98 rfl rfl y9 rfl ?_)
  refine nr ?_; intro U h; simp only [z0, z1] at h; subst h
  refine s_skipY 99 rfl rfl y9 rfl (mv 100 (.bool false) ?_)
  refine nr ?_; intro U h; simp only [z0, z1] at h; subst h
  refine mv 4 (.bool false) (wpList_nil (blk_n (then_n (wp_region_lit (mv 82 (.int .i64 ((j : Nat) : Int)) ?_)))))
  refine nr ?_; intro U h; simp only [z0, z1] at h; subst h
  refine sv 83 (.int .i64 ((j + 1 : Nat) : Int)) (run_add64 _ _ _ rfl ((j : Nat) : Int) 1 _ rfl rfl (by omega) (by omega) (by omega) _) (mv 6 (.int .i64 ((j + 1 : Nat) : Int)) ?_)
  refine nr ?_; intro U h; simp only [z0, z1] at h; subst h
  refine wpList_nil (then_n ?_)
  have hnj : false = (false && trN d.tr (j + 1)) := by rw [trN, ← Bool.and_assoc false (trN d.tr j), ← hokj]; simp only [Bool.false_and]
  exact ⟨_, (by omega : d.tr.length - (j + 1) < d.tr.length - j), j + 1, false, usK ⟨hjn, hnj, GG, kg1⟩⟩
  refine mv 84 (.bool true) (mv 85 (.bool true) ?_)
  refine nr ?_; intro U h; simp only [z0, z1] at h; subst h
  refine s_gvalY 86 rfl rfl y1 rfl (.pointer (some ⟨g1, 56, none⟩)) (run_fld 36 _ 8 rfl _ _ rfl _) (s_gvalY 87 rfl rfl y1 rfl (.slice f.tr.ao f.tr.n f.tr.cap) (run_ldc 28 _ rfl g1 56 rfl 36 _ kg1 (na28 _) _ rfl) ?_)
  refine nr ?_; intro U h; simp only [z0, z1] at h; subst h
  refine s_gvalY 88 rfl rfl y1 rfl (.int .i64 ((j : Nat) : Int)) (rfl) (s_gvalY 89 rfl rfl y1 rfl (.pointer (some (ad.add j))) (run_idx1 iT28 _ _ rfl ad f.tr.n f.tr.cap j (by exact congrArg (fun a => Value.slice a f.tr.n f.tr.cap) hao) rfl (by omega) _) ?_)
  refine nr ?_; intro U h; simp only [z0, z1] at h; subst h
  refine s_gvalY 90 rfl rfl y1 rfl (.int .i64 (d.tr.getD j 0)) (run_ldc1 3 (na3 _) _ rfl (ad.add j) rfl _ clA) ?_
  refine nr ?_; intro U h; simp only [z0, z1] at h; subst h
  obtain ⟨p9, hp9⟩ : ∃ p, decide (0 ≤ (d.tr.getD j 0)) = p := ⟨_, rfl⟩
  refine s_gvalY 91 rfl rfl y1 rfl (.bool p9) (run_geqT 3 _ _ _ rfl (d.tr.getD j 0) 0 rfl rfl p9 hp9 _) ?_
  refine nr ?_; intro U h; simp only [z0, z1] at h; subst h
  cases p9
  refine s_val _ rfl rfl (.bool false) rfl ?_
  refine s_val _ rfl rfl (.bool false) rfl ?_
  refine nr ?_; intro U h; simp only [z0, z1] at h; subst h
  iterate 6 (refine s_skipY _ rfl rfl y9 rfl ?_; refine nr ?_; intro U h; simp only [z0, z1] at h; subst h)
  refine s_val _ rfl rfl (.bool false) rfl ?_
  refine s_val _ rfl rfl (.bool false) rfl ?_
  refine nr ?_; intro U h; simp only [z0, z1] at h; subst h
  refine wpList_nil (blk_n (then_n (wp_region_lit (mv 82 (.int .i64 ((j : Nat) : Int)) (sv 83 (.int .i64 ((j + 1 : Nat) : Int)) (run_add64 _ _ _ rfl ((j : Nat) : Int) 1 _ rfl rfl (by omega) (by omega) (by omega) _) ?_)))))
  refine nr ?_; intro U h; simp only [z0, z1] at h; subst h
  refine mv 6 (.int .i64 ((j + 1 : Nat) : Int)) (wpList_nil (then_n ?_))
  have hnj : false = (false && trN d.tr (j + 1)) := by rw [trN, ← Bool.and_assoc false (trN d.tr j), ← hokj]; simp only [hp9, Bool.and_false, Bool.false_and]
  exact ⟨_, (by omega : d.tr.length - (j + 1) < d.tr.length - j), j + 1, false, usK ⟨hjn, hnj, GG, kg1⟩⟩
  refine mv 92 (.bool true) ?_
  refine nr ?_; intro U h; simp only [z0, z1] at h; subst h
  refine mv 93 (.bool true) (s_gvalY 94 rfl rfl y9 rfl (.pointer (some ⟨g1, 56, none⟩)) (run_fld 36 _ 8 rfl _ _ rfl _) ?_)
  refine nr ?_; intro U h; simp only [z0, z1] at h; subst h
  refine s_gvalY 95 rfl rfl y9 rfl (.slice f.tr.ao f.tr.n f.tr.cap) (run_ldc 28 _ rfl g1 56 rfl 36 _ kg1 (na28 _) _ rfl) (s_gvalY 96 rfl rfl y9 rfl (.int .i64 ((j : Nat) : Int)) (rfl) ?_)
  refine nr ?_; intro U h; simp only [z0, z1] at h; subst h
  refine s_gvalY 97 rfl rfl y9 rfl (.pointer (some (ad.add j))) (run_idx1 iT28 _ _ rfl ad f.tr.n f.tr.cap j (by exact congrArg (fun a => Value.slice a f.tr.n f.tr.cap) hao) rfl (by omega) _) (s_gvalY 98 rfl rfl y9 rfl (.int .i64 (d.tr.getD j 0)) (run_ldc1 3 (na3 _) _ rfl (ad.add j) rfl _ clA) ?_)
  refine nr ?_; intro U h; simp only [z0, z1] at h; subst h
  obtain ⟨p10, hp10⟩ : ∃ p, decide ((d.tr.getD j 0) ≤ 5) = p := ⟨_, rfl⟩
  refine s_gvalY 99 rfl rfl y9 rfl (.bool p10) (run_leqT 3 _ _ _ rfl (d.tr.getD j 0) 5 rfl rfl p10 hp10 _) ?_
  refine nr ?_; intro U h; simp only [z0, z1] at h; subst h
  cases p10
  refine s_val _ rfl rfl (.bool false) rfl ?_
  refine s_val _ rfl rfl (.bool false) rfl ?_
  refine nr ?_; intro U h; simp only [z0, z1] at h; subst h
  refine wpList_nil (blk_n (then_n (wp_region_lit (mv 82 (.int .i64 ((j : Nat) : Int)) (sv 83 (.int .i64 ((j + 1 : Nat) : Int)) (run_add64 _ _ _ rfl ((j : Nat) : Int) 1 _ rfl rfl (by omega) (by omega) (by omega) _) ?_)))))
  refine nr ?_; intro U h; simp only [z0, z1] at h; subst h
  refine mv 6 (.int .i64 ((j + 1 : Nat) : Int)) (wpList_nil (then_n ?_))
  have hnj : false = (false && trN d.tr (j + 1)) := by rw [trN, ← Bool.and_assoc false (trN d.tr j), ← hokj]; simp only [hp9, hp10, Bool.and_false]
  exact ⟨_, (by omega : d.tr.length - (j + 1) < d.tr.length - j), j + 1, false, usK ⟨hjn, hnj, GG, kg1⟩⟩
  refine mv 100 (.bool true) ?_
  refine nr ?_; intro U h; simp only [z0, z1] at h; subst h
  refine mv 4 (.bool true) (wpList_nil (blk_n (then_n (wp_region_lit (mv 82 (.int .i64 ((j : Nat) : Int)) ?_)))))
  refine nr ?_; intro U h; simp only [z0, z1] at h; subst h
  refine sv 83 (.int .i64 ((j + 1 : Nat) : Int)) (run_add64 _ _ _ rfl ((j : Nat) : Int) 1 _ rfl rfl (by omega) (by omega) (by omega) _) (mv 6 (.int .i64 ((j + 1 : Nat) : Int)) ?_)
  refine nr ?_; intro U h; simp only [z0, z1] at h; subst h
  refine wpList_nil (then_n ?_)
  have hnj : true = (false && trN d.tr (j + 1)) := by rw [trN, ← Bool.and_assoc false (trN d.tr j), ← hokj]; simp only [hp9, hp10, Bool.and_true]
  exact ⟨_, (by omega : d.tr.length - (j + 1) < d.tr.length - j), j + 1, true, usK ⟨hjn, hnj, GG, kg1⟩⟩
  refine mv 76 (.bool true) (mv 4 (.bool true) ?_)
  refine nr ?_; intro U h; simp only [z0, z1] at h; subst h
  refine wpList_nil (then_n (wp_seq (wp_region_lit (mv 6 (.int .i64 0) (wpList_nil (then_n (wp_block ?_)))))))
  refine wp_loopN (fun mz az wv => ∃ (j : Nat) (okj : Bool) (us2 : Nat → Value), mz = d.tr.length - j ∧ az = ⟨[.agg (c36 f.kind f.pw f.pn f.toA f.a f.b f.n f.fi f.fn f.ti f.tn f.tr f.ids f.key f.vn f.vw f.val f.op f.ttl f.tx), .pointer (some ⟨g1, 0, none⟩), .bool false, .string (bas F), .bool okj, .int .i64 ((i : Nat) : Int), .int .i64 ((j : Nat) : Int), .pointer (some ⟨g1, 0, none⟩), .int .i64 f.kind, .string (bas F), .string (bas F), .bool (!p0), .int .i64 ((i : Nat) : Int), .string (bas F), .int .i64 ((F.length : Nat) : Int), .bool true, us1 16, us1 17, .string (bas F), .int .i64 ((i : Nat) : Int), .int .u8 ((c : Nat) : Int), .bool false, .bool false, us1 23, us1 24, us1 25, us1 26, us1 27, us1 28, us1 29, us1 30, us1 31, us1 32, us1 33, us1 34, us1 35, .bool false, .bool false, us1 38, us1 39, us1 40, us1 41, us1 42, us1 43, us1 44, us1 45, us1 46, us1 47, us1 48, us1 49, us1 50, .bool false, .bool false, us1 53, us1 54, us1 55, us1 56, us1 57, us1 58, .bool false, .bool false, us1 61, us1 62, us1 63, us1 64, us1 65, us1 66, us1 67, .bool true, .bool true, .bool true, .bool true, .pointer (some ⟨g1, 56, none⟩), .slice f.tr.ao f.tr.n f.tr.cap, .int .i64 ((f.tr.n : Nat) : Int), .bool true, .bool true, us2 77, us2 78, us2 79, us2 80, us2 81, us2 82, us2 83, us2 84, us2 85, us2 86, us2 87, us2 88, us2 89, us2 90, us2 91, us2 92, us2 93, us2 94, us2 95, us2 96, us2 97, us2 98, us2 99, us2 100, us1 101, us1 102, us1 103, us1 104, us1 105, us1 106, us1 107, us1 108, us1 109, us1 110, us1 111, us1 112, us1 113, us1 114, us1 115, us1 116, us1 117, us1 118, us1 119, us1 120, us1 121, us1 122, us1 123, us1 124, us1 125, us1 126, us1 127, us1 128, us1 129, us1 130, us1 131, us1 132, us1 133, us1 134, us1 135, us1 136, us1 137, us1 138, us1 139, us1 140, us1 141, us1 142, us1 143, us1 144, us1 145, us1 146, us1 147, us1 148, us1 149, us1 150, us1 151, us1 152, us1 153, us1 154, us1 155, us1 156, us1 157, us1 158, us1 159, us1 160, us1 161, us1 162, us1 163, us1 164, us1 165, us1 166, us1 167, us1 168, us1 169, us1 170, us1 171, us1 172, us1 173, us1 174, us1 175, us1 176, us1 177, us1 178, us1 179, us1 180, us1 181, us1 182, us1 183, us1 184, us1 185, us1 186, us1 187, us1 188, us1 189, us1 190, us1 191, us1 192, us1 193, undef].toArray, []⟩ ∧ j ≤ d.tr.length ∧ okj = (true && trN d.tr j) ∧ Gro w wv ∧ wv.heap[g1]? = some (.cells (c36 f.kind f.pw f.pn f.toA f.a f.b f.n f.fi f.fn f.ti f.tn f.tr f.ids f.key f.vn f.vw f.val f.op f.ttl f.tx) 36 (0, 0))) ?_ _ ⟨0, true, usK ⟨Nat.zero_le _, rfl, GG, kg1⟩⟩
  clear kg1 GG
  rintro mz az wv ⟨j, okj, us2, rfl, rfl, hj, hokj, GG, kg1⟩
  refine wp_seq (wp_seq (wp_region_lit (mv 77 (.int .i64 ((j : Nat) : Int)) ?_)))
  refine nr ?_; intro U h; simp only [z0, z1] at h; subst h
  refine sv 78 (.pointer (some ⟨g1, 56, none⟩)) (run_fld 36 _ 8 rfl _ _ rfl _) (sv 79 (.slice f.tr.ao f.tr.n f.tr.cap) (run_ldc 28 _ rfl g1 56 rfl 36 _ kg1 (na28 _) _ rfl) ?_)
  refine nr ?_; intro U h; simp only [z0, z1] at h; subst h
  refine sv 80 (.int .i64 ((f.tr.n : Nat) : Int)) (run_len Try.underlying28 _ rfl _ _ _ rfl _) ?_
  refine nr ?_; intro U h; simp only [z0, z1] at h; subst h
  obtain ⟨p8, hp8⟩ : ∃ p, decide (((j : Nat) : Int) < ((f.tr.n : Nat) : Int)) = p := ⟨_, rfl⟩
  refine sv 81 (.bool p8) (run_lssT 3 _ _ _ rfl ((j : Nat) : Int) ((f.tr.n : Nat) : Int) rfl rfl p8 hp8 _) ?_
  refine nr ?_; intro U h; simp only [z0, z1] at h; subst h
  cases p8
  have hje : j = d.tr.length := by have := of_decide_eq_false hp8; omega
  rw [hje] at hokj
  refine wpList_nil (then_n (wp_cond_false rfl (wp_exit (then_x (then_x (blk_x (blk_n (blk_n (then_n (wp_region_lit (mv 16 (.int .i64 ((i : Nat) : Int)) (sv 17 (.int .i64 ((i + 1 : Nat) : Int)) (run_add64 _ _ _ rfl ((i : Nat) : Int) 1 _ rfl rfl (by omega) (by omega) (by omega) _) ?_))))))))))))
  refine nr ?_; intro U h; simp only [z0, z1] at h; subst h
  refine mv 5 (.int .i64 ((i + 1 : Nat) : Int)) (wpList_nil (then_n ?_))
  have hnx : okj = okF f d F (i + 1) := by simp only [okF, hc, okc, ← hok, hokj, hp2, hp3, hp4, hp5, hp6, hp7, cond_true, cond_false, Bool.true_and]
  exact ⟨_, (by omega : F.length - (i + 1) < F.length - i), i + 1, okj, usK ⟨hin, hnx, GG, kg1⟩⟩
  have hjn : j < d.tr.length := by have := of_decide_eq_true hp8; omega
  obtain ⟨ad, hao, clA⟩ := xc_at1 (HFt.gro GG) hjn
  refine wpList_nil (then_n (wp_cond_true rfl (wp_skip (then_n (wp_seq (wp_block ?_))))))
  refine wp_region_opq ?_
  intro OPS hY
  have y1 := hY 1 85 rfl
  have y9 := hY 9 93 rfl
  clear hY
  cases okj
  refine mv 84 (.bool false) ?_
  refine nr ?_; intro U h; simp only [z0, z1] at h; subst h
  refine mv 85 (.bool false) (s_skipY 86 rfl rfl y1 rfl ?_)
  refine nr ?_; intro U h; simp only [z0, z1] at h; subst h
  refine s_skipY 87 rfl rfl y1 rfl (s_skipY 88 rfl rfl y1 rfl ?_)
  refine nr ?_; intro U h; simp only [z0, z1] at h; subst h
  refine s_skipY 89 rfl rfl y1 rfl (s_skipY 90 rfl rfl y1 rfl ?_)
  refine nr ?_; intro U h; simp only [z0, z1] at h; subst h
  refine s_skipY 91 rfl rfl y1 rfl (mv 92 (.bool false) ?_)
  refine nr ?_; intro U h; simp only [z0, z1] at h; subst h
  refine mv 93 (.bool false) (s_skipY 94 rfl rfl y9 rfl ?_)
  refine nr ?_; intro U h; simp only [z0, z1] at h; subst h
  refine s_skipY 95 rfl rfl y9 rfl (s_skipY 96 rfl rfl y9 rfl ?_)
  refine nr ?_; intro U h; simp only [z0, z1] at h; subst h
  refine s_skipY 97 rfl rfl y9 rfl (s_skipY 98 rfl rfl y9 rfl ?_)
  refine nr ?_; intro U h; simp only [z0, z1] at h; subst h
  refine s_skipY 99 rfl rfl y9 rfl (mv 100 (.bool false) ?_)
  refine nr ?_; intro U h; simp only [z0, z1] at h; subst h
  refine mv 4 (.bool false) (wpList_nil (blk_n (then_n (wp_region_lit (mv 82 (.int .i64 ((j : Nat) : Int)) ?_)))))
  refine nr ?_; intro U h; simp only [z0, z1] at h; subst h
  refine sv 83 (.int .i64 ((j + 1 : Nat) : Int)) (run_add64 _ _ _ rfl ((j : Nat) : Int) 1 _ rfl rfl (by omega) (by omega) (by omega) _) (mv 6 (.int .i64 ((j + 1 : Nat) : Int)) ?_)
  refine nr ?_; intro U h; simp only [z0, z1] at h; subst h
  refine wpList_nil (then_n ?_)
  have hnj : false = (true && trN d.tr (j + 1)) := by rw [trN, ← Bool.and_assoc true (trN d.tr j), ← hokj]; simp only [Bool.false_and]
  exact ⟨_, (by omega : d.tr.length - (j + 1) < d.tr.length - j), j + 1, false, usK ⟨hjn, hnj, GG, kg1⟩⟩
  refine mv 84 (.bool true) (mv 85 (.bool true) ?_)
  refine nr ?_; intro U h; simp only [z0, z1] at h; subst h
  refine s_gvalY 86 rfl rfl y1 rfl (.pointer (some ⟨g1, 56, none⟩)) (run_fld 36 _ 8 rfl _ _ rfl _) (s_gvalY 87 rfl rfl y1 rfl (.slice f.tr.ao f.tr.n f.tr.cap) (run_ldc 28 _ rfl g1 56 rfl 36 _ kg1 (na28 _) _ rfl) ?_)
  refine nr ?_; intro U h; simp only [z0, z1] at h; subst h
  refine s_gvalY 88 rfl rfl y1 rfl (.int .i64 ((j : Nat) : Int)) (rfl) (s_gvalY 89 rfl rfl y1 rfl (.pointer (some (ad.add j))) (run_idx1 iT28 _ _ rfl ad f.tr.n f.tr.cap j (by exact congrArg (fun a => Value.slice a f.tr.n f.tr.cap) hao) rfl (by omega) _) ?_)
  refine nr ?_; intro U h; simp only [z0, z1] at h; subst h
  refine s_gvalY 90 rfl rfl y1 rfl (.int .i64 (d.tr.getD j 0)) (run_ldc1 3 (na3 _) _ rfl (ad.add j) rfl _ clA) ?_
  refine nr ?_; intro U h; simp only [z0, z1] at h; subst h
  obtain ⟨p9, hp9⟩ : ∃ p, decide (0 ≤ (d.tr.getD j 0)) = p := ⟨_, rfl⟩
  refine s_gvalY 91 rfl rfl y1 rfl (.bool p9) (run_geqT 3 _ _ _ rfl (d.tr.getD j 0) 0 rfl rfl p9 hp9 _) ?_
  refine nr ?_; intro U h; simp only [z0, z1] at h; subst h
  cases p9
  refine s_val _ rfl rfl (.bool false) rfl ?_
  refine s_val _ rfl rfl (.bool false) rfl ?_
  refine nr ?_; intro U h; simp only [z0, z1] at h; subst h
  iterate 6 (refine s_skipY _ rfl rfl y9 rfl ?_; refine nr ?_; intro U h; simp only [z0, z1] at h; subst h)
  refine s_val _ rfl rfl (.bool false) rfl ?_
  refine s_val _ rfl rfl (.bool false) rfl ?_
  refine nr ?_; intro U h; simp only [z0, z1] at h; subst h
  refine wpList_nil (blk_n (then_n (wp_region_lit (mv 82 (.int .i64 ((j : Nat) : Int)) (sv 83 (.int .i64 ((j + 1 : Nat) : Int)) (run_add64 _ _ _ rfl ((j : Nat) : Int) 1 _ rfl rfl (by omega) (by omega) (by omega) _) ?_)))))
  refine nr ?_; intro U h; simp only [z0, z1] at h; subst h
  refine mv 6 (.int .i64 ((j + 1 : Nat) : Int)) (wpList_nil (then_n ?_))
  have hnj : false = (true && trN d.tr (j + 1)) := by rw [trN, ← Bool.and_assoc true (trN d.tr j), ← hokj]; simp only [hp9, Bool.and_false, Bool.false_and]
  exact ⟨_, (by omega : d.tr.length - (j + 1) < d.tr.length - j), j + 1, false, usK ⟨hjn, hnj, GG, kg1⟩⟩
  refine mv 92 (.bool true) ?_
  refine nr ?_; intro U h; simp only [z0, z1] at h; subst h
  refine mv 93 (.bool true) (s_gvalY 94 rfl rfl y9 rfl (.pointer (some ⟨g1, 56, none⟩)) (run_fld 36 _ 8 rfl _ _ rfl _) ?_)
  refine nr ?_; intro U h; simp only [z0, z1] at h; subst h
  refine s_gvalY 95 rfl rfl y9 rfl (.slice f.tr.ao f.tr.n f.tr.cap) (run_ldc 28 _ rfl g1 56 rfl 36 _ kg1 (na28 _) _ rfl) (s_gvalY 96 rfl rfl y9 rfl (.int .i64 ((j : Nat) : Int)) (rfl) ?_)
  refine nr ?_; intro U h; simp only [z0, z1] at h; subst h
  refine s_gvalY 97 rfl rfl y9 rfl (.pointer (some (ad.add j))) (run_idx1 iT28 _ _ rfl ad f.tr.n f.tr.cap j (by exact congrArg (fun a => Value.slice a f.tr.n f.tr.cap) hao) rfl (by omega) _) (s_gvalY 98 rfl rfl y9 rfl (.int .i64 (d.tr.getD j 0)) (run_ldc1 3 (na3 _) _ rfl (ad.add j) rfl _ clA) ?_)
  refine nr ?_; intro U h; simp only [z0, z1] at h; subst h
  obtain ⟨p10, hp10⟩ : ∃ p, decide ((d.tr.getD j 0) ≤ 5) = p := ⟨_, rfl⟩
  refine s_gvalY 99 rfl rfl y9 rfl (.bool p10) (run_leqT 3 _ _ _ rfl (d.tr.getD j 0) 5 rfl rfl p10 hp10 _) ?_
  refine nr ?_; intro U h; simp only [z0, z1] at h; subst h
  cases p10
  refine s_val _ rfl rfl (.bool false) rfl ?_
  refine s_val _ rfl rfl (.bool false) rfl ?_
  refine nr ?_; intro U h; simp only [z0, z1] at h; subst h
  refine wpList_nil (blk_n (then_n (wp_region_lit (mv 82 (.int .i64 ((j : Nat) : Int)) (sv 83 (.int .i64 ((j + 1 : Nat) : Int)) (run_add64 _ _ _ rfl ((j : Nat) : Int) 1 _ rfl rfl (by omega) (by omega) (by omega) _) ?_)))))
  refine nr ?_; intro U h; simp only [z0, z1] at h; subst h
  refine mv 6 (.int .i64 ((j + 1 : Nat) : Int)) (wpList_nil (then_n ?_))
  have hnj : false = (true && trN d.tr (j + 1)) := by rw [trN, ← Bool.and_assoc true (trN d.tr j), ← hokj]; simp only [hp9, hp10, Bool.and_false]
  exact ⟨_, (by omega : d.tr.length - (j + 1) < d.tr.length - j), j + 1, false, usK ⟨hjn, hnj, GG, kg1⟩⟩
  refine mv 100 (.bool true) ?_
  refine nr ?_; intro U h; simp only [z0, z1] at h; subst h
  refine mv 4 (.bool true) (wpList_nil (blk_n (then_n (wp_region_lit (mv 82 (.int .i64 ((j : Nat) : Int)) ?_)))))
  refine nr ?_; intro U h; simp only [z0, z1] at h; subst h
  refine sv 83 (.int .i64 ((j + 1 : Nat) : Int)) (run_add64 _ _ _ rfl ((j : Nat) : Int) 1 _ rfl rfl (by omega) (by omega) (by omega) _) (mv 6 (.int .i64 ((j + 1 : Nat) : Int)) ?_)
  refine nr ?_; intro U h; simp only [z0, z1] at h; subst h
  refine wpList_nil (then_n ?_)
  have hnj : true = (true && trN d.tr (j + 1)) := by rw [trN, ← Bool.and_assoc true (trN d.tr j), ← hokj]; simp only [hp9, hp10, Bool.and_true]
  exact ⟨_, (by omega : d.tr.length - (j + 1) < d.tr.length - j), j + 1, true, usK ⟨hjn, hnj, GG, kg1⟩⟩
  refine mv 59 (.bool true) (wpList_nil (then_n (wp_cond_true rfl ?_)))
  refine wp_region_opq ?_
  intro OPS hY
  have y1 := hY 1 62 rfl
  clear hY
  cases ok
  refine mv 61 (.bool false) ?_
  refine nr ?_; intro U h; simp only [z0, z1] at h; subst h
  refine mv 62 (.bool false) (s_skipY 63 rfl rfl y1 rfl ?_)
  refine nr ?_; intro U h; simp only [z0, z1] at h; subst h
  refine s_skipY 64 rfl rfl y1 rfl (s_skipY 65 rfl rfl y1 rfl ?_)
  refine nr ?_; intro U h; simp only [z0, z1] at h; subst h
  refine s_skipY 66 rfl rfl y1 rfl (mv 67 (.bool false) ?_)
  refine nr ?_; intro U h; simp only [z0, z1] at h; subst h
  refine mv 4 (.bool false) (wpList_nil (blk_n (blk_n (then_n (wp_region_lit (mv 16 (.int .i64 ((i : Nat) : Int)) ?_))))))
  refine nr ?_; intro U h; simp only [z0, z1] at h; subst h
  refine sv 17 (.int .i64 ((i + 1 : Nat) : Int)) (run_add64 _ _ _ rfl ((i : Nat) : Int) 1 _ rfl rfl (by omega) (by omega) (by omega) _) (mv 5 (.int .i64 ((i + 1 : Nat) : Int)) ?_)
  refine nr ?_; intro U h; simp only [z0, z1] at h; subst h
  refine wpList_nil (then_n ?_)
  have hnx : false = okF f d F (i + 1) := by simp only [okF, hc, okc, ← hok, hp2, hp3, hp4, hp5, cond_true, cond_false, Bool.false_and]
  exact ⟨_, (by omega : F.length - (i + 1) < F.length - i), i + 1, false, usK ⟨hin, hnx, GG, kg1⟩⟩
  refine mv 61 (.bool true) (mv 62 (.bool true) ?_)
  refine nr ?_; intro U h; simp only [z0, z1] at h; subst h
  refine s_gvalY 63 rfl rfl y1 rfl (.pointer (some ⟨g1, 1, none⟩)) (run_fld 36 _ 1 rfl _ _ rfl _) (s_gvalY 64 rfl rfl y1 rfl (.pointer (some ⟨g1, 17, none⟩)) (run_fld 25 _ 1 rfl _ _ rfl _) ?_)
  refine nr ?_; intro U h; simp only [z0, z1] at h; subst h
  refine s_gvalY 65 rfl rfl y1 rfl (.int .i64 f.pn) (run_ldc 2 _ rfl g1 17 rfl 36 _ kg1 (na2 _) _ rfl) ?_
  refine nr ?_; intro U h; simp only [z0, z1] at h; subst h
  obtain ⟨p6, hp6⟩ : ∃ p, decide (0 ≤ f.pn) = p := ⟨_, rfl⟩
  refine s_gvalY 66 rfl rfl y1 rfl (.bool p6) (run_geqT 2 _ _ _ rfl f.pn 0 rfl rfl p6 hp6 _) ?_
  refine nr ?_; intro U h; simp only [z0, z1] at h; subst h
  cases p6
  refine s_val _ rfl rfl (.bool false) rfl ?_
  refine s_val _ rfl rfl (.bool false) rfl ?_
  refine nr ?_; intro U h; simp only [z0, z1] at h; subst h
  refine wpList_nil (blk_n (blk_n (then_n (wp_region_lit (mv 16 (.int .i64 ((i : Nat) : Int)) (sv 17 (.int .i64 ((i + 1 : Nat) : Int)) (run_add64 _ _ _ rfl ((i : Nat) : Int) 1 _ rfl rfl (by omega) (by omega) (by omega) _) ?_))))))
  refine nr ?_; intro U h; simp only [z0, z1] at h; subst h
  refine mv 5 (.int .i64 ((i + 1 : Nat) : Int)) (wpList_nil (then_n ?_))
  have hnx : false = okF f d F (i + 1) := by simp only [okF, hc, okc, ← hok, hp2, hp3, hp4, hp5, hp6, cond_true, cond_false, Bool.and_false]
  exact ⟨_, (by omega : F.length - (i + 1) < F.length - i), i + 1, false, usK ⟨hin, hnx, GG, kg1⟩⟩
  refine mv 67 (.bool true) ?_
  refine nr ?_; intro U h; simp only [z0, z1] at h; subst h
  refine mv 4 (.bool true) (wpList_nil (blk_n (blk_n (then_n (wp_region_lit (mv 16 (.int .i64 ((i : Nat) : Int)) ?_))))))
  refine nr ?_; intro U h; simp only [z0, z1] at h; subst h
  refine sv 17 (.int .i64 ((i + 1 : Nat) : Int)) (run_add64 _ _ _ rfl ((i : Nat) : Int) 1 _ rfl rfl (by omega) (by omega) (by omega) _) (mv 5 (.int .i64 ((i + 1 : Nat) : Int)) ?_)
  refine nr ?_; intro U h; simp only [z0, z1] at h; subst h
  refine wpList_nil (then_n ?_)
  have hnx : true = okF f d F (i + 1) := by simp only [okF, hc, okc, ← hok, hp2, hp3, hp4, hp5, hp6, cond_true, cond_false, Bool.and_true]
  exact ⟨_, (by omega : F.length - (i + 1) < F.length - i), i + 1, true, usK ⟨hin, hnx, GG, kg1⟩⟩
  refine mv 51 (.bool true) (wpList_nil (then_n (wp_cond_true rfl ?_)))
  refine wp_region_opq ?_
  intro OPS hY
  have y1 := hY 1 54 rfl
  clear hY
  cases ok
  refine mv 53 (.bool false) ?_
  refine nr ?_; intro U h; simp only [z0, z1] at h; subst h
  refine mv 54 (.bool false) (s_skipY 55 rfl rfl y1 rfl ?_)
  refine nr ?_; intro U h; simp only [z0, z1] at h; subst h
  refine s_skipY 56 rfl rfl y1 rfl (s_skipY 57 rfl rfl y1 rfl ?_)
  refine nr ?_; intro U h; simp only [z0, z1] at h; subst h
  refine mv 58 (.bool false) (mv 4 (.bool false) ?_)
  refine nr ?_; intro U h; simp only [z0, z1] at h; subst h
  refine wpList_nil (blk_n (blk_n (then_n (wp_region_lit (mv 16 (.int .i64 ((i : Nat) : Int)) (sv 17 (.int .i64 ((i + 1 : Nat) : Int)) (run_add64 _ _ _ rfl ((i : Nat) : Int) 1 _ rfl rfl (by omega) (by omega) (by omega) _) ?_))))))
  refine nr ?_; intro U h; simp only [z0, z1] at h; subst h
  refine mv 5 (.int .i64 ((i + 1 : Nat) : Int)) (wpList_nil (then_n ?_))
  have hnx : false = okF f d F (i + 1) := by simp only [okF, hc, okc, ← hok, hp2, hp3, hp4, cond_true, cond_false, Bool.false_and]
  exact ⟨_, (by omega : F.length - (i + 1) < F.length - i), i + 1, false, usK ⟨hin, hnx, GG, kg1⟩⟩
  refine mv 53 (.bool true) ?_
  refine nr ?_; intro U h; simp only [z0, z1] at h; subst h
  refine mv 54 (.bool true) (s_gvalY 55 rfl rfl y1 rfl (.pointer (some ⟨g1, 51, none⟩)) (run_fld 36 _ 5 rfl _ _ rfl _) ?_)
  refine nr ?_; intro U h; simp only [z0, z1] at h; subst h
  refine s_gvalY 56 rfl rfl y1 rfl (.int .i64 f.n) (run_ldc 2 _ rfl g1 51 rfl 36 _ kg1 (na2 _) _ rfl) ?_
  refine nr ?_; intro U h; simp only [z0, z1] at h; subst h
  obtain ⟨p5, hp5⟩ : ∃ p, decide (0 ≤ f.n) = p := ⟨_, rfl⟩
  refine s_gvalY 57 rfl rfl y1 rfl (.bool p5) (run_geqT 2 _ _ _ rfl f.n 0 rfl rfl p5 hp5 _) ?_
  refine nr ?_; intro U h; simp only [z0, z1] at h; subst h
  cases p5
  refine s_val _ rfl rfl (.bool false) rfl ?_
  refine s_val _ rfl rfl (.bool false) rfl ?_
  refine nr ?_; intro U h; simp only [z0, z1] at h; subst h
  refine wpList_nil (blk_n (blk_n (then_n (wp_region_lit (mv 16 (.int .i64 ((i : Nat) : Int)) (sv 17 (.int .i64 ((i + 1 : Nat) : Int)) (run_add64 _ _ _ rfl ((i : Nat) : Int) 1 _ rfl rfl (by omega) (by omega) (by omega) _) ?_))))))
  refine nr ?_; intro U h; simp only [z0, z1] at h; subst h
  refine mv 5 (.int .i64 ((i + 1 : Nat) : Int)) (wpList_nil (then_n ?_))
  have hnx : false = okF f d F (i + 1) := by simp only [okF, hc, okc, ← hok, hp2, hp3, hp4, hp5, cond_true, cond_false, Bool.and_false]
  exact ⟨_, (by omega : F.length - (i + 1) < F.length - i), i + 1, false, usK ⟨hin, hnx, GG, kg1⟩⟩
  refine mv 58 (.bool true) ?_
  refine nr ?_; intro U h; simp only [z0, z1] at h; subst h
  refine mv 4 (.bool true) (wpList_nil (blk_n (blk_n (then_n (wp_region_lit (mv 16 (.int .i64 ((i : Nat) : Int)) ?_))))))
  refine nr ?_; intro U h; simp only [z0, z1] at h; subst h
  refine sv 17 (.int .i64 ((i + 1 : Nat) : Int)) (run_add64 _ _ _ rfl ((i : Nat) : Int) 1 _ rfl rfl (by omega) (by omega) (by omega) _) (mv 5 (.int .i64 ((i + 1 : Nat) : Int)) ?_)
  refine nr ?_; intro U h; simp only [z0, z1] at h; subst h
  refine wpList_nil (then_n ?_)
  have hnx : true = okF f d F (i + 1) := by simp only [okF, hc, okc, ← hok, hp2, hp3, hp4, hp5, cond_true, cond_false, Bool.and_true]
  exact ⟨_, (by omega : F.length - (i + 1) < F.length - i), i + 1, true, usK ⟨hin, hnx, GG, kg1⟩⟩
  refine mv 36 (.bool true) (wpList_nil (then_n (wp_cond_true rfl ?_)))
  refine wp_region_opq ?_
  intro OPS hY
  have y1 := hY 1 39 rfl
  have y7 := hY 7 45 rfl
  clear hY
  cases ok
  refine mv 38 (.bool false) ?_
  refine nr ?_; intro U h; simp only [z0, z1] at h; subst h
  refine mv 39 (.bool false) (s_skipY 40 rfl rfl y1 rfl ?_)
  refine nr ?_; intro U h; simp only [z0, z1] at h; subst h
  refine s_skipY 41 rfl rfl y1 rfl (s_skipY 42 rfl rfl y1 rfl ?_)
  refine nr ?_; intro U h; simp only [z0, z1] at h; subst h
  refine s_skipY 43 rfl rfl y1 rfl (mv 44 (.bool false) ?_)
  refine nr ?_; intro U h; simp only [z0, z1] at h; subst h
  refine mv 45 (.bool false) (s_skipY 46 rfl rfl y7 rfl ?_)
  refine nr ?_; intro U h; simp only [z0, z1] at h; subst h
  refine s_skipY 47 rfl rfl y7 rfl (s_skipY 48 rfl rfl y7 rfl ?_)
  refine nr ?_; intro U h; simp only [z0, z1] at h; subst h
  refine s_skipY 49 rfl rfl y7 rfl (mv 50 (.bool false) ?_)
  refine nr ?_; intro U h; simp only [z0, z1] at h; subst h
  refine mv 4 (.bool false) (wpList_nil (blk_n (blk_n (then_n (wp_region_lit (mv 16 (.int .i64 ((i : Nat) : Int)) ?_))))))
  refine nr ?_; intro U h; simp only [z0, z1] at h; subst h
  refine sv 17 (.int .i64 ((i + 1 : Nat) : Int)) (run_add64 _ _ _ rfl ((i : Nat) : Int) 1 _ rfl rfl (by omega) (by omega) (by omega) _) (mv 5 (.int .i64 ((i + 1 : Nat) : Int)) ?_)
  refine nr ?_; intro U h; simp only [z0, z1] at h; subst h
  refine wpList_nil (then_n ?_)
  have hnx : false = okF f d F (i + 1) := by simp only [okF, hc, okc, ← hok, hp2, hp3, cond_true, cond_false, Bool.false_and]
  exact ⟨_, (by omega : F.length - (i + 1) < F.length - i), i + 1, false, usK ⟨hin, hnx, GG, kg1⟩⟩
  refine mv 38 (.bool true) (mv 39 (.bool true) ?_)
  refine nr ?_; intro U h; simp only [z0, z1] at h; subst h
  refine s_gvalY 40 rfl rfl y1 rfl (.pointer (some ⟨g1, 54, none⟩)) (run_fld 36 _ 7 rfl _ _ rfl _) (s_gvalY 41 rfl rfl y1 rfl (.pointer (some ⟨g1, 54, none⟩)) (run_fld 27 _ 0 rfl _ _ rfl _) ?_)
  refine nr ?_; intro U h; simp only [z0, z1] at h; subst h
  refine s_gvalY 42 rfl rfl y1 rfl (.int .i64 f.ti) (run_ldc 2 _ rfl g1 54 rfl 36 _ kg1 (na2 _) _ rfl) ?_
  refine nr ?_; intro U h; simp only [z0, z1] at h; subst h
  obtain ⟨p4, hp4⟩ : ∃ p, decide (0 ≤ f.ti) = p := ⟨_, rfl⟩
  refine s_gvalY 43 rfl rfl y1 rfl (.bool p4) (run_geqT 2 _ _ _ rfl f.ti 0 rfl rfl p4 hp4 _) ?_
  refine nr ?_; intro U h; simp only [z0, z1] at h; subst h
  cases p4
  refine s_val _ rfl rfl (.bool false) rfl ?_
  refine s_val _ rfl rfl (.bool false) rfl ?_
  refine nr ?_; intro U h; simp only [z0, z1] at h; subst h
  iterate 4 (refine s_skipY _ rfl rfl y7 rfl ?_; refine nr ?_; intro U h; simp only [z0, z1] at h; subst h)
  refine s_val _ rfl rfl (.bool false) rfl ?_
  refine s_val _ rfl rfl (.bool false) rfl ?_
  refine nr ?_; intro U h; simp only [z0, z1] at h; subst h
  refine wpList_nil (blk_n (blk_n (then_n (wp_region_lit (mv 16 (.int .i64 ((i : Nat) : Int)) (sv 17 (.int .i64 ((i + 1 : Nat) : Int)) (run_add64 _ _ _ rfl ((i : Nat) : Int) 1 _ rfl rfl (by omega) (by omega) (by omega) _) ?_))))))
  refine nr ?_; intro U h; simp only [z0, z1] at h; subst h
  refine mv 5 (.int .i64 ((i + 1 : Nat) : Int)) (wpList_nil (then_n ?_))
  have hnx : false = okF f d F (i + 1) := by simp only [okF, hc, okc, ← hok, hp2, hp3, hp4, cond_true, cond_false, Bool.and_false, Bool.false_and]
  exact ⟨_, (by omega : F.length - (i + 1) < F.length - i), i + 1, false, usK ⟨hin, hnx, GG, kg1⟩⟩
  refine mv 44 (.bool true) ?_
  refine nr ?_; intro U h; simp only [z0, z1] at h; subst h
  refine mv 45 (.bool true) (s_gvalY 46 rfl rfl y7 rfl (.pointer (some ⟨g1, 54, none⟩)) (run_fld 36 _ 7 rfl _ _ rfl _) ?_)
  refine nr ?_; intro U h; simp only [z0, z1] at h; subst h
  refine s_gvalY 47 rfl rfl y7 rfl (.pointer (some ⟨g1, 55, none⟩)) (run_fld 27 _ 1 rfl _ _ rfl _) (s_gvalY 48 rfl rfl y7 rfl (.int .i64 f.tn) (run_ldc 2 _ rfl g1 55 rfl 36 _ kg1 (na2 _) _ rfl) ?_)
  refine nr ?_; intro U h; simp only [z0, z1] at h; subst h
  obtain ⟨p5, hp5⟩ : ∃ p, decide (0 ≤ f.tn) = p := ⟨_, rfl⟩
  refine s_gvalY 49 rfl rfl y7 rfl (.bool p5) (run_geqT 2 _ _ _ rfl f.tn 0 rfl rfl p5 hp5 _) ?_
  refine nr ?_; intro U h; simp only [z0, z1] at h; subst h
  cases p5
  refine s_val _ rfl rfl (.bool false) rfl ?_
  refine s_val _ rfl rfl (.bool false) rfl ?_
  refine nr ?_; intro U h; simp only [z0, z1] at h; subst h
  refine wpList_nil (blk_n (blk_n (then_n (wp_region_lit (mv 16 (.int .i64 ((i : Nat) : Int)) (sv 17 (.int .i64 ((i + 1 : Nat) : Int)) (run_add64 _ _ _ rfl ((i : Nat) : Int) 1 _ rfl rfl (by omega) (by omega) (by omega) _) ?_))))))
  refine nr ?_; intro U h; simp only [z0, z1] at h; subst h
  refine mv 5 (.int .i64 ((i + 1 : Nat) : Int)) (wpList_nil (then_n ?_))
  have hnx : false = okF f d F (i + 1) := by simp only [okF, hc, okc, ← hok, hp2, hp3, hp4, hp5, cond_true, cond_false, Bool.and_false]
  exact ⟨_, (by omega : F.length - (i + 1) < F.length - i), i + 1, false, usK ⟨hin, hnx, GG, kg1⟩⟩
  refine mv 50 (.bool true) ?_
  refine nr ?_; intro U h; simp only [z0, z1] at h; subst h
  refine mv 4 (.bool true) (wpList_nil (blk_n (blk_n (then_n (wp_region_lit (mv 16 (.int .i64 ((i : Nat) : Int)) ?_))))))
  refine nr ?_; intro U h; simp only [z0, z1] at h; subst h
  refine sv 17 (.int .i64 ((i + 1 : Nat) : Int)) (run_add64 _ _ _ rfl ((i : Nat) : Int) 1 _ rfl rfl (by omega) (by omega) (by omega) _) (mv 5 (.int .i64 ((i + 1 : Nat) : Int)) ?_)
  refine nr ?_; intro U h; simp only [z0, z1] at h; subst h
  refine wpList_nil (then_n ?_)
  have hnx : true = okF f d F (i + 1) := by simp only [okF, hc, okc, ← hok, hp2, hp3, hp4, hp5, cond_true, cond_false, Bool.and_true]
  exact ⟨_, (by omega : F.length - (i + 1) < F.length - i), i + 1, true, usK ⟨hin, hnx, GG, kg1⟩⟩
  refine mv 21 (.bool true) (wpList_nil (then_n (wp_cond_true rfl ?_)))
  refine wp_region_opq ?_
  intro OPS hY
  have y1 := hY 1 24 rfl
  have y7 := hY 7 30 rfl
  clear hY
  cases ok
  refine mv 23 (.bool false) ?_
  refine nr ?_; intro U h; simp only [z0, z1] at h; subst h
  refine mv 24 (.bool false) (s_skipY 25 rfl rfl y1 rfl ?_)
  refine nr ?_; intro U h; simp only [z0, z1] at h; subst h
  refine s_skipY 26 rfl rfl y1 rfl (s_skipY 27 rfl rfl y1 rfl ?_)
  refine nr ?_; intro U h; simp only [z0, z1] at h; subst h
  refine s_skipY 28 rfl rfl y1 rfl (mv 29 (.bool false) ?_)
  refine nr ?_; intro U h; simp only [z0, z1] at h; subst h
  refine mv 30 (.bool false) (s_skipY 31 rfl rfl y7 rfl ?_)
  refine nr ?_; intro U h; simp only [z0, z1] at h; subst h
  refine s_skipY 32 rfl rfl y7 rfl (s_skipY 33 rfl rfl y7 rfl ?_)
  refine nr ?_; intro U h; simp only [z0, z1] at h; subst h
  refine s_skipY 34 rfl rfl y7 rfl (mv 35 (.bool false) ?_)
  refine nr ?_; intro U h; simp only [z0, z1] at h; subst h
  refine mv 4 (.bool false) (wpList_nil (blk_n (blk_n (then_n (wp_region_lit (mv 16 (.int .i64 ((i : Nat) : Int)) ?_))))))
  refine nr ?_; intro U h; simp only [z0, z1] at h; subst h
  refine sv 17 (.int .i64 ((i + 1 : Nat) : Int)) (run_add64 _ _ _ rfl ((i : Nat) : Int) 1 _ rfl rfl (by omega) (by omega) (by omega) _) (mv 5 (.int .i64 ((i + 1 : Nat) : Int)) ?_)
  refine nr ?_; intro U h; simp only [z0, z1] at h; subst h
  refine wpList_nil (then_n ?_)
  have hnx : false = okF f d F (i + 1) := by simp only [okF, hc, okc, ← hok, hp2, cond_true, Bool.false_and]
  exact ⟨_, (by omega : F.length - (i + 1) < F.length - i), i + 1, false, usK ⟨hin, hnx, GG, kg1⟩⟩
  refine mv 23 (.bool true) (mv 24 (.bool true) ?_)
  refine nr ?_; intro U h; simp only [z0, z1] at h; subst h
  refine s_gvalY 25 rfl rfl y1 rfl (.pointer (some ⟨g1, 52, none⟩)) (run_fld 36 _ 6 rfl _ _ rfl _) (s_gvalY 26 rfl rfl y1 rfl (.pointer (some ⟨g1, 52, none⟩)) (run_fld 27 _ 0 rfl _ _ rfl _) ?_)
  refine nr ?_; intro U h; simp only [z0, z1] at h; subst h
  refine s_gvalY 27 rfl rfl y1 rfl (.int .i64 f.fi) (run_ldc 2 _ rfl g1 52 rfl 36 _ kg1 (na2 _) _ rfl) ?_
  refine nr ?_; intro U h; simp only [z0, z1] at h; subst h
  obtain ⟨p3, hp3⟩ : ∃ p, decide (0 ≤ f.fi) = p := ⟨_, rfl⟩
  refine s_gvalY 28 rfl rfl y1 rfl (.bool p3) (run_geqT 2 _ _ _ rfl f.fi 0 rfl rfl p3 hp3 _) ?_
  refine nr ?_; intro U h; simp only [z0, z1] at h; subst h
  cases p3
  refine s_val _ rfl rfl (.bool false) rfl ?_
  refine s_val _ rfl rfl (.bool false) rfl ?_
  refine nr ?_; intro U h; simp only [z0, z1] at h; subst h
  iterate 4 (refine s_skipY _ rfl rfl y7 rfl ?_; refine nr ?_; intro U h; simp only [z0, z1] at h; subst h)
  refine s_val _ rfl rfl (.bool false) rfl ?_
  refine s_val _ rfl rfl (.bool false) rfl ?_
  refine nr ?_; intro U h; simp only [z0, z1] at h; subst h
  refine wpList_nil (blk_n (blk_n (then_n (wp_region_lit (mv 16 (.int .i64 ((i : Nat) : Int)) (sv 17 (.int .i64 ((i + 1 : Nat) : Int)) (run_add64 _ _ _ rfl ((i : Nat) : Int) 1 _ rfl rfl (by omega) (by omega) (by omega) _) ?_))))))
  refine nr ?_; intro U h; simp only [z0, z1] at h; subst h
  refine mv 5 (.int .i64 ((i + 1 : Nat) : Int)) (wpList_nil (then_n ?_))
  have hnx : false = okF f d F (i + 1) := by simp only [okF, hc, okc, ← hok, hp2, hp3, cond_true, Bool.and_false, Bool.false_and]
  exact ⟨_, (by omega : F.length - (i + 1) < F.length - i), i + 1, false, usK ⟨hin, hnx, GG, kg1⟩⟩
  refine mv 29 (.bool true) ?_
  refine nr ?_; intro U h; simp only [z0, z1] at h; subst h
  refine mv 30 (.bool true) (s_gvalY 31 rfl rfl y7 rfl (.pointer (some ⟨g1, 52, none⟩)) (run_fld 36 _ 6 rfl _ _ rfl _) ?_)
  refine nr ?_; intro U h; simp only [z0, z1] at h; subst h
  refine s_gvalY 32 rfl rfl y7 rfl (.pointer (some ⟨g1, 53, none⟩)) (run_fld 27 _ 1 rfl _ _ rfl _) (s_gvalY 33 rfl rfl y7 rfl (.int .i64 f.fn) (run_ldc 2 _ rfl g1 53 rfl 36 _ kg1 (na2 _) _ rfl) ?_)
  refine nr ?_; intro U h; simp only [z0, z1] at h; subst h
  obtain ⟨p4, hp4⟩ : ∃ p, decide (0 ≤ f.fn) = p := ⟨_, rfl⟩
  refine s_gvalY 34 rfl rfl y7 rfl (.bool p4) (run_geqT 2 _ _ _ rfl f.fn 0 rfl rfl p4 hp4 _) ?_
  refine nr ?_; intro U h; simp only [z0, z1] at h; subst h
  cases p4
  refine s_val _ rfl rfl (.bool false) rfl ?_
  refine s_val _ rfl rfl (.bool false) rfl ?_
  refine nr ?_; intro U h; simp only [z0, z1] at h; subst h
  refine wpList_nil (blk_n (blk_n (then_n (wp_region_lit (mv 16 (.int .i64 ((i : Nat) : Int)) (sv 17 (.int .i64 ((i + 1 : Nat) : Int)) (run_add64 _ _ _ rfl ((i : Nat) : Int) 1 _ rfl rfl (by omega) (by omega) (by omega) _) ?_))))))
  refine nr ?_; intro U h; simp only [z0, z1] at h; subst h
  refine mv 5 (.int .i64 ((i + 1 : Nat) : Int)) (wpList_nil (then_n ?_))
  have hnx : false = okF f d F (i + 1) := by simp only [okF, hc, okc, ← hok, hp2, hp3, hp4, cond_true, Bool.and_false]
  exact ⟨_, (by omega : F.length - (i + 1) < F.length - i), i + 1, false, usK ⟨hin, hnx, GG, kg1⟩⟩
  refine mv 35 (.bool true) ?_
  refine nr ?_; intro U h; simp only [z0, z1] at h; subst h
  refine mv 4 (.bool true) (wpList_nil (blk_n (blk_n (then_n (wp_region_lit (mv 16 (.int .i64 ((i : Nat) : Int)) ?_))))))
  refine nr ?_; intro U h; simp only [z0, z1] at h; subst h
  refine sv 17 (.int .i64 ((i + 1 : Nat) : Int)) (run_add64 _ _ _ rfl ((i : Nat) : Int) 1 _ rfl rfl (by omega) (by omega) (by omega) _) (mv 5 (.int .i64 ((i + 1 : Nat) : Int)) ?_)
  refine nr ?_; intro U h; simp only [z0, z1] at h; subst h
  refine wpList_nil (then_n ?_)
  have hnx : true = okF f d F (i + 1) := by simp only [okF, hc, okc, ← hok, hp2, hp3, hp4, cond_true, Bool.and_true]
  exact ⟨_, (by omega : F.length - (i + 1) < F.length - i), i + 1, true, usK ⟨hin, hnx, GG, kg1⟩⟩
end Go.Proofs.Ythmcnlmphikicaa
