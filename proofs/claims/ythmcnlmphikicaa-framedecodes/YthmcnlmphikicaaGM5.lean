/- The document's Decode. -/
import Derived.Test.YthmcnlmphikicaaGM4
namespace Go.Proofs.Ythmcnlmphikicaa
open Go.RowKit
theorem usK {m m' : Nat} {F : List Value} {mk : (Nat → Value) → List Value} {R : Prop} (r : R) (hm : m = m' := by exact rfl) (h : F = mk fun k => F.getD k undef := by as_aux_lemma => kernel_rfl) : ∃ us : Nat → Value, m = m' ∧ (⟨F.toArray, []⟩ : Act) = ⟨(mk us).toArray, []⟩ ∧ R :=
  ⟨_, hm, by rw [← h], r⟩
set_option maxRecDepth 100000 in
set_option maxHeartbeats 4000000 in
theorem dec_d (so : Option Addr) (sc : Nat) (l : List Nat) (w : World) (H : NC w .u8 so sc l) (hl : l.length ≤ 140737488355000) : Calls Try.prog 15 #[.slice so l.length sc] w fun en w' => Gro w w' ∧ ∃ k a0 e0 s a1 e1, dR (rdX 1 12 2 l) 0 0 0 = (k, a0, e0) ∧ stN l (formD ((k : Nat) : Int)) zs (formD ((k : Nat) : Int)).length a0 e0 = (s, a1, e1) ∧ ((endE l a1 e1 ≠ 0 ∧ en = .returned (.tuple #[.agg (frA Fr.zero), .int .i64 ((endE l a1 e1 : Nat) : Int)])) ∨ (endE l a1 e1 = 0 ∧ ∃ s1 s2 s3 s4 : Sl, en = .returned (.tuple #[.agg (frA { s.1 with kind := ((k : Nat) : Int), tr := s1, ids := s2, val := s3, tx := s4 }), .int .i64 0]) ∧ OX w' 3 1 w.heap.size s1.ao s1.cap s1.n (s.2.tr.map (Value.int .i64 ·)) ∧ OX w' 23 16 w.heap.size s2.ao s2.cap s2.n (cellsI s.2.ids) ∧ OX w' 5 1 w.heap.size s3.ao s3.cap s3.n (bL s.2.val) ∧ OX w' 5 1 w.heap.size s4.ao s4.cap s4.n (bL s.2.tx))) := by
  refine s_enterR Try.func15 rfl Try.ntmps15 [.slice so l.length sc] ?_
  intro U h; simp only [List.length_cons, List.length_nil, List.cons_append, List.nil_append, Nat.reduceAdd, Nat.reduceSub, List.reduceReplicate] at h; subst h
  have GG := Gro.refl w
  refine wp_seq (wp_region_lit ?_)
  refine s_alloc 2 rfl rfl 36 rfl _ zv36 _ rfl ?_
  intro w1 g1 G eg1 kg1
  have bg1 := size_base GG eg1
  replace GG := GG.trans G
  clear G eg1
  refine mv 3 (.int .i64 0) (wpList_nil (then_n (wp_seq (wp_region_lit (mv 12 (.slice so l.length sc) (sv 13 (.agg (c72 ⟨so, l.length, sc⟩ 0 0)) (run_bd 72 _ rfl [(0, .slice so l.length sc)] rfl _ (by kernel_rfl)) ?_))))))
  refine s_box 14 rfl rfl 72 _ rfl _ rfl (c72 ⟨so, l.length, sc⟩ 0 0) rfl ?_
  intro w2 g2 G eg2 kg2
  have bg2 := size_base GG eg2
  have dg1g2 := lt_new kg1 eg2
  replace kg1 := G.has kg1
  replace GG := GG.trans G
  clear G eg2
  refine nr ?_; intro U h; simp only [z0, z1] at h; subst h
  refine mv 4 (.pointer (some ⟨g2, 0, none⟩)) (wpList_nil (then_n (wp_seq (wp_region_lit ?_))))
  refine s_alloc 5 rfl rfl 36 rfl _ zv36 _ rfl ?_
  intro w3 g3 G eg3 kg3
  have bg3 := size_base GG eg3
  have dg1g3 := lt_new kg1 eg3
  have dg2g3 := lt_new kg2 eg3
  replace kg1 := G.has kg1
  replace kg2 := G.has kg2
  replace GG := GG.trans G
  clear G eg3
  refine wpList_nil (then_n (wp_seq (wp_region_lit ?_)))
  obtain ⟨B, hB⟩ : ∃ B, w3.heap.size = B := ⟨_, rfl⟩
  have hBs := Nat.le_of_eq hB.symm
  have lg1 : g1 < B := lt_new kg1 hB
  have lg2 : g2 < B := lt_new kg2 hB
  have lg3 : g3 < B := lt_new kg3 hB
  have hwB : w.heap.size ≤ B := by rw [← hB]; exact GG.size
  clear hB
  refine mv 15 (.pointer (some ⟨g2, 0, none⟩)) ?_
  refine nr ?_; intro U h; simp only [z0, z1] at h; subst h
  obtain ⟨⟨x16, a16, e16⟩, h16⟩ : ∃ r, dR (rdX 1 12 2 l) 0 0 0 = r := ⟨_, rfl⟩
  refine s_callx 16 rfl rfl _ 31 Try.call31 rfl rfl _ rfl [.pointer (some ⟨g2, 0, none⟩), .int .u64 1, .int .u64 12, .int .i64 2] rfl (dnum g2 so sc l _ 0 0 1 12 2 x16 a16 e16 kg2 (H.gro GG) hl h16) (fun _ _ ⟨he, _⟩ => ⟨_, he⟩) ?_
  rintro v w4 ⟨he, G, kn⟩
  cases he
  replace kg1 := G.has kg1 (by simp; omega)
  replace kg3 := G.has kg3 (by simp; omega)
  replace GG := G.gro GG (by simp; omega)
  replace hBs := Nat.le_trans hBs G.size
  clear kg2 G
  have kg2 := kn
  clear kn
  refine nr ?_; intro U h; simp only [z0, z1] at h; subst h
  obtain ⟨k, hk⟩ : ∃ k, x16 = k := ⟨_, rfl⟩
  subst hk
  refine sv 17 (.pointer (some ⟨g3, 0, none⟩)) (run_fld 36 _ 0 rfl _ _ rfl _) ?_
  refine s_store rfl rfl 3 _ _ rfl g3 0 rfl (.int .i64 ((x16 : Nat) : Int)) rfl 36 _ kg3 #[.int .i64 ((x16 : Nat) : Int)] rfl (by kernel_rfl) (Nat.le_of_ble_eq_true rfl) (by kernel_rfl) (c36 ((x16 : Nat) : Int) zF 0 false zF zF 0 0 0 0 0 Sl.nil Sl.nil zF 0 zF Sl.nil 0 0 Sl.nil) (by kernel_rfl) ?_
  intro w6 St
  replace kg1 := St.has (by omega) kg1
  replace kg2 := St.has (by omega) kg2
  replace GG := GG.store St bg3
  replace kg3 := St.new
  replace hBs := Nat.le_trans hBs (Nat.le_of_eq St.size.symm)
  clear St
  refine wpList_nil (then_n (wp_seq (wp_region_lit (sv 18 (.pointer (some ⟨g3, 0, none⟩)) (run_fld 36 _ 0 rfl _ _ rfl _) (sv 19 (.int .i64 ((x16 : Nat) : Int)) (run_ldc 3 _ rfl g3 0 rfl 36 _ kg3 (na3 _) _ rfl) ?_)))))
  refine nr ?_; intro U h; simp only [z0, z1] at h; subst h
  obtain ⟨F0, hF0⟩ : ∃ F, formL ((x16 : Nat) : Int) = F := ⟨_, rfl⟩
  obtain ⟨F, hF⟩ : ∃ F, formD ((x16 : Nat) : Int) = F := ⟨_, rfl⟩
  have hFD : F = if F0 = [63] then [] else F0 := by rw [← hF, ← hF0]; rfl
  have hF7 := formL_ok ((x16 : Nat) : Int)
  rw [hF0] at hF7
  obtain ⟨hF7, hFb⟩ : F.length ≤ 7 ∧ ∀ x ∈ F, x < 256 := by
    rw [hFD]
    split
    exact ⟨by decide, fun x hx => by cases hx⟩
    exact hF7
  obtain ⟨pz, hpz⟩ : ∃ p, decide (F0 = [63]) = p := ⟨_, rfl⟩
  have h63 := (formL_63 ((x16 : Nat) : Int) F0 hF0).trans hpz
  refine s_callv 20 rfl rfl _ 27 Try.call27 rfl rfl _ rfl [.int .i64 ((x16 : Nat) : Int)] rfl (form_any ((x16 : Nat) : Int) F0 hF0 _) ?_
  intro w7 G
  replace hBs := Nat.le_trans hBs G.size
  replace kg1 := G.has kg1
  replace kg2 := G.has kg2
  replace kg3 := G.has kg3
  replace GG := GG.trans G
  clear G
  refine mv 6 (.string (bas F0)) (wpList_nil (then_n (wp_seq (wp_seq (wp_region_lit (mv 21 (.string (bas F0)) (sv 22 (.bool pz) (run_eqs_op _ _ _ rfl _ _ rfl rfl pz h63 _) (wpList_nil (then_n ?_)))))))))
  refine wp_mono (Q := fun ex ac wx => ex = .normal ∧ ac = ⟨[.slice so l.length sc, undef, .pointer (some ⟨g1, 0, none⟩), .int .i64 0, .pointer (some ⟨g2, 0, none⟩), .pointer (some ⟨g3, 0, none⟩), .string (bas F), undef, undef, undef, undef, undef, .slice so l.length sc, .agg (c72 ⟨so, l.length, sc⟩ 0 0), .pointer (some ⟨g2, 0, none⟩), .pointer (some ⟨g2, 0, none⟩), .int .i64 ((x16 : Nat) : Int), .pointer (some ⟨g3, 0, none⟩), .pointer (some ⟨g3, 0, none⟩), .int .i64 ((x16 : Nat) : Int), .string (bas F0), .string (bas F0), .bool pz, undef, undef, undef, undef, undef, undef, undef, undef, undef, undef, undef, undef, undef, undef, undef, undef, undef, undef, undef, undef, undef, undef, undef, undef, undef, undef, undef, undef, undef, undef, undef, undef, undef, undef, undef, undef, undef, undef, undef, undef, undef, undef, undef, undef, undef, undef, undef, undef, undef, undef, undef, undef, undef, undef, undef, undef, undef, undef, undef, undef, undef, undef, undef, undef, undef, undef, undef, undef, undef, undef, undef, undef, undef, undef, undef, undef, undef, undef, undef, undef, undef, undef, undef, undef, undef, undef, undef, undef, undef, undef, undef, undef, undef, undef, undef, undef, undef, undef, undef, undef, undef, undef, undef, undef, undef, undef, undef, undef, undef, undef, undef, undef, undef, undef, undef, undef, undef, undef, undef, undef, undef, undef, undef, undef, undef, undef, undef, undef, undef, undef, undef, undef, undef, undef, undef, undef, undef, undef, undef, undef, undef, undef, undef, undef, undef, undef, undef, undef, undef, undef, undef, undef, undef, undef, undef, undef, undef, undef, undef, undef, undef, undef, undef, undef, undef, undef, undef, undef, undef, undef].toArray, []⟩ ∧ w7 = wx) ?_ ?_
  cases pz
  have hFF : F = F0 := by rw [hFD, if_neg (of_decide_eq_false hpz)]
  subst hFF
  refine wp_cond_false rfl (wp_skip ?_)
  exact ⟨rfl, rfl, rfl⟩
  have hFF : F = [] := by rw [hFD, if_pos (of_decide_eq_true hpz)]
  refine wp_cond_true rfl (wp_region_lit ?_)
  refine mv 6 (.string (bas [])) ?_
  refine nr ?_; intro U h; simp only [z0, z1] at h; subst h
  refine wpList_nil ?_
  rw [hFF]
  exact ⟨rfl, rfl, rfl⟩
  rintro ex ac wx ⟨rfl, rfl, rfl⟩
  refine then_n (wp_seq (wp_seq (wp_region_lit (mv 7 (.int .i64 0) (wpList_nil (then_n (wp_block ?_)))))))
  refine wp_loopN (fun mz az wv => ∃ (i : Nat) (f : Fr) (d : FD) (a : Nat) (e : Nat) (ao1 : Option Addr) (cap1 : Nat) (ao2 : Option Addr) (cap2 : Nat) (ao3 : Option Addr) (cap3 : Nat) (ao4 : Option Addr) (cap4 : Nat) (us1 : Nat → Value), mz = F.length - i ∧ az = ⟨[.slice so l.length sc, undef, .pointer (some ⟨g1, 0, none⟩), .int .i64 0, .pointer (some ⟨g2, 0, none⟩), .pointer (some ⟨g3, 0, none⟩), .string (bas F), .int .i64 ((i : Nat) : Int), us1 8, us1 9, us1 10, us1 11, .slice so l.length sc, .agg (c72 ⟨so, l.length, sc⟩ 0 0), .pointer (some ⟨g2, 0, none⟩), .pointer (some ⟨g2, 0, none⟩), .int .i64 ((x16 : Nat) : Int), .pointer (some ⟨g3, 0, none⟩), .pointer (some ⟨g3, 0, none⟩), .int .i64 ((x16 : Nat) : Int), .string (bas F0), .string (bas F0), .bool pz, us1 23, us1 24, us1 25, us1 26, us1 27, us1 28, us1 29, us1 30, us1 31, us1 32, us1 33, us1 34, us1 35, us1 36, us1 37, us1 38, us1 39, us1 40, us1 41, us1 42, us1 43, us1 44, us1 45, us1 46, us1 47, us1 48, us1 49, us1 50, us1 51, us1 52, us1 53, us1 54, us1 55, us1 56, us1 57, us1 58, us1 59, us1 60, us1 61, us1 62, us1 63, us1 64, us1 65, us1 66, us1 67, us1 68, us1 69, us1 70, us1 71, us1 72, us1 73, us1 74, us1 75, us1 76, us1 77, us1 78, us1 79, us1 80, us1 81, us1 82, us1 83, us1 84, us1 85, us1 86, us1 87, us1 88, us1 89, us1 90, us1 91, us1 92, us1 93, us1 94, us1 95, us1 96, us1 97, us1 98, us1 99, us1 100, us1 101, us1 102, us1 103, us1 104, us1 105, us1 106, us1 107, us1 108, us1 109, us1 110, us1 111, us1 112, us1 113, us1 114, us1 115, us1 116, us1 117, us1 118, us1 119, us1 120, us1 121, us1 122, us1 123, us1 124, us1 125, us1 126, us1 127, us1 128, us1 129, us1 130, us1 131, us1 132, us1 133, us1 134, us1 135, us1 136, us1 137, us1 138, us1 139, us1 140, us1 141, us1 142, us1 143, us1 144, us1 145, us1 146, us1 147, us1 148, us1 149, us1 150, us1 151, us1 152, us1 153, us1 154, us1 155, us1 156, us1 157, us1 158, us1 159, us1 160, us1 161, us1 162, us1 163, us1 164, undef, undef, undef, undef, undef, undef, undef, undef, undef, undef, undef, undef, undef, undef, undef, undef, undef, undef, undef, undef, undef, undef, undef, undef, undef, undef, undef, undef].toArray, []⟩ ∧ i ≤ F.length ∧ stN l F zs i a16 e16 = ((f, d), a, e) ∧ d.tr.length ≤ 64 * i ∧ d.ids.length ≤ 16 * i ∧ Gro w wv ∧ wv.heap[g1]? = some (.cells (c36 0 zF 0 false zF zF 0 0 0 0 0 Sl.nil Sl.nil zF 0 zF Sl.nil 0 0 Sl.nil) 36 (0, 0)) ∧ wv.heap[g2]? = some (.cells (c72 ⟨so, l.length, sc⟩ ((a : Nat) : Int) ((e : Nat) : Int)) 72 (0, 0)) ∧ wv.heap[g3]? = some (.cells (c36 ((x16 : Nat) : Int) f.pw f.pn f.toA f.a f.b f.n f.fi f.fn f.ti f.tn ⟨ao1, d.tr.length, cap1⟩ ⟨ao2, d.ids.length, cap2⟩ f.key f.vn f.vw ⟨ao3, d.val.length, cap3⟩ f.op f.ttl ⟨ao4, d.tx.length, cap4⟩) 36 (0, 0)) ∧ B ≤ wv.heap.size ∧ OX wv 3 1 B ao1 cap1 (d.tr).length ((d.tr).map (Value.int .i64 ·)) ∧ OX wv 23 16 B ao2 cap2 (d.ids).length (cellsI (d.ids)) ∧ OX wv 5 1 B ao3 cap3 (d.val).length (bL (d.val)) ∧ OX wv 5 1 B ao4 cap4 (d.tx).length (bL (d.tx))) ?_ _ ⟨0, Fr.zero, ⟨[], [], [], []⟩, a16, e16, none, 0, none, 0, none, 0, none, 0, usK ⟨Nat.zero_le _, rfl, Nat.zero_le _, Nat.zero_le _, GG, kg1, kg2, kg3, hBs, OX.nil _ _ _ _, OX.nil _ _ _ _, OX.nil _ _ _ _, OX.nil _ _ _ _⟩⟩
  clear kg1 kg2 kg3 GG
  rintro mz az wv ⟨i, f, d, a, e, ao1, cap1, ao2, cap2, ao3, cap3, ao4, cap4, us1, rfl, rfl, hi, hS, hLt, hLi, GG, kg1, kg2, kg3, hBs, H1, H2, H3, H4⟩
  refine wp_seq (wp_seq (wp_region_lit (mv 23 (.int .i64 ((i : Nat) : Int)) (mv 24 (.string (bas F)) (sv 25 (.int .i64 ((F.length : Nat) : Int)) (run_slen _ rfl Try.underlying9 F rfl _) ?_)))))
  refine nr ?_; intro U h; simp only [z0, z1] at h; subst h
  obtain ⟨p1, hp1⟩ : ∃ p, decide (((i : Nat) : Int) < ((F.length : Nat) : Int)) = p := ⟨_, rfl⟩
  refine sv 26 (.bool p1) (run_lssT 3 _ _ _ rfl ((i : Nat) : Int) ((F.length : Nat) : Int) rfl rfl p1 hp1 _) ?_
  refine nr ?_; intro U h; simp only [z0, z1] at h; subst h
  cases p1
  have hie : i = F.length := by have := of_decide_eq_false hp1; omega
  refine wpList_nil (then_n (wp_cond_false rfl (wp_exit (then_x (then_x (blk_x (then_n (wp_seq (wp_seq ?_)))))))))
  refine wp_region_opq ?_
  intro OPS hY
  have y5 := hY 5 170 rfl
  clear hY
  by_cases he : e ≠ 0
  have hEE : endE l a e = e := by unfold endE; rw [if_neg (by omega)]
  refine mv 165 (.pointer (some ⟨g2, 0, none⟩)) (sv 166 (.pointer (some ⟨g2, 0, none⟩)) (run_nc _ rfl _ rfl) (sv 167 (.pointer (some ⟨g2, 2, none⟩)) (run_fld 72 _ 2 rfl _ _ rfl _) (sv 168 (.int .i64 ((e : Nat) : Int)) (run_ldc 38 _ rfl g2 2 rfl 72 _ kg2 (na38 _) _ rfl) (sv 169 (.bool false) (run_eq_k 38 .i64 _ _ _ rfl Try.underlying38 ((e : Nat) : Int) 0 rfl rfl false (by first | exact decide_eq_true (by omega) | exact decide_eq_false (by omega)) _) ?_))))
  refine nr ?_; intro U h; simp only [z0, z1] at h; subst h
  refine mv 170 (.bool false) (s_skipY 171 rfl rfl y5 rfl (s_skipY 172 rfl rfl y5 rfl (s_skipY 173 rfl rfl y5 rfl (s_skipY 174 rfl rfl y5 rfl ?_))))
  refine nr ?_; intro U h; simp only [z0, z1] at h; subst h
  refine s_skipY 175 rfl rfl y5 rfl (s_skipY 176 rfl rfl y5 rfl (s_skipY 177 rfl rfl y5 rfl (mv 178 (.bool false) (wpList_nil (then_n (wp_cond_false rfl (wp_skip (then_n (wp_seq (wp_seq (wp_region_lit (mv 182 (.pointer (some ⟨g2, 0, none⟩)) ?_))))))))))))
  refine nr ?_; intro U h; simp only [z0, z1] at h; subst h
  refine sv 183 (.pointer (some ⟨g2, 0, none⟩)) (run_nc _ rfl _ rfl) (sv 184 (.pointer (some ⟨g2, 2, none⟩)) (run_fld 72 _ 2 rfl _ _ rfl _) (sv 185 (.int .i64 ((e : Nat) : Int)) (run_ldc 38 _ rfl g2 2 rfl 72 _ kg2 (na38 _) _ rfl) (sv 186 (.bool true) (run_neq_k 38 .i64 _ _ _ rfl Try.underlying38 ((e : Nat) : Int) 0 rfl rfl true (by first | exact decide_eq_true (by omega) | exact decide_eq_false (by omega)) _) (wpList_nil (then_n (wp_cond_true rfl (wp_seq ?_)))))))
  refine wp_region_pm (A := ?Ane) (fun _ x => Gro w x ∧ x.heap[g1]? = some (.cells (c36 0 zF 0 false zF zF 0 0 0 0 0 Sl.nil Sl.nil zF 0 zF Sl.nil 0 0 Sl.nil) 36 (0, 0)) ∧ x.heap[g2]? = some (.cells (c72 ⟨so, l.length, sc⟩ ((a : Nat) : Int) ((e : Nat) : Int)) 72 (0, 0))) 6 [(0, 187), (1, 188), (2, 189), (3, 190), (4, 191)] [.val (.agg (c36 0 zF 0 false zF zF 0 0 0 0 0 Sl.nil Sl.nil zF 0 zF Sl.nil 0 0 Sl.nil)), .val (.pointer (some ⟨g2, 0, none⟩)), .val (.pointer (some ⟨g2, 0, none⟩)), .val (.pointer (some ⟨g2, 2, none⟩)), .val (.int .i64 ((e : Nat) : Int)), .val undef] [] [] follows (by kernel_rfl) rfl (by kernel_rfl) (by decide) ⟨GG.drew, (Gro.refl _).drew.has kg1, (Gro.refl _).drew.has kg2⟩ ?hAne (opsM_g (fun L a b h hi G => ⟨h.1.trans G, G.has h.2.1, G.has h.2.2⟩) ?o0ne (opsM_g (fun L a b h hi G => ⟨h.1.trans G, G.has h.2.1, G.has h.2.2⟩) ?o1ne (opsM_g (fun L a b h hi G => ⟨h.1.trans G, G.has h.2.1, G.has h.2.2⟩) ?o2ne (opsM_g (fun L a b h hi G => ⟨h.1.trans G, G.has h.2.1, G.has h.2.2⟩) ?o3ne (opsM_g (fun L a b h hi G => ⟨h.1.trans G, G.has h.2.1, G.has h.2.2⟩) ?o4ne (opsM_w ?o5ne opsM_nil)))))) ?restne
  case hAne =>
    intro ptrs
    simp only [full, foldSlots, filledE, postE, List.foldl_cons, List.foldl_nil, List.getD_cons_zero, List.getD_cons_succ, fill_val, List.set_cons_zero, List.set_cons_succ]
    exact rfl
  case o0ne => exact fun _ _ _ hx _ _ => opE_value (v := .agg (c36 0 zF 0 false zF zF 0 0 0 0 0 Sl.nil Sl.nil zF 0 zF Sl.nil 0 0 Sl.nil)) rfl (run_bd 36 _ rfl [] rfl _ (by kernel_rfl))
  case o1ne => exact fun _ _ _ hx _ _ => opE_move (v := .pointer (some ⟨g2, 0, none⟩)) _ rfl rfl rfl
  case o2ne => exact fun _ _ _ hx _ _ => opE_value (v := .pointer (some ⟨g2, 0, none⟩)) rfl (run_nc _ rfl _ rfl)
  case o3ne => exact fun _ _ _ hx _ _ => opE_value (v := .pointer (some ⟨g2, 2, none⟩)) rfl (run_fld 72 _ 2 rfl _ _ rfl _)
  case o4ne => exact fun _ _ _ hx _ _ => opE_value (v := .int .i64 ((e : Nat) : Int)) rfl (run_ldc 38 _ rfl g2 2 rfl 72 _ hx.2.2 (na38 _) _ rfl)
  case o5ne =>
    intro L ptrs x hx hL _
    refine opX_store _ rfl 36 _ _ rfl g1 0 rfl (.agg (c36 0 zF 0 false zF zF 0 0 0 0 0 Sl.nil Sl.nil zF 0 zF Sl.nil 0 0 Sl.nil)) rfl 36 _ hx.2.1 (c36 0 zF 0 false zF zF 0 0 0 0 0 Sl.nil Sl.nil zF 0 zF Sl.nil 0 0 Sl.nil) rfl (by kernel_rfl) (Nat.le_of_ble_eq_true rfl) (by kernel_rfl) (c36 0 zF 0 false zF zF 0 0 0 0 0 Sl.nil Sl.nil zF 0 zF Sl.nil 0 0 Sl.nil) (by kernel_rfl) ?_
    intro y St
    exact ⟨⟨⟨hx.1.store St bg1, St.new, St.has (by omega) hx.2.2⟩, StM.vals [0, 1, 2, 3, 4] (by kernel_rfl) ⟨⟨_, rfl⟩, ⟨_, rfl⟩, ⟨_, rfl⟩, ⟨_, rfl⟩, ⟨_, rfl⟩, trivial⟩⟩, rfl⟩
  intro ptrs w8 HJ _
  simp only [List.drop_succ_cons, List.drop_zero]
  obtain ⟨GG, kg1, kg2⟩ := HJ
  refine mv 3 (.int .i64 ((e : Nat) : Int)) ?_
  refine nr ?_; intro U h; simp only [z0, z1] at h; subst h
  refine wpList_nil (then_n (wp_ret (then_r ?_)))
  refine bodyPost_ret (results_cell_tmp Try.results15 _ _ g1 36 _ (0, 0) _ rfl (.int .i64 ((e : Nat) : Int)) rfl kg1 Try.underlying36 rfl (by kernel_rfl)) rfl ?_
  subst hie
  subst hF
  exact ⟨GG, x16, a16, e16, (f, d), a, e, h16, hS, .inl ⟨(by omega), by rw [hEE]; rfl⟩⟩
  replace he : e = 0 := Decidable.of_not_not he
  by_cases hal : a < l.length
  have hEE : endE l a e = 4 := by unfold endE; rw [if_pos ⟨he, hal⟩]
  refine mv 165 (.pointer (some ⟨g2, 0, none⟩)) (sv 166 (.pointer (some ⟨g2, 0, none⟩)) (run_nc _ rfl _ rfl) (sv 167 (.pointer (some ⟨g2, 2, none⟩)) (run_fld 72 _ 2 rfl _ _ rfl _) (sv 168 (.int .i64 ((e : Nat) : Int)) (run_ldc 38 _ rfl g2 2 rfl 72 _ kg2 (na38 _) _ rfl) (sv 169 (.bool true) (run_eq_k 38 .i64 _ _ _ rfl Try.underlying38 ((e : Nat) : Int) 0 rfl rfl true (by first | exact decide_eq_true (by omega) | exact decide_eq_false (by omega)) _) ?_))))
  refine nr ?_; intro U h; simp only [z0, z1] at h; subst h
  refine mv 170 (.bool true) (s_gvalY 171 rfl rfl y5 rfl (.pointer (some ⟨g2, 0, none⟩)) (rfl) (s_gvalY 172 rfl rfl y5 rfl (.pointer (some ⟨g2, 0, none⟩)) (run_nc _ rfl _ rfl) (s_gvalY 173 rfl rfl y5 rfl (.pointer (some ⟨g2, 1, none⟩)) (run_fld 72 _ 1 rfl _ _ rfl _) (s_gvalY 174 rfl rfl y5 rfl (.int .i64 ((a : Nat) : Int)) (run_ldc 3 _ rfl g2 1 rfl 72 _ kg2 (na3 _) _ rfl) ?_))))
  refine nr ?_; intro U h; simp only [z0, z1] at h; subst h
  refine s_gvalY 175 rfl rfl y5 rfl (.slice so l.length sc) (rfl) (s_gvalY 176 rfl rfl y5 rfl (.int .i64 ((l.length : Nat) : Int)) (run_len Try.underlying32 _ rfl _ _ _ rfl _) (s_gvalY 177 rfl rfl y5 rfl (.bool true) (run_lssT 3 _ _ _ rfl ((a : Nat) : Int) ((l.length : Nat) : Int) rfl rfl true (by first | exact decide_eq_true (by omega) | exact decide_eq_false (by omega)) _) (mv 178 (.bool true) (wpList_nil (then_n (wp_cond_true rfl (wp_region_lit (mv 179 (.pointer (some ⟨g2, 0, none⟩)) ?_))))))))
  refine nr ?_; intro U h; simp only [z0, z1] at h; subst h
  refine sv 180 (.pointer (some ⟨g2, 0, none⟩)) (run_nc _ rfl _ rfl) (sv 181 (.pointer (some ⟨g2, 2, none⟩)) (run_fld 72 _ 2 rfl _ _ rfl _) ?_)
  refine s_store rfl rfl 38 _ _ rfl g2 2 rfl (.int .i64 4) rfl 72 _ kg2 #[.int .i64 4] rfl (by kernel_rfl) (Nat.le_of_ble_eq_true rfl) (by kernel_rfl) (c72 ⟨so, l.length, sc⟩ ((a : Nat) : Int) 4) (by kernel_rfl) ?_
  intro w9 St
  replace kg1 := St.has (by omega) kg1
  replace kg3 := St.has (by omega) kg3
  replace H1 := H1.apart St (fun ad ha => by have := H1.ge ad ha; omega)
  replace H2 := H2.apart St (fun ad ha => by have := H2.ge ad ha; omega)
  replace H3 := H3.apart St (fun ad ha => by have := H3.ge ad ha; omega)
  replace H4 := H4.apart St (fun ad ha => by have := H4.ge ad ha; omega)
  replace GG := GG.store St bg2
  replace kg2 := St.new
  replace hBs := Nat.le_trans hBs (Nat.le_of_eq St.size.symm)
  clear St
  refine wpList_nil (then_n (wp_seq (wp_seq (wp_region_lit (mv 182 (.pointer (some ⟨g2, 0, none⟩)) (sv 183 (.pointer (some ⟨g2, 0, none⟩)) (run_nc _ rfl _ rfl) (sv 184 (.pointer (some ⟨g2, 2, none⟩)) (run_fld 72 _ 2 rfl _ _ rfl _) ?_)))))))
  refine nr ?_; intro U h; simp only [z0, z1] at h; subst h
  refine sv 185 (.int .i64 4) (run_ldc 38 _ rfl g2 2 rfl 72 _ kg2 (na38 _) _ rfl) (sv 186 (.bool true) (run_neq_k 38 .i64 _ _ _ rfl Try.underlying38 4 0 rfl rfl true rfl _) (wpList_nil (then_n (wp_cond_true rfl (wp_seq ?_)))))
  refine wp_region_pm (A := ?Anl) (fun _ x => Gro w x ∧ x.heap[g1]? = some (.cells (c36 0 zF 0 false zF zF 0 0 0 0 0 Sl.nil Sl.nil zF 0 zF Sl.nil 0 0 Sl.nil) 36 (0, 0)) ∧ x.heap[g2]? = some (.cells (c72 ⟨so, l.length, sc⟩ ((a : Nat) : Int) 4) 72 (0, 0))) 6 [(0, 187), (1, 188), (2, 189), (3, 190), (4, 191)] [.val (.agg (c36 0 zF 0 false zF zF 0 0 0 0 0 Sl.nil Sl.nil zF 0 zF Sl.nil 0 0 Sl.nil)), .val (.pointer (some ⟨g2, 0, none⟩)), .val (.pointer (some ⟨g2, 0, none⟩)), .val (.pointer (some ⟨g2, 2, none⟩)), .val (.int .i64 4), .val undef] [] [] follows (by kernel_rfl) rfl (by kernel_rfl) (by decide) ⟨GG.drew, (Gro.refl _).drew.has kg1, (Gro.refl _).drew.has kg2⟩ ?hAnl (opsM_g (fun L a b h hi G => ⟨h.1.trans G, G.has h.2.1, G.has h.2.2⟩) ?o0nl (opsM_g (fun L a b h hi G => ⟨h.1.trans G, G.has h.2.1, G.has h.2.2⟩) ?o1nl (opsM_g (fun L a b h hi G => ⟨h.1.trans G, G.has h.2.1, G.has h.2.2⟩) ?o2nl (opsM_g (fun L a b h hi G => ⟨h.1.trans G, G.has h.2.1, G.has h.2.2⟩) ?o3nl (opsM_g (fun L a b h hi G => ⟨h.1.trans G, G.has h.2.1, G.has h.2.2⟩) ?o4nl (opsM_w ?o5nl opsM_nil)))))) ?restnl
  case hAnl =>
    intro ptrs
    simp only [full, foldSlots, filledE, postE, List.foldl_cons, List.foldl_nil, List.getD_cons_zero, List.getD_cons_succ, fill_val, List.set_cons_zero, List.set_cons_succ]
    exact rfl
  case o0nl => exact fun _ _ _ hx _ _ => opE_value (v := .agg (c36 0 zF 0 false zF zF 0 0 0 0 0 Sl.nil Sl.nil zF 0 zF Sl.nil 0 0 Sl.nil)) rfl (run_bd 36 _ rfl [] rfl _ (by kernel_rfl))
  case o1nl => exact fun _ _ _ hx _ _ => opE_move (v := .pointer (some ⟨g2, 0, none⟩)) _ rfl rfl rfl
  case o2nl => exact fun _ _ _ hx _ _ => opE_value (v := .pointer (some ⟨g2, 0, none⟩)) rfl (run_nc _ rfl _ rfl)
  case o3nl => exact fun _ _ _ hx _ _ => opE_value (v := .pointer (some ⟨g2, 2, none⟩)) rfl (run_fld 72 _ 2 rfl _ _ rfl _)
  case o4nl => exact fun _ _ _ hx _ _ => opE_value (v := .int .i64 4) rfl (run_ldc 38 _ rfl g2 2 rfl 72 _ hx.2.2 (na38 _) _ rfl)
  case o5nl =>
    intro L ptrs x hx hL _
    refine opX_store _ rfl 36 _ _ rfl g1 0 rfl (.agg (c36 0 zF 0 false zF zF 0 0 0 0 0 Sl.nil Sl.nil zF 0 zF Sl.nil 0 0 Sl.nil)) rfl 36 _ hx.2.1 (c36 0 zF 0 false zF zF 0 0 0 0 0 Sl.nil Sl.nil zF 0 zF Sl.nil 0 0 Sl.nil) rfl (by kernel_rfl) (Nat.le_of_ble_eq_true rfl) (by kernel_rfl) (c36 0 zF 0 false zF zF 0 0 0 0 0 Sl.nil Sl.nil zF 0 zF Sl.nil 0 0 Sl.nil) (by kernel_rfl) ?_
    intro y St
    exact ⟨⟨⟨hx.1.store St bg1, St.new, St.has (by omega) hx.2.2⟩, StM.vals [0, 1, 2, 3, 4] (by kernel_rfl) ⟨⟨_, rfl⟩, ⟨_, rfl⟩, ⟨_, rfl⟩, ⟨_, rfl⟩, ⟨_, rfl⟩, trivial⟩⟩, rfl⟩
  intro ptrs w10 HJ _
  simp only [List.drop_succ_cons, List.drop_zero]
  obtain ⟨GG, kg1, kg2⟩ := HJ
  refine mv 3 (.int .i64 4) (wpList_nil (then_n (wp_ret (then_r ?_))))
  refine bodyPost_ret (results_cell_tmp Try.results15 _ _ g1 36 _ (0, 0) _ rfl (.int .i64 4) rfl kg1 Try.underlying36 rfl (by kernel_rfl)) rfl ?_
  subst hie
  subst hF
  exact ⟨GG, x16, a16, e16, (f, d), a, e, h16, hS, .inl ⟨(by omega), by rw [hEE]; rfl⟩⟩
  have hEE : endE l a e = 0 := by unfold endE; rw [if_neg (by omega)]; exact he
  refine mv 165 (.pointer (some ⟨g2, 0, none⟩)) (sv 166 (.pointer (some ⟨g2, 0, none⟩)) (run_nc _ rfl _ rfl) ?_)
  refine nr ?_; intro U h; simp only [z0, z1] at h; subst h
  refine sv 167 (.pointer (some ⟨g2, 2, none⟩)) (run_fld 72 _ 2 rfl _ _ rfl _) (sv 168 (.int .i64 ((e : Nat) : Int)) (run_ldc 38 _ rfl g2 2 rfl 72 _ kg2 (na38 _) _ rfl) (sv 169 (.bool true) (run_eq_k 38 .i64 _ _ _ rfl Try.underlying38 ((e : Nat) : Int) 0 rfl rfl true (by first | exact decide_eq_true (by omega) | exact decide_eq_false (by omega)) _) (mv 170 (.bool true) (s_gvalY 171 rfl rfl y5 rfl (.pointer (some ⟨g2, 0, none⟩)) (rfl) ?_))))
  refine nr ?_; intro U h; simp only [z0, z1] at h; subst h
  refine s_gvalY 172 rfl rfl y5 rfl (.pointer (some ⟨g2, 0, none⟩)) (run_nc _ rfl _ rfl) (s_gvalY 173 rfl rfl y5 rfl (.pointer (some ⟨g2, 1, none⟩)) (run_fld 72 _ 1 rfl _ _ rfl _) (s_gvalY 174 rfl rfl y5 rfl (.int .i64 ((a : Nat) : Int)) (run_ldc 3 _ rfl g2 1 rfl 72 _ kg2 (na3 _) _ rfl) (s_gvalY 175 rfl rfl y5 rfl (.slice so l.length sc) (rfl) (s_gvalY 176 rfl rfl y5 rfl (.int .i64 ((l.length : Nat) : Int)) (run_len Try.underlying32 _ rfl _ _ _ rfl _) ?_))))
  refine nr ?_; intro U h; simp only [z0, z1] at h; subst h
  refine s_gvalY 177 rfl rfl y5 rfl (.bool false) (run_lssT 3 _ _ _ rfl ((a : Nat) : Int) ((l.length : Nat) : Int) rfl rfl false (by first | exact decide_eq_true (by omega) | exact decide_eq_false (by omega)) _) (mv 178 (.bool false) (wpList_nil (then_n (wp_cond_false rfl (wp_skip (then_n (wp_seq (wp_seq (wp_region_lit (mv 182 (.pointer (some ⟨g2, 0, none⟩)) (sv 183 (.pointer (some ⟨g2, 0, none⟩)) (run_nc _ rfl _ rfl) (sv 184 (.pointer (some ⟨g2, 2, none⟩)) (run_fld 72 _ 2 rfl _ _ rfl _) ?_))))))))))))
  refine nr ?_; intro U h; simp only [z0, z1] at h; subst h
  refine sv 185 (.int .i64 ((e : Nat) : Int)) (run_ldc 38 _ rfl g2 2 rfl 72 _ kg2 (na38 _) _ rfl) (sv 186 (.bool false) (run_neq_k 38 .i64 _ _ _ rfl Try.underlying38 ((e : Nat) : Int) 0 rfl rfl false (by first | exact decide_eq_true (by omega) | exact decide_eq_false (by omega)) _) (wpList_nil (then_n (wp_cond_false rfl (wp_skip (then_n (wp_seq (wp_region_lit (sv 192 (.agg (c36 ((x16 : Nat) : Int) f.pw f.pn f.toA f.a f.b f.n f.fi f.fn f.ti f.tn ⟨ao1, d.tr.length, cap1⟩ ⟨ao2, d.ids.length, cap2⟩ f.key f.vn f.vw ⟨ao3, d.val.length, cap3⟩ f.op f.ttl ⟨ao4, d.tx.length, cap4⟩)) (run_lda 36 _ rfl g3 0 95 rfl 36 _ kg3 _ Try.underlying36 rfl si36 _) ?_)))))))))
  refine s_store rfl rfl 36 _ _ rfl g1 0 rfl (.agg (c36 ((x16 : Nat) : Int) f.pw f.pn f.toA f.a f.b f.n f.fi f.fn f.ti f.tn ⟨ao1, d.tr.length, cap1⟩ ⟨ao2, d.ids.length, cap2⟩ f.key f.vn f.vw ⟨ao3, d.val.length, cap3⟩ f.op f.ttl ⟨ao4, d.tx.length, cap4⟩)) rfl 36 _ kg1 (c36 ((x16 : Nat) : Int) f.pw f.pn f.toA f.a f.b f.n f.fi f.fn f.ti f.tn ⟨ao1, d.tr.length, cap1⟩ ⟨ao2, d.ids.length, cap2⟩ f.key f.vn f.vw ⟨ao3, d.val.length, cap3⟩ f.op f.ttl ⟨ao4, d.tx.length, cap4⟩) rfl (by kernel_rfl) (Nat.le_of_ble_eq_true rfl) (by kernel_rfl) (c36 ((x16 : Nat) : Int) f.pw f.pn f.toA f.a f.b f.n f.fi f.fn f.ti f.tn ⟨ao1, d.tr.length, cap1⟩ ⟨ao2, d.ids.length, cap2⟩ f.key f.vn f.vw ⟨ao3, d.val.length, cap3⟩ f.op f.ttl ⟨ao4, d.tx.length, cap4⟩) (by kernel_rfl) ?_
  intro w9 St
  replace kg2 := St.has (by omega) kg2
  replace kg3 := St.has (by omega) kg3
  replace H1 := H1.apart St (fun ad ha => by have := H1.ge ad ha; omega)
  replace H2 := H2.apart St (fun ad ha => by have := H2.ge ad ha; omega)
  replace H3 := H3.apart St (fun ad ha => by have := H3.ge ad ha; omega)
  replace H4 := H4.apart St (fun ad ha => by have := H4.ge ad ha; omega)
  replace GG := GG.store St bg1
  replace kg1 := St.new
  replace hBs := Nat.le_trans hBs (Nat.le_of_eq St.size.symm)
  clear St
  refine mv 3 (.int .i64 0) (wpList_nil (then_n (wp_ret ?_)))
  refine bodyPost_ret (results_cell_tmp Try.results15 _ _ g1 36 _ (0, 0) _ rfl (.int .i64 0) rfl kg1 Try.underlying36 rfl (by kernel_rfl)) rfl ?_
  subst hie
  subst hF
  exact ⟨GG, x16, a16, e16, (f, d), a, e, h16, hS, .inr ⟨hEE, ⟨⟨ao1, d.tr.length, cap1⟩, ⟨ao2, d.ids.length, cap2⟩, ⟨ao3, d.val.length, cap3⟩, ⟨ao4, d.tx.length, cap4⟩, rfl, H1.mono hwB, H2.mono hwB, H3.mono hwB, H4.mono hwB⟩⟩⟩
  have hin : i < F.length := by have := of_decide_eq_true hp1; omega
  obtain ⟨c, hc⟩ : ∃ c, F.getD i 0 = c := ⟨_, rfl⟩
  refine wpList_nil (then_n (wp_cond_true rfl (wp_skip (then_n (wp_seq (wp_block (wp_seq (wp_region_lit (mv 29 (.string (bas F)) ?_)))))))))
  refine nr ?_; intro U h; simp only [z0, z1] at h; subst h
  refine mv 30 (.int .i64 ((i : Nat) : Int)) (sv 31 (.int .u8 ((c : Nat) : Int)) ((run_sidx _ _ rfl F hFb rfl i hin rfl _).trans (by rw [hc])) (wpList_nil (then_n (wp_block (wp_seq (wp_region_lit ?_))))))
  obtain ⟨p2, hp2⟩ : ∃ p, decide (((c : Nat) : Int) = 102) = p := ⟨_, rfl⟩
  refine sv 33 (.bool p2) (run_eq_k 5 .u8 _ _ _ rfl Try.underlying5 ((c : Nat) : Int) 102 rfl rfl p2 hp2 _) ?_
  refine nr ?_; intro U h; simp only [z0, z1] at h; subst h
  cases p2
  have hn102 : c ≠ 102 := by have := of_decide_eq_false hp2; omega
  refine s_val _ rfl rfl (.bool false) rfl ?_
  refine wpList_nil (then_n (wp_cond_false rfl (wp_seq (wp_region_lit ?_))))
  obtain ⟨p3, hp3⟩ : ∃ p, decide (((c : Nat) : Int) = 116) = p := ⟨_, rfl⟩
  refine sv 43 (.bool p3) (run_eq_k 5 .u8 _ _ _ rfl Try.underlying5 ((c : Nat) : Int) 116 rfl rfl p3 hp3 _) ?_
  refine nr ?_; intro U h; simp only [z0, z1] at h; subst h
  cases p3
  have hn116 : c ≠ 116 := by have := of_decide_eq_false hp3; omega
  refine s_val _ rfl rfl (.bool false) rfl ?_
  refine wpList_nil (then_n (wp_cond_false rfl (wp_seq (wp_region_lit ?_))))
  obtain ⟨p4, hp4⟩ : ∃ p, decide (((c : Nat) : Int) = 110) = p := ⟨_, rfl⟩
  refine sv 53 (.bool p4) (run_eq_k 5 .u8 _ _ _ rfl Try.underlying5 ((c : Nat) : Int) 110 rfl rfl p4 hp4 _) ?_
  refine nr ?_; intro U h; simp only [z0, z1] at h; subst h
  cases p4
  have hn110 : c ≠ 110 := by have := of_decide_eq_false hp4; omega
  refine s_val _ rfl rfl (.bool false) rfl ?_
  refine wpList_nil (then_n (wp_cond_false rfl (wp_seq (wp_region_lit ?_))))
  obtain ⟨p5, hp5⟩ : ∃ p, decide (((c : Nat) : Int) = 112) = p := ⟨_, rfl⟩
  refine sv 58 (.bool p5) (run_eq_k 5 .u8 _ _ _ rfl Try.underlying5 ((c : Nat) : Int) 112 rfl rfl p5 hp5 _) ?_
  refine nr ?_; intro U h; simp only [z0, z1] at h; subst h
  cases p5
  have hn112 : c ≠ 112 := by have := of_decide_eq_false hp5; omega
  refine s_val _ rfl rfl (.bool false) rfl ?_
  refine wpList_nil (then_n (wp_cond_false rfl (wp_seq (wp_region_lit ?_))))
  obtain ⟨p6, hp6⟩ : ∃ p, decide (((c : Nat) : Int) = 97) = p := ⟨_, rfl⟩
  refine sv 68 (.bool p6) (run_eq_k 5 .u8 _ _ _ rfl Try.underlying5 ((c : Nat) : Int) 97 rfl rfl p6 hp6 _) ?_
  refine nr ?_; intro U h; simp only [z0, z1] at h; subst h
  cases p6
  have hn97 : c ≠ 97 := by have := of_decide_eq_false hp6; omega
  refine s_val _ rfl rfl (.bool false) rfl ?_
  refine wpList_nil (then_n (wp_cond_false rfl (wp_seq (wp_region_lit ?_))))
  obtain ⟨p7, hp7⟩ : ∃ p, decide (((c : Nat) : Int) = 98) = p := ⟨_, rfl⟩
  refine sv 73 (.bool p7) (run_eq_k 5 .u8 _ _ _ rfl Try.underlying5 ((c : Nat) : Int) 98 rfl rfl p7 hp7 _) ?_
  refine nr ?_; intro U h; simp only [z0, z1] at h; subst h
  cases p7
  have hn98 : c ≠ 98 := by have := of_decide_eq_false hp7; omega
  refine s_val _ rfl rfl (.bool false) rfl ?_
  refine wpList_nil (then_n (wp_cond_false rfl (wp_seq (wp_region_lit ?_))))
  obtain ⟨p8, hp8⟩ : ∃ p, decide (((c : Nat) : Int) = 100) = p := ⟨_, rfl⟩
  refine sv 78 (.bool p8) (run_eq_k 5 .u8 _ _ _ rfl Try.underlying5 ((c : Nat) : Int) 100 rfl rfl p8 hp8 _) ?_
  refine nr ?_; intro U h; simp only [z0, z1] at h; subst h
  cases p8
  have hn100 : c ≠ 100 := by have := of_decide_eq_false hp8; omega
  refine s_val _ rfl rfl (.bool false) rfl ?_
  refine wpList_nil (then_n (wp_cond_false rfl (wp_seq (wp_region_lit ?_))))
  obtain ⟨p9, hp9⟩ : ∃ p, decide (((c : Nat) : Int) = 114) = p := ⟨_, rfl⟩
  refine sv 84 (.bool p9) (run_eq_k 5 .u8 _ _ _ rfl Try.underlying5 ((c : Nat) : Int) 114 rfl rfl p9 hp9 _) ?_
  refine nr ?_; intro U h; simp only [z0, z1] at h; subst h
  cases p9
  have hn114 : c ≠ 114 := by have := of_decide_eq_false hp9; omega
  refine s_val _ rfl rfl (.bool false) rfl ?_
  refine wpList_nil (then_n (wp_cond_false rfl (wp_seq (wp_region_lit ?_))))
  obtain ⟨p10, hp10⟩ : ∃ p, decide (((c : Nat) : Int) = 115) = p := ⟨_, rfl⟩
  refine sv 100 (.bool p10) (run_eq_k 5 .u8 _ _ _ rfl Try.underlying5 ((c : Nat) : Int) 115 rfl rfl p10 hp10 _) ?_
  refine nr ?_; intro U h; simp only [z0, z1] at h; subst h
  cases p10
  have hn115 : c ≠ 115 := by have := of_decide_eq_false hp10; omega
  refine s_val _ rfl rfl (.bool false) rfl ?_
  refine wpList_nil (then_n (wp_cond_false rfl (wp_seq (wp_seq (wp_region_lit ?_)))))
  obtain ⟨p11, hp11⟩ : ∃ p, decide (((c : Nat) : Int) = 105) = p := ⟨_, rfl⟩
  refine sv 116 (.bool p11) (run_eq_k 5 .u8 _ _ _ rfl Try.underlying5 ((c : Nat) : Int) 105 rfl rfl p11 hp11 _) ?_
  refine nr ?_; intro U h; simp only [z0, z1] at h; subst h
  cases p11
  have hn105 : c ≠ 105 := by have := of_decide_eq_false hp11; omega
  refine s_val _ rfl rfl (.bool false) rfl ?_
  refine wpList_nil (then_n (wp_cond_false rfl (wp_region_lit ?_)))
  obtain ⟨p12, hp12⟩ : ∃ p, decide (((c : Nat) : Int) = 107) = p := ⟨_, rfl⟩
  refine sv 117 (.bool p12) (run_eq_k 5 .u8 _ _ _ rfl Try.underlying5 ((c : Nat) : Int) 107 rfl rfl p12 hp12 _) ?_
  refine nr ?_; intro U h; simp only [z0, z1] at h; subst h
  cases p12
  have hn107 : c ≠ 107 := by have := of_decide_eq_false hp12; omega
  refine s_val _ rfl rfl (.bool false) rfl ?_
  refine wpList_nil (then_n (wp_cond_false rfl (wp_seq (wp_region_lit ?_))))
  obtain ⟨p13, hp13⟩ : ∃ p, decide (((c : Nat) : Int) = 108) = p := ⟨_, rfl⟩
  refine sv 141 (.bool p13) (run_eq_k 5 .u8 _ _ _ rfl Try.underlying5 ((c : Nat) : Int) 108 rfl rfl p13 hp13 _) ?_
  refine nr ?_; intro U h; simp only [z0, z1] at h; subst h
  cases p13
  have hn108 : c ≠ 108 := by have := of_decide_eq_false hp13; omega
  refine s_val _ rfl rfl (.bool false) rfl ?_
  refine wpList_nil (then_n (wp_cond_false rfl (wp_seq (wp_region_lit ?_))))
  obtain ⟨p14, hp14⟩ : ∃ p, decide (((c : Nat) : Int) = 111) = p := ⟨_, rfl⟩
  refine sv 146 (.bool p14) (run_eq_k 5 .u8 _ _ _ rfl Try.underlying5 ((c : Nat) : Int) 111 rfl rfl p14 hp14 _) ?_
  refine nr ?_; intro U h; simp only [z0, z1] at h; subst h
  cases p14
  have hn111 : c ≠ 111 := by have := of_decide_eq_false hp14; omega
  refine s_val _ rfl rfl (.bool false) rfl ?_
  refine wpList_nil (then_n (wp_cond_false rfl (wp_seq (wp_region_lit ?_))))
  obtain ⟨p15, hp15⟩ : ∃ p, decide (((c : Nat) : Int) = 119) = p := ⟨_, rfl⟩
  refine sv 151 (.bool p15) (run_eq_k 5 .u8 _ _ _ rfl Try.underlying5 ((c : Nat) : Int) 119 rfl rfl p15 hp15 _) ?_
  refine nr ?_; intro U h; simp only [z0, z1] at h; subst h
  cases p15
  have hn119 : c ≠ 119 := by have := of_decide_eq_false hp15; omega
  refine s_val _ rfl rfl (.bool false) rfl ?_
  refine wpList_nil (then_n (wp_cond_false rfl (wp_seq (wp_region_lit ?_))))
  obtain ⟨p16, hp16⟩ : ∃ p, decide (((c : Nat) : Int) = 120) = p := ⟨_, rfl⟩
  refine sv 156 (.bool p16) (run_eq_k 5 .u8 _ _ _ rfl Try.underlying5 ((c : Nat) : Int) 120 rfl rfl p16 hp16 _) ?_
  refine nr ?_; intro U h; simp only [z0, z1] at h; subst h
  cases p16
  have hn120 : c ≠ 120 := by have := of_decide_eq_false hp16; omega
  refine s_val _ rfl rfl (.bool false) rfl ?_
  refine wpList_nil (then_n (wp_cond_false rfl (wp_seq (wp_region_lit ?_))))
  obtain ⟨p17, hp17⟩ : ∃ p, decide (((c : Nat) : Int) = 121) = p := ⟨_, rfl⟩
  refine sv 161 (.bool p17) (run_eq_k 5 .u8 _ _ _ rfl Try.underlying5 ((c : Nat) : Int) 121 rfl rfl p17 hp17 _) ?_
  refine nr ?_; intro U h; simp only [z0, z1] at h; subst h
  cases p17
  have hn121 : c ≠ 121 := by have := of_decide_eq_false hp17; omega
  refine s_val _ rfl rfl (.bool false) rfl ?_
  refine wpList_nil (then_n (wp_cond_false rfl (wp_skip (blk_n (blk_n (then_n (wp_region_lit (mv 27 (.int .i64 ((i : Nat) : Int)) (sv 28 (.int .i64 ((i + 1 : Nat) : Int)) (run_add64 _ _ _ rfl ((i : Nat) : Int) 1 _ rfl rfl (by omega) (by omega) (by omega) _) (mv 7 (.int .i64 ((i + 1 : Nat) : Int)) (wpList_nil (then_n ?_))))))))))))
  have hS9 : stN l F zs (i + 1) a16 e16 = ((f, d), a, e) := by rw [stN, bD, hS, hc, stD_no l c _ hn102 hn116 hn110 hn112 hn97 hn98 hn100 hn114 hn115 hn105 hn107 hn108 hn111 hn119 hn120 hn121]; rfl
  exact ⟨_, (by omega : F.length - (i + 1) < F.length - i), i + 1, f, d, a, e, ao1, cap1, ao2, cap2, ao3, cap3, ao4, cap4, usK ⟨hin, hS9, (Nat.le_trans hLt (by omega)), (Nat.le_trans hLi (by omega)), GG, kg1, kg2, kg3, hBs, H1, H2, H3, H4⟩⟩
  have hc0 : c = 121 := by have := of_decide_eq_true hp17; omega
  refine mv 160 (.bool true) ?_
  refine nr ?_; intro U h; simp only [z0, z1] at h; subst h
  refine wpList_nil (then_n (wp_cond_true rfl (wp_region_lit (mv 162 (.pointer (some ⟨g2, 0, none⟩)) ?_))))
  refine nr ?_; intro U h; simp only [z0, z1] at h; subst h
  obtain ⟨⟨x163, a163, e163⟩, h163⟩ : ∃ r, dR (fun i => rdT l i 64) [] a e = r := ⟨_, rfl⟩
  refine s_callx 163 rfl rfl _ 34 Try.call34 rfl rfl _ rfl [.pointer (some ⟨g2, 0, none⟩), .int .i64 64] rfl (dtext g2 so sc l _ a e a163 e163 64 (by decide) x163 kg2 (H.gro GG) hl h163) (fun _ _ ⟨_, _, he, _⟩ => ⟨_, he⟩) ?_
  rintro v w8 ⟨ax163, cx163, he, HX163, G, kn⟩
  cases he
  replace HX163 : OX _ 5 1 B ax163 cx163 (x163).length (bL (x163)) := (HX163.ox).mono hBs
  replace kg1 := G.has kg1 (by simp; omega)
  replace kg3 := G.has kg3 (by simp; omega)
  replace H1 := ox_gror H1 (gror_of G) (by omega)
  replace H2 := ox_gror H2 (gror_of G) (by omega)
  replace H3 := ox_gror H3 (gror_of G) (by omega)
  replace H4 := ox_gror H4 (gror_of G) (by omega)
  replace GG := G.gro GG (by simp; omega)
  replace hBs := Nat.le_trans hBs G.size
  clear kg2 G
  have kg2 := kn
  clear kn
  refine sv 164 (.pointer (some ⟨g3, 94, none⟩)) (run_fld 36 _ 13 rfl _ _ rfl _) ?_
  refine s_store rfl rfl 32 _ _ rfl g3 94 rfl (.slice ax163 x163.length cx163) rfl 36 _ kg3 #[.slice ax163 x163.length cx163] rfl (by kernel_rfl) (Nat.le_of_ble_eq_true rfl) (by kernel_rfl) (c36 ((x16 : Nat) : Int) f.pw f.pn f.toA f.a f.b f.n f.fi f.fn f.ti f.tn ⟨ao1, d.tr.length, cap1⟩ ⟨ao2, d.ids.length, cap2⟩ f.key f.vn f.vw ⟨ao3, d.val.length, cap3⟩ f.op f.ttl ⟨ax163, x163.length, cx163⟩) (by kernel_rfl) ?_
  intro w10 St
  replace kg1 := St.has (by omega) kg1
  replace kg2 := St.has (by omega) kg2
  replace H1 := H1.apart St (fun ad ha => by have := H1.ge ad ha; omega)
  replace H2 := H2.apart St (fun ad ha => by have := H2.ge ad ha; omega)
  replace H3 := H3.apart St (fun ad ha => by have := H3.ge ad ha; omega)
  replace H4 := H4.apart St (fun ad ha => by have := H4.ge ad ha; omega)
  replace HX163 := HX163.apart St (fun ad ha => by have := HX163.ge ad ha; omega)
  replace GG := GG.store St bg3
  replace kg3 := St.new
  replace hBs := Nat.le_trans hBs (Nat.le_of_eq St.size.symm)
  clear St
  refine wpList_nil (blk_n (blk_n (then_n (wp_region_lit (mv 27 (.int .i64 ((i : Nat) : Int)) (sv 28 (.int .i64 ((i + 1 : Nat) : Int)) (run_add64 _ _ _ rfl ((i : Nat) : Int) 1 _ rfl rfl (by omega) (by omega) (by omega) _) (mv 7 (.int .i64 ((i + 1 : Nat) : Int)) ?_)))))))
  refine nr ?_; intro U h; simp only [z0, z1] at h; subst h
  refine wpList_nil (then_n ?_)
  have hS9 : stN l F zs (i + 1) a16 e16 = ((f, { d with tx := x163 }), a163, e163) := by rw [stN, bD, hS, hc, hc0, stD_121]; simp only [ltD121, bD, pD, h163]
  exact ⟨_, (by omega : F.length - (i + 1) < F.length - i), i + 1, f, { d with tx := x163 }, a163, e163, ao1, cap1, ao2, cap2, ao3, cap3, ax163, cx163, usK ⟨hin, hS9, (Nat.le_trans hLt (by omega)), (Nat.le_trans hLi (by omega)), GG, kg1, kg2, kg3, hBs, H1, H2, H3, HX163⟩⟩
  have hc0 : c = 120 := by have := of_decide_eq_true hp16; omega
  refine mv 155 (.bool true) (wpList_nil (then_n (wp_cond_true rfl (wp_region_lit (mv 157 (.pointer (some ⟨g2, 0, none⟩)) ?_)))))
  refine nr ?_; intro U h; simp only [z0, z1] at h; subst h
  obtain ⟨⟨x158, a158, e158⟩, h158⟩ : ∃ r, dR (fun i => rdT l i 4096) [] a e = r := ⟨_, rfl⟩
  refine s_callx 158 rfl rfl _ 34 Try.call34 rfl rfl _ rfl [.pointer (some ⟨g2, 0, none⟩), .int .i64 4096] rfl (dtext g2 so sc l _ a e a158 e158 4096 (by decide) x158 kg2 (H.gro GG) hl h158) (fun _ _ ⟨_, _, he, _⟩ => ⟨_, he⟩) ?_
  rintro v w8 ⟨ax158, cx158, he, HX158, G, kn⟩
  cases he
  replace HX158 : OX _ 5 1 B ax158 cx158 (x158).length (bL (x158)) := (HX158.ox).mono hBs
  replace kg1 := G.has kg1 (by simp; omega)
  replace kg3 := G.has kg3 (by simp; omega)
  replace H1 := ox_gror H1 (gror_of G) (by omega)
  replace H2 := ox_gror H2 (gror_of G) (by omega)
  replace H3 := ox_gror H3 (gror_of G) (by omega)
  replace H4 := ox_gror H4 (gror_of G) (by omega)
  replace GG := G.gro GG (by simp; omega)
  replace hBs := Nat.le_trans hBs G.size
  clear kg2 G
  have kg2 := kn
  clear kn
  refine sv 159 (.pointer (some ⟨g3, 94, none⟩)) (run_fld 36 _ 13 rfl _ _ rfl _) ?_
  refine s_store rfl rfl 32 _ _ rfl g3 94 rfl (.slice ax158 x158.length cx158) rfl 36 _ kg3 #[.slice ax158 x158.length cx158] rfl (by kernel_rfl) (Nat.le_of_ble_eq_true rfl) (by kernel_rfl) (c36 ((x16 : Nat) : Int) f.pw f.pn f.toA f.a f.b f.n f.fi f.fn f.ti f.tn ⟨ao1, d.tr.length, cap1⟩ ⟨ao2, d.ids.length, cap2⟩ f.key f.vn f.vw ⟨ao3, d.val.length, cap3⟩ f.op f.ttl ⟨ax158, x158.length, cx158⟩) (by kernel_rfl) ?_
  intro w10 St
  replace kg1 := St.has (by omega) kg1
  replace kg2 := St.has (by omega) kg2
  replace H1 := H1.apart St (fun ad ha => by have := H1.ge ad ha; omega)
  replace H2 := H2.apart St (fun ad ha => by have := H2.ge ad ha; omega)
  replace H3 := H3.apart St (fun ad ha => by have := H3.ge ad ha; omega)
  replace H4 := H4.apart St (fun ad ha => by have := H4.ge ad ha; omega)
  replace HX158 := HX158.apart St (fun ad ha => by have := HX158.ge ad ha; omega)
  replace GG := GG.store St bg3
  replace kg3 := St.new
  replace hBs := Nat.le_trans hBs (Nat.le_of_eq St.size.symm)
  clear St
  refine wpList_nil (blk_n (blk_n (then_n (wp_region_lit (mv 27 (.int .i64 ((i : Nat) : Int)) (sv 28 (.int .i64 ((i + 1 : Nat) : Int)) (run_add64 _ _ _ rfl ((i : Nat) : Int) 1 _ rfl rfl (by omega) (by omega) (by omega) _) (mv 7 (.int .i64 ((i + 1 : Nat) : Int)) ?_)))))))
  refine nr ?_; intro U h; simp only [z0, z1] at h; subst h
  refine wpList_nil (then_n ?_)
  have hS9 : stN l F zs (i + 1) a16 e16 = ((f, { d with tx := x158 }), a158, e158) := by rw [stN, bD, hS, hc, hc0, stD_120]; simp only [ltD120, bD, pD, h158]
  exact ⟨_, (by omega : F.length - (i + 1) < F.length - i), i + 1, f, { d with tx := x158 }, a158, e158, ao1, cap1, ao2, cap2, ao3, cap3, ax158, cx158, usK ⟨hin, hS9, (Nat.le_trans hLt (by omega)), (Nat.le_trans hLi (by omega)), GG, kg1, kg2, kg3, hBs, H1, H2, H3, HX158⟩⟩
  have hc0 : c = 119 := by have := of_decide_eq_true hp15; omega
  refine mv 150 (.bool true) (wpList_nil (then_n (wp_cond_true rfl (wp_region_lit (mv 152 (.pointer (some ⟨g2, 0, none⟩)) ?_)))))
  refine nr ?_; intro U h; simp only [z0, z1] at h; subst h
  obtain ⟨⟨x153, a153, e153⟩, h153⟩ : ∃ r, dR (rdX 0 64 2 l) 0 a e = r := ⟨_, rfl⟩
  refine s_callx 153 rfl rfl _ 31 Try.call31 rfl rfl _ rfl [.pointer (some ⟨g2, 0, none⟩), .int .u64 0, .int .u64 64, .int .i64 2] rfl (dnum g2 so sc l _ a e 0 64 2 x153 a153 e153 kg2 (H.gro GG) hl h153) (fun _ _ ⟨he, _⟩ => ⟨_, he⟩) ?_
  rintro v w8 ⟨he, G, kn⟩
  cases he
  replace kg1 := G.has kg1 (by simp; omega)
  replace kg3 := G.has kg3 (by simp; omega)
  replace H1 := ox_gror H1 (gror_of G) (by omega)
  replace H2 := ox_gror H2 (gror_of G) (by omega)
  replace H3 := ox_gror H3 (gror_of G) (by omega)
  replace H4 := ox_gror H4 (gror_of G) (by omega)
  replace GG := G.gro GG (by simp; omega)
  replace hBs := Nat.le_trans hBs G.size
  clear kg2 G
  have kg2 := kn
  clear kn
  refine sv 154 (.pointer (some ⟨g3, 93, none⟩)) (run_fld 36 _ 12 rfl _ _ rfl _) ?_
  refine s_store rfl rfl 3 _ _ rfl g3 93 rfl (.int .i64 ((x153 : Nat) : Int)) rfl 36 _ kg3 #[.int .i64 ((x153 : Nat) : Int)] rfl (by kernel_rfl) (Nat.le_of_ble_eq_true rfl) (by kernel_rfl) (c36 ((x16 : Nat) : Int) f.pw f.pn f.toA f.a f.b f.n f.fi f.fn f.ti f.tn ⟨ao1, d.tr.length, cap1⟩ ⟨ao2, d.ids.length, cap2⟩ f.key f.vn f.vw ⟨ao3, d.val.length, cap3⟩ f.op ((x153 : Nat) : Int) ⟨ao4, d.tx.length, cap4⟩) (by kernel_rfl) ?_
  intro w10 St
  replace kg1 := St.has (by omega) kg1
  replace kg2 := St.has (by omega) kg2
  replace H1 := H1.apart St (fun ad ha => by have := H1.ge ad ha; omega)
  replace H2 := H2.apart St (fun ad ha => by have := H2.ge ad ha; omega)
  replace H3 := H3.apart St (fun ad ha => by have := H3.ge ad ha; omega)
  replace H4 := H4.apart St (fun ad ha => by have := H4.ge ad ha; omega)
  replace GG := GG.store St bg3
  replace kg3 := St.new
  replace hBs := Nat.le_trans hBs (Nat.le_of_eq St.size.symm)
  clear St
  refine wpList_nil (blk_n (blk_n (then_n (wp_region_lit (mv 27 (.int .i64 ((i : Nat) : Int)) (sv 28 (.int .i64 ((i + 1 : Nat) : Int)) (run_add64 _ _ _ rfl ((i : Nat) : Int) 1 _ rfl rfl (by omega) (by omega) (by omega) _) (mv 7 (.int .i64 ((i + 1 : Nat) : Int)) ?_)))))))
  refine nr ?_; intro U h; simp only [z0, z1] at h; subst h
  refine wpList_nil (then_n ?_)
  have hS9 : stN l F zs (i + 1) a16 e16 = (({ f with ttl := ((x153 : Nat) : Int) }, d), a153, e153) := by rw [stN, bD, hS, hc, hc0, stD_119]; simp only [ltD119, bD, pD, h153]
  exact ⟨_, (by omega : F.length - (i + 1) < F.length - i), i + 1, { f with ttl := ((x153 : Nat) : Int) }, d, a153, e153, ao1, cap1, ao2, cap2, ao3, cap3, ao4, cap4, usK ⟨hin, hS9, (Nat.le_trans hLt (by omega)), (Nat.le_trans hLi (by omega)), GG, kg1, kg2, kg3, hBs, H1, H2, H3, H4⟩⟩
  have hc0 : c = 111 := by have := of_decide_eq_true hp14; omega
  refine mv 145 (.bool true) (wpList_nil (then_n (wp_cond_true rfl (wp_region_lit (mv 147 (.pointer (some ⟨g2, 0, none⟩)) ?_)))))
  refine nr ?_; intro U h; simp only [z0, z1] at h; subst h
  obtain ⟨⟨x148, a148, e148⟩, h148⟩ : ∃ r, dR (rdX 1 4 2 l) 0 a e = r := ⟨_, rfl⟩
  refine s_callx 148 rfl rfl _ 31 Try.call31 rfl rfl _ rfl [.pointer (some ⟨g2, 0, none⟩), .int .u64 1, .int .u64 4, .int .i64 2] rfl (dnum g2 so sc l _ a e 1 4 2 x148 a148 e148 kg2 (H.gro GG) hl h148) (fun _ _ ⟨he, _⟩ => ⟨_, he⟩) ?_
  rintro v w8 ⟨he, G, kn⟩
  cases he
  replace kg1 := G.has kg1 (by simp; omega)
  replace kg3 := G.has kg3 (by simp; omega)
  replace H1 := ox_gror H1 (gror_of G) (by omega)
  replace H2 := ox_gror H2 (gror_of G) (by omega)
  replace H3 := ox_gror H3 (gror_of G) (by omega)
  replace H4 := ox_gror H4 (gror_of G) (by omega)
  replace GG := G.gro GG (by simp; omega)
  replace hBs := Nat.le_trans hBs G.size
  clear kg2 G
  have kg2 := kn
  clear kn
  refine sv 149 (.pointer (some ⟨g3, 92, none⟩)) (run_fld 36 _ 11 rfl _ _ rfl _) ?_
  refine s_store rfl rfl 3 _ _ rfl g3 92 rfl (.int .i64 ((x148 : Nat) : Int)) rfl 36 _ kg3 #[.int .i64 ((x148 : Nat) : Int)] rfl (by kernel_rfl) (Nat.le_of_ble_eq_true rfl) (by kernel_rfl) (c36 ((x16 : Nat) : Int) f.pw f.pn f.toA f.a f.b f.n f.fi f.fn f.ti f.tn ⟨ao1, d.tr.length, cap1⟩ ⟨ao2, d.ids.length, cap2⟩ f.key f.vn f.vw ⟨ao3, d.val.length, cap3⟩ ((x148 : Nat) : Int) f.ttl ⟨ao4, d.tx.length, cap4⟩) (by kernel_rfl) ?_
  intro w10 St
  replace kg1 := St.has (by omega) kg1
  replace kg2 := St.has (by omega) kg2
  replace H1 := H1.apart St (fun ad ha => by have := H1.ge ad ha; omega)
  replace H2 := H2.apart St (fun ad ha => by have := H2.ge ad ha; omega)
  replace H3 := H3.apart St (fun ad ha => by have := H3.ge ad ha; omega)
  replace H4 := H4.apart St (fun ad ha => by have := H4.ge ad ha; omega)
  replace GG := GG.store St bg3
  replace kg3 := St.new
  replace hBs := Nat.le_trans hBs (Nat.le_of_eq St.size.symm)
  clear St
  refine wpList_nil (blk_n (blk_n (then_n (wp_region_lit (mv 27 (.int .i64 ((i : Nat) : Int)) (sv 28 (.int .i64 ((i + 1 : Nat) : Int)) (run_add64 _ _ _ rfl ((i : Nat) : Int) 1 _ rfl rfl (by omega) (by omega) (by omega) _) (mv 7 (.int .i64 ((i + 1 : Nat) : Int)) ?_)))))))
  refine nr ?_; intro U h; simp only [z0, z1] at h; subst h
  refine wpList_nil (then_n ?_)
  have hS9 : stN l F zs (i + 1) a16 e16 = (({ f with op := ((x148 : Nat) : Int) }, d), a148, e148) := by rw [stN, bD, hS, hc, hc0, stD_111]; simp only [ltD111, bD, pD, h148]
  exact ⟨_, (by omega : F.length - (i + 1) < F.length - i), i + 1, { f with op := ((x148 : Nat) : Int) }, d, a148, e148, ao1, cap1, ao2, cap2, ao3, cap3, ao4, cap4, usK ⟨hin, hS9, (Nat.le_trans hLt (by omega)), (Nat.le_trans hLi (by omega)), GG, kg1, kg2, kg3, hBs, H1, H2, H3, H4⟩⟩
  have hc0 : c = 108 := by have := of_decide_eq_true hp13; omega
  refine mv 140 (.bool true) (wpList_nil (then_n (wp_cond_true rfl (wp_region_lit (mv 142 (.pointer (some ⟨g2, 0, none⟩)) ?_)))))
  refine nr ?_; intro U h; simp only [z0, z1] at h; subst h
  obtain ⟨⟨x143, a143, e143⟩, h143⟩ : ∃ r, dR (rdX 0 3 2 l) 0 a e = r := ⟨_, rfl⟩
  refine s_callx 143 rfl rfl _ 31 Try.call31 rfl rfl _ rfl [.pointer (some ⟨g2, 0, none⟩), .int .u64 0, .int .u64 3, .int .i64 2] rfl (dnum g2 so sc l _ a e 0 3 2 x143 a143 e143 kg2 (H.gro GG) hl h143) (fun _ _ ⟨he, _⟩ => ⟨_, he⟩) ?_
  rintro v w8 ⟨he, G, kn⟩
  cases he
  replace kg1 := G.has kg1 (by simp; omega)
  replace kg3 := G.has kg3 (by simp; omega)
  replace H1 := ox_gror H1 (gror_of G) (by omega)
  replace H2 := ox_gror H2 (gror_of G) (by omega)
  replace H3 := ox_gror H3 (gror_of G) (by omega)
  replace H4 := ox_gror H4 (gror_of G) (by omega)
  replace GG := G.gro GG (by simp; omega)
  replace hBs := Nat.le_trans hBs G.size
  clear kg2 G
  have kg2 := kn
  clear kn
  refine sv 144 (.pointer (some ⟨g3, 92, none⟩)) (run_fld 36 _ 11 rfl _ _ rfl _) ?_
  refine s_store rfl rfl 3 _ _ rfl g3 92 rfl (.int .i64 ((x143 : Nat) : Int)) rfl 36 _ kg3 #[.int .i64 ((x143 : Nat) : Int)] rfl (by kernel_rfl) (Nat.le_of_ble_eq_true rfl) (by kernel_rfl) (c36 ((x16 : Nat) : Int) f.pw f.pn f.toA f.a f.b f.n f.fi f.fn f.ti f.tn ⟨ao1, d.tr.length, cap1⟩ ⟨ao2, d.ids.length, cap2⟩ f.key f.vn f.vw ⟨ao3, d.val.length, cap3⟩ ((x143 : Nat) : Int) f.ttl ⟨ao4, d.tx.length, cap4⟩) (by kernel_rfl) ?_
  intro w10 St
  replace kg1 := St.has (by omega) kg1
  replace kg2 := St.has (by omega) kg2
  replace H1 := H1.apart St (fun ad ha => by have := H1.ge ad ha; omega)
  replace H2 := H2.apart St (fun ad ha => by have := H2.ge ad ha; omega)
  replace H3 := H3.apart St (fun ad ha => by have := H3.ge ad ha; omega)
  replace H4 := H4.apart St (fun ad ha => by have := H4.ge ad ha; omega)
  replace GG := GG.store St bg3
  replace kg3 := St.new
  replace hBs := Nat.le_trans hBs (Nat.le_of_eq St.size.symm)
  clear St
  refine wpList_nil (blk_n (blk_n (then_n (wp_region_lit (mv 27 (.int .i64 ((i : Nat) : Int)) (sv 28 (.int .i64 ((i + 1 : Nat) : Int)) (run_add64 _ _ _ rfl ((i : Nat) : Int) 1 _ rfl rfl (by omega) (by omega) (by omega) _) (mv 7 (.int .i64 ((i + 1 : Nat) : Int)) ?_)))))))
  refine nr ?_; intro U h; simp only [z0, z1] at h; subst h
  refine wpList_nil (then_n ?_)
  have hS9 : stN l F zs (i + 1) a16 e16 = (({ f with op := ((x143 : Nat) : Int) }, d), a143, e143) := by rw [stN, bD, hS, hc, hc0, stD_108]; simp only [ltD108, bD, pD, h143]
  exact ⟨_, (by omega : F.length - (i + 1) < F.length - i), i + 1, { f with op := ((x143 : Nat) : Int) }, d, a143, e143, ao1, cap1, ao2, cap2, ao3, cap3, ao4, cap4, usK ⟨hin, hS9, (Nat.le_trans hLt (by omega)), (Nat.le_trans hLi (by omega)), GG, kg1, kg2, kg3, hBs, H1, H2, H3, H4⟩⟩
  have hc0 : c = 107 := by have := of_decide_eq_true hp12; omega
  refine mv 115 (.bool true) (wpList_nil (then_n (wp_cond_true rfl (wp_seq (wp_region_lit (mv 118 (.pointer (some ⟨g2, 0, none⟩)) ?_))))))
  refine nr ?_; intro U h; simp only [z0, z1] at h; subst h
  obtain ⟨⟨x119, a119, e119⟩, h119⟩ : ∃ r, dR (rdI l) z16 a e = r := ⟨_, rfl⟩
  refine s_callx 119 rfl rfl _ 33 Try.call33 rfl rfl _ rfl [.pointer (some ⟨g2, 0, none⟩)] rfl (did g2 so sc l _ a e a119 e119 x119 kg2 (H.gro GG) hl h119) (fun _ _ ⟨he, _⟩ => ⟨_, he⟩) ?_
  rintro v w8 ⟨he, G, kn⟩
  cases he
  replace kg1 := G.has kg1 (by simp; omega)
  replace kg3 := G.has kg3 (by simp; omega)
  replace H1 := ox_gror H1 (gror_of G) (by omega)
  replace H2 := ox_gror H2 (gror_of G) (by omega)
  replace H3 := ox_gror H3 (gror_of G) (by omega)
  replace H4 := ox_gror H4 (gror_of G) (by omega)
  replace GG := G.gro GG (by simp; omega)
  replace hBs := Nat.le_trans hBs G.size
  clear kg2 G
  have kg2 := kn
  clear kn
  refine sv 120 (.pointer (some ⟨g3, 58, none⟩)) (run_fld 36 _ 10 rfl _ _ rfl _) (sv 121 (.pointer (some ⟨g3, 58, none⟩)) (run_fld 34 _ 0 rfl _ _ rfl _) ?_)
  refine s_store rfl rfl 23 _ _ rfl g3 58 rfl (.agg (c23 (idF x119))) rfl 36 _ kg3 (c23 (idF x119)) rfl (by kernel_rfl) (Nat.le_of_ble_eq_true rfl) (by kernel_rfl) (c36 ((x16 : Nat) : Int) f.pw f.pn f.toA f.a f.b f.n f.fi f.fn f.ti f.tn ⟨ao1, d.tr.length, cap1⟩ ⟨ao2, d.ids.length, cap2⟩ (idF x119) f.vn f.vw ⟨ao3, d.val.length, cap3⟩ f.op f.ttl ⟨ao4, d.tx.length, cap4⟩) (by kernel_rfl) ?_
  intro w10 St
  replace kg1 := St.has (by omega) kg1
  replace kg2 := St.has (by omega) kg2
  replace H1 := H1.apart St (fun ad ha => by have := H1.ge ad ha; omega)
  replace H2 := H2.apart St (fun ad ha => by have := H2.ge ad ha; omega)
  replace H3 := H3.apart St (fun ad ha => by have := H3.ge ad ha; omega)
  replace H4 := H4.apart St (fun ad ha => by have := H4.ge ad ha; omega)
  replace GG := GG.store St bg3
  replace kg3 := St.new
  replace hBs := Nat.le_trans hBs (Nat.le_of_eq St.size.symm)
  clear St
  refine wpList_nil (then_n (wp_seq (wp_region_lit (mv 122 (.pointer (some ⟨g2, 0, none⟩)) ?_))))
  refine nr ?_; intro U h; simp only [z0, z1] at h; subst h
  obtain ⟨⟨x123, a123, e123⟩, h123⟩ : ∃ r, dR (rdN l) 0 a119 e119 = r := ⟨_, rfl⟩
  refine s_callx 123 rfl rfl _ 32 Try.call32 rfl rfl _ rfl [.pointer (some ⟨g2, 0, none⟩)] rfl (dany g2 so sc l _ a119 e119 x123 a123 e123 kg2 (H.gro GG) hl h123) (fun _ _ ⟨he, _⟩ => ⟨_, he⟩) ?_
  rintro v w11 ⟨he, G, kn⟩
  cases he
  replace kg1 := G.has kg1 (by simp; omega)
  replace kg3 := G.has kg3 (by simp; omega)
  replace H1 := ox_gror H1 (gror_of G) (by omega)
  replace H2 := ox_gror H2 (gror_of G) (by omega)
  replace H3 := ox_gror H3 (gror_of G) (by omega)
  replace H4 := ox_gror H4 (gror_of G) (by omega)
  replace GG := G.gro GG (by simp; omega)
  replace hBs := Nat.le_trans hBs G.size
  clear kg2 G
  have kg2 := kn
  clear kn
  refine sv 124 (.pointer (some ⟨g3, 58, none⟩)) (run_fld 36 _ 10 rfl _ _ rfl _) (sv 125 (.pointer (some ⟨g3, 74, none⟩)) (run_fld 34 _ 1 rfl _ _ rfl _) (sv 126 (.pointer (some ⟨g3, 74, none⟩)) (run_fld 31 _ 0 rfl _ _ rfl _) ?_))
  refine s_store rfl rfl 2 _ _ rfl g3 74 rfl (.int .i64 ((x123 : Nat) : Int)) rfl 36 _ kg3 #[.int .i64 ((x123 : Nat) : Int)] rfl (by kernel_rfl) (Nat.le_of_ble_eq_true rfl) (by kernel_rfl) (c36 ((x16 : Nat) : Int) f.pw f.pn f.toA f.a f.b f.n f.fi f.fn f.ti f.tn ⟨ao1, d.tr.length, cap1⟩ ⟨ao2, d.ids.length, cap2⟩ (idF x119) ((x123 : Nat) : Int) f.vw ⟨ao3, d.val.length, cap3⟩ f.op f.ttl ⟨ao4, d.tx.length, cap4⟩) (by kernel_rfl) ?_
  intro w13 St
  replace kg1 := St.has (by omega) kg1
  replace kg2 := St.has (by omega) kg2
  replace H1 := H1.apart St (fun ad ha => by have := H1.ge ad ha; omega)
  replace H2 := H2.apart St (fun ad ha => by have := H2.ge ad ha; omega)
  replace H3 := H3.apart St (fun ad ha => by have := H3.ge ad ha; omega)
  replace H4 := H4.apart St (fun ad ha => by have := H4.ge ad ha; omega)
  replace GG := GG.store St bg3
  replace kg3 := St.new
  replace hBs := Nat.le_trans hBs (Nat.le_of_eq St.size.symm)
  clear St
  refine wpList_nil (then_n (wp_seq (wp_region_lit (mv 127 (.pointer (some ⟨g2, 0, none⟩)) ?_))))
  refine nr ?_; intro U h; simp only [z0, z1] at h; subst h
  obtain ⟨⟨x128, a128, e128⟩, h128⟩ : ∃ r, dR (rdI l) z16 a123 e123 = r := ⟨_, rfl⟩
  refine s_callx 128 rfl rfl _ 33 Try.call33 rfl rfl _ rfl [.pointer (some ⟨g2, 0, none⟩)] rfl (did g2 so sc l _ a123 e123 a128 e128 x128 kg2 (H.gro GG) hl h128) (fun _ _ ⟨he, _⟩ => ⟨_, he⟩) ?_
  rintro v w14 ⟨he, G, kn⟩
  cases he
  replace kg1 := G.has kg1 (by simp; omega)
  replace kg3 := G.has kg3 (by simp; omega)
  replace H1 := ox_gror H1 (gror_of G) (by omega)
  replace H2 := ox_gror H2 (gror_of G) (by omega)
  replace H3 := ox_gror H3 (gror_of G) (by omega)
  replace H4 := ox_gror H4 (gror_of G) (by omega)
  replace GG := G.gro GG (by simp; omega)
  replace hBs := Nat.le_trans hBs G.size
  clear kg2 G
  have kg2 := kn
  clear kn
  refine sv 129 (.pointer (some ⟨g3, 58, none⟩)) (run_fld 36 _ 10 rfl _ _ rfl _) (sv 130 (.pointer (some ⟨g3, 74, none⟩)) (run_fld 34 _ 1 rfl _ _ rfl _) (sv 131 (.pointer (some ⟨g3, 75, none⟩)) (run_fld 31 _ 1 rfl _ _ rfl _) ?_))
  refine s_store rfl rfl 23 _ _ rfl g3 75 rfl (.agg (c23 (idF x128))) rfl 36 _ kg3 (c23 (idF x128)) rfl (by kernel_rfl) (Nat.le_of_ble_eq_true rfl) (by kernel_rfl) (c36 ((x16 : Nat) : Int) f.pw f.pn f.toA f.a f.b f.n f.fi f.fn f.ti f.tn ⟨ao1, d.tr.length, cap1⟩ ⟨ao2, d.ids.length, cap2⟩ (idF x119) ((x123 : Nat) : Int) (idF x128) ⟨ao3, d.val.length, cap3⟩ f.op f.ttl ⟨ao4, d.tx.length, cap4⟩) (by kernel_rfl) ?_
  intro w16 St
  replace kg1 := St.has (by omega) kg1
  replace kg2 := St.has (by omega) kg2
  replace H1 := H1.apart St (fun ad ha => by have := H1.ge ad ha; omega)
  replace H2 := H2.apart St (fun ad ha => by have := H2.ge ad ha; omega)
  replace H3 := H3.apart St (fun ad ha => by have := H3.ge ad ha; omega)
  replace H4 := H4.apart St (fun ad ha => by have := H4.ge ad ha; omega)
  replace GG := GG.store St bg3
  replace kg3 := St.new
  replace hBs := Nat.le_trans hBs (Nat.le_of_eq St.size.symm)
  clear St
  refine wpList_nil (then_n (wp_seq (wp_region_lit (mv 132 (.string (bas F)) ?_))))
  refine nr ?_; intro U h; simp only [z0, z1] at h; subst h
  refine mv 133 (.int .i64 ((i : Nat) : Int)) (sv 134 (.int .u8 ((c : Nat) : Int)) ((run_sidx _ _ rfl F hFb rfl i hin rfl _).trans (by rw [hc])) (sv 135 (.bool false) (run_eq_k 5 .u8 _ _ _ rfl Try.underlying5 ((c : Nat) : Int) 105 rfl rfl false (by first | exact decide_eq_true (by omega) | exact decide_eq_false (by omega)) _) (wpList_nil (then_n (wp_cond_false rfl (wp_skip (blk_n (blk_n (then_n (wp_region_lit (mv 27 (.int .i64 ((i : Nat) : Int)) (sv 28 (.int .i64 ((i + 1 : Nat) : Int)) (run_add64 _ _ _ rfl ((i : Nat) : Int) 1 _ rfl rfl (by omega) (by omega) (by omega) _) ?_))))))))))))
  refine nr ?_; intro U h; simp only [z0, z1] at h; subst h
  refine mv 7 (.int .i64 ((i + 1 : Nat) : Int)) (wpList_nil (then_n ?_))
  have hS9 : stN l F zs (i + 1) a16 e16 = (({ f with key := idF x119, vn := ((x123 : Nat) : Int), vw := idF x128 }, d), a128, e128) := by rw [stN, bD, hS, hc, hc0, stD_107]; simp only [ltD107, bD, pD, h119, h123, h128]
  exact ⟨_, (by omega : F.length - (i + 1) < F.length - i), i + 1, { f with key := idF x119, vn := ((x123 : Nat) : Int), vw := idF x128 }, d, a128, e128, ao1, cap1, ao2, cap2, ao3, cap3, ao4, cap4, usK ⟨hin, hS9, (Nat.le_trans hLt (by omega)), (Nat.le_trans hLi (by omega)), GG, kg1, kg2, kg3, hBs, H1, H2, H3, H4⟩⟩
  have hc0 : c = 105 := by have := of_decide_eq_true hp11; omega
  refine mv 115 (.bool true) (wpList_nil (then_n (wp_cond_true rfl (wp_skip (then_n (wp_cond_true rfl (wp_seq (wp_region_lit (mv 118 (.pointer (some ⟨g2, 0, none⟩)) ?_)))))))))
  refine nr ?_; intro U h; simp only [z0, z1] at h; subst h
  obtain ⟨⟨x119, a119, e119⟩, h119⟩ : ∃ r, dR (rdI l) z16 a e = r := ⟨_, rfl⟩
  refine s_callx 119 rfl rfl _ 33 Try.call33 rfl rfl _ rfl [.pointer (some ⟨g2, 0, none⟩)] rfl (did g2 so sc l _ a e a119 e119 x119 kg2 (H.gro GG) hl h119) (fun _ _ ⟨he, _⟩ => ⟨_, he⟩) ?_
  rintro v w8 ⟨he, G, kn⟩
  cases he
  replace kg1 := G.has kg1 (by simp; omega)
  replace kg3 := G.has kg3 (by simp; omega)
  replace H1 := ox_gror H1 (gror_of G) (by omega)
  replace H2 := ox_gror H2 (gror_of G) (by omega)
  replace H3 := ox_gror H3 (gror_of G) (by omega)
  replace H4 := ox_gror H4 (gror_of G) (by omega)
  replace GG := G.gro GG (by simp; omega)
  replace hBs := Nat.le_trans hBs G.size
  clear kg2 G
  have kg2 := kn
  clear kn
  refine sv 120 (.pointer (some ⟨g3, 58, none⟩)) (run_fld 36 _ 10 rfl _ _ rfl _) (sv 121 (.pointer (some ⟨g3, 58, none⟩)) (run_fld 34 _ 0 rfl _ _ rfl _) ?_)
  refine s_store rfl rfl 23 _ _ rfl g3 58 rfl (.agg (c23 (idF x119))) rfl 36 _ kg3 (c23 (idF x119)) rfl (by kernel_rfl) (Nat.le_of_ble_eq_true rfl) (by kernel_rfl) (c36 ((x16 : Nat) : Int) f.pw f.pn f.toA f.a f.b f.n f.fi f.fn f.ti f.tn ⟨ao1, d.tr.length, cap1⟩ ⟨ao2, d.ids.length, cap2⟩ (idF x119) f.vn f.vw ⟨ao3, d.val.length, cap3⟩ f.op f.ttl ⟨ao4, d.tx.length, cap4⟩) (by kernel_rfl) ?_
  intro w10 St
  replace kg1 := St.has (by omega) kg1
  replace kg2 := St.has (by omega) kg2
  replace H1 := H1.apart St (fun ad ha => by have := H1.ge ad ha; omega)
  replace H2 := H2.apart St (fun ad ha => by have := H2.ge ad ha; omega)
  replace H3 := H3.apart St (fun ad ha => by have := H3.ge ad ha; omega)
  replace H4 := H4.apart St (fun ad ha => by have := H4.ge ad ha; omega)
  replace GG := GG.store St bg3
  replace kg3 := St.new
  replace hBs := Nat.le_trans hBs (Nat.le_of_eq St.size.symm)
  clear St
  refine wpList_nil (then_n (wp_seq (wp_region_lit (mv 122 (.pointer (some ⟨g2, 0, none⟩)) ?_))))
  refine nr ?_; intro U h; simp only [z0, z1] at h; subst h
  obtain ⟨⟨x123, a123, e123⟩, h123⟩ : ∃ r, dR (rdN l) 0 a119 e119 = r := ⟨_, rfl⟩
  refine s_callx 123 rfl rfl _ 32 Try.call32 rfl rfl _ rfl [.pointer (some ⟨g2, 0, none⟩)] rfl (dany g2 so sc l _ a119 e119 x123 a123 e123 kg2 (H.gro GG) hl h123) (fun _ _ ⟨he, _⟩ => ⟨_, he⟩) ?_
  rintro v w11 ⟨he, G, kn⟩
  cases he
  replace kg1 := G.has kg1 (by simp; omega)
  replace kg3 := G.has kg3 (by simp; omega)
  replace H1 := ox_gror H1 (gror_of G) (by omega)
  replace H2 := ox_gror H2 (gror_of G) (by omega)
  replace H3 := ox_gror H3 (gror_of G) (by omega)
  replace H4 := ox_gror H4 (gror_of G) (by omega)
  replace GG := G.gro GG (by simp; omega)
  replace hBs := Nat.le_trans hBs G.size
  clear kg2 G
  have kg2 := kn
  clear kn
  refine sv 124 (.pointer (some ⟨g3, 58, none⟩)) (run_fld 36 _ 10 rfl _ _ rfl _) (sv 125 (.pointer (some ⟨g3, 74, none⟩)) (run_fld 34 _ 1 rfl _ _ rfl _) (sv 126 (.pointer (some ⟨g3, 74, none⟩)) (run_fld 31 _ 0 rfl _ _ rfl _) ?_))
  refine s_store rfl rfl 2 _ _ rfl g3 74 rfl (.int .i64 ((x123 : Nat) : Int)) rfl 36 _ kg3 #[.int .i64 ((x123 : Nat) : Int)] rfl (by kernel_rfl) (Nat.le_of_ble_eq_true rfl) (by kernel_rfl) (c36 ((x16 : Nat) : Int) f.pw f.pn f.toA f.a f.b f.n f.fi f.fn f.ti f.tn ⟨ao1, d.tr.length, cap1⟩ ⟨ao2, d.ids.length, cap2⟩ (idF x119) ((x123 : Nat) : Int) f.vw ⟨ao3, d.val.length, cap3⟩ f.op f.ttl ⟨ao4, d.tx.length, cap4⟩) (by kernel_rfl) ?_
  intro w13 St
  replace kg1 := St.has (by omega) kg1
  replace kg2 := St.has (by omega) kg2
  replace H1 := H1.apart St (fun ad ha => by have := H1.ge ad ha; omega)
  replace H2 := H2.apart St (fun ad ha => by have := H2.ge ad ha; omega)
  replace H3 := H3.apart St (fun ad ha => by have := H3.ge ad ha; omega)
  replace H4 := H4.apart St (fun ad ha => by have := H4.ge ad ha; omega)
  replace GG := GG.store St bg3
  replace kg3 := St.new
  replace hBs := Nat.le_trans hBs (Nat.le_of_eq St.size.symm)
  clear St
  refine wpList_nil (then_n (wp_seq (wp_region_lit (mv 127 (.pointer (some ⟨g2, 0, none⟩)) ?_))))
  refine nr ?_; intro U h; simp only [z0, z1] at h; subst h
  obtain ⟨⟨x128, a128, e128⟩, h128⟩ : ∃ r, dR (rdI l) z16 a123 e123 = r := ⟨_, rfl⟩
  refine s_callx 128 rfl rfl _ 33 Try.call33 rfl rfl _ rfl [.pointer (some ⟨g2, 0, none⟩)] rfl (did g2 so sc l _ a123 e123 a128 e128 x128 kg2 (H.gro GG) hl h128) (fun _ _ ⟨he, _⟩ => ⟨_, he⟩) ?_
  rintro v w14 ⟨he, G, kn⟩
  cases he
  replace kg1 := G.has kg1 (by simp; omega)
  replace kg3 := G.has kg3 (by simp; omega)
  replace H1 := ox_gror H1 (gror_of G) (by omega)
  replace H2 := ox_gror H2 (gror_of G) (by omega)
  replace H3 := ox_gror H3 (gror_of G) (by omega)
  replace H4 := ox_gror H4 (gror_of G) (by omega)
  replace GG := G.gro GG (by simp; omega)
  replace hBs := Nat.le_trans hBs G.size
  clear kg2 G
  have kg2 := kn
  clear kn
  refine sv 129 (.pointer (some ⟨g3, 58, none⟩)) (run_fld 36 _ 10 rfl _ _ rfl _) (sv 130 (.pointer (some ⟨g3, 74, none⟩)) (run_fld 34 _ 1 rfl _ _ rfl _) (sv 131 (.pointer (some ⟨g3, 75, none⟩)) (run_fld 31 _ 1 rfl _ _ rfl _) ?_))
  refine s_store rfl rfl 23 _ _ rfl g3 75 rfl (.agg (c23 (idF x128))) rfl 36 _ kg3 (c23 (idF x128)) rfl (by kernel_rfl) (Nat.le_of_ble_eq_true rfl) (by kernel_rfl) (c36 ((x16 : Nat) : Int) f.pw f.pn f.toA f.a f.b f.n f.fi f.fn f.ti f.tn ⟨ao1, d.tr.length, cap1⟩ ⟨ao2, d.ids.length, cap2⟩ (idF x119) ((x123 : Nat) : Int) (idF x128) ⟨ao3, d.val.length, cap3⟩ f.op f.ttl ⟨ao4, d.tx.length, cap4⟩) (by kernel_rfl) ?_
  intro w16 St
  replace kg1 := St.has (by omega) kg1
  replace kg2 := St.has (by omega) kg2
  replace H1 := H1.apart St (fun ad ha => by have := H1.ge ad ha; omega)
  replace H2 := H2.apart St (fun ad ha => by have := H2.ge ad ha; omega)
  replace H3 := H3.apart St (fun ad ha => by have := H3.ge ad ha; omega)
  replace H4 := H4.apart St (fun ad ha => by have := H4.ge ad ha; omega)
  replace GG := GG.store St bg3
  replace kg3 := St.new
  replace hBs := Nat.le_trans hBs (Nat.le_of_eq St.size.symm)
  clear St
  refine wpList_nil (then_n (wp_seq (wp_region_lit (mv 132 (.string (bas F)) ?_))))
  refine nr ?_; intro U h; simp only [z0, z1] at h; subst h
  refine mv 133 (.int .i64 ((i : Nat) : Int)) (sv 134 (.int .u8 ((c : Nat) : Int)) ((run_sidx _ _ rfl F hFb rfl i hin rfl _).trans (by rw [hc])) (sv 135 (.bool true) (run_eq_k 5 .u8 _ _ _ rfl Try.underlying5 ((c : Nat) : Int) 105 rfl rfl true (by first | exact decide_eq_true (by omega) | exact decide_eq_false (by omega)) _) (wpList_nil (then_n (wp_cond_true rfl (wp_region_lit (mv 136 (.pointer (some ⟨g2, 0, none⟩)) ?_)))))))
  refine nr ?_; intro U h; simp only [z0, z1] at h; subst h
  obtain ⟨⟨x137, a137, e137⟩, h137⟩ : ∃ r, dR (fun i => rdT l i 64) [] a128 e128 = r := ⟨_, rfl⟩
  refine s_callx 137 rfl rfl _ 34 Try.call34 rfl rfl _ rfl [.pointer (some ⟨g2, 0, none⟩), .int .i64 64] rfl (dtext g2 so sc l _ a128 e128 a137 e137 64 (by decide) x137 kg2 (H.gro GG) hl h137) (fun _ _ ⟨_, _, he, _⟩ => ⟨_, he⟩) ?_
  rintro v w17 ⟨ax137, cx137, he, HX137, G, kn⟩
  cases he
  replace HX137 : OX _ 5 1 B ax137 cx137 (x137).length (bL (x137)) := (HX137.ox).mono hBs
  replace kg1 := G.has kg1 (by simp; omega)
  replace kg3 := G.has kg3 (by simp; omega)
  replace H1 := ox_gror H1 (gror_of G) (by omega)
  replace H2 := ox_gror H2 (gror_of G) (by omega)
  replace H3 := ox_gror H3 (gror_of G) (by omega)
  replace H4 := ox_gror H4 (gror_of G) (by omega)
  replace GG := G.gro GG (by simp; omega)
  replace hBs := Nat.le_trans hBs G.size
  clear kg2 G
  have kg2 := kn
  clear kn
  refine sv 138 (.pointer (some ⟨g3, 58, none⟩)) (run_fld 36 _ 10 rfl _ _ rfl _) (sv 139 (.pointer (some ⟨g3, 91, none⟩)) (run_fld 34 _ 2 rfl _ _ rfl _) ?_)
  refine s_store rfl rfl 32 _ _ rfl g3 91 rfl (.slice ax137 x137.length cx137) rfl 36 _ kg3 #[.slice ax137 x137.length cx137] rfl (by kernel_rfl) (Nat.le_of_ble_eq_true rfl) (by kernel_rfl) (c36 ((x16 : Nat) : Int) f.pw f.pn f.toA f.a f.b f.n f.fi f.fn f.ti f.tn ⟨ao1, d.tr.length, cap1⟩ ⟨ao2, d.ids.length, cap2⟩ (idF x119) ((x123 : Nat) : Int) (idF x128) ⟨ax137, x137.length, cx137⟩ f.op f.ttl ⟨ao4, d.tx.length, cap4⟩) (by kernel_rfl) ?_
  intro w19 St
  replace kg1 := St.has (by omega) kg1
  replace kg2 := St.has (by omega) kg2
  replace H1 := H1.apart St (fun ad ha => by have := H1.ge ad ha; omega)
  replace H2 := H2.apart St (fun ad ha => by have := H2.ge ad ha; omega)
  replace H3 := H3.apart St (fun ad ha => by have := H3.ge ad ha; omega)
  replace H4 := H4.apart St (fun ad ha => by have := H4.ge ad ha; omega)
  replace HX137 := HX137.apart St (fun ad ha => by have := HX137.ge ad ha; omega)
  replace GG := GG.store St bg3
  replace kg3 := St.new
  replace hBs := Nat.le_trans hBs (Nat.le_of_eq St.size.symm)
  clear St
  refine wpList_nil (blk_n (blk_n (then_n (wp_region_lit (mv 27 (.int .i64 ((i : Nat) : Int)) (sv 28 (.int .i64 ((i + 1 : Nat) : Int)) (run_add64 _ _ _ rfl ((i : Nat) : Int) 1 _ rfl rfl (by omega) (by omega) (by omega) _) ?_))))))
  refine nr ?_; intro U h; simp only [z0, z1] at h; subst h
  refine mv 7 (.int .i64 ((i + 1 : Nat) : Int)) (wpList_nil (then_n ?_))
  have hS9 : stN l F zs (i + 1) a16 e16 = (({ f with key := idF x119, vn := ((x123 : Nat) : Int), vw := idF x128 }, { d with val := x137 }), a137, e137) := by rw [stN, bD, hS, hc, hc0, stD_105]; simp only [ltD105, bD, pD, h119, h123, h128, h137]
  exact ⟨_, (by omega : F.length - (i + 1) < F.length - i), i + 1, { f with key := idF x119, vn := ((x123 : Nat) : Int), vw := idF x128 }, { d with val := x137 }, a137, e137, ao1, cap1, ao2, cap2, ax137, cx137, ao4, cap4, usK ⟨hin, hS9, (Nat.le_trans hLt (by omega)), (Nat.le_trans hLi (by omega)), GG, kg1, kg2, kg3, hBs, H1, H2, HX137, H4⟩⟩
  have hc0 : c = 115 := by have := of_decide_eq_true hp10; omega
  refine mv 99 (.bool true) (wpList_nil (then_n (wp_cond_true rfl (wp_seq (wp_region_lit (mv 101 (.pointer (some ⟨g2, 0, none⟩)) ?_))))))
  refine nr ?_; intro U h; simp only [z0, z1] at h; subst h
  obtain ⟨⟨x102, a102, e102⟩, h102⟩ : ∃ r, dR (rdX 0 16 4 l) 0 a e = r := ⟨_, rfl⟩
  refine s_callx 102 rfl rfl _ 31 Try.call31 rfl rfl _ rfl [.pointer (some ⟨g2, 0, none⟩), .int .u64 0, .int .u64 16, .int .i64 4] rfl (dnum g2 so sc l _ a e 0 16 4 x102 a102 e102 kg2 (H.gro GG) hl h102) (fun _ _ ⟨he, _⟩ => ⟨_, he⟩) ?_
  rintro v w8 ⟨he, G, kn⟩
  cases he
  replace kg1 := G.has kg1 (by simp; omega)
  replace kg3 := G.has kg3 (by simp; omega)
  replace H1 := ox_gror H1 (gror_of G) (by omega)
  replace H2 := ox_gror H2 (gror_of G) (by omega)
  replace H3 := ox_gror H3 (gror_of G) (by omega)
  replace H4 := ox_gror H4 (gror_of G) (by omega)
  replace GG := G.gro GG (by simp; omega)
  replace hBs := Nat.le_trans hBs G.size
  clear kg2 G
  have kg2 := kn
  clear kn
  refine nr ?_; intro U h; simp only [z0, z1] at h; subst h
  have hle102 := dRX_le h102
  refine mv 10 (.int .i64 ((x102 : Nat) : Int)) (wpList_nil (then_n (wp_seq (wp_region_lit (mv 11 (.int .i64 0) (wpList_nil (then_n (wp_block ?_))))))))
  refine wp_loopN (fun mz az wv => ∃ (j : Nat) (xs : List (List Nat)) (aj : Nat) (ej : Nat) (aoj : Option Addr) (capj : Nat) (us2 : Nat → Value), mz = x102 - j ∧ az = ⟨[.slice so l.length sc, undef, .pointer (some ⟨g1, 0, none⟩), .int .i64 0, .pointer (some ⟨g2, 0, none⟩), .pointer (some ⟨g3, 0, none⟩), .string (bas F), .int .i64 ((i : Nat) : Int), us1 8, us1 9, .int .i64 ((x102 : Nat) : Int), .int .i64 ((j : Nat) : Int), .slice so l.length sc, .agg (c72 ⟨so, l.length, sc⟩ 0 0), .pointer (some ⟨g2, 0, none⟩), .pointer (some ⟨g2, 0, none⟩), .int .i64 ((x16 : Nat) : Int), .pointer (some ⟨g3, 0, none⟩), .pointer (some ⟨g3, 0, none⟩), .int .i64 ((x16 : Nat) : Int), .string (bas F0), .string (bas F0), .bool pz, .int .i64 ((i : Nat) : Int), .string (bas F), .int .i64 ((F.length : Nat) : Int), .bool true, us1 27, us1 28, .string (bas F), .int .i64 ((i : Nat) : Int), .int .u8 ((c : Nat) : Int), .bool false, .bool false, us1 34, us1 35, us1 36, us1 37, us1 38, us1 39, us1 40, us1 41, .bool false, .bool false, us1 44, us1 45, us1 46, us1 47, us1 48, us1 49, us1 50, us1 51, .bool false, .bool false, us1 54, us1 55, us1 56, .bool false, .bool false, us1 59, us1 60, us1 61, us1 62, us1 63, us1 64, us1 65, us1 66, .bool false, .bool false, us1 69, us1 70, us1 71, .bool false, .bool false, us1 74, us1 75, us1 76, .bool false, .bool false, us1 79, us1 80, us1 81, us1 82, .bool false, .bool false, us1 85, us1 86, us1 87, us1 88, us1 89, us1 90, us1 91, us1 92, us1 93, us1 94, us1 95, us1 96, us1 97, us1 98, .bool true, .bool true, .pointer (some ⟨g2, 0, none⟩), .int .i64 ((x102 : Nat) : Int), us2 103, us2 104, us2 105, us2 106, us2 107, us2 108, us2 109, us2 110, us2 111, us2 112, us2 113, us2 114, us1 115, us1 116, us1 117, us1 118, us1 119, us1 120, us1 121, us1 122, us1 123, us1 124, us1 125, us1 126, us1 127, us1 128, us1 129, us1 130, us1 131, us1 132, us1 133, us1 134, us1 135, us1 136, us1 137, us1 138, us1 139, us1 140, us1 141, us1 142, us1 143, us1 144, us1 145, us1 146, us1 147, us1 148, us1 149, us1 150, us1 151, us1 152, us1 153, us1 154, us1 155, us1 156, us1 157, us1 158, us1 159, us1 160, us1 161, us1 162, us1 163, us1 164, undef, undef, undef, undef, undef, undef, undef, undef, undef, undef, undef, undef, undef, undef, undef, undef, undef, undef, undef, undef, undef, undef, undef, undef, undef, undef, undef, undef].toArray, []⟩ ∧ j ≤ x102 ∧ xs.length = j ∧ itD (dR (rdI l) z16) j a102 e102 = (xs, aj, ej) ∧ Gro w wv ∧ wv.heap[g1]? = some (.cells (c36 0 zF 0 false zF zF 0 0 0 0 0 Sl.nil Sl.nil zF 0 zF Sl.nil 0 0 Sl.nil) 36 (0, 0)) ∧ wv.heap[g2]? = some (.cells (c72 ⟨so, l.length, sc⟩ ((aj : Nat) : Int) ((ej : Nat) : Int)) 72 (0, 0)) ∧ wv.heap[g3]? = some (.cells (c36 ((x16 : Nat) : Int) f.pw f.pn f.toA f.a f.b f.n f.fi f.fn f.ti f.tn ⟨ao1, d.tr.length, cap1⟩ ⟨aoj, (d.ids ++ xs).length, capj⟩ f.key f.vn f.vw ⟨ao3, d.val.length, cap3⟩ f.op f.ttl ⟨ao4, d.tx.length, cap4⟩) 36 (0, 0)) ∧ B ≤ wv.heap.size ∧ OX wv 3 1 B ao1 cap1 (d.tr).length ((d.tr).map (Value.int .i64 ·)) ∧ OX wv 23 16 B aoj capj (d.ids ++ xs).length (cellsI (d.ids ++ xs)) ∧ OX wv 5 1 B ao3 cap3 (d.val).length (bL (d.val)) ∧ OX wv 5 1 B ao4 cap4 (d.tx).length (bL (d.tx))) ?_ _ ⟨0, [], a102, e102, ao2, cap2, usK ⟨Nat.zero_le _, rfl, rfl, GG, kg1, kg2, (by simp only [List.append_nil]; exact kg3), hBs, H1, (by simp only [List.append_nil]; exact H2), H3, H4⟩⟩
  clear kg1 kg2 kg3 GG H1 H2 H3 H4
  rintro mz az wv ⟨j, xs, aj, ej, aoj, capj, us2, rfl, rfl, hj, hxl, hI, GG, kg1, kg2, kg3, hBs, H1, H2, H3, H4⟩
  refine wp_seq (wp_seq (wp_region_lit (mv 103 (.int .i64 ((j : Nat) : Int)) (mv 104 (.int .i64 ((x102 : Nat) : Int)) ?_))))
  refine nr ?_; intro U h; simp only [z0, z1] at h; subst h
  obtain ⟨p11, hp11⟩ : ∃ p, decide (((j : Nat) : Int) < ((x102 : Nat) : Int)) = p := ⟨_, rfl⟩
  refine sv 105 (.bool p11) (run_lssT 3 _ _ _ rfl ((j : Nat) : Int) ((x102 : Nat) : Int) rfl rfl p11 hp11 _) ?_
  refine nr ?_; intro U h; simp only [z0, z1] at h; subst h
  cases p11
  have hje : j = x102 := by have := of_decide_eq_false hp11; omega
  refine wpList_nil (then_n (wp_cond_false rfl (wp_exit (then_x (then_x (blk_x (blk_n (blk_n (then_n (wp_region_lit (mv 27 (.int .i64 ((i : Nat) : Int)) (sv 28 (.int .i64 ((i + 1 : Nat) : Int)) (run_add64 _ _ _ rfl ((i : Nat) : Int) 1 _ rfl rfl (by omega) (by omega) (by omega) _) (mv 7 (.int .i64 ((i + 1 : Nat) : Int)) (wpList_nil (then_n ?_)))))))))))))))
  rw [hje] at hI
  have hS9 : stN l F zs (i + 1) a16 e16 = ((f, { d with ids := d.ids ++ xs }), aj, ej) := by rw [stN, bD, hS, hc, hc0, stD_115]; simp only [ltD115, bD, h102, pD, hI]
  exact ⟨_, (by omega : F.length - (i + 1) < F.length - i), i + 1, f, { d with ids := d.ids ++ xs }, aj, ej, ao1, cap1, aoj, capj, ao3, cap3, ao4, cap4, usK ⟨hin, hS9, (Nat.le_trans hLt (by omega)), (by show (d.ids ++ xs).length ≤ _; rw [List.length_append]; omega), GG, kg1, kg2, kg3, hBs, H1, H2, H3, H4⟩⟩
  have hjn : j < x102 := by have := of_decide_eq_true hp11; omega
  refine wpList_nil (then_n (wp_cond_true rfl (wp_skip (then_n (wp_seq (wp_block ?_))))))
  obtain ⟨⟨x9, a9, e9⟩, h9⟩ : ∃ r, dR (rdI l) z16 aj ej = r := ⟨_, rfl⟩
  have h169 := dRI_len h9
  refine wp_region_pm (A := ?Am39) (PJ w g1 g2 g3 B (c36 0 zF 0 false zF zF 0 0 0 0 0 Sl.nil Sl.nil zF 0 zF Sl.nil 0 0 Sl.nil) (c72 ⟨so, l.length, sc⟩ ((aj : Nat) : Int) ((ej : Nat) : Int)) (c72 ⟨so, l.length, sc⟩ ((a9 : Nat) : Int) ((e9 : Nat) : Int)) (c36 ((x16 : Nat) : Int) f.pw f.pn f.toA f.a f.b f.n f.fi f.fn f.ti f.tn ⟨ao1, d.tr.length, cap1⟩ ⟨aoj, (d.ids ++ xs).length, capj⟩ f.key f.vn f.vw ⟨ao3, d.val.length, cap3⟩ f.op f.ttl ⟨ao4, d.tx.length, cap4⟩) (fun x => OX x 23 16 B aoj capj ((d.ids ++ xs).length) (cellsI (d.ids ++ xs))) (fun x => OX x 3 1 B ao1 cap1 (d.tr).length ((d.tr).map (Value.int .i64 ·)) ∧ OX x 5 1 B ao3 cap3 (d.val).length (bL (d.val)) ∧ OX x 5 1 B ao4 cap4 (d.tx).length (bL (d.tx)))) 6 [(0, 108), (1, 109), (2, 110), (3, 111), (4, 112), (5, 113)] [.val (.pointer (some ⟨g3, 57, none⟩)), .val (.slice aoj ((d.ids ++ xs).length) capj), .val (.pointer (some ⟨g2, 0, none⟩)), .val (.agg (c23 (idF x9))), xbE 16 (bL x9), oxE 23 16 B ((d.ids ++ xs).length + 1) ((cellsI (d.ids ++ xs)) ++ bL x9)] [(5, 4)] [5] follows (by kernel_rfl) rfl (by kernel_rfl) (by decide) ⟨GG.drew, (Gro.refl _).drew.has kg1, (Gro.refl _).drew.has kg2, (Gro.refl _).drew.has kg3, Nat.le_trans hBs (Gro.refl _).drew.size, fun _ => H2.gro (Gro.refl _).drew, ⟨H1.gro (Gro.refl _).drew, H3.gro (Gro.refl _).drew, H4.gro (Gro.refl _).drew⟩⟩ ?hAm39 (opsM_g (fun L a b h hi G => h.grow rfl rfl (fun _ _ G h => h.gro G) (fun _ _ G h => ⟨h.1.gro G, h.2.1.gro G, h.2.2.gro G⟩) G) ?o0m39 (opsM_g (fun L a b h hi G => h.grow rfl rfl (fun _ _ G h => h.gro G) (fun _ _ G h => ⟨h.1.gro G, h.2.1.gro G, h.2.2.gro G⟩) G) ?o1m39 (opsM_g (fun L a b h hi G => h.grow rfl rfl (fun _ _ G h => h.gro G) (fun _ _ G h => ⟨h.1.gro G, h.2.1.gro G, h.2.2.gro G⟩) G) ?o2m39 (opsM_w ?o3m39 (opsM_g (fun L a b h hi G => h.grow rfl rfl (fun _ _ G h => h.gro G) (fun _ _ G h => ⟨h.1.gro G, h.2.1.gro G, h.2.2.gro G⟩) G) ?o4m39 (opsM_w ?o5m39 opsM_nil)))))) ?restm39
  case hAm39 =>
    intro ptrs
    simp only [full, foldSlots, filledE, postE, List.foldl_cons, List.foldl_nil, List.getD_cons_zero, List.getD_cons_succ, fill_val, fill_xb, fill_ox, List.set_cons_zero, List.set_cons_succ]
    exact rfl
  case o0m39 => exact fun _ _ _ hx _ _ => opE_value (v := .pointer (some ⟨g3, 57, none⟩)) rfl (run_fld 36 _ 9 rfl _ _ rfl _)
  case o1m39 => exact fun _ _ _ hx _ _ => opE_value (v := .slice aoj ((d.ids ++ xs).length) capj) rfl (run_ldc 29 _ rfl g3 57 rfl 36 _ hx.k3 (na29 _) _ rfl)
  case o2m39 => exact fun _ _ _ _ _ _ => opE_move (v := .pointer (some ⟨g2, 0, none⟩)) _ rfl rfl rfl
  case o3m39 =>
    intro L ptrs x hx hL _
    have k2 := hx.k2
    rw [hL, if_neg (by decide)] at k2
    exact opX_call (.val (.agg (c23 (idF x9)))) rfl _ 33 Try.call33 rfl rfl _ rfl [.pointer (some ⟨g2, 0, none⟩)] rfl ((did g2 so sc l x aj ej a9 e9 x9 k2 (H.gro hx.gg) hl h9).mono fun e y ⟨he, G, kn⟩ => ⟨_, he, ⟨hx.call (by omega) (by omega) (by omega) G kn (fun h => ox_gror h (gror_of G) (by omega)) (fun h => ⟨ox_gror h.1 (gror_of G) (by omega), ox_gror h.2.1 (gror_of G) (by omega), ox_gror h.2.2 (gror_of G) (by omega)⟩), StM.vals [0, 1, 2] (by kernel_rfl) ⟨⟨_, rfl⟩, ⟨_, rfl⟩, ⟨_, rfl⟩, trivial⟩⟩, rfl⟩)
  case o4m39 =>
    intro L ptrs x hx hL _
    exact opE_new _ rfl (run_bsl 29 1 [(0, .tmp 111)] rfl [(0, .agg (c23 (idF x9)))] rfl (show _ = Result.ok (.slice (some ⟨x.heap.size, 0, none⟩) 1 1) (x.alloc (.cells (c23 (idF x9)) 23)) by kernel_rfl)) (gro_alloc _ _) ⟨_, rfl, (by have := xc_made (w := x.alloc (.cells (c23 (idF x9)) 23)) (g := x.heap.size) (sz := 16) (n := 1) (cs := bL x9) (t := 23) (by rw [heap_alloc_new, ← bA_c23 h169]; rfl) (by simp [bL, h169]) (by intro v hv; obtain ⟨r, _, rfl⟩ := List.mem_map.1 hv; rfl); exact this)⟩
  case o5m39 =>
    intro L ptrs x hx hL hE
    obtain ⟨⟨g9, hv9, XB⟩, _⟩ := hE
    refine opX_appX iT29 _ rfl _ _ rfl rfl (hx.row hL) hv9 XB (by rw [List.length_append]; omega) (by decide) hx.bs ?_
    intro ao9 cap9 y h1 G
    have hge := (hx.row hL).ge
    exact ⟨⟨hx.app hwB (by omega) (by omega) (by omega) G (fun ad ha => (hge ad ha).1) ⟨hx.ot.1.gros G (OX.dis (hx.row hL) hx.ot.1 (by decide)), hx.ot.2.1.gros G (OX.dis (hx.row hL) hx.ot.2.1 (by decide)), hx.ot.2.2.gros G (OX.dis (hx.row hL) hx.ot.2.2 (by decide))⟩, StM.vals [0, 1, 2, 3] (by kernel_rfl) ⟨⟨_, rfl⟩, ⟨_, rfl⟩, ⟨_, rfl⟩, ⟨_, rfl⟩, trivial⟩⟩, ao9, cap9, rfl, h1⟩
  intro ptrs w9 HJ hxE
  simp only [List.drop_succ_cons, List.drop_zero]
  obtain ⟨⟨ao5, cap5, hv5, H5⟩, _⟩ := hxE
  simp only [hv5]
  clear GG kg1 kg2 kg3 hBs hv5 H1 H2 H3 H4
  have GG := HJ.gg
  have kg1 := HJ.k1
  have kg2 := HJ.k2
  rw [if_pos (by decide)] at kg2
  have kg3 := HJ.k3
  have hBs := HJ.bs
  obtain ⟨H1, H3, H4⟩ := HJ.ot
  have H2 := H5
  clear HJ H5
  refine sv 114 (.pointer (some ⟨g3, 57, none⟩)) (run_fld 36 _ 9 rfl _ _ rfl _) ?_
  refine s_store rfl rfl 29 _ _ rfl g3 57 rfl (.slice ao5 ((d.ids ++ xs).length + 1) cap5) rfl 36 _ kg3 #[.slice ao5 ((d.ids ++ xs).length + 1) cap5] rfl (by kernel_rfl) (Nat.le_of_ble_eq_true rfl) (by kernel_rfl) (c36 ((x16 : Nat) : Int) f.pw f.pn f.toA f.a f.b f.n f.fi f.fn f.ti f.tn ⟨ao1, d.tr.length, cap1⟩ ⟨ao5, (d.ids ++ xs).length + 1, cap5⟩ f.key f.vn f.vw ⟨ao3, d.val.length, cap3⟩ f.op f.ttl ⟨ao4, d.tx.length, cap4⟩) (by kernel_rfl) ?_
  intro w11 St
  replace kg1 := St.has (by omega) kg1
  replace kg2 := St.has (by omega) kg2
  replace H1 := H1.apart St (fun ad ha => by have := H1.ge ad ha; omega)
  replace H2 := H2.apart St (fun ad ha => by have := H2.ge ad ha; omega)
  replace H3 := H3.apart St (fun ad ha => by have := H3.ge ad ha; omega)
  replace H4 := H4.apart St (fun ad ha => by have := H4.ge ad ha; omega)
  replace GG := GG.store St bg3
  replace kg3 := St.new
  replace hBs := Nat.le_trans hBs (Nat.le_of_eq St.size.symm)
  clear St
  refine wpList_nil (blk_n (then_n (wp_region_lit (mv 106 (.int .i64 ((j : Nat) : Int)) ?_))))
  refine nr ?_; intro U h; simp only [z0, z1] at h; subst h
  refine sv 107 (.int .i64 ((j + 1 : Nat) : Int)) (run_add64 _ _ _ rfl ((j : Nat) : Int) 1 _ rfl rfl (by omega) (by omega) (by omega) _) (mv 11 (.int .i64 ((j + 1 : Nat) : Int)) (wpList_nil (then_n ?_)))
  have hln : (d.ids ++ xs).length + 1 = (d.ids ++ (xs ++ [x9])).length := by simp; omega
  have hcl : cellsI (d.ids ++ xs) ++ bL x9 = cellsI (d.ids ++ (xs ++ [x9])) := by rw [← List.append_assoc, cellsI_snoc]
  rw [hln] at kg3 H2
  rw [hcl] at H2
  exact ⟨_, (by omega : x102 - (j + 1) < x102 - j), j + 1, xs ++ [x9], a9, e9, ao5, cap5, usK ⟨hjn, (by simp; omega), itD_next hI h9, GG, kg1, kg2, kg3, hBs, H1, H2, H3, H4⟩⟩
  have hc0 : c = 114 := by have := of_decide_eq_true hp9; omega
  refine mv 83 (.bool true) (wpList_nil (then_n (wp_cond_true rfl (wp_seq (wp_region_lit (mv 85 (.pointer (some ⟨g2, 0, none⟩)) ?_))))))
  refine nr ?_; intro U h; simp only [z0, z1] at h; subst h
  obtain ⟨⟨x86, a86, e86⟩, h86⟩ : ∃ r, dR (rdX 0 64 4 l) 0 a e = r := ⟨_, rfl⟩
  refine s_callx 86 rfl rfl _ 31 Try.call31 rfl rfl _ rfl [.pointer (some ⟨g2, 0, none⟩), .int .u64 0, .int .u64 64, .int .i64 4] rfl (dnum g2 so sc l _ a e 0 64 4 x86 a86 e86 kg2 (H.gro GG) hl h86) (fun _ _ ⟨he, _⟩ => ⟨_, he⟩) ?_
  rintro v w8 ⟨he, G, kn⟩
  cases he
  replace kg1 := G.has kg1 (by simp; omega)
  replace kg3 := G.has kg3 (by simp; omega)
  replace H1 := ox_gror H1 (gror_of G) (by omega)
  replace H2 := ox_gror H2 (gror_of G) (by omega)
  replace H3 := ox_gror H3 (gror_of G) (by omega)
  replace H4 := ox_gror H4 (gror_of G) (by omega)
  replace GG := G.gro GG (by simp; omega)
  replace hBs := Nat.le_trans hBs G.size
  clear kg2 G
  have kg2 := kn
  clear kn
  refine nr ?_; intro U h; simp only [z0, z1] at h; subst h
  have hle86 := dRX_le h86
  refine mv 8 (.int .i64 ((x86 : Nat) : Int)) (wpList_nil (then_n (wp_seq (wp_region_lit (mv 9 (.int .i64 0) (wpList_nil (then_n (wp_block ?_))))))))
  refine wp_loopN (fun mz az wv => ∃ (j : Nat) (xs : List Int) (aj : Nat) (ej : Nat) (aoj : Option Addr) (capj : Nat) (us2 : Nat → Value), mz = x86 - j ∧ az = ⟨[.slice so l.length sc, undef, .pointer (some ⟨g1, 0, none⟩), .int .i64 0, .pointer (some ⟨g2, 0, none⟩), .pointer (some ⟨g3, 0, none⟩), .string (bas F), .int .i64 ((i : Nat) : Int), .int .i64 ((x86 : Nat) : Int), .int .i64 ((j : Nat) : Int), us1 10, us1 11, .slice so l.length sc, .agg (c72 ⟨so, l.length, sc⟩ 0 0), .pointer (some ⟨g2, 0, none⟩), .pointer (some ⟨g2, 0, none⟩), .int .i64 ((x16 : Nat) : Int), .pointer (some ⟨g3, 0, none⟩), .pointer (some ⟨g3, 0, none⟩), .int .i64 ((x16 : Nat) : Int), .string (bas F0), .string (bas F0), .bool pz, .int .i64 ((i : Nat) : Int), .string (bas F), .int .i64 ((F.length : Nat) : Int), .bool true, us1 27, us1 28, .string (bas F), .int .i64 ((i : Nat) : Int), .int .u8 ((c : Nat) : Int), .bool false, .bool false, us1 34, us1 35, us1 36, us1 37, us1 38, us1 39, us1 40, us1 41, .bool false, .bool false, us1 44, us1 45, us1 46, us1 47, us1 48, us1 49, us1 50, us1 51, .bool false, .bool false, us1 54, us1 55, us1 56, .bool false, .bool false, us1 59, us1 60, us1 61, us1 62, us1 63, us1 64, us1 65, us1 66, .bool false, .bool false, us1 69, us1 70, us1 71, .bool false, .bool false, us1 74, us1 75, us1 76, .bool false, .bool false, us1 79, us1 80, us1 81, us1 82, .bool true, .bool true, .pointer (some ⟨g2, 0, none⟩), .int .i64 ((x86 : Nat) : Int), us2 87, us2 88, us2 89, us2 90, us2 91, us2 92, us2 93, us2 94, us2 95, us2 96, us2 97, us2 98, us1 99, us1 100, us1 101, us1 102, us1 103, us1 104, us1 105, us1 106, us1 107, us1 108, us1 109, us1 110, us1 111, us1 112, us1 113, us1 114, us1 115, us1 116, us1 117, us1 118, us1 119, us1 120, us1 121, us1 122, us1 123, us1 124, us1 125, us1 126, us1 127, us1 128, us1 129, us1 130, us1 131, us1 132, us1 133, us1 134, us1 135, us1 136, us1 137, us1 138, us1 139, us1 140, us1 141, us1 142, us1 143, us1 144, us1 145, us1 146, us1 147, us1 148, us1 149, us1 150, us1 151, us1 152, us1 153, us1 154, us1 155, us1 156, us1 157, us1 158, us1 159, us1 160, us1 161, us1 162, us1 163, us1 164, undef, undef, undef, undef, undef, undef, undef, undef, undef, undef, undef, undef, undef, undef, undef, undef, undef, undef, undef, undef, undef, undef, undef, undef, undef, undef, undef, undef].toArray, []⟩ ∧ j ≤ x86 ∧ xs.length = j ∧ itD (hopD l) j a86 e86 = (xs, aj, ej) ∧ Gro w wv ∧ wv.heap[g1]? = some (.cells (c36 0 zF 0 false zF zF 0 0 0 0 0 Sl.nil Sl.nil zF 0 zF Sl.nil 0 0 Sl.nil) 36 (0, 0)) ∧ wv.heap[g2]? = some (.cells (c72 ⟨so, l.length, sc⟩ ((aj : Nat) : Int) ((ej : Nat) : Int)) 72 (0, 0)) ∧ wv.heap[g3]? = some (.cells (c36 ((x16 : Nat) : Int) f.pw f.pn f.toA f.a f.b f.n f.fi f.fn f.ti f.tn ⟨aoj, (d.tr ++ xs).length, capj⟩ ⟨ao2, d.ids.length, cap2⟩ f.key f.vn f.vw ⟨ao3, d.val.length, cap3⟩ f.op f.ttl ⟨ao4, d.tx.length, cap4⟩) 36 (0, 0)) ∧ B ≤ wv.heap.size ∧ OX wv 3 1 B aoj capj (d.tr ++ xs).length ((d.tr ++ xs).map (Value.int .i64 ·)) ∧ OX wv 23 16 B ao2 cap2 (d.ids).length (cellsI (d.ids)) ∧ OX wv 5 1 B ao3 cap3 (d.val).length (bL (d.val)) ∧ OX wv 5 1 B ao4 cap4 (d.tx).length (bL (d.tx))) ?_ _ ⟨0, [], a86, e86, ao1, cap1, usK ⟨Nat.zero_le _, rfl, rfl, GG, kg1, kg2, (by simp only [List.append_nil]; exact kg3), hBs, (by simp only [List.append_nil]; exact H1), H2, H3, H4⟩⟩
  clear kg1 kg2 kg3 GG H1 H2 H3 H4
  rintro mz az wv ⟨j, xs, aj, ej, aoj, capj, us2, rfl, rfl, hj, hxl, hI, GG, kg1, kg2, kg3, hBs, H1, H2, H3, H4⟩
  refine wp_seq (wp_seq (wp_region_lit (mv 87 (.int .i64 ((j : Nat) : Int)) (mv 88 (.int .i64 ((x86 : Nat) : Int)) ?_))))
  refine nr ?_; intro U h; simp only [z0, z1] at h; subst h
  obtain ⟨p10, hp10⟩ : ∃ p, decide (((j : Nat) : Int) < ((x86 : Nat) : Int)) = p := ⟨_, rfl⟩
  refine sv 89 (.bool p10) (run_lssT 3 _ _ _ rfl ((j : Nat) : Int) ((x86 : Nat) : Int) rfl rfl p10 hp10 _) ?_
  refine nr ?_; intro U h; simp only [z0, z1] at h; subst h
  cases p10
  have hje : j = x86 := by have := of_decide_eq_false hp10; omega
  refine wpList_nil (then_n (wp_cond_false rfl (wp_exit (then_x (then_x (blk_x (blk_n (blk_n (then_n (wp_region_lit (mv 27 (.int .i64 ((i : Nat) : Int)) (sv 28 (.int .i64 ((i + 1 : Nat) : Int)) (run_add64 _ _ _ rfl ((i : Nat) : Int) 1 _ rfl rfl (by omega) (by omega) (by omega) _) (mv 7 (.int .i64 ((i + 1 : Nat) : Int)) (wpList_nil (then_n ?_)))))))))))))))
  rw [hje] at hI
  have hS9 : stN l F zs (i + 1) a16 e16 = ((f, { d with tr := d.tr ++ xs }), aj, ej) := by rw [stN, bD, hS, hc, hc0, stD_114]; simp only [ltD114, bD, h86, pD, hI]
  exact ⟨_, (by omega : F.length - (i + 1) < F.length - i), i + 1, f, { d with tr := d.tr ++ xs }, aj, ej, aoj, capj, ao2, cap2, ao3, cap3, ao4, cap4, usK ⟨hin, hS9, (by show (d.tr ++ xs).length ≤ _; rw [List.length_append]; omega), (Nat.le_trans hLi (by omega)), GG, kg1, kg2, kg3, hBs, H1, H2, H3, H4⟩⟩
  have hjn : j < x86 := by have := of_decide_eq_true hp10; omega
  refine wpList_nil (then_n (wp_cond_true rfl (wp_skip (then_n (wp_seq (wp_block ?_))))))
  obtain ⟨⟨x9, a9, e9⟩, h9⟩ : ∃ r, dR (rdX 0 5 2 l) 0 aj ej = r := ⟨_, rfl⟩
  refine wp_region_pm (A := ?Am33) (PJ w g1 g2 g3 B (c36 0 zF 0 false zF zF 0 0 0 0 0 Sl.nil Sl.nil zF 0 zF Sl.nil 0 0 Sl.nil) (c72 ⟨so, l.length, sc⟩ ((aj : Nat) : Int) ((ej : Nat) : Int)) (c72 ⟨so, l.length, sc⟩ ((a9 : Nat) : Int) ((e9 : Nat) : Int)) (c36 ((x16 : Nat) : Int) f.pw f.pn f.toA f.a f.b f.n f.fi f.fn f.ti f.tn ⟨aoj, (d.tr ++ xs).length, capj⟩ ⟨ao2, d.ids.length, cap2⟩ f.key f.vn f.vw ⟨ao3, d.val.length, cap3⟩ f.op f.ttl ⟨ao4, d.tx.length, cap4⟩) (fun x => OX x 3 1 B aoj capj ((d.tr ++ xs).length) ((d.tr ++ xs).map (Value.int .i64 ·))) (fun x => OX x 23 16 B ao2 cap2 (d.ids).length (cellsI (d.ids)) ∧ OX x 5 1 B ao3 cap3 (d.val).length (bL (d.val)) ∧ OX x 5 1 B ao4 cap4 (d.tx).length (bL (d.tx)))) 6 [(0, 92), (1, 93), (2, 94), (3, 95), (4, 96), (5, 97)] [.val (.pointer (some ⟨g3, 56, none⟩)), .val (.slice aoj ((d.tr ++ xs).length) capj), .val (.pointer (some ⟨g2, 0, none⟩)), .val (.int .i64 ((x9 : Nat) : Int)), xbE 1 ([Value.int .i64 ((x9 : Nat) : Int)]), oxE 3 1 B ((d.tr ++ xs).length + 1) ((((d.tr ++ xs).map (Value.int .i64 ·))) ++ [Value.int .i64 ((x9 : Nat) : Int)])] [(5, 4)] [5] follows (by kernel_rfl) rfl (by kernel_rfl) (by decide) ⟨GG.drew, (Gro.refl _).drew.has kg1, (Gro.refl _).drew.has kg2, (Gro.refl _).drew.has kg3, Nat.le_trans hBs (Gro.refl _).drew.size, fun _ => H1.gro (Gro.refl _).drew, ⟨H2.gro (Gro.refl _).drew, H3.gro (Gro.refl _).drew, H4.gro (Gro.refl _).drew⟩⟩ ?hAm33 (opsM_g (fun L a b h hi G => h.grow rfl rfl (fun _ _ G h => h.gro G) (fun _ _ G h => ⟨h.1.gro G, h.2.1.gro G, h.2.2.gro G⟩) G) ?o0m33 (opsM_g (fun L a b h hi G => h.grow rfl rfl (fun _ _ G h => h.gro G) (fun _ _ G h => ⟨h.1.gro G, h.2.1.gro G, h.2.2.gro G⟩) G) ?o1m33 (opsM_g (fun L a b h hi G => h.grow rfl rfl (fun _ _ G h => h.gro G) (fun _ _ G h => ⟨h.1.gro G, h.2.1.gro G, h.2.2.gro G⟩) G) ?o2m33 (opsM_w ?o3m33 (opsM_g (fun L a b h hi G => h.grow rfl rfl (fun _ _ G h => h.gro G) (fun _ _ G h => ⟨h.1.gro G, h.2.1.gro G, h.2.2.gro G⟩) G) ?o4m33 (opsM_w ?o5m33 opsM_nil)))))) ?restm33
  case hAm33 =>
    intro ptrs
    simp only [full, foldSlots, filledE, postE, List.foldl_cons, List.foldl_nil, List.getD_cons_zero, List.getD_cons_succ, fill_val, fill_xb, fill_ox, List.set_cons_zero, List.set_cons_succ]
    exact rfl
  case o0m33 => exact fun _ _ _ hx _ _ => opE_value (v := .pointer (some ⟨g3, 56, none⟩)) rfl (run_fld 36 _ 8 rfl _ _ rfl _)
  case o1m33 => exact fun _ _ _ hx _ _ => opE_value (v := .slice aoj ((d.tr ++ xs).length) capj) rfl (run_ldc 28 _ rfl g3 56 rfl 36 _ hx.k3 (na28 _) _ rfl)
  case o2m33 => exact fun _ _ _ _ _ _ => opE_move (v := .pointer (some ⟨g2, 0, none⟩)) _ rfl rfl rfl
  case o3m33 =>
    intro L ptrs x hx hL _
    have k2 := hx.k2
    rw [hL, if_neg (by decide)] at k2
    exact opX_call (.val (.int .i64 ((x9 : Nat) : Int))) rfl _ 31 Try.call31 rfl rfl _ rfl [.pointer (some ⟨g2, 0, none⟩), .int .u64 0, .int .u64 5, .int .i64 2] rfl ((dnum g2 so sc l x aj ej 0 5 2 x9 a9 e9 k2 (H.gro hx.gg) hl h9).mono fun e y ⟨he, G, kn⟩ => ⟨_, he, ⟨hx.call (by omega) (by omega) (by omega) G kn (fun h => ox_gror h (gror_of G) (by omega)) (fun h => ⟨ox_gror h.1 (gror_of G) (by omega), ox_gror h.2.1 (gror_of G) (by omega), ox_gror h.2.2 (gror_of G) (by omega)⟩), StM.vals [0, 1, 2] (by kernel_rfl) ⟨⟨_, rfl⟩, ⟨_, rfl⟩, ⟨_, rfl⟩, trivial⟩⟩, rfl⟩)
  case o4m33 =>
    intro L ptrs x hx hL _
    exact opE_new _ rfl (run_bsl 28 1 [(0, .tmp 95)] rfl [(0, .int .i64 ((x9 : Nat) : Int))] rfl (show _ = Result.ok (.slice (some ⟨x.heap.size, 0, none⟩) 1 1) (x.alloc (.cells #[.int .i64 ((x9 : Nat) : Int)] 3)) by kernel_rfl)) (gro_alloc _ _) ⟨_, rfl, xc_made (sz := 1) (n := 1) (cs := [Value.int .i64 ((x9 : Nat) : Int)]) (t := 3) (heap_alloc_new _ _) rfl (by intro v hv; simp at hv; subst hv; rfl)⟩
  case o5m33 =>
    intro L ptrs x hx hL hE
    obtain ⟨⟨g9, hv9, XB⟩, _⟩ := hE
    refine opX_appX iT28 _ rfl _ _ rfl rfl (hx.row hL) hv9 XB (by rw [List.length_append]; omega) (by decide) hx.bs ?_
    intro ao9 cap9 y h1 G
    have hge := (hx.row hL).ge
    exact ⟨⟨hx.app hwB (by omega) (by omega) (by omega) G (fun ad ha => (hge ad ha).1) ⟨hx.ot.1.gros G (OX.dis (hx.row hL) hx.ot.1 (by decide)), hx.ot.2.1.gros G (OX.dis (hx.row hL) hx.ot.2.1 (by decide)), hx.ot.2.2.gros G (OX.dis (hx.row hL) hx.ot.2.2 (by decide))⟩, StM.vals [0, 1, 2, 3] (by kernel_rfl) ⟨⟨_, rfl⟩, ⟨_, rfl⟩, ⟨_, rfl⟩, ⟨_, rfl⟩, trivial⟩⟩, ao9, cap9, rfl, h1⟩
  intro ptrs w9 HJ hxE
  simp only [List.drop_succ_cons, List.drop_zero]
  obtain ⟨⟨ao5, cap5, hv5, H5⟩, _⟩ := hxE
  simp only [hv5]
  clear GG kg1 kg2 kg3 hBs hv5 H1 H2 H3 H4
  have GG := HJ.gg
  have kg1 := HJ.k1
  have kg2 := HJ.k2
  rw [if_pos (by decide)] at kg2
  have kg3 := HJ.k3
  have hBs := HJ.bs
  obtain ⟨H2, H3, H4⟩ := HJ.ot
  have H1 := H5
  clear HJ H5
  refine sv 98 (.pointer (some ⟨g3, 56, none⟩)) (run_fld 36 _ 8 rfl _ _ rfl _) ?_
  refine s_store rfl rfl 28 _ _ rfl g3 56 rfl (.slice ao5 ((d.tr ++ xs).length + 1) cap5) rfl 36 _ kg3 #[.slice ao5 ((d.tr ++ xs).length + 1) cap5] rfl (by kernel_rfl) (Nat.le_of_ble_eq_true rfl) (by kernel_rfl) (c36 ((x16 : Nat) : Int) f.pw f.pn f.toA f.a f.b f.n f.fi f.fn f.ti f.tn ⟨ao5, (d.tr ++ xs).length + 1, cap5⟩ ⟨ao2, d.ids.length, cap2⟩ f.key f.vn f.vw ⟨ao3, d.val.length, cap3⟩ f.op f.ttl ⟨ao4, d.tx.length, cap4⟩) (by kernel_rfl) ?_
  intro w11 St
  replace kg1 := St.has (by omega) kg1
  replace kg2 := St.has (by omega) kg2
  replace H1 := H1.apart St (fun ad ha => by have := H1.ge ad ha; omega)
  replace H2 := H2.apart St (fun ad ha => by have := H2.ge ad ha; omega)
  replace H3 := H3.apart St (fun ad ha => by have := H3.ge ad ha; omega)
  replace H4 := H4.apart St (fun ad ha => by have := H4.ge ad ha; omega)
  replace GG := GG.store St bg3
  replace kg3 := St.new
  replace hBs := Nat.le_trans hBs (Nat.le_of_eq St.size.symm)
  clear St
  refine wpList_nil (blk_n (then_n (wp_region_lit (mv 90 (.int .i64 ((j : Nat) : Int)) ?_))))
  refine nr ?_; intro U h; simp only [z0, z1] at h; subst h
  refine sv 91 (.int .i64 ((j + 1 : Nat) : Int)) (run_add64 _ _ _ rfl ((j : Nat) : Int) 1 _ rfl rfl (by omega) (by omega) (by omega) _) (mv 9 (.int .i64 ((j + 1 : Nat) : Int)) (wpList_nil (then_n ?_)))
  have hln : (d.tr ++ xs).length + 1 = (d.tr ++ (xs ++ [((x9 : Nat) : Int)])).length := by simp; omega
  have hcl : (d.tr ++ xs).map (Value.int .i64 ·) ++ [Value.int .i64 ((x9 : Nat) : Int)] = (d.tr ++ (xs ++ [((x9 : Nat) : Int)])).map (Value.int .i64 ·) := by simp
  rw [hln] at kg3 H1
  rw [hcl] at H1
  exact ⟨_, (by omega : x86 - (j + 1) < x86 - j), j + 1, xs ++ [((x9 : Nat) : Int)], a9, e9, ao5, cap5, usK ⟨hjn, (by simp; omega), itD_next hI (hopD_at h9), GG, kg1, kg2, kg3, hBs, H1, H2, H3, H4⟩⟩
  have hc0 : c = 100 := by have := of_decide_eq_true hp8; omega
  refine mv 77 (.bool true) (wpList_nil (then_n (wp_cond_true rfl (wp_region_lit (mv 79 (.pointer (some ⟨g2, 0, none⟩)) ?_)))))
  refine nr ?_; intro U h; simp only [z0, z1] at h; subst h
  obtain ⟨⟨x80, a80, e80⟩, h80⟩ : ∃ r, dR (rdX 0 1 2 l) 0 a e = r := ⟨_, rfl⟩
  refine s_callx 80 rfl rfl _ 31 Try.call31 rfl rfl _ rfl [.pointer (some ⟨g2, 0, none⟩), .int .u64 0, .int .u64 1, .int .i64 2] rfl (dnum g2 so sc l _ a e 0 1 2 x80 a80 e80 kg2 (H.gro GG) hl h80) (fun _ _ ⟨he, _⟩ => ⟨_, he⟩) ?_
  rintro v w8 ⟨he, G, kn⟩
  cases he
  replace kg1 := G.has kg1 (by simp; omega)
  replace kg3 := G.has kg3 (by simp; omega)
  replace H1 := ox_gror H1 (gror_of G) (by omega)
  replace H2 := ox_gror H2 (gror_of G) (by omega)
  replace H3 := ox_gror H3 (gror_of G) (by omega)
  replace H4 := ox_gror H4 (gror_of G) (by omega)
  replace GG := G.gro GG (by simp; omega)
  replace hBs := Nat.le_trans hBs G.size
  clear kg2 G
  have kg2 := kn
  clear kn
  refine sv 81 (.bool (decide (((x80 : Nat) : Int) = 1))) (run_eq_k 2 .i64 _ _ _ rfl Try.underlying2 ((x80 : Nat) : Int) 1 rfl rfl _ rfl _) (sv 82 (.pointer (some ⟨g3, 18, none⟩)) (run_fld 36 _ 2 rfl _ _ rfl _) ?_)
  refine s_store rfl rfl 4 _ _ rfl g3 18 rfl (.bool (decide (((x80 : Nat) : Int) = 1))) rfl 36 _ kg3 #[.bool (decide (((x80 : Nat) : Int) = 1))] rfl (by kernel_rfl) (Nat.le_of_ble_eq_true rfl) (by kernel_rfl) (c36 ((x16 : Nat) : Int) f.pw f.pn (decide (((x80 : Nat) : Int) = 1)) f.a f.b f.n f.fi f.fn f.ti f.tn ⟨ao1, d.tr.length, cap1⟩ ⟨ao2, d.ids.length, cap2⟩ f.key f.vn f.vw ⟨ao3, d.val.length, cap3⟩ f.op f.ttl ⟨ao4, d.tx.length, cap4⟩) (by kernel_rfl) ?_
  intro w10 St
  replace kg1 := St.has (by omega) kg1
  replace kg2 := St.has (by omega) kg2
  replace H1 := H1.apart St (fun ad ha => by have := H1.ge ad ha; omega)
  replace H2 := H2.apart St (fun ad ha => by have := H2.ge ad ha; omega)
  replace H3 := H3.apart St (fun ad ha => by have := H3.ge ad ha; omega)
  replace H4 := H4.apart St (fun ad ha => by have := H4.ge ad ha; omega)
  replace GG := GG.store St bg3
  replace kg3 := St.new
  replace hBs := Nat.le_trans hBs (Nat.le_of_eq St.size.symm)
  clear St
  refine wpList_nil (blk_n (blk_n (then_n (wp_region_lit (mv 27 (.int .i64 ((i : Nat) : Int)) (sv 28 (.int .i64 ((i + 1 : Nat) : Int)) (run_add64 _ _ _ rfl ((i : Nat) : Int) 1 _ rfl rfl (by omega) (by omega) (by omega) _) ?_))))))
  refine nr ?_; intro U h; simp only [z0, z1] at h; subst h
  refine mv 7 (.int .i64 ((i + 1 : Nat) : Int)) (wpList_nil (then_n ?_))
  have hS9 : stN l F zs (i + 1) a16 e16 = (({ f with toA := decide (((x80 : Nat) : Int) = 1) }, d), a80, e80) := by rw [stN, bD, hS, hc, hc0, stD_100]; simp only [ltD100, bD, pD, h80]
  exact ⟨_, (by omega : F.length - (i + 1) < F.length - i), i + 1, { f with toA := decide (((x80 : Nat) : Int) = 1) }, d, a80, e80, ao1, cap1, ao2, cap2, ao3, cap3, ao4, cap4, usK ⟨hin, hS9, (Nat.le_trans hLt (by omega)), (Nat.le_trans hLi (by omega)), GG, kg1, kg2, kg3, hBs, H1, H2, H3, H4⟩⟩
  have hc0 : c = 98 := by have := of_decide_eq_true hp7; omega
  refine mv 72 (.bool true) (wpList_nil (then_n (wp_cond_true rfl (wp_region_lit (mv 74 (.pointer (some ⟨g2, 0, none⟩)) ?_)))))
  refine nr ?_; intro U h; simp only [z0, z1] at h; subst h
  obtain ⟨⟨x75, a75, e75⟩, h75⟩ : ∃ r, dR (rdI l) z16 a e = r := ⟨_, rfl⟩
  refine s_callx 75 rfl rfl _ 33 Try.call33 rfl rfl _ rfl [.pointer (some ⟨g2, 0, none⟩)] rfl (did g2 so sc l _ a e a75 e75 x75 kg2 (H.gro GG) hl h75) (fun _ _ ⟨he, _⟩ => ⟨_, he⟩) ?_
  rintro v w8 ⟨he, G, kn⟩
  cases he
  replace kg1 := G.has kg1 (by simp; omega)
  replace kg3 := G.has kg3 (by simp; omega)
  replace H1 := ox_gror H1 (gror_of G) (by omega)
  replace H2 := ox_gror H2 (gror_of G) (by omega)
  replace H3 := ox_gror H3 (gror_of G) (by omega)
  replace H4 := ox_gror H4 (gror_of G) (by omega)
  replace GG := G.gro GG (by simp; omega)
  replace hBs := Nat.le_trans hBs G.size
  clear kg2 G
  have kg2 := kn
  clear kn
  refine sv 76 (.pointer (some ⟨g3, 35, none⟩)) (run_fld 36 _ 4 rfl _ _ rfl _) ?_
  refine s_store rfl rfl 23 _ _ rfl g3 35 rfl (.agg (c23 (idF x75))) rfl 36 _ kg3 (c23 (idF x75)) rfl (by kernel_rfl) (Nat.le_of_ble_eq_true rfl) (by kernel_rfl) (c36 ((x16 : Nat) : Int) f.pw f.pn f.toA f.a (idF x75) f.n f.fi f.fn f.ti f.tn ⟨ao1, d.tr.length, cap1⟩ ⟨ao2, d.ids.length, cap2⟩ f.key f.vn f.vw ⟨ao3, d.val.length, cap3⟩ f.op f.ttl ⟨ao4, d.tx.length, cap4⟩) (by kernel_rfl) ?_
  intro w10 St
  replace kg1 := St.has (by omega) kg1
  replace kg2 := St.has (by omega) kg2
  replace H1 := H1.apart St (fun ad ha => by have := H1.ge ad ha; omega)
  replace H2 := H2.apart St (fun ad ha => by have := H2.ge ad ha; omega)
  replace H3 := H3.apart St (fun ad ha => by have := H3.ge ad ha; omega)
  replace H4 := H4.apart St (fun ad ha => by have := H4.ge ad ha; omega)
  replace GG := GG.store St bg3
  replace kg3 := St.new
  replace hBs := Nat.le_trans hBs (Nat.le_of_eq St.size.symm)
  clear St
  refine wpList_nil (blk_n (blk_n (then_n (wp_region_lit (mv 27 (.int .i64 ((i : Nat) : Int)) (sv 28 (.int .i64 ((i + 1 : Nat) : Int)) (run_add64 _ _ _ rfl ((i : Nat) : Int) 1 _ rfl rfl (by omega) (by omega) (by omega) _) (mv 7 (.int .i64 ((i + 1 : Nat) : Int)) ?_)))))))
  refine nr ?_; intro U h; simp only [z0, z1] at h; subst h
  refine wpList_nil (then_n ?_)
  have hS9 : stN l F zs (i + 1) a16 e16 = (({ f with b := idF x75 }, d), a75, e75) := by rw [stN, bD, hS, hc, hc0, stD_98]; simp only [ltD98, bD, pD, h75]
  exact ⟨_, (by omega : F.length - (i + 1) < F.length - i), i + 1, { f with b := idF x75 }, d, a75, e75, ao1, cap1, ao2, cap2, ao3, cap3, ao4, cap4, usK ⟨hin, hS9, (Nat.le_trans hLt (by omega)), (Nat.le_trans hLi (by omega)), GG, kg1, kg2, kg3, hBs, H1, H2, H3, H4⟩⟩
  have hc0 : c = 97 := by have := of_decide_eq_true hp6; omega
  refine mv 67 (.bool true) (wpList_nil (then_n (wp_cond_true rfl (wp_region_lit (mv 69 (.pointer (some ⟨g2, 0, none⟩)) ?_)))))
  refine nr ?_; intro U h; simp only [z0, z1] at h; subst h
  obtain ⟨⟨x70, a70, e70⟩, h70⟩ : ∃ r, dR (rdI l) z16 a e = r := ⟨_, rfl⟩
  refine s_callx 70 rfl rfl _ 33 Try.call33 rfl rfl _ rfl [.pointer (some ⟨g2, 0, none⟩)] rfl (did g2 so sc l _ a e a70 e70 x70 kg2 (H.gro GG) hl h70) (fun _ _ ⟨he, _⟩ => ⟨_, he⟩) ?_
  rintro v w8 ⟨he, G, kn⟩
  cases he
  replace kg1 := G.has kg1 (by simp; omega)
  replace kg3 := G.has kg3 (by simp; omega)
  replace H1 := ox_gror H1 (gror_of G) (by omega)
  replace H2 := ox_gror H2 (gror_of G) (by omega)
  replace H3 := ox_gror H3 (gror_of G) (by omega)
  replace H4 := ox_gror H4 (gror_of G) (by omega)
  replace GG := G.gro GG (by simp; omega)
  replace hBs := Nat.le_trans hBs G.size
  clear kg2 G
  have kg2 := kn
  clear kn
  refine sv 71 (.pointer (some ⟨g3, 19, none⟩)) (run_fld 36 _ 3 rfl _ _ rfl _) ?_
  refine s_store rfl rfl 23 _ _ rfl g3 19 rfl (.agg (c23 (idF x70))) rfl 36 _ kg3 (c23 (idF x70)) rfl (by kernel_rfl) (Nat.le_of_ble_eq_true rfl) (by kernel_rfl) (c36 ((x16 : Nat) : Int) f.pw f.pn f.toA (idF x70) f.b f.n f.fi f.fn f.ti f.tn ⟨ao1, d.tr.length, cap1⟩ ⟨ao2, d.ids.length, cap2⟩ f.key f.vn f.vw ⟨ao3, d.val.length, cap3⟩ f.op f.ttl ⟨ao4, d.tx.length, cap4⟩) (by kernel_rfl) ?_
  intro w10 St
  replace kg1 := St.has (by omega) kg1
  replace kg2 := St.has (by omega) kg2
  replace H1 := H1.apart St (fun ad ha => by have := H1.ge ad ha; omega)
  replace H2 := H2.apart St (fun ad ha => by have := H2.ge ad ha; omega)
  replace H3 := H3.apart St (fun ad ha => by have := H3.ge ad ha; omega)
  replace H4 := H4.apart St (fun ad ha => by have := H4.ge ad ha; omega)
  replace GG := GG.store St bg3
  replace kg3 := St.new
  replace hBs := Nat.le_trans hBs (Nat.le_of_eq St.size.symm)
  clear St
  refine wpList_nil (blk_n (blk_n (then_n (wp_region_lit (mv 27 (.int .i64 ((i : Nat) : Int)) (sv 28 (.int .i64 ((i + 1 : Nat) : Int)) (run_add64 _ _ _ rfl ((i : Nat) : Int) 1 _ rfl rfl (by omega) (by omega) (by omega) _) (mv 7 (.int .i64 ((i + 1 : Nat) : Int)) ?_)))))))
  refine nr ?_; intro U h; simp only [z0, z1] at h; subst h
  refine wpList_nil (then_n ?_)
  have hS9 : stN l F zs (i + 1) a16 e16 = (({ f with a := idF x70 }, d), a70, e70) := by rw [stN, bD, hS, hc, hc0, stD_97]; simp only [ltD97, bD, pD, h70]
  exact ⟨_, (by omega : F.length - (i + 1) < F.length - i), i + 1, { f with a := idF x70 }, d, a70, e70, ao1, cap1, ao2, cap2, ao3, cap3, ao4, cap4, usK ⟨hin, hS9, (Nat.le_trans hLt (by omega)), (Nat.le_trans hLi (by omega)), GG, kg1, kg2, kg3, hBs, H1, H2, H3, H4⟩⟩
  have hc0 : c = 112 := by have := of_decide_eq_true hp5; omega
  refine mv 57 (.bool true) (wpList_nil (then_n (wp_cond_true rfl (wp_seq (wp_region_lit (mv 59 (.pointer (some ⟨g2, 0, none⟩)) ?_))))))
  refine nr ?_; intro U h; simp only [z0, z1] at h; subst h
  obtain ⟨⟨x60, a60, e60⟩, h60⟩ : ∃ r, dR (rdI l) z16 a e = r := ⟨_, rfl⟩
  refine s_callx 60 rfl rfl _ 33 Try.call33 rfl rfl _ rfl [.pointer (some ⟨g2, 0, none⟩)] rfl (did g2 so sc l _ a e a60 e60 x60 kg2 (H.gro GG) hl h60) (fun _ _ ⟨he, _⟩ => ⟨_, he⟩) ?_
  rintro v w8 ⟨he, G, kn⟩
  cases he
  replace kg1 := G.has kg1 (by simp; omega)
  replace kg3 := G.has kg3 (by simp; omega)
  replace H1 := ox_gror H1 (gror_of G) (by omega)
  replace H2 := ox_gror H2 (gror_of G) (by omega)
  replace H3 := ox_gror H3 (gror_of G) (by omega)
  replace H4 := ox_gror H4 (gror_of G) (by omega)
  replace GG := G.gro GG (by simp; omega)
  replace hBs := Nat.le_trans hBs G.size
  clear kg2 G
  have kg2 := kn
  clear kn
  refine sv 61 (.pointer (some ⟨g3, 1, none⟩)) (run_fld 36 _ 1 rfl _ _ rfl _) (sv 62 (.pointer (some ⟨g3, 1, none⟩)) (run_fld 25 _ 0 rfl _ _ rfl _) ?_)
  refine s_store rfl rfl 23 _ _ rfl g3 1 rfl (.agg (c23 (idF x60))) rfl 36 _ kg3 (c23 (idF x60)) rfl (by kernel_rfl) (Nat.le_of_ble_eq_true rfl) (by kernel_rfl) (c36 ((x16 : Nat) : Int) (idF x60) f.pn f.toA f.a f.b f.n f.fi f.fn f.ti f.tn ⟨ao1, d.tr.length, cap1⟩ ⟨ao2, d.ids.length, cap2⟩ f.key f.vn f.vw ⟨ao3, d.val.length, cap3⟩ f.op f.ttl ⟨ao4, d.tx.length, cap4⟩) (by kernel_rfl) ?_
  intro w10 St
  replace kg1 := St.has (by omega) kg1
  replace kg2 := St.has (by omega) kg2
  replace H1 := H1.apart St (fun ad ha => by have := H1.ge ad ha; omega)
  replace H2 := H2.apart St (fun ad ha => by have := H2.ge ad ha; omega)
  replace H3 := H3.apart St (fun ad ha => by have := H3.ge ad ha; omega)
  replace H4 := H4.apart St (fun ad ha => by have := H4.ge ad ha; omega)
  replace GG := GG.store St bg3
  replace kg3 := St.new
  replace hBs := Nat.le_trans hBs (Nat.le_of_eq St.size.symm)
  clear St
  refine wpList_nil (then_n (wp_region_lit (mv 63 (.pointer (some ⟨g2, 0, none⟩)) ?_)))
  refine nr ?_; intro U h; simp only [z0, z1] at h; subst h
  obtain ⟨⟨x64, a64, e64⟩, h64⟩ : ∃ r, dR (rdN l) 0 a60 e60 = r := ⟨_, rfl⟩
  refine s_callx 64 rfl rfl _ 32 Try.call32 rfl rfl _ rfl [.pointer (some ⟨g2, 0, none⟩)] rfl (dany g2 so sc l _ a60 e60 x64 a64 e64 kg2 (H.gro GG) hl h64) (fun _ _ ⟨he, _⟩ => ⟨_, he⟩) ?_
  rintro v w11 ⟨he, G, kn⟩
  cases he
  replace kg1 := G.has kg1 (by simp; omega)
  replace kg3 := G.has kg3 (by simp; omega)
  replace H1 := ox_gror H1 (gror_of G) (by omega)
  replace H2 := ox_gror H2 (gror_of G) (by omega)
  replace H3 := ox_gror H3 (gror_of G) (by omega)
  replace H4 := ox_gror H4 (gror_of G) (by omega)
  replace GG := G.gro GG (by simp; omega)
  replace hBs := Nat.le_trans hBs G.size
  clear kg2 G
  have kg2 := kn
  clear kn
  refine sv 65 (.pointer (some ⟨g3, 1, none⟩)) (run_fld 36 _ 1 rfl _ _ rfl _) (sv 66 (.pointer (some ⟨g3, 17, none⟩)) (run_fld 25 _ 1 rfl _ _ rfl _) ?_)
  refine s_store rfl rfl 2 _ _ rfl g3 17 rfl (.int .i64 ((x64 : Nat) : Int)) rfl 36 _ kg3 #[.int .i64 ((x64 : Nat) : Int)] rfl (by kernel_rfl) (Nat.le_of_ble_eq_true rfl) (by kernel_rfl) (c36 ((x16 : Nat) : Int) (idF x60) ((x64 : Nat) : Int) f.toA f.a f.b f.n f.fi f.fn f.ti f.tn ⟨ao1, d.tr.length, cap1⟩ ⟨ao2, d.ids.length, cap2⟩ f.key f.vn f.vw ⟨ao3, d.val.length, cap3⟩ f.op f.ttl ⟨ao4, d.tx.length, cap4⟩) (by kernel_rfl) ?_
  intro w13 St
  replace kg1 := St.has (by omega) kg1
  replace kg2 := St.has (by omega) kg2
  replace H1 := H1.apart St (fun ad ha => by have := H1.ge ad ha; omega)
  replace H2 := H2.apart St (fun ad ha => by have := H2.ge ad ha; omega)
  replace H3 := H3.apart St (fun ad ha => by have := H3.ge ad ha; omega)
  replace H4 := H4.apart St (fun ad ha => by have := H4.ge ad ha; omega)
  replace GG := GG.store St bg3
  replace kg3 := St.new
  replace hBs := Nat.le_trans hBs (Nat.le_of_eq St.size.symm)
  clear St
  refine wpList_nil (blk_n (blk_n (then_n (wp_region_lit (mv 27 (.int .i64 ((i : Nat) : Int)) (sv 28 (.int .i64 ((i + 1 : Nat) : Int)) (run_add64 _ _ _ rfl ((i : Nat) : Int) 1 _ rfl rfl (by omega) (by omega) (by omega) _) ?_))))))
  refine nr ?_; intro U h; simp only [z0, z1] at h; subst h
  refine mv 7 (.int .i64 ((i + 1 : Nat) : Int)) (wpList_nil (then_n ?_))
  have hS9 : stN l F zs (i + 1) a16 e16 = (({ f with pw := idF x60, pn := ((x64 : Nat) : Int) }, d), a64, e64) := by rw [stN, bD, hS, hc, hc0, stD_112]; simp only [ltD112, bD, pD, h60, h64]
  exact ⟨_, (by omega : F.length - (i + 1) < F.length - i), i + 1, { f with pw := idF x60, pn := ((x64 : Nat) : Int) }, d, a64, e64, ao1, cap1, ao2, cap2, ao3, cap3, ao4, cap4, usK ⟨hin, hS9, (Nat.le_trans hLt (by omega)), (Nat.le_trans hLi (by omega)), GG, kg1, kg2, kg3, hBs, H1, H2, H3, H4⟩⟩
  have hc0 : c = 110 := by have := of_decide_eq_true hp4; omega
  refine mv 52 (.bool true) (wpList_nil (then_n (wp_cond_true rfl (wp_region_lit (mv 54 (.pointer (some ⟨g2, 0, none⟩)) ?_)))))
  refine nr ?_; intro U h; simp only [z0, z1] at h; subst h
  obtain ⟨⟨x55, a55, e55⟩, h55⟩ : ∃ r, dR (rdN l) 0 a e = r := ⟨_, rfl⟩
  refine s_callx 55 rfl rfl _ 32 Try.call32 rfl rfl _ rfl [.pointer (some ⟨g2, 0, none⟩)] rfl (dany g2 so sc l _ a e x55 a55 e55 kg2 (H.gro GG) hl h55) (fun _ _ ⟨he, _⟩ => ⟨_, he⟩) ?_
  rintro v w8 ⟨he, G, kn⟩
  cases he
  replace kg1 := G.has kg1 (by simp; omega)
  replace kg3 := G.has kg3 (by simp; omega)
  replace H1 := ox_gror H1 (gror_of G) (by omega)
  replace H2 := ox_gror H2 (gror_of G) (by omega)
  replace H3 := ox_gror H3 (gror_of G) (by omega)
  replace H4 := ox_gror H4 (gror_of G) (by omega)
  replace GG := G.gro GG (by simp; omega)
  replace hBs := Nat.le_trans hBs G.size
  clear kg2 G
  have kg2 := kn
  clear kn
  refine sv 56 (.pointer (some ⟨g3, 51, none⟩)) (run_fld 36 _ 5 rfl _ _ rfl _) ?_
  refine s_store rfl rfl 2 _ _ rfl g3 51 rfl (.int .i64 ((x55 : Nat) : Int)) rfl 36 _ kg3 #[.int .i64 ((x55 : Nat) : Int)] rfl (by kernel_rfl) (Nat.le_of_ble_eq_true rfl) (by kernel_rfl) (c36 ((x16 : Nat) : Int) f.pw f.pn f.toA f.a f.b ((x55 : Nat) : Int) f.fi f.fn f.ti f.tn ⟨ao1, d.tr.length, cap1⟩ ⟨ao2, d.ids.length, cap2⟩ f.key f.vn f.vw ⟨ao3, d.val.length, cap3⟩ f.op f.ttl ⟨ao4, d.tx.length, cap4⟩) (by kernel_rfl) ?_
  intro w10 St
  replace kg1 := St.has (by omega) kg1
  replace kg2 := St.has (by omega) kg2
  replace H1 := H1.apart St (fun ad ha => by have := H1.ge ad ha; omega)
  replace H2 := H2.apart St (fun ad ha => by have := H2.ge ad ha; omega)
  replace H3 := H3.apart St (fun ad ha => by have := H3.ge ad ha; omega)
  replace H4 := H4.apart St (fun ad ha => by have := H4.ge ad ha; omega)
  replace GG := GG.store St bg3
  replace kg3 := St.new
  replace hBs := Nat.le_trans hBs (Nat.le_of_eq St.size.symm)
  clear St
  refine wpList_nil (blk_n (blk_n (then_n (wp_region_lit (mv 27 (.int .i64 ((i : Nat) : Int)) (sv 28 (.int .i64 ((i + 1 : Nat) : Int)) (run_add64 _ _ _ rfl ((i : Nat) : Int) 1 _ rfl rfl (by omega) (by omega) (by omega) _) (mv 7 (.int .i64 ((i + 1 : Nat) : Int)) ?_)))))))
  refine nr ?_; intro U h; simp only [z0, z1] at h; subst h
  refine wpList_nil (then_n ?_)
  have hS9 : stN l F zs (i + 1) a16 e16 = (({ f with n := ((x55 : Nat) : Int) }, d), a55, e55) := by rw [stN, bD, hS, hc, hc0, stD_110]; simp only [ltD110, bD, pD, h55]
  exact ⟨_, (by omega : F.length - (i + 1) < F.length - i), i + 1, { f with n := ((x55 : Nat) : Int) }, d, a55, e55, ao1, cap1, ao2, cap2, ao3, cap3, ao4, cap4, usK ⟨hin, hS9, (Nat.le_trans hLt (by omega)), (Nat.le_trans hLi (by omega)), GG, kg1, kg2, kg3, hBs, H1, H2, H3, H4⟩⟩
  have hc0 : c = 116 := by have := of_decide_eq_true hp3; omega
  refine mv 42 (.bool true) (wpList_nil (then_n (wp_cond_true rfl (wp_seq (wp_region_lit (mv 44 (.pointer (some ⟨g2, 0, none⟩)) ?_))))))
  refine nr ?_; intro U h; simp only [z0, z1] at h; subst h
  obtain ⟨⟨x45, a45, e45⟩, h45⟩ : ∃ r, dR (rdN l) 0 a e = r := ⟨_, rfl⟩
  refine s_callx 45 rfl rfl _ 32 Try.call32 rfl rfl _ rfl [.pointer (some ⟨g2, 0, none⟩)] rfl (dany g2 so sc l _ a e x45 a45 e45 kg2 (H.gro GG) hl h45) (fun _ _ ⟨he, _⟩ => ⟨_, he⟩) ?_
  rintro v w8 ⟨he, G, kn⟩
  cases he
  replace kg1 := G.has kg1 (by simp; omega)
  replace kg3 := G.has kg3 (by simp; omega)
  replace H1 := ox_gror H1 (gror_of G) (by omega)
  replace H2 := ox_gror H2 (gror_of G) (by omega)
  replace H3 := ox_gror H3 (gror_of G) (by omega)
  replace H4 := ox_gror H4 (gror_of G) (by omega)
  replace GG := G.gro GG (by simp; omega)
  replace hBs := Nat.le_trans hBs G.size
  clear kg2 G
  have kg2 := kn
  clear kn
  refine sv 46 (.pointer (some ⟨g3, 54, none⟩)) (run_fld 36 _ 7 rfl _ _ rfl _) (sv 47 (.pointer (some ⟨g3, 54, none⟩)) (run_fld 27 _ 0 rfl _ _ rfl _) ?_)
  refine s_store rfl rfl 2 _ _ rfl g3 54 rfl (.int .i64 ((x45 : Nat) : Int)) rfl 36 _ kg3 #[.int .i64 ((x45 : Nat) : Int)] rfl (by kernel_rfl) (Nat.le_of_ble_eq_true rfl) (by kernel_rfl) (c36 ((x16 : Nat) : Int) f.pw f.pn f.toA f.a f.b f.n f.fi f.fn ((x45 : Nat) : Int) f.tn ⟨ao1, d.tr.length, cap1⟩ ⟨ao2, d.ids.length, cap2⟩ f.key f.vn f.vw ⟨ao3, d.val.length, cap3⟩ f.op f.ttl ⟨ao4, d.tx.length, cap4⟩) (by kernel_rfl) ?_
  intro w10 St
  replace kg1 := St.has (by omega) kg1
  replace kg2 := St.has (by omega) kg2
  replace H1 := H1.apart St (fun ad ha => by have := H1.ge ad ha; omega)
  replace H2 := H2.apart St (fun ad ha => by have := H2.ge ad ha; omega)
  replace H3 := H3.apart St (fun ad ha => by have := H3.ge ad ha; omega)
  replace H4 := H4.apart St (fun ad ha => by have := H4.ge ad ha; omega)
  replace GG := GG.store St bg3
  replace kg3 := St.new
  replace hBs := Nat.le_trans hBs (Nat.le_of_eq St.size.symm)
  clear St
  refine wpList_nil (then_n (wp_region_lit (mv 48 (.pointer (some ⟨g2, 0, none⟩)) ?_)))
  refine nr ?_; intro U h; simp only [z0, z1] at h; subst h
  obtain ⟨⟨x49, a49, e49⟩, h49⟩ : ∃ r, dR (rdN l) 0 a45 e45 = r := ⟨_, rfl⟩
  refine s_callx 49 rfl rfl _ 32 Try.call32 rfl rfl _ rfl [.pointer (some ⟨g2, 0, none⟩)] rfl (dany g2 so sc l _ a45 e45 x49 a49 e49 kg2 (H.gro GG) hl h49) (fun _ _ ⟨he, _⟩ => ⟨_, he⟩) ?_
  rintro v w11 ⟨he, G, kn⟩
  cases he
  replace kg1 := G.has kg1 (by simp; omega)
  replace kg3 := G.has kg3 (by simp; omega)
  replace H1 := ox_gror H1 (gror_of G) (by omega)
  replace H2 := ox_gror H2 (gror_of G) (by omega)
  replace H3 := ox_gror H3 (gror_of G) (by omega)
  replace H4 := ox_gror H4 (gror_of G) (by omega)
  replace GG := G.gro GG (by simp; omega)
  replace hBs := Nat.le_trans hBs G.size
  clear kg2 G
  have kg2 := kn
  clear kn
  refine sv 50 (.pointer (some ⟨g3, 54, none⟩)) (run_fld 36 _ 7 rfl _ _ rfl _) (sv 51 (.pointer (some ⟨g3, 55, none⟩)) (run_fld 27 _ 1 rfl _ _ rfl _) ?_)
  refine s_store rfl rfl 2 _ _ rfl g3 55 rfl (.int .i64 ((x49 : Nat) : Int)) rfl 36 _ kg3 #[.int .i64 ((x49 : Nat) : Int)] rfl (by kernel_rfl) (Nat.le_of_ble_eq_true rfl) (by kernel_rfl) (c36 ((x16 : Nat) : Int) f.pw f.pn f.toA f.a f.b f.n f.fi f.fn ((x45 : Nat) : Int) ((x49 : Nat) : Int) ⟨ao1, d.tr.length, cap1⟩ ⟨ao2, d.ids.length, cap2⟩ f.key f.vn f.vw ⟨ao3, d.val.length, cap3⟩ f.op f.ttl ⟨ao4, d.tx.length, cap4⟩) (by kernel_rfl) ?_
  intro w13 St
  replace kg1 := St.has (by omega) kg1
  replace kg2 := St.has (by omega) kg2
  replace H1 := H1.apart St (fun ad ha => by have := H1.ge ad ha; omega)
  replace H2 := H2.apart St (fun ad ha => by have := H2.ge ad ha; omega)
  replace H3 := H3.apart St (fun ad ha => by have := H3.ge ad ha; omega)
  replace H4 := H4.apart St (fun ad ha => by have := H4.ge ad ha; omega)
  replace GG := GG.store St bg3
  replace kg3 := St.new
  replace hBs := Nat.le_trans hBs (Nat.le_of_eq St.size.symm)
  clear St
  refine wpList_nil (blk_n (blk_n (then_n (wp_region_lit (mv 27 (.int .i64 ((i : Nat) : Int)) (sv 28 (.int .i64 ((i + 1 : Nat) : Int)) (run_add64 _ _ _ rfl ((i : Nat) : Int) 1 _ rfl rfl (by omega) (by omega) (by omega) _) ?_))))))
  refine nr ?_; intro U h; simp only [z0, z1] at h; subst h
  refine mv 7 (.int .i64 ((i + 1 : Nat) : Int)) (wpList_nil (then_n ?_))
  have hS9 : stN l F zs (i + 1) a16 e16 = (({ f with ti := ((x45 : Nat) : Int), tn := ((x49 : Nat) : Int) }, d), a49, e49) := by rw [stN, bD, hS, hc, hc0, stD_116]; simp only [ltD116, bD, pD, h45, h49]
  exact ⟨_, (by omega : F.length - (i + 1) < F.length - i), i + 1, { f with ti := ((x45 : Nat) : Int), tn := ((x49 : Nat) : Int) }, d, a49, e49, ao1, cap1, ao2, cap2, ao3, cap3, ao4, cap4, usK ⟨hin, hS9, (Nat.le_trans hLt (by omega)), (Nat.le_trans hLi (by omega)), GG, kg1, kg2, kg3, hBs, H1, H2, H3, H4⟩⟩
  have hc0 : c = 102 := by have := of_decide_eq_true hp2; omega
  refine mv 32 (.bool true) (wpList_nil (then_n (wp_cond_true rfl (wp_seq (wp_region_lit (mv 34 (.pointer (some ⟨g2, 0, none⟩)) ?_))))))
  refine nr ?_; intro U h; simp only [z0, z1] at h; subst h
  obtain ⟨⟨x35, a35, e35⟩, h35⟩ : ∃ r, dR (rdN l) 0 a e = r := ⟨_, rfl⟩
  refine s_callx 35 rfl rfl _ 32 Try.call32 rfl rfl _ rfl [.pointer (some ⟨g2, 0, none⟩)] rfl (dany g2 so sc l _ a e x35 a35 e35 kg2 (H.gro GG) hl h35) (fun _ _ ⟨he, _⟩ => ⟨_, he⟩) ?_
  rintro v w8 ⟨he, G, kn⟩
  cases he
  replace kg1 := G.has kg1 (by simp; omega)
  replace kg3 := G.has kg3 (by simp; omega)
  replace H1 := ox_gror H1 (gror_of G) (by omega)
  replace H2 := ox_gror H2 (gror_of G) (by omega)
  replace H3 := ox_gror H3 (gror_of G) (by omega)
  replace H4 := ox_gror H4 (gror_of G) (by omega)
  replace GG := G.gro GG (by simp; omega)
  replace hBs := Nat.le_trans hBs G.size
  clear kg2 G
  have kg2 := kn
  clear kn
  refine sv 36 (.pointer (some ⟨g3, 52, none⟩)) (run_fld 36 _ 6 rfl _ _ rfl _) (sv 37 (.pointer (some ⟨g3, 52, none⟩)) (run_fld 27 _ 0 rfl _ _ rfl _) ?_)
  refine s_store rfl rfl 2 _ _ rfl g3 52 rfl (.int .i64 ((x35 : Nat) : Int)) rfl 36 _ kg3 #[.int .i64 ((x35 : Nat) : Int)] rfl (by kernel_rfl) (Nat.le_of_ble_eq_true rfl) (by kernel_rfl) (c36 ((x16 : Nat) : Int) f.pw f.pn f.toA f.a f.b f.n ((x35 : Nat) : Int) f.fn f.ti f.tn ⟨ao1, d.tr.length, cap1⟩ ⟨ao2, d.ids.length, cap2⟩ f.key f.vn f.vw ⟨ao3, d.val.length, cap3⟩ f.op f.ttl ⟨ao4, d.tx.length, cap4⟩) (by kernel_rfl) ?_
  intro w10 St
  replace kg1 := St.has (by omega) kg1
  replace kg2 := St.has (by omega) kg2
  replace H1 := H1.apart St (fun ad ha => by have := H1.ge ad ha; omega)
  replace H2 := H2.apart St (fun ad ha => by have := H2.ge ad ha; omega)
  replace H3 := H3.apart St (fun ad ha => by have := H3.ge ad ha; omega)
  replace H4 := H4.apart St (fun ad ha => by have := H4.ge ad ha; omega)
  replace GG := GG.store St bg3
  replace kg3 := St.new
  replace hBs := Nat.le_trans hBs (Nat.le_of_eq St.size.symm)
  clear St
  refine wpList_nil (then_n (wp_region_lit (mv 38 (.pointer (some ⟨g2, 0, none⟩)) ?_)))
  refine nr ?_; intro U h; simp only [z0, z1] at h; subst h
  obtain ⟨⟨x39, a39, e39⟩, h39⟩ : ∃ r, dR (rdN l) 0 a35 e35 = r := ⟨_, rfl⟩
  refine s_callx 39 rfl rfl _ 32 Try.call32 rfl rfl _ rfl [.pointer (some ⟨g2, 0, none⟩)] rfl (dany g2 so sc l _ a35 e35 x39 a39 e39 kg2 (H.gro GG) hl h39) (fun _ _ ⟨he, _⟩ => ⟨_, he⟩) ?_
  rintro v w11 ⟨he, G, kn⟩
  cases he
  replace kg1 := G.has kg1 (by simp; omega)
  replace kg3 := G.has kg3 (by simp; omega)
  replace H1 := ox_gror H1 (gror_of G) (by omega)
  replace H2 := ox_gror H2 (gror_of G) (by omega)
  replace H3 := ox_gror H3 (gror_of G) (by omega)
  replace H4 := ox_gror H4 (gror_of G) (by omega)
  replace GG := G.gro GG (by simp; omega)
  replace hBs := Nat.le_trans hBs G.size
  clear kg2 G
  have kg2 := kn
  clear kn
  refine sv 40 (.pointer (some ⟨g3, 52, none⟩)) (run_fld 36 _ 6 rfl _ _ rfl _) (sv 41 (.pointer (some ⟨g3, 53, none⟩)) (run_fld 27 _ 1 rfl _ _ rfl _) ?_)
  refine s_store rfl rfl 2 _ _ rfl g3 53 rfl (.int .i64 ((x39 : Nat) : Int)) rfl 36 _ kg3 #[.int .i64 ((x39 : Nat) : Int)] rfl (by kernel_rfl) (Nat.le_of_ble_eq_true rfl) (by kernel_rfl) (c36 ((x16 : Nat) : Int) f.pw f.pn f.toA f.a f.b f.n ((x35 : Nat) : Int) ((x39 : Nat) : Int) f.ti f.tn ⟨ao1, d.tr.length, cap1⟩ ⟨ao2, d.ids.length, cap2⟩ f.key f.vn f.vw ⟨ao3, d.val.length, cap3⟩ f.op f.ttl ⟨ao4, d.tx.length, cap4⟩) (by kernel_rfl) ?_
  intro w13 St
  replace kg1 := St.has (by omega) kg1
  replace kg2 := St.has (by omega) kg2
  replace H1 := H1.apart St (fun ad ha => by have := H1.ge ad ha; omega)
  replace H2 := H2.apart St (fun ad ha => by have := H2.ge ad ha; omega)
  replace H3 := H3.apart St (fun ad ha => by have := H3.ge ad ha; omega)
  replace H4 := H4.apart St (fun ad ha => by have := H4.ge ad ha; omega)
  replace GG := GG.store St bg3
  replace kg3 := St.new
  replace hBs := Nat.le_trans hBs (Nat.le_of_eq St.size.symm)
  clear St
  refine wpList_nil (blk_n (blk_n (then_n (wp_region_lit (mv 27 (.int .i64 ((i : Nat) : Int)) (sv 28 (.int .i64 ((i + 1 : Nat) : Int)) (run_add64 _ _ _ rfl ((i : Nat) : Int) 1 _ rfl rfl (by omega) (by omega) (by omega) _) ?_))))))
  refine nr ?_; intro U h; simp only [z0, z1] at h; subst h
  refine mv 7 (.int .i64 ((i + 1 : Nat) : Int)) (wpList_nil (then_n ?_))
  have hS9 : stN l F zs (i + 1) a16 e16 = (({ f with fi := ((x35 : Nat) : Int), fn := ((x39 : Nat) : Int) }, d), a39, e39) := by rw [stN, bD, hS, hc, hc0, stD_102]; simp only [ltD102, bD, pD, h35, h39]
  exact ⟨_, (by omega : F.length - (i + 1) < F.length - i), i + 1, { f with fi := ((x35 : Nat) : Int), fn := ((x39 : Nat) : Int) }, d, a39, e39, ao1, cap1, ao2, cap2, ao3, cap3, ao4, cap4, usK ⟨hin, hS9, (Nat.le_trans hLt (by omega)), (Nat.le_trans hLi (by omega)), GG, kg1, kg2, kg3, hBs, H1, H2, H3, H4⟩⟩
end Go.Proofs.Ythmcnlmphikicaa
