/- Laws of earlier stages, turned to this program (A2). -/
import Derived.Test.YtmpnepbmpmkmkaaDA1
namespace Go.Proofs.Ytmpnepbmpmkmkaa
open Go.RowKit
set_option maxRecDepth 100000 in
set_option maxHeartbeats 4000000 in
theorem same_d (f g : Fr) (df dg : FD) (w : World) (HF : FrW w f df) (HG : FrW w g dg) (hl : Lens df) : Calls Try.prog 28 #[.agg (c65 f.kind f.pw f.pn f.toA f.a f.b f.n f.fi f.fn f.ti f.tn f.tr f.ids f.key f.vn f.vw f.val f.op f.ttl f.tx), .agg (c65 g.kind g.pw g.pn g.toA g.a g.b g.n g.fi g.fn g.ti g.tn g.tr g.ids g.key g.vn g.vw g.val g.op g.ttl g.tx)] w fun e w' => e = .returned (.bool (sameK f g df dg)) ∧ Gro w w' := by
  refine s_enter Try.func28 rfl Try.ntmps28 [.agg (c65 f.kind f.pw f.pn f.toA f.a f.b f.n f.fi f.fn f.ti f.tn f.tr f.ids f.key f.vn f.vw f.val f.op f.ttl f.tx), .agg (c65 g.kind g.pw g.pn g.toA g.a g.b g.n g.fi g.fn g.ti g.tn g.tr g.ids g.key g.vn g.vw g.val g.op g.ttl g.tx)] [.agg (c65 f.kind f.pw f.pn f.toA f.a f.b f.n f.fi f.fn f.ti f.tn f.tr f.ids f.key f.vn f.vw f.val f.op f.ttl f.tx), .agg (c65 g.kind g.pw g.pn g.toA g.a g.b g.n g.fi g.fn g.ti g.tn g.tr g.ids g.key g.vn g.vw g.val g.op g.ttl g.tx), undef, undef, undef, undef, undef, undef, undef, undef, undef, undef, undef, undef, undef, undef, undef, undef, undef, undef, undef, undef, undef, undef, undef, undef, undef, undef, undef, undef, undef, undef, undef, undef, undef, undef, undef, undef, undef, undef, undef, undef, undef, undef, undef, undef, undef, undef, undef, undef, undef, undef, undef, undef, undef, undef, undef, undef, undef, undef, undef, undef, undef, undef, undef, undef, undef, undef, undef, undef, undef, undef, undef, undef, undef, undef, undef, undef, undef, undef, undef, undef, undef, undef, undef, undef, undef, undef, undef, undef, undef, undef, undef, undef, undef, undef, undef, undef, undef, undef, undef, undef, undef, undef, undef, undef, undef, undef, undef, undef, undef, undef, undef, undef, undef, undef, undef, undef, undef, undef, undef, undef, undef, undef, undef, undef, undef, undef, undef, undef, undef, undef, undef, undef, undef, undef, undef, undef, undef, undef, undef, undef, undef] rfl ?_
  have GG := Gro.refl w
  have lfv := xc_len1 HF.val
  have lgv := xc_len1 HG.val
  have lft := xc_len1 HF.tr
  have lgt := xc_len1 HG.tr
  have lfx := xc_len1 HF.tx
  have lgx := xc_len1 HG.tx
  have HFt : XC w 1 f.tr.ao f.tr.cap df.tr.length (df.tr.map (Value.int .i64 ·)) := by rw [← lft]; exact HF.tr
  have HGt : XC w 1 g.tr.ao g.tr.cap dg.tr.length (dg.tr.map (Value.int .i64 ·)) := by rw [← lgt]; exact HG.tr
  have lfi := HF.idn
  have lgi := HG.idn
  have hl1 := hl.1
  have hl2 := hl.2
  refine wp_seq ?_
  refine wp_region_lit ?_
  refine s_box 2 rfl rfl 65 _ rfl _ rfl (c65 f.kind f.pw f.pn f.toA f.a f.b f.n f.fi f.fn f.ti f.tn f.tr f.ids f.key f.vn f.vw f.val f.op f.ttl f.tx) rfl ?_
  intro w1 g1 G eg1 kg1
  have bg1 := size_base GG eg1
  replace GG := GG.trans G
  clear G eg1
  refine nr ?_; intro U h; simp only [z0, z1] at h; subst h
  refine s_box 3 rfl rfl 65 _ rfl _ rfl (c65 g.kind g.pw g.pn g.toA g.a g.b g.n g.fi g.fn g.ti g.tn g.tr g.ids g.key g.vn g.vw g.val g.op g.ttl g.tx) rfl ?_
  intro w2 g2 G eg2 kg2
  have bg2 := size_base GG eg2
  have dg1g2 := lt_new kg1 eg2
  replace kg1 := G.has kg1
  replace GG := GG.trans G
  clear G eg2
  refine nr ?_; intro U h; simp only [z0, z1] at h; subst h
  refine s_val 4 rfl rfl (.bool false) (rfl) ?_
  refine nr ?_; intro U h; simp only [z0, z1] at h; subst h
  refine wpList_nil ?_
  refine then_n ?_
  refine wp_seq ?_
  refine wp_seq ?_
  refine wp_region_opq ?_
  intro OPS hY
  have y7 := hY 7 14 rfl
  clear hY
  refine s_val 7 rfl rfl (.pointer (some ⟨g1, 56, none⟩)) (run_fld 65 _ 8 rfl _ _ rfl _ (by kernel_rfl)) ?_
  refine nr ?_; intro U h; simp only [z0, z1] at h; subst h
  refine s_val 8 rfl rfl (.slice f.tr.ao f.tr.n f.tr.cap) (run_ldc 57 _ rfl g1 56 rfl 65 _ kg1 (na57a _) _ rfl) ?_
  refine nr ?_; intro U h; simp only [z0, z1] at h; subst h
  refine s_val 9 rfl rfl (.int .i64 ((f.tr.n : Nat) : Int)) (run_len Try.underlying57 _ rfl _ _ _ rfl _) ?_
  refine nr ?_; intro U h; simp only [z0, z1] at h; subst h
  refine s_val 10 rfl rfl (.pointer (some ⟨g2, 56, none⟩)) (run_fld 65 _ 8 rfl _ _ rfl _ (by kernel_rfl)) ?_
  refine nr ?_; intro U h; simp only [z0, z1] at h; subst h
  refine s_val 11 rfl rfl (.slice g.tr.ao g.tr.n g.tr.cap) (run_ldc 57 _ rfl g2 56 rfl 65 _ kg2 (na57a _) _ rfl) ?_
  refine nr ?_; intro U h; simp only [z0, z1] at h; subst h
  refine s_val 12 rfl rfl (.int .i64 ((g.tr.n : Nat) : Int)) (run_len Try.underlying57 _ rfl _ _ _ rfl _) ?_
  refine nr ?_; intro U h; simp only [z0, z1] at h; subst h
  obtain ⟨p1, hp1⟩ : ∃ p, (!decide (((f.tr.n : Nat) : Int) = ((g.tr.n : Nat) : Int))) = p := ⟨_, rfl⟩
  refine s_val 13 rfl rfl (.bool p1) (run_neq_k 3 .i64 _ _ _ rfl Try.underlying3 ((f.tr.n : Nat) : Int) ((g.tr.n : Nat) : Int) rfl rfl p1 (by rw [← hp1, Bool.not_not]) _) ?_
  refine nr ?_; intro U h; simp only [z0, z1] at h; subst h
  cases p1
  · have hlt : f.tr.n = g.tr.n := by simp at hp1; omega
    refine s_val _ rfl rfl (.bool false) rfl ?_
    refine nr ?_; intro U h; simp only [z0, z1] at h; subst h
    refine s_gvalY 15 rfl rfl y7 rfl (.pointer (some ⟨g1, 57, none⟩)) (run_fld 65 _ 9 rfl _ _ rfl _ (by kernel_rfl)) ?_
    refine nr ?_; intro U h; simp only [z0, z1] at h; subst h
    refine s_gvalY 16 rfl rfl y7 rfl (.slice f.ids.ao f.ids.n f.ids.cap) (run_ldc 58 _ rfl g1 57 rfl 65 _ kg1 (na58 _) _ rfl) ?_
    refine nr ?_; intro U h; simp only [z0, z1] at h; subst h
    refine s_gvalY 17 rfl rfl y7 rfl (.int .i64 ((f.ids.n : Nat) : Int)) (run_len Try.underlying58 _ rfl _ _ _ rfl _) ?_
    refine nr ?_; intro U h; simp only [z0, z1] at h; subst h
    refine s_gvalY 18 rfl rfl y7 rfl (.pointer (some ⟨g2, 57, none⟩)) (run_fld 65 _ 9 rfl _ _ rfl _ (by kernel_rfl)) ?_
    refine nr ?_; intro U h; simp only [z0, z1] at h; subst h
    refine s_gvalY 19 rfl rfl y7 rfl (.slice g.ids.ao g.ids.n g.ids.cap) (run_ldc 58 _ rfl g2 57 rfl 65 _ kg2 (na58 _) _ rfl) ?_
    refine nr ?_; intro U h; simp only [z0, z1] at h; subst h
    refine s_gvalY 20 rfl rfl y7 rfl (.int .i64 ((g.ids.n : Nat) : Int)) (run_len Try.underlying58 _ rfl _ _ _ rfl _) ?_
    refine nr ?_; intro U h; simp only [z0, z1] at h; subst h
    obtain ⟨p2, hp2⟩ : ∃ p, (!decide (((f.ids.n : Nat) : Int) = ((g.ids.n : Nat) : Int))) = p := ⟨_, rfl⟩
    refine s_gvalY 21 rfl rfl y7 rfl (.bool p2) (run_neq_k 3 .i64 _ _ _ rfl Try.underlying3 ((f.ids.n : Nat) : Int) ((g.ids.n : Nat) : Int) rfl rfl p2 (by rw [← hp2, Bool.not_not]) _) ?_
    refine nr ?_; intro U h; simp only [z0, z1] at h; subst h
    cases p2
    · have hli : f.ids.n = g.ids.n := by simp at hp2; omega
      refine s_val _ rfl rfl (.bool false) rfl ?_
      refine nr ?_; intro U h; simp only [z0, z1] at h; subst h
      refine wpList_nil ?_
      refine then_n ?_
      refine wp_cond_false rfl ?_
      refine wp_skip ?_
      refine then_n ?_
      refine wp_seq ?_
      refine wp_seq ?_
      refine wp_region_lit ?_
      refine s_val 5 rfl rfl (.int .i64 0) (rfl) ?_
      refine nr ?_; intro U h; simp only [z0, z1] at h; subst h
      refine wpList_nil ?_
      refine then_n ?_
      refine wp_block ?_
      refine wp_loopN (fun mz az wv => ∃ (j : Nat) (us1 : Nat → Value), mz = df.tr.length - j ∧ az = ⟨[.agg (c65 f.kind f.pw f.pn f.toA f.a f.b f.n f.fi f.fn f.ti f.tn f.tr f.ids f.key f.vn f.vw f.val f.op f.ttl f.tx), .agg (c65 g.kind g.pw g.pn g.toA g.a g.b g.n g.fi g.fn g.ti g.tn g.tr g.ids g.key g.vn g.vw g.val g.op g.ttl g.tx), .pointer (some ⟨g1, 0, none⟩), .pointer (some ⟨g2, 0, none⟩), us1 0, .int .i64 ((j : Nat) : Int), undef, .pointer (some ⟨g1, 56, none⟩), .slice f.tr.ao f.tr.n f.tr.cap, .int .i64 ((f.tr.n : Nat) : Int), .pointer (some ⟨g2, 56, none⟩), .slice g.tr.ao g.tr.n g.tr.cap, .int .i64 ((g.tr.n : Nat) : Int), .bool false, .bool false, .pointer (some ⟨g1, 57, none⟩), .slice f.ids.ao f.ids.n f.ids.cap, .int .i64 ((f.ids.n : Nat) : Int), .pointer (some ⟨g2, 57, none⟩), .slice g.ids.ao g.ids.n g.ids.cap, .int .i64 ((g.ids.n : Nat) : Int), .bool false, .bool false, us1 1, us1 2, us1 3, us1 4, us1 5, us1 6, us1 7, us1 8, us1 9, us1 10, us1 11, us1 12, us1 13, us1 14, us1 15, us1 16, us1 17, us1 18, undef, undef, undef, undef, undef, undef, undef, undef, undef, undef, undef, undef, undef, undef, undef, undef, undef, undef, undef, undef, undef, undef, undef, undef, undef, undef, undef, undef, undef, undef, undef, undef, undef, undef, undef, undef, undef, undef, undef, undef, undef, undef, undef, undef, undef, undef, undef, undef, undef, undef, undef, undef, undef, undef, undef, undef, undef, undef, undef, undef, undef, undef, undef, undef, undef, undef, undef, undef, undef, undef, undef, undef, undef, undef, undef, undef, undef, undef, undef, undef, undef, undef, undef, undef, undef, undef, undef, undef, undef, undef, undef, undef, undef, undef, undef, undef, undef, undef, undef, undef, undef, undef].toArray, []⟩ ∧ j ≤ df.tr.length ∧ df.tr.take j = dg.tr.take j ∧ Gro w wv ∧ wv.heap[g1]? = some (.cells (c65 f.kind f.pw f.pn f.toA f.a f.b f.n f.fi f.fn f.ti f.tn f.tr f.ids f.key f.vn f.vw f.val f.op f.ttl f.tx) 65 (0, 0)) ∧ wv.heap[g2]? = some (.cells (c65 g.kind g.pw g.pn g.toA g.a g.b g.n g.fi g.fn g.ti g.tn g.tr g.ids g.key g.vn g.vw g.val g.op g.ttl g.tx) 65 (0, 0))) ?_ _ ⟨0, (fun kz => ([.bool false, undef, undef, undef, undef, undef, undef, undef, undef, undef, undef, undef, undef, undef, undef, undef, undef, undef, undef] : List Value).getD kz undef), rfl, rfl, Nat.zero_le _, rfl, GG, kg1, kg2⟩
      clear kg1 kg2 GG
      rintro mz az wv ⟨j, us1, rfl, rfl, hj, ht, GG, kg1, kg2⟩
      refine wp_seq ?_
      refine wp_seq ?_
      refine wp_region_lit ?_
      refine s_val 23 rfl rfl (.int .i64 ((j : Nat) : Int)) (rfl) ?_
      refine nr ?_; intro U h; simp only [z0, z1] at h; subst h
      refine s_val 24 rfl rfl (.pointer (some ⟨g1, 56, none⟩)) (run_fld 65 _ 8 rfl _ _ rfl _ (by kernel_rfl)) ?_
      refine nr ?_; intro U h; simp only [z0, z1] at h; subst h
      refine s_val 25 rfl rfl (.slice f.tr.ao f.tr.n f.tr.cap) (run_ldc 57 _ rfl g1 56 rfl 65 _ kg1 (na57a _) _ rfl) ?_
      refine nr ?_; intro U h; simp only [z0, z1] at h; subst h
      refine s_val 26 rfl rfl (.int .i64 ((f.tr.n : Nat) : Int)) (run_len Try.underlying57 _ rfl _ _ _ rfl _) ?_
      refine nr ?_; intro U h; simp only [z0, z1] at h; subst h
      obtain ⟨p3, hp3⟩ : ∃ p, decide (((j : Nat) : Int) < ((f.tr.n : Nat) : Int)) = p := ⟨_, rfl⟩
      refine s_val 27 rfl rfl (.bool p3) (run_lssT 3 _ _ _ rfl ((j : Nat) : Int) ((f.tr.n : Nat) : Int) rfl rfl p3 hp3 _) ?_
      refine nr ?_; intro U h; simp only [z0, z1] at h; subst h
      cases p3
      · have htt : df.tr = dg.tr := by have := of_decide_eq_false hp3; rwa [List.take_of_length_le (by omega), List.take_of_length_le (by omega)] at ht
        refine wpList_nil ?_
        refine then_n ?_
        refine wp_cond_false rfl ?_
        refine wp_exit ?_
        refine then_x ?_
        refine then_x ?_
        refine blk_x ?_
        refine then_n ?_
        refine wp_seq ?_
        refine wp_seq ?_
        refine wp_region_lit ?_
        refine s_val 6 rfl rfl (.int .i64 0) (rfl) ?_
        refine nr ?_; intro U h; simp only [z0, z1] at h; subst h
        refine wpList_nil ?_
        refine then_n ?_
        refine wp_block ?_
        refine wp_loopN (fun mz az wv => ∃ (i : Nat) (us2 : Nat → Value), mz = df.ids.length - i ∧ az = ⟨[.agg (c65 f.kind f.pw f.pn f.toA f.a f.b f.n f.fi f.fn f.ti f.tn f.tr f.ids f.key f.vn f.vw f.val f.op f.ttl f.tx), .agg (c65 g.kind g.pw g.pn g.toA g.a g.b g.n g.fi g.fn g.ti g.tn g.tr g.ids g.key g.vn g.vw g.val g.op g.ttl g.tx), .pointer (some ⟨g1, 0, none⟩), .pointer (some ⟨g2, 0, none⟩), us2 0, .int .i64 ((j : Nat) : Int), .int .i64 ((i : Nat) : Int), .pointer (some ⟨g1, 56, none⟩), .slice f.tr.ao f.tr.n f.tr.cap, .int .i64 ((f.tr.n : Nat) : Int), .pointer (some ⟨g2, 56, none⟩), .slice g.tr.ao g.tr.n g.tr.cap, .int .i64 ((g.tr.n : Nat) : Int), .bool false, .bool false, .pointer (some ⟨g1, 57, none⟩), .slice f.ids.ao f.ids.n f.ids.cap, .int .i64 ((f.ids.n : Nat) : Int), .pointer (some ⟨g2, 57, none⟩), .slice g.ids.ao g.ids.n g.ids.cap, .int .i64 ((g.ids.n : Nat) : Int), .bool false, .bool false, .int .i64 ((j : Nat) : Int), .pointer (some ⟨g1, 56, none⟩), .slice f.tr.ao f.tr.n f.tr.cap, .int .i64 ((f.tr.n : Nat) : Int), .bool false, us1 6, us1 7, us1 8, us1 9, us1 10, us1 11, us1 12, us1 13, us1 14, us1 15, us1 16, us1 17, us1 18, us2 1, us2 2, us2 3, us2 4, us2 5, us2 6, us2 7, us2 8, us2 9, us2 10, us2 11, us2 12, us2 13, us2 14, us2 15, us2 16, us2 17, us2 18, undef, undef, undef, undef, undef, undef, undef, undef, undef, undef, undef, undef, undef, undef, undef, undef, undef, undef, undef, undef, undef, undef, undef, undef, undef, undef, undef, undef, undef, undef, undef, undef, undef, undef, undef, undef, undef, undef, undef, undef, undef, undef, undef, undef, undef, undef, undef, undef, undef, undef, undef, undef, undef, undef, undef, undef, undef, undef, undef, undef, undef, undef, undef, undef, undef, undef, undef, undef, undef, undef, undef, undef, undef, undef, undef, undef, undef, undef, undef, undef, undef, undef, undef, undef].toArray, []⟩ ∧ i ≤ df.ids.length ∧ df.ids.take i = dg.ids.take i ∧ Gro w wv ∧ wv.heap[g1]? = some (.cells (c65 f.kind f.pw f.pn f.toA f.a f.b f.n f.fi f.fn f.ti f.tn f.tr f.ids f.key f.vn f.vw f.val f.op f.ttl f.tx) 65 (0, 0)) ∧ wv.heap[g2]? = some (.cells (c65 g.kind g.pw g.pn g.toA g.a g.b g.n g.fi g.fn g.ti g.tn g.tr g.ids g.key g.vn g.vw g.val g.op g.ttl g.tx) 65 (0, 0))) ?_ _ ⟨0, (fun kz => ([us1 0, undef, undef, undef, undef, undef, undef, undef, undef, undef, undef, undef, undef, undef, undef, undef, undef, undef, undef] : List Value).getD kz undef), rfl, rfl, Nat.zero_le _, rfl, GG, kg1, kg2⟩
        clear kg1 kg2 GG
        rintro mz az wv ⟨i, us2, rfl, rfl, hi, hu, GG, kg1, kg2⟩
        refine wp_seq ?_
        refine wp_seq ?_
        refine wp_region_lit ?_
        refine s_val 41 rfl rfl (.int .i64 ((i : Nat) : Int)) (rfl) ?_
        refine nr ?_; intro U h; simp only [z0, z1] at h; subst h
        refine s_val 42 rfl rfl (.pointer (some ⟨g1, 57, none⟩)) (run_fld 65 _ 9 rfl _ _ rfl _ (by kernel_rfl)) ?_
        refine nr ?_; intro U h; simp only [z0, z1] at h; subst h
        refine s_val 43 rfl rfl (.slice f.ids.ao f.ids.n f.ids.cap) (run_ldc 58 _ rfl g1 57 rfl 65 _ kg1 (na58 _) _ rfl) ?_
        refine nr ?_; intro U h; simp only [z0, z1] at h; subst h
        refine s_val 44 rfl rfl (.int .i64 ((f.ids.n : Nat) : Int)) (run_len Try.underlying58 _ rfl _ _ _ rfl _) ?_
        refine nr ?_; intro U h; simp only [z0, z1] at h; subst h
        obtain ⟨p4, hp4⟩ : ∃ p, decide (((i : Nat) : Int) < ((f.ids.n : Nat) : Int)) = p := ⟨_, rfl⟩
        refine s_val 45 rfl rfl (.bool p4) (run_lssT 3 _ _ _ rfl ((i : Nat) : Int) ((f.ids.n : Nat) : Int) rfl rfl p4 hp4 _) ?_
        refine nr ?_; intro U h; simp only [z0, z1] at h; subst h
        cases p4
        · have huu : df.ids = dg.ids := by have := of_decide_eq_false hp4; rwa [List.take_of_length_le (by omega), List.take_of_length_le (by omega)] at hu
          refine wpList_nil ?_
          refine then_n ?_
          refine wp_cond_false rfl ?_
          refine wp_exit ?_
          refine then_x ?_
          refine then_x ?_
          refine blk_x ?_
          refine then_n ?_
          refine wp_seq ?_
          refine wp_region_opq ?_
          simp only [List.append]
          intro OPS hY
          have y5 := hY 5 64 rfl
          have y12 := hY 12 71 rfl
          have y19 := hY 19 78 rfl
          have y26 := hY 26 85 rfl
          have y33 := hY 33 92 rfl
          have y40 := hY 40 99 rfl
          have y47 := hY 47 106 rfl
          have y54 := hY 54 113 rfl
          have y61 := hY 61 120 rfl
          have y68 := hY 68 127 rfl
          have y75 := hY 75 134 rfl
          clear hY
          refine s_val 59 rfl rfl (.pointer (some ⟨g1, 0, none⟩)) (run_fld 65 _ 0 rfl _ _ rfl _ (by kernel_rfl)) ?_
          refine nr ?_; intro U h; simp only [z0, z1] at h; subst h
          refine s_val 60 rfl rfl (.int .i64 f.kind) (run_ldc 3 _ rfl g1 0 rfl 65 _ kg1 (na3 _) _ rfl) ?_
          refine nr ?_; intro U h; simp only [z0, z1] at h; subst h
          refine s_val 61 rfl rfl (.pointer (some ⟨g2, 0, none⟩)) (run_fld 65 _ 0 rfl _ _ rfl _ (by kernel_rfl)) ?_
          refine nr ?_; intro U h; simp only [z0, z1] at h; subst h
          refine s_val 62 rfl rfl (.int .i64 g.kind) (run_ldc 3 _ rfl g2 0 rfl 65 _ kg2 (na3 _) _ rfl) ?_
          refine nr ?_; intro U h; simp only [z0, z1] at h; subst h
          obtain ⟨p5, hp5⟩ : ∃ p, decide (f.kind = g.kind) = p := ⟨_, rfl⟩
          refine s_val 63 rfl rfl (.bool p5) (run_eq_k 3 .i64 _ _ _ rfl Try.underlying3 f.kind g.kind rfl rfl p5 hp5 _) ?_
          refine nr ?_; intro U h; simp only [z0, z1] at h; subst h
          cases p5
          · refine s_val _ rfl rfl (.bool false) rfl ?_
            refine nr ?_; intro U h; simp only [z0, z1] at h; subst h
            iterate 5 (refine s_skipY _ rfl rfl y5 rfl ?_; refine nr ?_; intro U h; simp only [z0, z1] at h; subst h)
            refine s_val _ rfl rfl (.bool false) rfl ?_
            refine nr ?_; intro U h; simp only [z0, z1] at h; subst h
            refine s_val _ rfl rfl (.bool false) rfl ?_
            refine nr ?_; intro U h; simp only [z0, z1] at h; subst h
            iterate 5 (refine s_skipY _ rfl rfl y12 rfl ?_; refine nr ?_; intro U h; simp only [z0, z1] at h; subst h)
            refine s_val _ rfl rfl (.bool false) rfl ?_
            refine nr ?_; intro U h; simp only [z0, z1] at h; subst h
            refine s_val _ rfl rfl (.bool false) rfl ?_
            refine nr ?_; intro U h; simp only [z0, z1] at h; subst h
            iterate 5 (refine s_skipY _ rfl rfl y19 rfl ?_; refine nr ?_; intro U h; simp only [z0, z1] at h; subst h)
            refine s_val _ rfl rfl (.bool false) rfl ?_
            refine nr ?_; intro U h; simp only [z0, z1] at h; subst h
            refine s_val _ rfl rfl (.bool false) rfl ?_
            refine nr ?_; intro U h; simp only [z0, z1] at h; subst h
            iterate 5 (refine s_skipY _ rfl rfl y26 rfl ?_; refine nr ?_; intro U h; simp only [z0, z1] at h; subst h)
            refine s_val _ rfl rfl (.bool false) rfl ?_
            refine nr ?_; intro U h; simp only [z0, z1] at h; subst h
            refine s_val _ rfl rfl (.bool false) rfl ?_
            refine nr ?_; intro U h; simp only [z0, z1] at h; subst h
            iterate 5 (refine s_skipY _ rfl rfl y33 rfl ?_; refine nr ?_; intro U h; simp only [z0, z1] at h; subst h)
            refine s_val _ rfl rfl (.bool false) rfl ?_
            refine nr ?_; intro U h; simp only [z0, z1] at h; subst h
            refine s_val _ rfl rfl (.bool false) rfl ?_
            refine nr ?_; intro U h; simp only [z0, z1] at h; subst h
            iterate 5 (refine s_skipY _ rfl rfl y40 rfl ?_; refine nr ?_; intro U h; simp only [z0, z1] at h; subst h)
            refine s_val _ rfl rfl (.bool false) rfl ?_
            refine nr ?_; intro U h; simp only [z0, z1] at h; subst h
            refine s_val _ rfl rfl (.bool false) rfl ?_
            refine nr ?_; intro U h; simp only [z0, z1] at h; subst h
            iterate 5 (refine s_skipY _ rfl rfl y47 rfl ?_; refine nr ?_; intro U h; simp only [z0, z1] at h; subst h)
            refine s_val _ rfl rfl (.bool false) rfl ?_
            refine nr ?_; intro U h; simp only [z0, z1] at h; subst h
            refine s_val _ rfl rfl (.bool false) rfl ?_
            refine nr ?_; intro U h; simp only [z0, z1] at h; subst h
            iterate 5 (refine s_skipY _ rfl rfl y54 rfl ?_; refine nr ?_; intro U h; simp only [z0, z1] at h; subst h)
            refine s_val _ rfl rfl (.bool false) rfl ?_
            refine nr ?_; intro U h; simp only [z0, z1] at h; subst h
            refine s_val _ rfl rfl (.bool false) rfl ?_
            refine nr ?_; intro U h; simp only [z0, z1] at h; subst h
            iterate 5 (refine s_skipY _ rfl rfl y61 rfl ?_; refine nr ?_; intro U h; simp only [z0, z1] at h; subst h)
            refine s_val _ rfl rfl (.bool false) rfl ?_
            refine nr ?_; intro U h; simp only [z0, z1] at h; subst h
            refine s_val _ rfl rfl (.bool false) rfl ?_
            refine nr ?_; intro U h; simp only [z0, z1] at h; subst h
            iterate 5 (refine s_skipY _ rfl rfl y68 rfl ?_; refine nr ?_; intro U h; simp only [z0, z1] at h; subst h)
            refine s_val _ rfl rfl (.bool false) rfl ?_
            refine nr ?_; intro U h; simp only [z0, z1] at h; subst h
            refine s_val _ rfl rfl (.bool false) rfl ?_
            refine nr ?_; intro U h; simp only [z0, z1] at h; subst h
            iterate 7 (refine s_skipY _ rfl rfl y75 rfl ?_; refine nr ?_; intro U h; simp only [z0, z1] at h; subst h)
            refine s_val _ rfl rfl (.bool false) rfl ?_
            refine nr ?_; intro U h; simp only [z0, z1] at h; subst h
            refine s_val _ rfl rfl (.bool false) rfl ?_
            refine nr ?_; intro U h; simp only [z0, z1] at h; subst h
            refine wpList_nil ?_
            refine then_n ?_
            refine wp_ret ?_
            refine bodyPost_ret (results_tmp Try.results28 _ _ _) rfl ?_
            first | exact ⟨congrArg (fun b => Ending.returned (.bool b)) (same_ltr hne), GG⟩ | exact ⟨congrArg (fun b => Ending.returned (.bool b)) (same_lids hne), GG⟩ | exact ⟨by simp only [sameK, sameB] at *; simp [*], GG⟩
          refine s_val 64 rfl rfl (.bool true) (rfl) ?_
          refine nr ?_; intro U h; simp only [z0, z1] at h; subst h
          refine s_gvalY 65 rfl rfl y5 rfl (.pointer (some ⟨g1, 1, none⟩)) (run_fld 65 _ 1 rfl _ _ rfl _ (by kernel_rfl)) ?_
          refine nr ?_; intro U h; simp only [z0, z1] at h; subst h
          refine s_gvalY 66 rfl rfl y5 rfl (.agg (c26 f.pw f.pn)) (run_lda 26 _ rfl g1 1 17 rfl 65 _ kg1 _ Try.underlying26 rfl si26 (Nat.le_of_ble_eq_true rfl) _ (by kernel_rfl)) ?_
          refine nr ?_; intro U h; simp only [z0, z1] at h; subst h
          refine s_gvalY 67 rfl rfl y5 rfl (.pointer (some ⟨g2, 1, none⟩)) (run_fld 65 _ 1 rfl _ _ rfl _ (by kernel_rfl)) ?_
          refine nr ?_; intro U h; simp only [z0, z1] at h; subst h
          refine s_gvalY 68 rfl rfl y5 rfl (.agg (c26 g.pw g.pn)) (run_lda 26 _ rfl g2 1 17 rfl 65 _ kg2 _ Try.underlying26 rfl si26 (Nat.le_of_ble_eq_true rfl) _ (by kernel_rfl)) ?_
          refine nr ?_; intro U h; simp only [z0, z1] at h; subst h
          obtain ⟨p6, hp6⟩ : ∃ p, (decide (idL f.pw = idL g.pw) && decide (f.pn = g.pn)) = p := ⟨_, rfl⟩
          refine s_gvalY 69 rfl rfl y5 rfl (.bool p6) (run_cmpAa .eql 26 _ _ _ rfl _ _ rfl rfl (by kernel_rfl) _ ((eq25 f.pw g.pw f.pn g.pn _).trans (by rw [hp6]))) ?_
          refine nr ?_; intro U h; simp only [z0, z1] at h; subst h
          cases p6
          · refine s_val _ rfl rfl (.bool false) rfl ?_
            refine nr ?_; intro U h; simp only [z0, z1] at h; subst h
            refine s_val _ rfl rfl (.bool false) rfl ?_
            refine nr ?_; intro U h; simp only [z0, z1] at h; subst h
            iterate 5 (refine s_skipY _ rfl rfl y12 rfl ?_; refine nr ?_; intro U h; simp only [z0, z1] at h; subst h)
            refine s_val _ rfl rfl (.bool false) rfl ?_
            refine nr ?_; intro U h; simp only [z0, z1] at h; subst h
            refine s_val _ rfl rfl (.bool false) rfl ?_
            refine nr ?_; intro U h; simp only [z0, z1] at h; subst h
            iterate 5 (refine s_skipY _ rfl rfl y19 rfl ?_; refine nr ?_; intro U h; simp only [z0, z1] at h; subst h)
            refine s_val _ rfl rfl (.bool false) rfl ?_
            refine nr ?_; intro U h; simp only [z0, z1] at h; subst h
            refine s_val _ rfl rfl (.bool false) rfl ?_
            refine nr ?_; intro U h; simp only [z0, z1] at h; subst h
            iterate 5 (refine s_skipY _ rfl rfl y26 rfl ?_; refine nr ?_; intro U h; simp only [z0, z1] at h; subst h)
            refine s_val _ rfl rfl (.bool false) rfl ?_
            refine nr ?_; intro U h; simp only [z0, z1] at h; subst h
            refine s_val _ rfl rfl (.bool false) rfl ?_
            refine nr ?_; intro U h; simp only [z0, z1] at h; subst h
            iterate 5 (refine s_skipY _ rfl rfl y33 rfl ?_; refine nr ?_; intro U h; simp only [z0, z1] at h; subst h)
            refine s_val _ rfl rfl (.bool false) rfl ?_
            refine nr ?_; intro U h; simp only [z0, z1] at h; subst h
            refine s_val _ rfl rfl (.bool false) rfl ?_
            refine nr ?_; intro U h; simp only [z0, z1] at h; subst h
            iterate 5 (refine s_skipY _ rfl rfl y40 rfl ?_; refine nr ?_; intro U h; simp only [z0, z1] at h; subst h)
            refine s_val _ rfl rfl (.bool false) rfl ?_
            refine nr ?_; intro U h; simp only [z0, z1] at h; subst h
            refine s_val _ rfl rfl (.bool false) rfl ?_
            refine nr ?_; intro U h; simp only [z0, z1] at h; subst h
            iterate 5 (refine s_skipY _ rfl rfl y47 rfl ?_; refine nr ?_; intro U h; simp only [z0, z1] at h; subst h)
            refine s_val _ rfl rfl (.bool false) rfl ?_
            refine nr ?_; intro U h; simp only [z0, z1] at h; subst h
            refine s_val _ rfl rfl (.bool false) rfl ?_
            refine nr ?_; intro U h; simp only [z0, z1] at h; subst h
            iterate 5 (refine s_skipY _ rfl rfl y54 rfl ?_; refine nr ?_; intro U h; simp only [z0, z1] at h; subst h)
            refine s_val _ rfl rfl (.bool false) rfl ?_
            refine nr ?_; intro U h; simp only [z0, z1] at h; subst h
            refine s_val _ rfl rfl (.bool false) rfl ?_
            refine nr ?_; intro U h; simp only [z0, z1] at h; subst h
            iterate 5 (refine s_skipY _ rfl rfl y61 rfl ?_; refine nr ?_; intro U h; simp only [z0, z1] at h; subst h)
            refine s_val _ rfl rfl (.bool false) rfl ?_
            refine nr ?_; intro U h; simp only [z0, z1] at h; subst h
            refine s_val _ rfl rfl (.bool false) rfl ?_
            refine nr ?_; intro U h; simp only [z0, z1] at h; subst h
            iterate 5 (refine s_skipY _ rfl rfl y68 rfl ?_; refine nr ?_; intro U h; simp only [z0, z1] at h; subst h)
            refine s_val _ rfl rfl (.bool false) rfl ?_
            refine nr ?_; intro U h; simp only [z0, z1] at h; subst h
            refine s_val _ rfl rfl (.bool false) rfl ?_
            refine nr ?_; intro U h; simp only [z0, z1] at h; subst h
            iterate 7 (refine s_skipY _ rfl rfl y75 rfl ?_; refine nr ?_; intro U h; simp only [z0, z1] at h; subst h)
            refine s_val _ rfl rfl (.bool false) rfl ?_
            refine nr ?_; intro U h; simp only [z0, z1] at h; subst h
            refine s_val _ rfl rfl (.bool false) rfl ?_
            refine nr ?_; intro U h; simp only [z0, z1] at h; subst h
            refine wpList_nil ?_
            refine then_n ?_
            refine wp_ret ?_
            refine bodyPost_ret (results_tmp Try.results28 _ _ _) rfl ?_
            first | exact ⟨congrArg (fun b => Ending.returned (.bool b)) (same_ltr hne), GG⟩ | exact ⟨congrArg (fun b => Ending.returned (.bool b)) (same_lids hne), GG⟩ | exact ⟨by simp only [sameK, sameB] at *; simp [*], GG⟩
          refine s_val 70 rfl rfl (.bool true) (rfl) ?_
          refine nr ?_; intro U h; simp only [z0, z1] at h; subst h
          refine s_val 71 rfl rfl (.bool true) (rfl) ?_
          refine nr ?_; intro U h; simp only [z0, z1] at h; subst h
          refine s_gvalY 72 rfl rfl y12 rfl (.pointer (some ⟨g1, 18, none⟩)) (run_fld 65 _ 2 rfl _ _ rfl _ (by kernel_rfl)) ?_
          refine nr ?_; intro U h; simp only [z0, z1] at h; subst h
          refine s_gvalY 73 rfl rfl y12 rfl (.bool f.toA) (run_ldc 4 _ rfl g1 18 rfl 65 _ kg1 (na4 _) _ rfl) ?_
          refine nr ?_; intro U h; simp only [z0, z1] at h; subst h
          refine s_gvalY 74 rfl rfl y12 rfl (.pointer (some ⟨g2, 18, none⟩)) (run_fld 65 _ 2 rfl _ _ rfl _ (by kernel_rfl)) ?_
          refine nr ?_; intro U h; simp only [z0, z1] at h; subst h
          refine s_gvalY 75 rfl rfl y12 rfl (.bool g.toA) (run_ldc 4 _ rfl g2 18 rfl 65 _ kg2 (na4 _) _ rfl) ?_
          refine nr ?_; intro U h; simp only [z0, z1] at h; subst h
          obtain ⟨p7, hp7⟩ : ∃ p, decide (f.toA = g.toA) = p := ⟨_, rfl⟩
          refine s_gvalY 76 rfl rfl y12 rfl (.bool p7) (run_eqB 4 _ _ _ rfl f.toA g.toA rfl rfl Try.underlying4 p7 hp7 _) ?_
          refine nr ?_; intro U h; simp only [z0, z1] at h; subst h
          cases p7
          · refine s_val _ rfl rfl (.bool false) rfl ?_
            refine nr ?_; intro U h; simp only [z0, z1] at h; subst h
            refine s_val _ rfl rfl (.bool false) rfl ?_
            refine nr ?_; intro U h; simp only [z0, z1] at h; subst h
            iterate 5 (refine s_skipY _ rfl rfl y19 rfl ?_; refine nr ?_; intro U h; simp only [z0, z1] at h; subst h)
            refine s_val _ rfl rfl (.bool false) rfl ?_
            refine nr ?_; intro U h; simp only [z0, z1] at h; subst h
            refine s_val _ rfl rfl (.bool false) rfl ?_
            refine nr ?_; intro U h; simp only [z0, z1] at h; subst h
            iterate 5 (refine s_skipY _ rfl rfl y26 rfl ?_; refine nr ?_; intro U h; simp only [z0, z1] at h; subst h)
            refine s_val _ rfl rfl (.bool false) rfl ?_
            refine nr ?_; intro U h; simp only [z0, z1] at h; subst h
            refine s_val _ rfl rfl (.bool false) rfl ?_
            refine nr ?_; intro U h; simp only [z0, z1] at h; subst h
            iterate 5 (refine s_skipY _ rfl rfl y33 rfl ?_; refine nr ?_; intro U h; simp only [z0, z1] at h; subst h)
            refine s_val _ rfl rfl (.bool false) rfl ?_
            refine nr ?_; intro U h; simp only [z0, z1] at h; subst h
            refine s_val _ rfl rfl (.bool false) rfl ?_
            refine nr ?_; intro U h; simp only [z0, z1] at h; subst h
            iterate 5 (refine s_skipY _ rfl rfl y40 rfl ?_; refine nr ?_; intro U h; simp only [z0, z1] at h; subst h)
            refine s_val _ rfl rfl (.bool false) rfl ?_
            refine nr ?_; intro U h; simp only [z0, z1] at h; subst h
            refine s_val _ rfl rfl (.bool false) rfl ?_
            refine nr ?_; intro U h; simp only [z0, z1] at h; subst h
            iterate 5 (refine s_skipY _ rfl rfl y47 rfl ?_; refine nr ?_; intro U h; simp only [z0, z1] at h; subst h)
            refine s_val _ rfl rfl (.bool false) rfl ?_
            refine nr ?_; intro U h; simp only [z0, z1] at h; subst h
            refine s_val _ rfl rfl (.bool false) rfl ?_
            refine nr ?_; intro U h; simp only [z0, z1] at h; subst h
            iterate 5 (refine s_skipY _ rfl rfl y54 rfl ?_; refine nr ?_; intro U h; simp only [z0, z1] at h; subst h)
            refine s_val _ rfl rfl (.bool false) rfl ?_
            refine nr ?_; intro U h; simp only [z0, z1] at h; subst h
            refine s_val _ rfl rfl (.bool false) rfl ?_
            refine nr ?_; intro U h; simp only [z0, z1] at h; subst h
            iterate 5 (refine s_skipY _ rfl rfl y61 rfl ?_; refine nr ?_; intro U h; simp only [z0, z1] at h; subst h)
            refine s_val _ rfl rfl (.bool false) rfl ?_
            refine nr ?_; intro U h; simp only [z0, z1] at h; subst h
            refine s_val _ rfl rfl (.bool false) rfl ?_
            refine nr ?_; intro U h; simp only [z0, z1] at h; subst h
            iterate 5 (refine s_skipY _ rfl rfl y68 rfl ?_; refine nr ?_; intro U h; simp only [z0, z1] at h; subst h)
            refine s_val _ rfl rfl (.bool false) rfl ?_
            refine nr ?_; intro U h; simp only [z0, z1] at h; subst h
            refine s_val _ rfl rfl (.bool false) rfl ?_
            refine nr ?_; intro U h; simp only [z0, z1] at h; subst h
            iterate 7 (refine s_skipY _ rfl rfl y75 rfl ?_; refine nr ?_; intro U h; simp only [z0, z1] at h; subst h)
            refine s_val _ rfl rfl (.bool false) rfl ?_
            refine nr ?_; intro U h; simp only [z0, z1] at h; subst h
            refine s_val _ rfl rfl (.bool false) rfl ?_
            refine nr ?_; intro U h; simp only [z0, z1] at h; subst h
            refine wpList_nil ?_
            refine then_n ?_
            refine wp_ret ?_
            refine bodyPost_ret (results_tmp Try.results28 _ _ _) rfl ?_
            first | exact ⟨congrArg (fun b => Ending.returned (.bool b)) (same_ltr hne), GG⟩ | exact ⟨congrArg (fun b => Ending.returned (.bool b)) (same_lids hne), GG⟩ | exact ⟨by simp only [sameK, sameB] at *; simp [*], GG⟩
          refine s_val 77 rfl rfl (.bool true) (rfl) ?_
          refine nr ?_; intro U h; simp only [z0, z1] at h; subst h
          refine s_val 78 rfl rfl (.bool true) (rfl) ?_
          refine nr ?_; intro U h; simp only [z0, z1] at h; subst h
          refine s_gvalY 79 rfl rfl y19 rfl (.pointer (some ⟨g1, 19, none⟩)) (run_fld 65 _ 3 rfl _ _ rfl _ (by kernel_rfl)) ?_
          refine nr ?_; intro U h; simp only [z0, z1] at h; subst h
          refine s_gvalY 80 rfl rfl y19 rfl (.agg (c24 f.a)) (run_lda 24 _ rfl g1 19 16 rfl 65 _ kg1 _ Try.underlying24 rfl si24 (Nat.le_of_ble_eq_true rfl) _ (by kernel_rfl)) ?_
          refine nr ?_; intro U h; simp only [z0, z1] at h; subst h
          refine s_gvalY 81 rfl rfl y19 rfl (.pointer (some ⟨g2, 19, none⟩)) (run_fld 65 _ 3 rfl _ _ rfl _ (by kernel_rfl)) ?_
          refine nr ?_; intro U h; simp only [z0, z1] at h; subst h
          refine s_gvalY 82 rfl rfl y19 rfl (.agg (c24 g.a)) (run_lda 24 _ rfl g2 19 16 rfl 65 _ kg2 _ Try.underlying24 rfl si24 (Nat.le_of_ble_eq_true rfl) _ (by kernel_rfl)) ?_
          refine nr ?_; intro U h; simp only [z0, z1] at h; subst h
          obtain ⟨p8, hp8⟩ : ∃ p, decide (idL f.a = idL g.a) = p := ⟨_, rfl⟩
          refine s_gvalY 83 rfl rfl y19 rfl (.bool p8) (run_cmpAa .eql 24 _ _ _ rfl _ _ rfl rfl (by kernel_rfl) _ ((eq23 f.a g.a _).trans (by rw [hp8]))) ?_
          refine nr ?_; intro U h; simp only [z0, z1] at h; subst h
          cases p8
          · refine s_val _ rfl rfl (.bool false) rfl ?_
            refine nr ?_; intro U h; simp only [z0, z1] at h; subst h
            refine s_val _ rfl rfl (.bool false) rfl ?_
            refine nr ?_; intro U h; simp only [z0, z1] at h; subst h
            iterate 5 (refine s_skipY _ rfl rfl y26 rfl ?_; refine nr ?_; intro U h; simp only [z0, z1] at h; subst h)
            refine s_val _ rfl rfl (.bool false) rfl ?_
            refine nr ?_; intro U h; simp only [z0, z1] at h; subst h
            refine s_val _ rfl rfl (.bool false) rfl ?_
            refine nr ?_; intro U h; simp only [z0, z1] at h; subst h
            iterate 5 (refine s_skipY _ rfl rfl y33 rfl ?_; refine nr ?_; intro U h; simp only [z0, z1] at h; subst h)
            refine s_val _ rfl rfl (.bool false) rfl ?_
            refine nr ?_; intro U h; simp only [z0, z1] at h; subst h
            refine s_val _ rfl rfl (.bool false) rfl ?_
            refine nr ?_; intro U h; simp only [z0, z1] at h; subst h
            iterate 5 (refine s_skipY _ rfl rfl y40 rfl ?_; refine nr ?_; intro U h; simp only [z0, z1] at h; subst h)
            refine s_val _ rfl rfl (.bool false) rfl ?_
            refine nr ?_; intro U h; simp only [z0, z1] at h; subst h
            refine s_val _ rfl rfl (.bool false) rfl ?_
            refine nr ?_; intro U h; simp only [z0, z1] at h; subst h
            iterate 5 (refine s_skipY _ rfl rfl y47 rfl ?_; refine nr ?_; intro U h; simp only [z0, z1] at h; subst h)
            refine s_val _ rfl rfl (.bool false) rfl ?_
            refine nr ?_; intro U h; simp only [z0, z1] at h; subst h
            refine s_val _ rfl rfl (.bool false) rfl ?_
            refine nr ?_; intro U h; simp only [z0, z1] at h; subst h
            iterate 5 (refine s_skipY _ rfl rfl y54 rfl ?_; refine nr ?_; intro U h; simp only [z0, z1] at h; subst h)
            refine s_val _ rfl rfl (.bool false) rfl ?_
            refine nr ?_; intro U h; simp only [z0, z1] at h; subst h
            refine s_val _ rfl rfl (.bool false) rfl ?_
            refine nr ?_; intro U h; simp only [z0, z1] at h; subst h
            iterate 5 (refine s_skipY _ rfl rfl y61 rfl ?_; refine nr ?_; intro U h; simp only [z0, z1] at h; subst h)
            refine s_val _ rfl rfl (.bool false) rfl ?_
            refine nr ?_; intro U h; simp only [z0, z1] at h; subst h
            refine s_val _ rfl rfl (.bool false) rfl ?_
            refine nr ?_; intro U h; simp only [z0, z1] at h; subst h
            iterate 5 (refine s_skipY _ rfl rfl y68 rfl ?_; refine nr ?_; intro U h; simp only [z0, z1] at h; subst h)
            refine s_val _ rfl rfl (.bool false) rfl ?_
            refine nr ?_; intro U h; simp only [z0, z1] at h; subst h
            refine s_val _ rfl rfl (.bool false) rfl ?_
            refine nr ?_; intro U h; simp only [z0, z1] at h; subst h
            iterate 7 (refine s_skipY _ rfl rfl y75 rfl ?_; refine nr ?_; intro U h; simp only [z0, z1] at h; subst h)
            refine s_val _ rfl rfl (.bool false) rfl ?_
            refine nr ?_; intro U h; simp only [z0, z1] at h; subst h
            refine s_val _ rfl rfl (.bool false) rfl ?_
            refine nr ?_; intro U h; simp only [z0, z1] at h; subst h
            refine wpList_nil ?_
            refine then_n ?_
            refine wp_ret ?_
            refine bodyPost_ret (results_tmp Try.results28 _ _ _) rfl ?_
            first | exact ⟨congrArg (fun b => Ending.returned (.bool b)) (same_ltr hne), GG⟩ | exact ⟨congrArg (fun b => Ending.returned (.bool b)) (same_lids hne), GG⟩ | exact ⟨by simp only [sameK, sameB] at *; simp [*], GG⟩
          refine s_val 84 rfl rfl (.bool true) (rfl) ?_
          refine nr ?_; intro U h; simp only [z0, z1] at h; subst h
          refine s_val 85 rfl rfl (.bool true) (rfl) ?_
          refine nr ?_; intro U h; simp only [z0, z1] at h; subst h
          refine s_gvalY 86 rfl rfl y26 rfl (.pointer (some ⟨g1, 35, none⟩)) (run_fld 65 _ 4 rfl _ _ rfl _ (by kernel_rfl)) ?_
          refine nr ?_; intro U h; simp only [z0, z1] at h; subst h
          refine s_gvalY 87 rfl rfl y26 rfl (.agg (c24 f.b)) (run_lda 24 _ rfl g1 35 16 rfl 65 _ kg1 _ Try.underlying24 rfl si24 (Nat.le_of_ble_eq_true rfl) _ (by kernel_rfl)) ?_
          refine nr ?_; intro U h; simp only [z0, z1] at h; subst h
          refine s_gvalY 88 rfl rfl y26 rfl (.pointer (some ⟨g2, 35, none⟩)) (run_fld 65 _ 4 rfl _ _ rfl _ (by kernel_rfl)) ?_
          refine nr ?_; intro U h; simp only [z0, z1] at h; subst h
          refine s_gvalY 89 rfl rfl y26 rfl (.agg (c24 g.b)) (run_lda 24 _ rfl g2 35 16 rfl 65 _ kg2 _ Try.underlying24 rfl si24 (Nat.le_of_ble_eq_true rfl) _ (by kernel_rfl)) ?_
          refine nr ?_; intro U h; simp only [z0, z1] at h; subst h
          obtain ⟨p9, hp9⟩ : ∃ p, decide (idL f.b = idL g.b) = p := ⟨_, rfl⟩
          refine s_gvalY 90 rfl rfl y26 rfl (.bool p9) (run_cmpAa .eql 24 _ _ _ rfl _ _ rfl rfl (by kernel_rfl) _ ((eq23 f.b g.b _).trans (by rw [hp9]))) ?_
          refine nr ?_; intro U h; simp only [z0, z1] at h; subst h
          cases p9
          · refine s_val _ rfl rfl (.bool false) rfl ?_
            refine nr ?_; intro U h; simp only [z0, z1] at h; subst h
            refine s_val _ rfl rfl (.bool false) rfl ?_
            refine nr ?_; intro U h; simp only [z0, z1] at h; subst h
            iterate 5 (refine s_skipY _ rfl rfl y33 rfl ?_; refine nr ?_; intro U h; simp only [z0, z1] at h; subst h)
            refine s_val _ rfl rfl (.bool false) rfl ?_
            refine nr ?_; intro U h; simp only [z0, z1] at h; subst h
            refine s_val _ rfl rfl (.bool false) rfl ?_
            refine nr ?_; intro U h; simp only [z0, z1] at h; subst h
            iterate 5 (refine s_skipY _ rfl rfl y40 rfl ?_; refine nr ?_; intro U h; simp only [z0, z1] at h; subst h)
            refine s_val _ rfl rfl (.bool false) rfl ?_
            refine nr ?_; intro U h; simp only [z0, z1] at h; subst h
            refine s_val _ rfl rfl (.bool false) rfl ?_
            refine nr ?_; intro U h; simp only [z0, z1] at h; subst h
            iterate 5 (refine s_skipY _ rfl rfl y47 rfl ?_; refine nr ?_; intro U h; simp only [z0, z1] at h; subst h)
            refine s_val _ rfl rfl (.bool false) rfl ?_
            refine nr ?_; intro U h; simp only [z0, z1] at h; subst h
            refine s_val _ rfl rfl (.bool false) rfl ?_
            refine nr ?_; intro U h; simp only [z0, z1] at h; subst h
            iterate 5 (refine s_skipY _ rfl rfl y54 rfl ?_; refine nr ?_; intro U h; simp only [z0, z1] at h; subst h)
            refine s_val _ rfl rfl (.bool false) rfl ?_
            refine nr ?_; intro U h; simp only [z0, z1] at h; subst h
            refine s_val _ rfl rfl (.bool false) rfl ?_
            refine nr ?_; intro U h; simp only [z0, z1] at h; subst h
            iterate 5 (refine s_skipY _ rfl rfl y61 rfl ?_; refine nr ?_; intro U h; simp only [z0, z1] at h; subst h)
            refine s_val _ rfl rfl (.bool false) rfl ?_
            refine nr ?_; intro U h; simp only [z0, z1] at h; subst h
            refine s_val _ rfl rfl (.bool false) rfl ?_
            refine nr ?_; intro U h; simp only [z0, z1] at h; subst h
            iterate 5 (refine s_skipY _ rfl rfl y68 rfl ?_; refine nr ?_; intro U h; simp only [z0, z1] at h; subst h)
            refine s_val _ rfl rfl (.bool false) rfl ?_
            refine nr ?_; intro U h; simp only [z0, z1] at h; subst h
            refine s_val _ rfl rfl (.bool false) rfl ?_
            refine nr ?_; intro U h; simp only [z0, z1] at h; subst h
            iterate 7 (refine s_skipY _ rfl rfl y75 rfl ?_; refine nr ?_; intro U h; simp only [z0, z1] at h; subst h)
            refine s_val _ rfl rfl (.bool false) rfl ?_
            refine nr ?_; intro U h; simp only [z0, z1] at h; subst h
            refine s_val _ rfl rfl (.bool false) rfl ?_
            refine nr ?_; intro U h; simp only [z0, z1] at h; subst h
            refine wpList_nil ?_
            refine then_n ?_
            refine wp_ret ?_
            refine bodyPost_ret (results_tmp Try.results28 _ _ _) rfl ?_
            first | exact ⟨congrArg (fun b => Ending.returned (.bool b)) (same_ltr hne), GG⟩ | exact ⟨congrArg (fun b => Ending.returned (.bool b)) (same_lids hne), GG⟩ | exact ⟨by simp only [sameK, sameB] at *; simp [*], GG⟩
          refine s_val 91 rfl rfl (.bool true) (rfl) ?_
          refine nr ?_; intro U h; simp only [z0, z1] at h; subst h
          refine s_val 92 rfl rfl (.bool true) (rfl) ?_
          refine nr ?_; intro U h; simp only [z0, z1] at h; subst h
          refine s_gvalY 93 rfl rfl y33 rfl (.pointer (some ⟨g1, 51, none⟩)) (run_fld 65 _ 5 rfl _ _ rfl _ (by kernel_rfl)) ?_
          refine nr ?_; intro U h; simp only [z0, z1] at h; subst h
          refine s_gvalY 94 rfl rfl y33 rfl (.int .i64 f.n) (run_ldc 2 _ rfl g1 51 rfl 65 _ kg1 (na2a _) _ rfl) ?_
          refine nr ?_; intro U h; simp only [z0, z1] at h; subst h
          refine s_gvalY 95 rfl rfl y33 rfl (.pointer (some ⟨g2, 51, none⟩)) (run_fld 65 _ 5 rfl _ _ rfl _ (by kernel_rfl)) ?_
          refine nr ?_; intro U h; simp only [z0, z1] at h; subst h
          refine s_gvalY 96 rfl rfl y33 rfl (.int .i64 g.n) (run_ldc 2 _ rfl g2 51 rfl 65 _ kg2 (na2a _) _ rfl) ?_
          refine nr ?_; intro U h; simp only [z0, z1] at h; subst h
          obtain ⟨p10, hp10⟩ : ∃ p, decide (f.n = g.n) = p := ⟨_, rfl⟩
          refine s_gvalY 97 rfl rfl y33 rfl (.bool p10) (run_eq_k 2 .i64 _ _ _ rfl Try.underlying2 f.n g.n rfl rfl p10 hp10 _) ?_
          refine nr ?_; intro U h; simp only [z0, z1] at h; subst h
          cases p10
          · refine s_val _ rfl rfl (.bool false) rfl ?_
            refine nr ?_; intro U h; simp only [z0, z1] at h; subst h
            refine s_val _ rfl rfl (.bool false) rfl ?_
            refine nr ?_; intro U h; simp only [z0, z1] at h; subst h
            iterate 5 (refine s_skipY _ rfl rfl y40 rfl ?_; refine nr ?_; intro U h; simp only [z0, z1] at h; subst h)
            refine s_val _ rfl rfl (.bool false) rfl ?_
            refine nr ?_; intro U h; simp only [z0, z1] at h; subst h
            refine s_val _ rfl rfl (.bool false) rfl ?_
            refine nr ?_; intro U h; simp only [z0, z1] at h; subst h
            iterate 5 (refine s_skipY _ rfl rfl y47 rfl ?_; refine nr ?_; intro U h; simp only [z0, z1] at h; subst h)
            refine s_val _ rfl rfl (.bool false) rfl ?_
            refine nr ?_; intro U h; simp only [z0, z1] at h; subst h
            refine s_val _ rfl rfl (.bool false) rfl ?_
            refine nr ?_; intro U h; simp only [z0, z1] at h; subst h
            iterate 5 (refine s_skipY _ rfl rfl y54 rfl ?_; refine nr ?_; intro U h; simp only [z0, z1] at h; subst h)
            refine s_val _ rfl rfl (.bool false) rfl ?_
            refine nr ?_; intro U h; simp only [z0, z1] at h; subst h
            refine s_val _ rfl rfl (.bool false) rfl ?_
            refine nr ?_; intro U h; simp only [z0, z1] at h; subst h
            iterate 5 (refine s_skipY _ rfl rfl y61 rfl ?_; refine nr ?_; intro U h; simp only [z0, z1] at h; subst h)
            refine s_val _ rfl rfl (.bool false) rfl ?_
            refine nr ?_; intro U h; simp only [z0, z1] at h; subst h
            refine s_val _ rfl rfl (.bool false) rfl ?_
            refine nr ?_; intro U h; simp only [z0, z1] at h; subst h
            iterate 5 (refine s_skipY _ rfl rfl y68 rfl ?_; refine nr ?_; intro U h; simp only [z0, z1] at h; subst h)
            refine s_val _ rfl rfl (.bool false) rfl ?_
            refine nr ?_; intro U h; simp only [z0, z1] at h; subst h
            refine s_val _ rfl rfl (.bool false) rfl ?_
            refine nr ?_; intro U h; simp only [z0, z1] at h; subst h
            iterate 7 (refine s_skipY _ rfl rfl y75 rfl ?_; refine nr ?_; intro U h; simp only [z0, z1] at h; subst h)
            refine s_val _ rfl rfl (.bool false) rfl ?_
            refine nr ?_; intro U h; simp only [z0, z1] at h; subst h
            refine s_val _ rfl rfl (.bool false) rfl ?_
            refine nr ?_; intro U h; simp only [z0, z1] at h; subst h
            refine wpList_nil ?_
            refine then_n ?_
            refine wp_ret ?_
            refine bodyPost_ret (results_tmp Try.results28 _ _ _) rfl ?_
            first | exact ⟨congrArg (fun b => Ending.returned (.bool b)) (same_ltr hne), GG⟩ | exact ⟨congrArg (fun b => Ending.returned (.bool b)) (same_lids hne), GG⟩ | exact ⟨by simp only [sameK, sameB] at *; simp [*], GG⟩
          refine s_val 98 rfl rfl (.bool true) (rfl) ?_
          refine nr ?_; intro U h; simp only [z0, z1] at h; subst h
          refine s_val 99 rfl rfl (.bool true) (rfl) ?_
          refine nr ?_; intro U h; simp only [z0, z1] at h; subst h
          refine s_gvalY 100 rfl rfl y40 rfl (.pointer (some ⟨g1, 52, none⟩)) (run_fld 65 _ 6 rfl _ _ rfl _ (by kernel_rfl)) ?_
          refine nr ?_; intro U h; simp only [z0, z1] at h; subst h
          refine s_gvalY 101 rfl rfl y40 rfl (.agg (c56 f.fi f.fn)) (run_lda 56 _ rfl g1 52 2 rfl 65 _ kg1 _ Try.underlying56 rfl si56 (Nat.le_of_ble_eq_true rfl) _ (by kernel_rfl)) ?_
          refine nr ?_; intro U h; simp only [z0, z1] at h; subst h
          refine s_gvalY 102 rfl rfl y40 rfl (.pointer (some ⟨g2, 52, none⟩)) (run_fld 65 _ 6 rfl _ _ rfl _ (by kernel_rfl)) ?_
          refine nr ?_; intro U h; simp only [z0, z1] at h; subst h
          refine s_gvalY 103 rfl rfl y40 rfl (.agg (c56 g.fi g.fn)) (run_lda 56 _ rfl g2 52 2 rfl 65 _ kg2 _ Try.underlying56 rfl si56 (Nat.le_of_ble_eq_true rfl) _ (by kernel_rfl)) ?_
          refine nr ?_; intro U h; simp only [z0, z1] at h; subst h
          obtain ⟨p11, hp11⟩ : ∃ p, (decide (f.fi = g.fi) && decide (f.fn = g.fn)) = p := ⟨_, rfl⟩
          refine s_gvalY 104 rfl rfl y40 rfl (.bool p11) (run_cmpAa .eql 56 _ _ _ rfl _ _ rfl rfl (by kernel_rfl) _ ((eq27 f.fi g.fi f.fn g.fn _).trans (by rw [hp11]))) ?_
          refine nr ?_; intro U h; simp only [z0, z1] at h; subst h
          cases p11
          · refine s_val _ rfl rfl (.bool false) rfl ?_
            refine nr ?_; intro U h; simp only [z0, z1] at h; subst h
            refine s_val _ rfl rfl (.bool false) rfl ?_
            refine nr ?_; intro U h; simp only [z0, z1] at h; subst h
            iterate 5 (refine s_skipY _ rfl rfl y47 rfl ?_; refine nr ?_; intro U h; simp only [z0, z1] at h; subst h)
            refine s_val _ rfl rfl (.bool false) rfl ?_
            refine nr ?_; intro U h; simp only [z0, z1] at h; subst h
            refine s_val _ rfl rfl (.bool false) rfl ?_
            refine nr ?_; intro U h; simp only [z0, z1] at h; subst h
            iterate 5 (refine s_skipY _ rfl rfl y54 rfl ?_; refine nr ?_; intro U h; simp only [z0, z1] at h; subst h)
            refine s_val _ rfl rfl (.bool false) rfl ?_
            refine nr ?_; intro U h; simp only [z0, z1] at h; subst h
            refine s_val _ rfl rfl (.bool false) rfl ?_
            refine nr ?_; intro U h; simp only [z0, z1] at h; subst h
            iterate 5 (refine s_skipY _ rfl rfl y61 rfl ?_; refine nr ?_; intro U h; simp only [z0, z1] at h; subst h)
            refine s_val _ rfl rfl (.bool false) rfl ?_
            refine nr ?_; intro U h; simp only [z0, z1] at h; subst h
            refine s_val _ rfl rfl (.bool false) rfl ?_
            refine nr ?_; intro U h; simp only [z0, z1] at h; subst h
            iterate 5 (refine s_skipY _ rfl rfl y68 rfl ?_; refine nr ?_; intro U h; simp only [z0, z1] at h; subst h)
            refine s_val _ rfl rfl (.bool false) rfl ?_
            refine nr ?_; intro U h; simp only [z0, z1] at h; subst h
            refine s_val _ rfl rfl (.bool false) rfl ?_
            refine nr ?_; intro U h; simp only [z0, z1] at h; subst h
            iterate 7 (refine s_skipY _ rfl rfl y75 rfl ?_; refine nr ?_; intro U h; simp only [z0, z1] at h; subst h)
            refine s_val _ rfl rfl (.bool false) rfl ?_
            refine nr ?_; intro U h; simp only [z0, z1] at h; subst h
            refine s_val _ rfl rfl (.bool false) rfl ?_
            refine nr ?_; intro U h; simp only [z0, z1] at h; subst h
            refine wpList_nil ?_
            refine then_n ?_
            refine wp_ret ?_
            refine bodyPost_ret (results_tmp Try.results28 _ _ _) rfl ?_
            first | exact ⟨congrArg (fun b => Ending.returned (.bool b)) (same_ltr hne), GG⟩ | exact ⟨congrArg (fun b => Ending.returned (.bool b)) (same_lids hne), GG⟩ | exact ⟨by simp only [sameK, sameB] at *; simp [*], GG⟩
          refine s_val 105 rfl rfl (.bool true) (rfl) ?_
          refine nr ?_; intro U h; simp only [z0, z1] at h; subst h
          refine s_val 106 rfl rfl (.bool true) (rfl) ?_
          refine nr ?_; intro U h; simp only [z0, z1] at h; subst h
          refine s_gvalY 107 rfl rfl y47 rfl (.pointer (some ⟨g1, 54, none⟩)) (run_fld 65 _ 7 rfl _ _ rfl _ (by kernel_rfl)) ?_
          refine nr ?_; intro U h; simp only [z0, z1] at h; subst h
          refine s_gvalY 108 rfl rfl y47 rfl (.agg (c56 f.ti f.tn)) (run_lda 56 _ rfl g1 54 2 rfl 65 _ kg1 _ Try.underlying56 rfl si56 (Nat.le_of_ble_eq_true rfl) _ (by kernel_rfl)) ?_
          refine nr ?_; intro U h; simp only [z0, z1] at h; subst h
          refine s_gvalY 109 rfl rfl y47 rfl (.pointer (some ⟨g2, 54, none⟩)) (run_fld 65 _ 7 rfl _ _ rfl _ (by kernel_rfl)) ?_
          refine nr ?_; intro U h; simp only [z0, z1] at h; subst h
          refine s_gvalY 110 rfl rfl y47 rfl (.agg (c56 g.ti g.tn)) (run_lda 56 _ rfl g2 54 2 rfl 65 _ kg2 _ Try.underlying56 rfl si56 (Nat.le_of_ble_eq_true rfl) _ (by kernel_rfl)) ?_
          refine nr ?_; intro U h; simp only [z0, z1] at h; subst h
          obtain ⟨p12, hp12⟩ : ∃ p, (decide (f.ti = g.ti) && decide (f.tn = g.tn)) = p := ⟨_, rfl⟩
          refine s_gvalY 111 rfl rfl y47 rfl (.bool p12) (run_cmpAa .eql 56 _ _ _ rfl _ _ rfl rfl (by kernel_rfl) _ ((eq27 f.ti g.ti f.tn g.tn _).trans (by rw [hp12]))) ?_
          refine nr ?_; intro U h; simp only [z0, z1] at h; subst h
          cases p12
          · refine s_val _ rfl rfl (.bool false) rfl ?_
            refine nr ?_; intro U h; simp only [z0, z1] at h; subst h
            refine s_val _ rfl rfl (.bool false) rfl ?_
            refine nr ?_; intro U h; simp only [z0, z1] at h; subst h
            iterate 5 (refine s_skipY _ rfl rfl y54 rfl ?_; refine nr ?_; intro U h; simp only [z0, z1] at h; subst h)
            refine s_val _ rfl rfl (.bool false) rfl ?_
            refine nr ?_; intro U h; simp only [z0, z1] at h; subst h
            refine s_val _ rfl rfl (.bool false) rfl ?_
            refine nr ?_; intro U h; simp only [z0, z1] at h; subst h
            iterate 5 (refine s_skipY _ rfl rfl y61 rfl ?_; refine nr ?_; intro U h; simp only [z0, z1] at h; subst h)
            refine s_val _ rfl rfl (.bool false) rfl ?_
            refine nr ?_; intro U h; simp only [z0, z1] at h; subst h
            refine s_val _ rfl rfl (.bool false) rfl ?_
            refine nr ?_; intro U h; simp only [z0, z1] at h; subst h
            iterate 5 (refine s_skipY _ rfl rfl y68 rfl ?_; refine nr ?_; intro U h; simp only [z0, z1] at h; subst h)
            refine s_val _ rfl rfl (.bool false) rfl ?_
            refine nr ?_; intro U h; simp only [z0, z1] at h; subst h
            refine s_val _ rfl rfl (.bool false) rfl ?_
            refine nr ?_; intro U h; simp only [z0, z1] at h; subst h
            iterate 7 (refine s_skipY _ rfl rfl y75 rfl ?_; refine nr ?_; intro U h; simp only [z0, z1] at h; subst h)
            refine s_val _ rfl rfl (.bool false) rfl ?_
            refine nr ?_; intro U h; simp only [z0, z1] at h; subst h
            refine s_val _ rfl rfl (.bool false) rfl ?_
            refine nr ?_; intro U h; simp only [z0, z1] at h; subst h
            refine wpList_nil ?_
            refine then_n ?_
            refine wp_ret ?_
            refine bodyPost_ret (results_tmp Try.results28 _ _ _) rfl ?_
            first | exact ⟨congrArg (fun b => Ending.returned (.bool b)) (same_ltr hne), GG⟩ | exact ⟨congrArg (fun b => Ending.returned (.bool b)) (same_lids hne), GG⟩ | exact ⟨by simp only [sameK, sameB] at *; simp [*], GG⟩
          refine s_val 112 rfl rfl (.bool true) (rfl) ?_
          refine nr ?_; intro U h; simp only [z0, z1] at h; subst h
          refine s_val 113 rfl rfl (.bool true) (rfl) ?_
          refine nr ?_; intro U h; simp only [z0, z1] at h; subst h
          refine s_gvalY 114 rfl rfl y54 rfl (.pointer (some ⟨g1, 58, none⟩)) (run_fld 65 _ 10 rfl _ _ rfl _ (by kernel_rfl)) ?_
          refine nr ?_; intro U h; simp only [z0, z1] at h; subst h
          refine s_gvalY 115 rfl rfl y54 rfl (.agg (c63 f.key f.vn f.vw f.val)) (run_lda 63 _ rfl g1 58 34 rfl 65 _ kg1 _ Try.underlying63 rfl si63 (Nat.le_of_ble_eq_true rfl) _ (by kernel_rfl)) ?_
          refine nr ?_; intro U h; simp only [z0, z1] at h; subst h
          refine s_gvalY 116 rfl rfl y54 rfl (.pointer (some ⟨g2, 58, none⟩)) (run_fld 65 _ 10 rfl _ _ rfl _ (by kernel_rfl)) ?_
          refine nr ?_; intro U h; simp only [z0, z1] at h; subst h
          refine s_gvalY 117 rfl rfl y54 rfl (.agg (c63 g.key g.vn g.vw g.val)) (run_lda 63 _ rfl g2 58 34 rfl 65 _ kg2 _ Try.underlying63 rfl si63 (Nat.le_of_ble_eq_true rfl) _ (by kernel_rfl)) ?_
          refine nr ?_; intro U h; simp only [z0, z1] at h; subst h
          obtain ⟨p13, hp13⟩ : ∃ p, itemB f g df dg = p := ⟨_, rfl⟩
          have HC := sameItem_d f g df dg wv (HF.gro GG) (HG.gro GG)
          rw [hp13] at HC
          refine s_gcallvY 118 rfl rfl y54 rfl _ 41 Try.call41 rfl rfl _ rfl [.agg (c63 f.key f.vn f.vw f.val), .agg (c63 g.key g.vn g.vw g.val)] rfl (HC) ?_
          intro w3 G
          replace kg1 := G.has kg1
          replace kg2 := G.has kg2
          replace GG := GG.trans G
          clear G
          refine nr ?_; intro U h; simp only [z0, z1] at h; subst h
          clear HC
          cases p13
          · refine s_val _ rfl rfl (.bool false) rfl ?_
            refine nr ?_; intro U h; simp only [z0, z1] at h; subst h
            refine s_val _ rfl rfl (.bool false) rfl ?_
            refine nr ?_; intro U h; simp only [z0, z1] at h; subst h
            iterate 5 (refine s_skipY _ rfl rfl y61 rfl ?_; refine nr ?_; intro U h; simp only [z0, z1] at h; subst h)
            refine s_val _ rfl rfl (.bool false) rfl ?_
            refine nr ?_; intro U h; simp only [z0, z1] at h; subst h
            refine s_val _ rfl rfl (.bool false) rfl ?_
            refine nr ?_; intro U h; simp only [z0, z1] at h; subst h
            iterate 5 (refine s_skipY _ rfl rfl y68 rfl ?_; refine nr ?_; intro U h; simp only [z0, z1] at h; subst h)
            refine s_val _ rfl rfl (.bool false) rfl ?_
            refine nr ?_; intro U h; simp only [z0, z1] at h; subst h
            refine s_val _ rfl rfl (.bool false) rfl ?_
            refine nr ?_; intro U h; simp only [z0, z1] at h; subst h
            iterate 7 (refine s_skipY _ rfl rfl y75 rfl ?_; refine nr ?_; intro U h; simp only [z0, z1] at h; subst h)
            refine s_val _ rfl rfl (.bool false) rfl ?_
            refine nr ?_; intro U h; simp only [z0, z1] at h; subst h
            refine s_val _ rfl rfl (.bool false) rfl ?_
            refine nr ?_; intro U h; simp only [z0, z1] at h; subst h
            refine wpList_nil ?_
            refine then_n ?_
            refine wp_ret ?_
            refine bodyPost_ret (results_tmp Try.results28 _ _ _) rfl ?_
            first | exact ⟨congrArg (fun b => Ending.returned (.bool b)) (same_ltr hne), GG⟩ | exact ⟨congrArg (fun b => Ending.returned (.bool b)) (same_lids hne), GG⟩ | exact ⟨by simp only [sameK, sameB, itemB] at *; simp [*], GG⟩
          refine s_val 119 rfl rfl (.bool true) (rfl) ?_
          refine nr ?_; intro U h; simp only [z0, z1] at h; subst h
          refine s_val 120 rfl rfl (.bool true) (rfl) ?_
          refine nr ?_; intro U h; simp only [z0, z1] at h; subst h
          refine s_gvalY 121 rfl rfl y61 rfl (.pointer (some ⟨g1, 92, none⟩)) (run_fld 65 _ 11 rfl _ _ rfl _ (by kernel_rfl)) ?_
          refine nr ?_; intro U h; simp only [z0, z1] at h; subst h
          refine s_gvalY 122 rfl rfl y61 rfl (.int .i64 f.op) (run_ldc 3 _ rfl g1 92 rfl 65 _ kg1 (na3 _) _ rfl) ?_
          refine nr ?_; intro U h; simp only [z0, z1] at h; subst h
          refine s_gvalY 123 rfl rfl y61 rfl (.pointer (some ⟨g2, 92, none⟩)) (run_fld 65 _ 11 rfl _ _ rfl _ (by kernel_rfl)) ?_
          refine nr ?_; intro U h; simp only [z0, z1] at h; subst h
          refine s_gvalY 124 rfl rfl y61 rfl (.int .i64 g.op) (run_ldc 3 _ rfl g2 92 rfl 65 _ kg2 (na3 _) _ rfl) ?_
          refine nr ?_; intro U h; simp only [z0, z1] at h; subst h
          obtain ⟨p14, hp14⟩ : ∃ p, decide (f.op = g.op) = p := ⟨_, rfl⟩
          refine s_gvalY 125 rfl rfl y61 rfl (.bool p14) (run_eq_k 3 .i64 _ _ _ rfl Try.underlying3 f.op g.op rfl rfl p14 hp14 _) ?_
          refine nr ?_; intro U h; simp only [z0, z1] at h; subst h
          cases p14
          · refine s_val _ rfl rfl (.bool false) rfl ?_
            refine nr ?_; intro U h; simp only [z0, z1] at h; subst h
            refine s_val _ rfl rfl (.bool false) rfl ?_
            refine nr ?_; intro U h; simp only [z0, z1] at h; subst h
            iterate 5 (refine s_skipY _ rfl rfl y68 rfl ?_; refine nr ?_; intro U h; simp only [z0, z1] at h; subst h)
            refine s_val _ rfl rfl (.bool false) rfl ?_
            refine nr ?_; intro U h; simp only [z0, z1] at h; subst h
            refine s_val _ rfl rfl (.bool false) rfl ?_
            refine nr ?_; intro U h; simp only [z0, z1] at h; subst h
            iterate 7 (refine s_skipY _ rfl rfl y75 rfl ?_; refine nr ?_; intro U h; simp only [z0, z1] at h; subst h)
            refine s_val _ rfl rfl (.bool false) rfl ?_
            refine nr ?_; intro U h; simp only [z0, z1] at h; subst h
            refine s_val _ rfl rfl (.bool false) rfl ?_
            refine nr ?_; intro U h; simp only [z0, z1] at h; subst h
            refine wpList_nil ?_
            refine then_n ?_
            refine wp_ret ?_
            refine bodyPost_ret (results_tmp Try.results28 _ _ _) rfl ?_
            first | exact ⟨congrArg (fun b => Ending.returned (.bool b)) (same_ltr hne), GG⟩ | exact ⟨congrArg (fun b => Ending.returned (.bool b)) (same_lids hne), GG⟩ | exact ⟨by simp only [sameK, sameB, itemB] at *; simp [*], GG⟩
          refine s_val 126 rfl rfl (.bool true) (rfl) ?_
          refine nr ?_; intro U h; simp only [z0, z1] at h; subst h
          refine s_val 127 rfl rfl (.bool true) (rfl) ?_
          refine nr ?_; intro U h; simp only [z0, z1] at h; subst h
          refine s_gvalY 128 rfl rfl y68 rfl (.pointer (some ⟨g1, 93, none⟩)) (run_fld 65 _ 12 rfl _ _ rfl _ (by kernel_rfl)) ?_
          refine nr ?_; intro U h; simp only [z0, z1] at h; subst h
          refine s_gvalY 129 rfl rfl y68 rfl (.int .i64 f.ttl) (run_ldc 3 _ rfl g1 93 rfl 65 _ kg1 (na3 _) _ rfl) ?_
          refine nr ?_; intro U h; simp only [z0, z1] at h; subst h
          refine s_gvalY 130 rfl rfl y68 rfl (.pointer (some ⟨g2, 93, none⟩)) (run_fld 65 _ 12 rfl _ _ rfl _ (by kernel_rfl)) ?_
          refine nr ?_; intro U h; simp only [z0, z1] at h; subst h
          refine s_gvalY 131 rfl rfl y68 rfl (.int .i64 g.ttl) (run_ldc 3 _ rfl g2 93 rfl 65 _ kg2 (na3 _) _ rfl) ?_
          refine nr ?_; intro U h; simp only [z0, z1] at h; subst h
          obtain ⟨p15, hp15⟩ : ∃ p, decide (f.ttl = g.ttl) = p := ⟨_, rfl⟩
          refine s_gvalY 132 rfl rfl y68 rfl (.bool p15) (run_eq_k 3 .i64 _ _ _ rfl Try.underlying3 f.ttl g.ttl rfl rfl p15 hp15 _) ?_
          refine nr ?_; intro U h; simp only [z0, z1] at h; subst h
          cases p15
          · refine s_val _ rfl rfl (.bool false) rfl ?_
            refine nr ?_; intro U h; simp only [z0, z1] at h; subst h
            refine s_val _ rfl rfl (.bool false) rfl ?_
            refine nr ?_; intro U h; simp only [z0, z1] at h; subst h
            iterate 7 (refine s_skipY _ rfl rfl y75 rfl ?_; refine nr ?_; intro U h; simp only [z0, z1] at h; subst h)
            refine s_val _ rfl rfl (.bool false) rfl ?_
            refine nr ?_; intro U h; simp only [z0, z1] at h; subst h
            refine s_val _ rfl rfl (.bool false) rfl ?_
            refine nr ?_; intro U h; simp only [z0, z1] at h; subst h
            refine wpList_nil ?_
            refine then_n ?_
            refine wp_ret ?_
            refine bodyPost_ret (results_tmp Try.results28 _ _ _) rfl ?_
            first | exact ⟨congrArg (fun b => Ending.returned (.bool b)) (same_ltr hne), GG⟩ | exact ⟨congrArg (fun b => Ending.returned (.bool b)) (same_lids hne), GG⟩ | exact ⟨by simp only [sameK, sameB, itemB] at *; simp [*], GG⟩
          refine s_val 133 rfl rfl (.bool true) (rfl) ?_
          refine nr ?_; intro U h; simp only [z0, z1] at h; subst h
          refine s_val 134 rfl rfl (.bool true) (rfl) ?_
          refine nr ?_; intro U h; simp only [z0, z1] at h; subst h
          refine s_gvalY 135 rfl rfl y75 rfl (.pointer (some ⟨g1, 94, none⟩)) (run_fld 65 _ 13 rfl _ _ rfl _ (by kernel_rfl)) ?_
          refine nr ?_; intro U h; simp only [z0, z1] at h; subst h
          refine s_gvalY 136 rfl rfl y75 rfl (.slice f.tx.ao f.tx.n f.tx.cap) (run_ldc 61 _ rfl g1 94 rfl 65 _ kg1 (na61 _) _ rfl) ?_
          refine nr ?_; intro U h; simp only [z0, z1] at h; subst h
          refine s_gvalY 137 rfl rfl y75 rfl (.string (bas df.tx)) (run_text_op bT 9 Try.underlying9 _ rfl (l := df.tx) (by rw [← lfx]; rfl) (xc_nc (HF.gro GG).tx HF.otx)) ?_
          refine nr ?_; intro U h; simp only [z0, z1] at h; subst h
          refine s_gvalY 138 rfl rfl y75 rfl (.pointer (some ⟨g2, 94, none⟩)) (run_fld 65 _ 13 rfl _ _ rfl _ (by kernel_rfl)) ?_
          refine nr ?_; intro U h; simp only [z0, z1] at h; subst h
          refine s_gvalY 139 rfl rfl y75 rfl (.slice g.tx.ao g.tx.n g.tx.cap) (run_ldc 61 _ rfl g2 94 rfl 65 _ kg2 (na61 _) _ rfl) ?_
          refine nr ?_; intro U h; simp only [z0, z1] at h; subst h
          refine s_gvalY 140 rfl rfl y75 rfl (.string (bas dg.tx)) (run_text_op bT 9 Try.underlying9 _ rfl (l := dg.tx) (by rw [← lgx]; rfl) (xc_nc (HG.gro GG).tx HG.otx)) ?_
          refine nr ?_; intro U h; simp only [z0, z1] at h; subst h
          obtain ⟨p16, hp16⟩ : ∃ p, decide (df.tx = dg.tx) = p := ⟨_, rfl⟩
          refine s_gvalY 141 rfl rfl y75 rfl (.bool p16) (run_eqs_op _ _ _ rfl _ _ rfl rfl p16 ((bas_dec HF.otx HG.otx).trans hp16) _) ?_
          refine nr ?_; intro U h; simp only [z0, z1] at h; subst h
          cases p16
          · refine s_val _ rfl rfl (.bool false) rfl ?_
            refine nr ?_; intro U h; simp only [z0, z1] at h; subst h
            refine s_val _ rfl rfl (.bool false) rfl ?_
            refine nr ?_; intro U h; simp only [z0, z1] at h; subst h
            refine wpList_nil ?_
            refine then_n ?_
            refine wp_ret ?_
            refine bodyPost_ret (results_tmp Try.results28 _ _ _) rfl ?_
            first | exact ⟨congrArg (fun b => Ending.returned (.bool b)) (same_ltr hne), GG⟩ | exact ⟨congrArg (fun b => Ending.returned (.bool b)) (same_lids hne), GG⟩ | exact ⟨by simp only [sameK, sameB, itemB] at *; simp [*], GG⟩
          refine s_val 142 rfl rfl (.bool true) (rfl) ?_
          refine nr ?_; intro U h; simp only [z0, z1] at h; subst h
          refine s_val 4 rfl rfl (.bool true) (rfl) ?_
          refine nr ?_; intro U h; simp only [z0, z1] at h; subst h
          refine wpList_nil ?_
          refine then_n ?_
          refine wp_ret ?_
          refine bodyPost_ret (results_tmp Try.results28 _ _ _) rfl ?_
          first | exact ⟨congrArg (fun b => Ending.returned (.bool b)) (same_ltr hne), GG⟩ | exact ⟨congrArg (fun b => Ending.returned (.bool b)) (same_lids hne), GG⟩ | exact ⟨by simp only [sameK, sameB, itemB] at *; simp [*], GG⟩
        have hin : i < df.ids.length := by have := of_decide_eq_true hp4; omega
        obtain ⟨ad, hao⟩ := HF.ids.some (by omega)
        obtain ⟨bd, hbo⟩ := HG.ids.some (by omega)
        have hc1 := cellsI_at df.ids i HF.oids hin
        have hc2 := (HF.oids _ (getD_mem df.ids [] i hin)).1
        have E1c : (((cellsIa df.ids).drop (i * 16)).take 16).toArray = c24 (idF (df.ids.getD i [])) := by rw [hc1, ← bA_c23 hc2]; rfl
        have hc3 := cellsI_at dg.ids i HG.oids (by omega)
        have hc4 := (HG.oids _ (getD_mem dg.ids [] i (by omega))).1
        have E2c : (((cellsIa dg.ids).drop (i * 16)).take 16).toArray = c24 (idF (dg.ids.getD i [])) := by rw [hc3, ← bA_c23 hc4]; rfl
        refine wpList_nil ?_
        refine then_n ?_
        refine wp_cond_true rfl ?_
        refine wp_skip ?_
        refine then_n ?_
        refine wp_seq ?_
        refine wp_block ?_
        refine wp_seq ?_
        refine wp_region_exA (A := ?Ax1) 10 [(0, 48), (1, 49), (2, 50), (3, 51), (4, 52), (5, 53), (6, 54), (7, 55), (8, 56), (9, 57)] [.val (.pointer (some ⟨g1, 57, none⟩)), .val (.slice f.ids.ao f.ids.n f.ids.cap), .val (.int .i64 ((i : Nat) : Int)), .val (.pointer (some (ad.add (i * 16)))), .val (.agg (c24 (idF (df.ids.getD i [])))), .val (.pointer (some ⟨g2, 57, none⟩)), .val (.slice g.ids.ao g.ids.n g.ids.cap), .val (.int .i64 ((i : Nat) : Int)), .val (.pointer (some (bd.add (i * 16)))), .val (.agg (c24 (idF (dg.ids.getD i []))))] follows (by kernel_rfl) rfl ?hAx1 (opsA_cons ?o0x1 (opsA_cons ?o1x1 (opsA_cons ?o2x1 (opsA_cons ?o3x1 (opsA_cons ?o4x1 (opsA_cons ?o5x1 (opsA_cons ?o6x1 (opsA_cons ?o7x1 (opsA_cons ?o8x1 (opsA_cons ?o9x1 opsA_nil)))))))))) ?restx1
        case hAx1 =>
          intro ptrs
          simp only [full, foldSlots, filledE, postE, List.foldl_cons, List.foldl_nil, List.getD_cons_zero, List.getD_cons_succ, fill_val, List.set_cons_zero, List.set_cons_succ]
          exact rfl
        case o0x1 => exact fun _ _ hw _ => opE_value (v := .pointer (some ⟨g1, 57, none⟩)) rfl (run_fld 65 _ 9 rfl _ _ rfl _ (by kernel_rfl))
        case o1x1 => exact fun _ _ hw _ => opE_value (v := .slice f.ids.ao f.ids.n f.ids.cap) rfl (run_ldc 58 _ rfl g1 57 rfl 65 _ (hw.has kg1) (na58 _) _ rfl)
        case o2x1 => exact fun _ _ _ _ => opE_move (v := .int .i64 ((i : Nat) : Int)) _ rfl rfl rfl
        case o3x1 => exact fun _ _ hw _ => opE_value (v := .pointer (some (ad.add (i * 16)))) rfl (run_idxX iT29 _ _ rfl ad f.ids.n f.ids.cap i (by exact congrArg (fun a => Value.slice a f.ids.n f.ids.cap) hao) rfl (by omega) _)
        case o4x1 => exact fun _ _ hw _ => opE_value (v := .agg (c24 (idF (df.ids.getD i [])))) rfl (run_ldXv iT29 _ Try.underlying24 rfl _ rfl ad i rfl _ (by rw [← hao]; exact HF.ids.gro (GG.drew.trans hw)) (by omega) _ E1c)
        case o5x1 => exact fun _ _ hw _ => opE_value (v := .pointer (some ⟨g2, 57, none⟩)) rfl (run_fld 65 _ 9 rfl _ _ rfl _ (by kernel_rfl))
        case o6x1 => exact fun _ _ hw _ => opE_value (v := .slice g.ids.ao g.ids.n g.ids.cap) rfl (run_ldc 58 _ rfl g2 57 rfl 65 _ (hw.has kg2) (na58 _) _ rfl)
        case o7x1 => exact fun _ _ _ _ => opE_move (v := .int .i64 ((i : Nat) : Int)) _ rfl rfl rfl
        case o8x1 => exact fun _ _ hw _ => opE_value (v := .pointer (some (bd.add (i * 16)))) rfl (run_idxX iT29 _ _ rfl bd g.ids.n g.ids.cap i (by exact congrArg (fun a => Value.slice a g.ids.n g.ids.cap) hbo) rfl (by omega) _)
        case o9x1 => exact fun _ _ hw _ => opE_value (v := .agg (c24 (idF (dg.ids.getD i [])))) rfl (run_ldXv iT29 _ Try.underlying24 rfl _ rfl bd i rfl _ (by rw [← hbo]; exact HG.ids.gro (GG.drew.trans hw)) (by omega) _ E2c)
        intro ptrs w3 GD hxE
        simp only [List.drop_succ_cons, List.drop_zero]
        replace kg1 := GD.has kg1
        replace kg2 := GD.has kg2
        replace GG := GG.drew.trans GD
        clear GD
        obtain ⟨p5, hp5⟩ : ∃ p, (!decide (df.ids.getD i [] = dg.ids.getD i [])) = p := ⟨_, rfl⟩
        refine s_val 58 rfl rfl (.bool p5) (run_cmpAa .neq 24 _ _ _ rfl _ _ rfl rfl (by kernel_rfl) _ ((ne23 _ _ _).trans (by rw [idL_idF (HF.oids _ (getD_mem df.ids [] i hin)).1, idL_idF (HG.oids _ (getD_mem dg.ids [] i (by omega))).1, hp5]))) ?_
        refine nr ?_; intro U h; simp only [z0, z1] at h; subst h
        cases p5
        · refine wpList_nil ?_
          refine then_n ?_
          refine wp_cond_false rfl ?_
          refine wp_skip ?_
          refine blk_n ?_
          refine then_n ?_
          refine wp_region_lit ?_
          refine s_val 46 rfl rfl (.int .i64 ((i : Nat) : Int)) (rfl) ?_
          refine nr ?_; intro U h; simp only [z0, z1] at h; subst h
          refine s_val 47 rfl rfl (.int .i64 ((i + 1 : Nat) : Int)) (run_add64 _ _ _ rfl ((i : Nat) : Int) 1 _ rfl rfl (by omega) (by omega) (by omega) _) ?_
          refine nr ?_; intro U h; simp only [z0, z1] at h; subst h
          refine s_val 6 rfl rfl (.int .i64 ((i + 1 : Nat) : Int)) (rfl) ?_
          refine nr ?_; intro U h; simp only [z0, z1] at h; subst h
          refine wpList_nil ?_
          refine then_n ?_
          exact ⟨_, (by omega : df.ids.length - (i + 1) < df.ids.length - i), i + 1, (fun kz => ([us2 0, .int .i64 ((i : Nat) : Int), .pointer (some ⟨g1, 57, none⟩), .slice f.ids.ao f.ids.n f.ids.cap, .int .i64 ((f.ids.n : Nat) : Int), .bool true, .int .i64 ((i : Nat) : Int), .int .i64 ((i + 1 : Nat) : Int), .pointer (some ⟨g1, 57, none⟩), .slice f.ids.ao f.ids.n f.ids.cap, .int .i64 ((i : Nat) : Int), .pointer (some (ad.add (i * 16))), .agg (c24 (idF (df.ids.getD i []))), .pointer (some ⟨g2, 57, none⟩), .slice g.ids.ao g.ids.n g.ids.cap, .int .i64 ((i : Nat) : Int), .pointer (some (bd.add (i * 16))), .agg (c24 (idF (dg.ids.getD i []))), .bool false] : List Value).getD kz undef), rfl, rfl, hin, take_next _ _ [] i hu hin (by omega) (by simpa using hp5), GG, kg1, kg2⟩
        have hne : ¬ df.ids = dg.ids := fun e => by rw [e] at hp5; simp at hp5
        refine wpList_nil ?_
        refine then_n ?_
        refine wp_cond_true rfl ?_
        refine wp_seq ?_
        refine wp_region_lit ?_
        refine s_val 4 rfl rfl (.bool false) (rfl) ?_
        refine nr ?_; intro U h; simp only [z0, z1] at h; subst h
        refine wpList_nil ?_
        refine then_n ?_
        refine wp_ret ?_
        refine blk_r ?_
        refine then_r ?_
        refine then_r ?_
        refine blk_r ?_
        refine then_r ?_
        refine bodyPost_ret (results_tmp Try.results28 _ _ _) rfl ?_
        first | exact ⟨congrArg (fun b => Ending.returned (.bool b)) (same_ltr hne), GG⟩ | exact ⟨congrArg (fun b => Ending.returned (.bool b)) (same_lids hne), GG⟩ | exact ⟨by simp only [sameK, sameB, itemB] at *; simp [htt, huu, *], GG⟩
      have hjn : j < df.tr.length := by have := of_decide_eq_true hp3; omega
      obtain ⟨ad, hao, clA⟩ := xc_at1 (HFt.gro GG) hjn
      obtain ⟨bd, hbo, clB⟩ := xc_at1 (HGt.gro GG) (show j < dg.tr.length by omega)
      refine wpList_nil ?_
      refine then_n ?_
      refine wp_cond_true rfl ?_
      refine wp_skip ?_
      refine then_n ?_
      refine wp_seq ?_
      refine wp_block ?_
      refine wp_seq ?_
      refine wp_region_exA (A := ?Ax2) 10 [(0, 30), (1, 31), (2, 32), (3, 33), (4, 34), (5, 35), (6, 36), (7, 37), (8, 38), (9, 39)] [.val (.pointer (some ⟨g1, 56, none⟩)), .val (.slice f.tr.ao f.tr.n f.tr.cap), .val (.int .i64 ((j : Nat) : Int)), .val (.pointer (some (ad.add j))), .val (.int .i64 (df.tr.getD j 0)), .val (.pointer (some ⟨g2, 56, none⟩)), .val (.slice g.tr.ao g.tr.n g.tr.cap), .val (.int .i64 ((j : Nat) : Int)), .val (.pointer (some (bd.add j))), .val (.int .i64 (dg.tr.getD j 0))] follows (by kernel_rfl) rfl ?hAx2 (opsA_cons ?o0x2 (opsA_cons ?o1x2 (opsA_cons ?o2x2 (opsA_cons ?o3x2 (opsA_cons ?o4x2 (opsA_cons ?o5x2 (opsA_cons ?o6x2 (opsA_cons ?o7x2 (opsA_cons ?o8x2 (opsA_cons ?o9x2 opsA_nil)))))))))) ?restx2
      case hAx2 =>
        intro ptrs
        simp only [full, foldSlots, filledE, postE, List.foldl_cons, List.foldl_nil, List.getD_cons_zero, List.getD_cons_succ, fill_val, List.set_cons_zero, List.set_cons_succ]
        exact rfl
      case o0x2 => exact fun _ _ hw _ => opE_value (v := .pointer (some ⟨g1, 56, none⟩)) rfl (run_fld 65 _ 8 rfl _ _ rfl _ (by kernel_rfl))
      case o1x2 => exact fun _ _ hw _ => opE_value (v := .slice f.tr.ao f.tr.n f.tr.cap) rfl (run_ldc 57 _ rfl g1 56 rfl 65 _ (hw.has kg1) (na57a _) _ rfl)
      case o2x2 => exact fun _ _ _ _ => opE_move (v := .int .i64 ((j : Nat) : Int)) _ rfl rfl rfl
      case o3x2 => exact fun _ _ hw _ => opE_value (v := .pointer (some (ad.add j))) rfl (run_idx1 iT28 _ _ rfl ad f.tr.n f.tr.cap j (by exact congrArg (fun a => Value.slice a f.tr.n f.tr.cap) hao) rfl (by omega) _)
      case o4x2 => exact fun _ _ hw _ => opE_value (v := .int .i64 (df.tr.getD j 0)) rfl (run_ldc1 3 (na3 _) _ rfl (ad.add j) rfl _ (cell_gro hw clA))
      case o5x2 => exact fun _ _ hw _ => opE_value (v := .pointer (some ⟨g2, 56, none⟩)) rfl (run_fld 65 _ 8 rfl _ _ rfl _ (by kernel_rfl))
      case o6x2 => exact fun _ _ hw _ => opE_value (v := .slice g.tr.ao g.tr.n g.tr.cap) rfl (run_ldc 57 _ rfl g2 56 rfl 65 _ (hw.has kg2) (na57a _) _ rfl)
      case o7x2 => exact fun _ _ _ _ => opE_move (v := .int .i64 ((j : Nat) : Int)) _ rfl rfl rfl
      case o8x2 => exact fun _ _ hw _ => opE_value (v := .pointer (some (bd.add j))) rfl (run_idx1 iT28 _ _ rfl bd g.tr.n g.tr.cap j (by exact congrArg (fun a => Value.slice a g.tr.n g.tr.cap) hbo) rfl (by omega) _)
      case o9x2 => exact fun _ _ hw _ => opE_value (v := .int .i64 (dg.tr.getD j 0)) rfl (run_ldc1 3 (na3 _) _ rfl (bd.add j) rfl _ (cell_gro hw clB))
      intro ptrs w3 GD hxE
      simp only [List.drop_succ_cons, List.drop_zero]
      replace kg1 := GD.has kg1
      replace kg2 := GD.has kg2
      replace GG := GG.drew.trans GD
      clear GD
      obtain ⟨p4, hp4⟩ : ∃ p, (!decide (df.tr.getD j 0 = dg.tr.getD j 0)) = p := ⟨_, rfl⟩
      refine s_val 40 rfl rfl (.bool p4) (run_neq_k 3 .i64 _ _ _ rfl Try.underlying3 (df.tr.getD j 0) (dg.tr.getD j 0) rfl rfl p4 (by rw [← hp4, Bool.not_not]) _) ?_
      refine nr ?_; intro U h; simp only [z0, z1] at h; subst h
      cases p4
      · refine wpList_nil ?_
        refine then_n ?_
        refine wp_cond_false rfl ?_
        refine wp_skip ?_
        refine blk_n ?_
        refine then_n ?_
        refine wp_region_lit ?_
        refine s_val 28 rfl rfl (.int .i64 ((j : Nat) : Int)) (rfl) ?_
        refine nr ?_; intro U h; simp only [z0, z1] at h; subst h
        refine s_val 29 rfl rfl (.int .i64 ((j + 1 : Nat) : Int)) (run_add64 _ _ _ rfl ((j : Nat) : Int) 1 _ rfl rfl (by omega) (by omega) (by omega) _) ?_
        refine nr ?_; intro U h; simp only [z0, z1] at h; subst h
        refine s_val 5 rfl rfl (.int .i64 ((j + 1 : Nat) : Int)) (rfl) ?_
        refine nr ?_; intro U h; simp only [z0, z1] at h; subst h
        refine wpList_nil ?_
        refine then_n ?_
        exact ⟨_, (by omega : df.tr.length - (j + 1) < df.tr.length - j), j + 1, (fun kz => ([us1 0, .int .i64 ((j : Nat) : Int), .pointer (some ⟨g1, 56, none⟩), .slice f.tr.ao f.tr.n f.tr.cap, .int .i64 ((f.tr.n : Nat) : Int), .bool true, .int .i64 ((j : Nat) : Int), .int .i64 ((j + 1 : Nat) : Int), .pointer (some ⟨g1, 56, none⟩), .slice f.tr.ao f.tr.n f.tr.cap, .int .i64 ((j : Nat) : Int), .pointer (some (ad.add j)), .int .i64 (df.tr.getD j 0), .pointer (some ⟨g2, 56, none⟩), .slice g.tr.ao g.tr.n g.tr.cap, .int .i64 ((j : Nat) : Int), .pointer (some (bd.add j)), .int .i64 (dg.tr.getD j 0), .bool false] : List Value).getD kz undef), rfl, rfl, hjn, take_next _ _ 0 j ht hjn (by omega) (by simpa using hp4), GG, kg1, kg2⟩
      have hne : ¬ df.tr = dg.tr := fun e => by rw [e] at hp4; simp at hp4
      refine wpList_nil ?_
      refine then_n ?_
      refine wp_cond_true rfl ?_
      refine wp_seq ?_
      refine wp_region_lit ?_
      refine s_val 4 rfl rfl (.bool false) (rfl) ?_
      refine nr ?_; intro U h; simp only [z0, z1] at h; subst h
      refine wpList_nil ?_
      refine then_n ?_
      refine wp_ret ?_
      refine blk_r ?_
      refine then_r ?_
      refine then_r ?_
      refine blk_r ?_
      refine then_r ?_
      refine bodyPost_ret (results_tmp Try.results28 _ _ _) rfl ?_
      first | exact ⟨congrArg (fun b => Ending.returned (.bool b)) (same_ltr hne), GG⟩ | exact ⟨congrArg (fun b => Ending.returned (.bool b)) (same_lids hne), GG⟩ | exact ⟨by simp only [sameK, sameB, itemB] at *; simp [htt, huu, *], GG⟩
    have hne : ¬ df.ids = dg.ids := fun e => by rw [e] at lfi; simp at hp2; omega
    refine s_val 22 rfl rfl (.bool true) (rfl) ?_
    refine nr ?_; intro U h; simp only [z0, z1] at h; subst h
    refine wpList_nil ?_
    refine then_n ?_
    refine wp_cond_true rfl ?_
    refine wp_seq ?_
    refine wp_region_lit ?_
    refine s_val 4 rfl rfl (.bool false) (rfl) ?_
    refine nr ?_; intro U h; simp only [z0, z1] at h; subst h
    refine wpList_nil ?_
    refine then_n ?_
    refine wp_ret ?_
    refine then_r ?_
    refine bodyPost_ret (results_tmp Try.results28 _ _ _) rfl ?_
    first | exact ⟨congrArg (fun b => Ending.returned (.bool b)) (same_ltr hne), GG⟩ | exact ⟨congrArg (fun b => Ending.returned (.bool b)) (same_lids hne), GG⟩ | exact ⟨by simp only [sameK, sameB, itemB] at *; simp [htt, huu, *], GG⟩
  have hne : ¬ df.tr = dg.tr := fun e => by rw [e] at lft; simp at hp1; omega
  refine s_val 14 rfl rfl (.bool true) (rfl) ?_
  refine nr ?_; intro U h; simp only [z0, z1] at h; subst h
  refine s_skipY 15 rfl rfl y7 rfl ?_
  refine nr ?_; intro U h; simp only [z0, z1] at h; subst h
  refine s_skipY 16 rfl rfl y7 rfl ?_
  refine nr ?_; intro U h; simp only [z0, z1] at h; subst h
  refine s_skipY 17 rfl rfl y7 rfl ?_
  refine nr ?_; intro U h; simp only [z0, z1] at h; subst h
  refine s_skipY 18 rfl rfl y7 rfl ?_
  refine nr ?_; intro U h; simp only [z0, z1] at h; subst h
  refine s_skipY 19 rfl rfl y7 rfl ?_
  refine nr ?_; intro U h; simp only [z0, z1] at h; subst h
  refine s_skipY 20 rfl rfl y7 rfl ?_
  refine nr ?_; intro U h; simp only [z0, z1] at h; subst h
  refine s_skipY 21 rfl rfl y7 rfl ?_
  refine nr ?_; intro U h; simp only [z0, z1] at h; subst h
  refine s_val 22 rfl rfl (.bool true) (rfl) ?_
  refine nr ?_; intro U h; simp only [z0, z1] at h; subst h
  refine wpList_nil ?_
  refine then_n ?_
  refine wp_cond_true rfl ?_
  refine wp_seq ?_
  refine wp_region_lit ?_
  refine s_val 4 rfl rfl (.bool false) (rfl) ?_
  refine nr ?_; intro U h; simp only [z0, z1] at h; subst h
  refine wpList_nil ?_
  refine then_n ?_
  refine wp_ret ?_
  refine then_r ?_
  refine bodyPost_ret (results_tmp Try.results28 _ _ _) rfl ?_
  first | exact ⟨congrArg (fun b => Ending.returned (.bool b)) (same_ltr hne), GG⟩ | exact ⟨congrArg (fun b => Ending.returned (.bool b)) (same_lids hne), GG⟩ | exact ⟨by simp only [sameK, sameB, itemB] at *; simp [htt, huu, *], GG⟩
end Go.Proofs.Ytmpnepbmpmkmkaa
