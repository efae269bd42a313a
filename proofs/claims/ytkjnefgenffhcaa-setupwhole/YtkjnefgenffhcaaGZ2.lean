/- The small calls of setup. -/
import Derived.Test.YtkjnefgenffhcaaGZ1
namespace Go.Proofs.Ytkjnefgenffhcaa
open Go.RowKit Go.Maps
/-- A frame that is made out of a body. -/
def PlP (w : World) (M : Msg) (e : Ending) (w' : World) : Prop := ∃ a2 c2 s2 s3 s4, e = .returned (.agg (frA (frY M a2 c2 (gz s2 s3 s4)))) ∧ Gro w w' ∧ FrO w' w.heap.size (frY M a2 c2 (gz s2 s3 s4)) (dM M)
def HopP (w : World) (k : Int) (M : Msg) (e : Ending) (w' : World) : Prop := ∃ ao n, e = .returned (.slice ao n n) ∧ Gro w w' ∧ OutP w' w.heap.size (some (k, M)) ao n
theorem plain4 (w : World) (M : Msg) (hk : M.kind = 4) (ao : Option Addr) (cap : Nat) (H : RC w ao cap M.l) (hl : M.l.length ≤ 17592186044416) : Calls Try.prog 44 #[.iface 88 (.agg (suA M.p M.a M.b ao M.l.length cap))] w (PlP w M) := by
  have h := plain_any 4 (by decide) (by decide) (frY M ao cap gN) (dM M) w H.frw (frs_of hl)
  refine Calls.mono h ?_
  rintro e w' ⟨⟨a2, n2, c2⟩, s2, s3, s4, he, HO, G⟩
  have hn : n2 = M.l.length := xc_len1 HO.tr.xc
  subst hn
  refine ⟨a2, c2, s2, s3, s4, ?_, G, ?_⟩
  · rw [he]
    obtain ⟨k, p, a, b, l⟩ := M
    simp only [] at hk
    subst hk
    rfl
  · obtain ⟨k, p, a, b, l⟩ := M
    simp only [] at hk
    subst hk
    exact HO
theorem plain5 (w : World) (p : Pa) : Calls Try.prog 44 #[.iface 126 (.agg (drA p))] w (PlP w (mDrop p)) := by
  have h := plain_any 5 (by decide) (by decide) (frY (mDrop p) none 0 gN) (dM (mDrop p)) w (RC.frw (M := mDrop p) (RC.nil w)) (frs_of (M := mDrop p) (show (0 : Nat) ≤ 17592186044416 by omega))
  refine Calls.mono h ?_
  rintro e w' ⟨⟨a2, n2, c2⟩, s2, s3, s4, he, HO, G⟩
  have hn : n2 = 0 := xc_len1 (l := ([] : List Int)) HO.tr.xc
  subst hn
  have e1 : frY (mDrop p) a2 c2 (gz s2 s3 s4) = { ({ bare 5 (frY (mDrop p) none 0 gN) with kind := ((5 : Nat) : Int) } : Fr) with tr := ⟨a2, 0, c2⟩, ids := s2, val := s3, tx := s4 } := by
    unfold frY mDrop gz bare
    simp only [byt_0]
    rfl
  refine ⟨a2, c2, s2, s3, s4, ?_, G, ?_⟩
  · rw [he, e1]
  · rw [e1]
    exact HO
/-- A Setup out of a frame. -/
def SupP (w : World) (M : Msg) (e : Ending) (w' : World) : Prop := ∃ a2 c2, e = .returned (.tuple #[.agg (suA M.p M.a M.b a2 M.l.length c2), .bool true]) ∧ Gro w w' ∧ OI w' w.heap.size a2 c2 M.l
def OfP (w : World) (M : Msg) (e : Ending) (w' : World) : Prop := ∃ a2 c2, e = .returned (.tuple #[.iface 88 (.agg (suA M.p M.a M.b a2 M.l.length c2)), .bool true]) ∧ Gro w w' ∧ OI w' w.heap.size a2 c2 M.l
theorem of4 (w : World) (M : Msg) (hk : M.kind = 4) (ao : Option Addr) (cap : Nat) (g : Fr) (d : FD) (HW : FrW w (frY M ao cap g) d) (hd : d.tr = M.l) (hi : ∀ x ∈ M.l, I64t x) (HS : FrS (frY M ao cap g)) : Calls Try.prog 48 #[.agg (frA (frY M ao cap g))] w (OfP w M) := by
  refine Calls.mono (of_any 4 (by decide) (by decide) (frY M ao cap g) hk d w HW HS) ?_
  rintro e w' ⟨⟨a2, n2, c2⟩, s2, s3, s4, he, HO, G⟩
  have hn : n2 = M.l.length := by rw [← hd]; exact xc_len1 HO.tr.xc
  subst hn
  have h1 := HO.tr
  rw [hd] at h1
  exact ⟨a2, c2, he, G, h1, hi⟩
theorem of_kind (x : Int) (h1 : 1 ≤ x) (h2 : x ≤ 12) : ∃ k : Nat, 1 ≤ k ∧ k ≤ 12 ∧ x = (k : Int) := ⟨x.toNat, by omega, by omega, by omega⟩
theorem lead_of {N : Int} {way : List Int} (h1 : decide (2 ≤ way.length) = true) (h2 : decide (way.length ≤ 64) = true) (h3 : decide (way.getD 0 0 = N) = true) : lead N way = decide way.Nodup := by unfold lead; rw [h1, h2, h3]; rfl
theorem isO_lo {o : List Bool} {n : Int} (h : decide (0 ≤ n) = false) : isO o n = false := by unfold isO; rw [h]; rfl
theorem isO_hi {o : List Bool} {n : Int} (h : decide (n < o.length) = false) : isO o n = false := by unfold isO; rw [h]; simp
theorem isO_in {o : List Bool} {n : Int} (h1 : decide (0 ≤ n) = true) (h2 : decide (n < o.length) = true) : isO o n = o.getD n.toNat false := by unfold isO; rw [h1, h2]; rfl
set_option maxRecDepth 100000 in
set_option maxHeartbeats 4000000 in
theorem only4 (w : World) (k : Int) (M : Msg) (hk : M.kind = 4) (ao : Option Addr) (cap : Nat) (H : RC w ao cap M.l) (hl : M.l.length ≤ 17592186044416) : Calls Try.prog 29 #[.int .i64 k, .iface 88 (.agg (suA M.p M.a M.b ao M.l.length cap))] w (HopP w k M) := by
  refine s_enter Try.func29 rfl Try.ntmps29 [.int .i64 k, .iface 88 (.agg (suA M.p M.a M.b ao M.l.length cap))] [.int .i64 k, .iface 88 (.agg (suA M.p M.a M.b ao M.l.length cap)), undef, undef, undef, undef, undef, undef, undef, undef] rfl ?_
  have GG := Gro.refl w
  refine wp_seq ?_
  refine wp_region_lit ?_
  refine s_val 4 rfl rfl (.slice none 0 0) (rfl) ?_
  refine nr ?_; intro U h; simp only [z0, z1] at h; subst h
  refine wpList_nil ?_
  refine then_n ?_
  refine wp_seq ?_
  refine wp_region_lit ?_
  refine s_val 5 rfl rfl (.int .i64 k) (rfl) ?_
  refine nr ?_; intro U h; simp only [z0, z1] at h; subst h
  refine s_val 6 rfl rfl (.iface 88 (.agg (suA M.p M.a M.b ao M.l.length cap))) (rfl) ?_
  refine nr ?_; intro U h; simp only [z0, z1] at h; subst h
  refine s_callx 7 rfl rfl _ 44 Try.call44 rfl rfl _ rfl [.iface 88 (.agg (suA M.p M.a M.b ao M.l.length cap))] rfl (plain4 _ M hk ao cap (H.gro GG) hl) (by rintro _ _ ⟨_, _, _, _, _, he, _⟩; exact ⟨_, he⟩) ?_
  rintro v w1 ⟨a2, c2, s2, s3, s4, he, G, HOF⟩
  cases he
  replace HOF := HOF.mono GG.size
  replace GG := GG.trans G
  clear G
  refine nr ?_; intro U h; simp only [z0, z1] at h; subst h
  refine s_val 8 rfl rfl (.agg (hopA k (frY M a2 c2 (gz s2 s3 s4)))) (run_bd 71 _ rfl [(0, .int .i64 k), (1, .agg (frA (frY M a2 c2 (gz s2 s3 s4))))] rfl _ (bdH2 _ _ _)) ?_
  refine nr ?_; intro U h; simp only [z0, z1] at h; subst h
  refine s_bsl 9 rfl rfl 39 1 _ rfl [(0, .agg (hopA k (frY M a2 c2 (gz s2 s3 s4))))] rfl (hopA k (frY M a2 c2 (gz s2 s3 s4))) 71 (bsH _ _ _) ?_
  intro w2 q2 G eq2 kq2
  have bq2 := size_base GG eq2
  replace HOF := HOF.gro G
  replace GG := GG.trans G
  clear G
  clear eq2
  refine nr ?_; intro U h; simp only [z0, z1] at h; subst h
  refine s_val 4 rfl rfl (.slice (some ⟨q2, 0, none⟩) 1 1) (rfl) ?_
  refine nr ?_; intro U h; simp only [z0, z1] at h; subst h
  refine wpList_nil ?_
  refine then_n ?_
  refine wp_ret ?_
  refine bodyPost_ret (results_tmp Try.results29 _ _ _) rfl ?_
  exact ⟨_, _, rfl, GG, _, a2, c2, s2, s3, s4, rfl, rfl, kq2, bq2, HOF.q⟩
set_option maxRecDepth 100000 in
set_option maxHeartbeats 4000000 in
theorem only5 (w : World) (k : Int) (p : Pa) : Calls Try.prog 29 #[.int .i64 k, .iface 126 (.agg (drA p))] w (HopP w k (mDrop p)) := by
  refine s_enter Try.func29 rfl Try.ntmps29 [.int .i64 k, .iface 126 (.agg (drA p))] [.int .i64 k, .iface 126 (.agg (drA p)), undef, undef, undef, undef, undef, undef, undef, undef] rfl ?_
  have GG := Gro.refl w
  refine wp_seq ?_
  refine wp_region_lit ?_
  refine s_val 4 rfl rfl (.slice none 0 0) (rfl) ?_
  refine nr ?_; intro U h; simp only [z0, z1] at h; subst h
  refine wpList_nil ?_
  refine then_n ?_
  refine wp_seq ?_
  refine wp_region_lit ?_
  refine s_val 5 rfl rfl (.int .i64 k) (rfl) ?_
  refine nr ?_; intro U h; simp only [z0, z1] at h; subst h
  refine s_val 6 rfl rfl (.iface 126 (.agg (drA p))) (rfl) ?_
  refine nr ?_; intro U h; simp only [z0, z1] at h; subst h
  refine s_callx 7 rfl rfl _ 44 Try.call44 rfl rfl _ rfl [.iface 126 (.agg (drA p))] rfl (plain5 _ p) (by rintro _ _ ⟨_, _, _, _, _, he, _⟩; exact ⟨_, he⟩) ?_
  rintro v w1 ⟨a2, c2, s2, s3, s4, he, G, HOF⟩
  cases he
  replace HOF := HOF.mono GG.size
  replace GG := GG.trans G
  clear G
  refine nr ?_; intro U h; simp only [z0, z1] at h; subst h
  refine s_val 8 rfl rfl (.agg (hopA k (frY (mDrop p) a2 c2 (gz s2 s3 s4)))) (run_bd 71 _ rfl [(0, .int .i64 k), (1, .agg (frA (frY (mDrop p) a2 c2 (gz s2 s3 s4))))] rfl _ (bdH2 _ _ _)) ?_
  refine nr ?_; intro U h; simp only [z0, z1] at h; subst h
  refine s_bsl 9 rfl rfl 39 1 _ rfl [(0, .agg (hopA k (frY (mDrop p) a2 c2 (gz s2 s3 s4))))] rfl (hopA k (frY (mDrop p) a2 c2 (gz s2 s3 s4))) 71 (bsH _ _ _) ?_
  intro w2 q2 G eq2 kq2
  have bq2 := size_base GG eq2
  replace HOF := HOF.gro G
  replace GG := GG.trans G
  clear G
  clear eq2
  refine nr ?_; intro U h; simp only [z0, z1] at h; subst h
  refine s_val 4 rfl rfl (.slice (some ⟨q2, 0, none⟩) 1 1) (rfl) ?_
  refine nr ?_; intro U h; simp only [z0, z1] at h; subst h
  refine wpList_nil ?_
  refine then_n ?_
  refine wp_ret ?_
  refine bodyPost_ret (results_tmp Try.results29 _ _ _) rfl ?_
  exact ⟨_, _, rfl, GG, _, a2, c2, s2, s3, s4, rfl, rfl, kq2, bq2, HOF.q⟩
set_option maxRecDepth 100000 in
set_option maxHeartbeats 4000000 in
theorem refused_any (w : World) (p : Pa) (k : Int) : Calls Try.prog 51 #[.agg (paA p), .int .i64 k] w (EndP w (edNo p k false)) := by
  refine s_enter Try.func51 rfl Try.ntmps51 [.agg (paA p), .int .i64 k] [.agg (paA p), .int .i64 k, undef, undef, undef, undef, undef, undef, undef, undef, undef] rfl ?_
  have GG := Gro.refl w
  refine wp_seq ?_
  refine wp_region_lit ?_
  refine s_box 2 rfl rfl 31 _ rfl _ rfl (paA p) rfl ?_
  intro w1 g1 G eg1 kg1
  have bg1 := size_base GG eg1
  replace GG := GG.trans G
  clear G
  clear eg1
  refine nr ?_; intro U h; simp only [z0, z1] at h; subst h
  refine s_alloc 4 rfl rfl 41 rfl _ zvD (edA none 0 false false) rfl ?_
  intro w2 g2 G eg2 kg2
  have bg2 := size_base GG eg2
  have dg1g2 := lt_new kg1 eg2
  replace kg1 := G.has kg1
  replace GG := GG.trans G
  clear G
  clear eg2
  refine nr ?_; intro U h; simp only [z0, z1] at h; subst h
  refine wpList_nil ?_
  refine then_n ?_
  refine wp_seq ?_
  refine wp_region_lit ?_
  refine s_val 5 rfl rfl (.int .i64 k) (rfl) ?_
  refine nr ?_; intro U h; simp only [z0, z1] at h; subst h
  refine s_val 6 rfl rfl (.agg (paA p)) (ldP0 _ rfl g1 rfl (kg1)) ?_
  refine nr ?_; intro U h; simp only [z0, z1] at h; subst h
  refine s_val 7 rfl rfl (.agg (drA p)) (run_bd 126 _ rfl [(0, .agg (paA p))] rfl _ (bdR1 _ _)) ?_
  refine nr ?_; intro U h; simp only [z0, z1] at h; subst h
  refine s_val 8 rfl rfl (.iface 126 (.agg (drA p))) (run_mk 126 _ rfl _ rfl (by kernel_rfl)) ?_
  refine nr ?_; intro U h; simp only [z0, z1] at h; subst h
  refine s_callx 9 rfl rfl _ 29 Try.call29 rfl rfl _ rfl [.int .i64 k, .iface 126 (.agg (drA p))] rfl (only5 _ k p) (by rintro _ _ ⟨_, _, he, _⟩; exact ⟨_, he⟩) ?_
  rintro v w3 ⟨ao1, n1, he, G, HO1⟩
  cases he
  replace HO1 := HO1.mono GG.size
  replace kg1 := G.has kg1
  replace kg2 := G.has kg2
  replace GG := GG.trans G
  clear G
  refine nr ?_; intro U h; simp only [z0, z1] at h; subst h
  refine s_val 10 rfl rfl (.agg (edA ao1 n1 false false)) (run_bd 41 _ rfl [(0, .slice ao1 n1 n1)] rfl _ (bdD0 _ _ _)) ?_
  refine nr ?_; intro U h; simp only [z0, z1] at h; subst h
  refine s_store rfl rfl 41 _ _ rfl g2 0 rfl (.agg (edA ao1 n1 false false)) rfl 41 _ kg2 (edA ao1 n1 false false) rfl (siD' _ _ _ _) (Nat.le_refl _) (oneD _ _ _ _) (edA ao1 n1 false false) (splice_whole _ _ (rfl)) ?_
  intro w4 St
  have kS := kg2
  replace kg1 := St.has (by omega) kg1
  replace HO1 := HO1.st St kS (by decide)
  replace GG := GG.store St bg2
  replace kg2 := St.new
  clear St
  refine wpList_nil ?_
  refine then_n ?_
  refine wp_ret ?_
  refine bodyPost_ret (results_cell_row Try.results51 _ _ g2 41 _ (0, 0) _ rfl kg2 Try.underlying41 rfl (siD' _ _ _ _)) rfl ?_
  exact ⟨_, _, rfl, GG, HO1⟩
set_option maxRecDepth 100000 in
set_option maxHeartbeats 4000000 in
theorem notAdded_any (w : World) (p : Pa) (k c : Int) : Calls Try.prog 53 #[.agg (paA p), .int .i64 k, .int .i64 c] w (EndP w (edNo p k (decide (c = 5)))) := by
  refine s_enter Try.func53 rfl Try.ntmps53 [.agg (paA p), .int .i64 k, .int .i64 c] [.agg (paA p), .int .i64 k, .int .i64 c, undef, undef, undef, undef, undef, undef, undef, undef, undef, undef, undef, undef] rfl ?_
  have GG := Gro.refl w
  refine wp_seq ?_
  refine wp_region_lit ?_
  refine s_box 3 rfl rfl 31 _ rfl _ rfl (paA p) rfl ?_
  intro w1 g1 G eg1 kg1
  have bg1 := size_base GG eg1
  replace GG := GG.trans G
  clear G
  clear eg1
  refine nr ?_; intro U h; simp only [z0, z1] at h; subst h
  refine s_alloc 6 rfl rfl 41 rfl _ zvD (edA none 0 false false) rfl ?_
  intro w2 g2 G eg2 kg2
  have bg2 := size_base GG eg2
  have dg1g2 := lt_new kg1 eg2
  replace kg1 := G.has kg1
  replace GG := GG.trans G
  clear G
  clear eg2
  refine nr ?_; intro U h; simp only [z0, z1] at h; subst h
  refine wpList_nil ?_
  refine then_n ?_
  refine wp_seq ?_
  refine wp_region_lit ?_
  refine s_val 8 rfl rfl (.agg (paA p)) (ldP0 _ rfl g1 rfl (kg1)) ?_
  refine nr ?_; intro U h; simp only [z0, z1] at h; subst h
  refine s_val 9 rfl rfl (.int .i64 k) (rfl) ?_
  refine nr ?_; intro U h; simp only [z0, z1] at h; subst h
  refine s_callx 10 rfl rfl _ 51 Try.call51 rfl rfl _ rfl [.agg (paA p), .int .i64 k] rfl (refused_any _ p k) (by rintro _ _ ⟨_, _, he, _⟩; exact ⟨_, he⟩) ?_
  rintro v w3 ⟨ao1, n1, he, G, HO1⟩
  cases he
  replace HO1 := HO1.mono GG.size
  replace kg1 := G.has kg1
  replace kg2 := G.has kg2
  replace GG := GG.trans G
  clear G
  refine nr ?_; intro U h; simp only [z0, z1] at h; subst h
  refine s_alloc 7 rfl rfl 41 rfl _ zvD (edA none 0 false false) rfl ?_
  intro w4 g3 G eg3 kg3
  have bg3 := size_base GG eg3
  have dg1g3 := lt_new kg1 eg3
  have dg2g3 := lt_new kg2 eg3
  replace kg1 := G.has kg1
  replace kg2 := G.has kg2
  replace HO1 := HO1.gro G
  replace GG := GG.trans G
  clear G
  clear eg3
  refine nr ?_; intro U h; simp only [z0, z1] at h; subst h
  refine s_store rfl rfl 41 _ _ rfl g3 0 rfl (.agg (edA ao1 n1 false false)) rfl 41 _ kg3 (edA ao1 n1 false false) rfl (siD' _ _ _ _) (Nat.le_refl _) (oneD _ _ _ _) (edA ao1 n1 false false) (splice_whole _ _ (rfl)) ?_
  intro w5 St
  have kS := kg3
  replace kg1 := St.has (by omega) kg1
  replace kg2 := St.has (by omega) kg2
  replace HO1 := HO1.st St kS (by decide)
  replace GG := GG.store St bg3
  replace kg3 := St.new
  clear St
  refine wpList_nil ?_
  refine then_n ?_
  refine wp_seq ?_
  refine wp_region_lit ?_
  refine s_val 11 rfl rfl (.int .i64 c) (rfl) ?_
  refine nr ?_; intro U h; simp only [z0, z1] at h; subst h
  refine s_val 12 rfl rfl (.bool (decide (c = 5))) (run_eq_k 42 .i64 _ _ _ rfl Try.underlying42 c 5 rfl rfl (decide (c = 5)) rfl _) ?_
  refine nr ?_; intro U h; simp only [z0, z1] at h; subst h
  refine s_val 13 rfl rfl (.pointer (some ⟨g3, 2, none⟩)) (run_fld 41 _ 2 rfl g3 0 rfl 2 (by kernel_rfl)) ?_
  refine nr ?_; intro U h; simp only [z0, z1] at h; subst h
  refine s_store rfl rfl 4 _ _ rfl g3 2 rfl (.bool (decide (c = 5))) rfl 41 _ kg3 #[.bool (decide (c = 5))] rfl (si4) (Nat.le_refl 3) (b_one _) (edA ao1 n1 false (decide (c = 5))) (spD_f _ _ _ _ _) ?_
  intro w6 St
  have kS := kg3
  replace kg1 := St.has (by omega) kg1
  replace kg2 := St.has (by omega) kg2
  replace HO1 := HO1.st St kS (by decide)
  replace GG := GG.store St bg3
  replace kg3 := St.new
  clear St
  refine wpList_nil ?_
  refine then_n ?_
  refine wp_seq ?_
  refine wp_region_lit ?_
  refine s_val 14 rfl rfl (.agg (edA ao1 n1 false (decide (c = 5)))) (ldD_0 _ rfl g3 rfl (kg3)) ?_
  refine nr ?_; intro U h; simp only [z0, z1] at h; subst h
  refine s_store rfl rfl 41 _ _ rfl g2 0 rfl (.agg (edA ao1 n1 false (decide (c = 5)))) rfl 41 _ kg2 (edA ao1 n1 false (decide (c = 5))) rfl (siD' _ _ _ _) (Nat.le_refl _) (oneD _ _ _ _) (edA ao1 n1 false (decide (c = 5))) (splice_whole _ _ (rfl)) ?_
  intro w7 St
  have kS := kg2
  replace kg1 := St.has (by omega) kg1
  replace kg3 := St.has (by omega) kg3
  replace HO1 := HO1.st St kS (by decide)
  replace GG := GG.store St bg2
  replace kg2 := St.new
  clear St
  refine wpList_nil ?_
  refine then_n ?_
  refine wp_ret ?_
  refine bodyPost_ret (results_cell_row Try.results53 _ _ g2 41 _ (0, 0) _ rfl kg2 Try.underlying41 rfl (siD' _ _ _ _)) rfl ?_
  exact ⟨_, _, rfl, GG, HO1⟩
set_option maxRecDepth 100000 in
set_option maxHeartbeats 4000000 in
theorem entry_any (w : World) (p : Pa) (a b : Nat) (ao : Option Addr) (n cap : Nat) (x y : Int) : Calls Try.prog 52 #[.agg (suA p a b ao n cap), .int .i64 x, .int .i64 y] w (fun e w' => e = .returned (.agg (enA ⟨p, a, b, x, y⟩)) ∧ Gro w w') := by
  refine s_enter Try.func52 rfl Try.ntmps52 [.agg (suA p a b ao n cap), .int .i64 x, .int .i64 y] [.agg (suA p a b ao n cap), .int .i64 x, .int .i64 y, undef, undef, undef, undef, undef, undef, undef, undef, undef, undef, undef, undef, undef] rfl ?_
  have GG := Gro.refl w
  refine wp_seq ?_
  refine wp_region_lit ?_
  refine s_box 3 rfl rfl 88 _ rfl _ rfl (suA p a b ao n cap) rfl ?_
  intro w1 g1 G eg1 kg1
  have bg1 := size_base GG eg1
  replace GG := GG.trans G
  clear G
  clear eg1
  refine nr ?_; intro U h; simp only [z0, z1] at h; subst h
  refine s_alloc 6 rfl rfl 73 rfl _ zero33 (enA zE) rfl ?_
  intro w2 g2 G eg2 kg2
  have bg2 := size_base GG eg2
  have dg1g2 := lt_new kg1 eg2
  replace kg1 := G.has kg1
  replace GG := GG.trans G
  clear G
  clear eg2
  refine nr ?_; intro U h; simp only [z0, z1] at h; subst h
  refine wpList_nil ?_
  refine then_n ?_
  refine wp_seq ?_
  refine wp_region_lit ?_
  refine s_val 7 rfl rfl (.pointer (some ⟨g1, 0, none⟩)) (run_fld 88 _ 0 rfl g1 0 rfl 0 (by kernel_rfl)) ?_
  refine nr ?_; intro U h; simp only [z0, z1] at h; subst h
  refine s_val 8 rfl rfl (.agg (paA p)) (ldU_p _ rfl g1 rfl (kg1)) ?_
  refine nr ?_; intro U h; simp only [z0, z1] at h; subst h
  refine s_val 9 rfl rfl (.pointer (some ⟨g1, 17, none⟩)) (run_fld 88 _ 1 rfl g1 0 rfl 17 (by kernel_rfl)) ?_
  refine nr ?_; intro U h; simp only [z0, z1] at h; subst h
  refine s_val 10 rfl rfl (.agg (idA a)) (ldU_a _ rfl g1 rfl (kg1)) ?_
  refine nr ?_; intro U h; simp only [z0, z1] at h; subst h
  refine s_val 11 rfl rfl (.pointer (some ⟨g1, 33, none⟩)) (run_fld 88 _ 2 rfl g1 0 rfl 33 (by kernel_rfl)) ?_
  refine nr ?_; intro U h; simp only [z0, z1] at h; subst h
  refine s_val 12 rfl rfl (.agg (idA b)) (ldU_b _ rfl g1 rfl (kg1)) ?_
  refine nr ?_; intro U h; simp only [z0, z1] at h; subst h
  refine s_val 13 rfl rfl (.int .i64 x) (rfl) ?_
  refine nr ?_; intro U h; simp only [z0, z1] at h; subst h
  refine s_val 14 rfl rfl (.int .i64 y) (rfl) ?_
  refine nr ?_; intro U h; simp only [z0, z1] at h; subst h
  refine s_val 15 rfl rfl (.agg (enA (⟨p, a, b, x, y⟩ : En))) (run_bd 73 _ rfl [(0, .agg (paA p)), (1, .agg (idA a)), (2, .agg (idA b)), (3, .int .i64 x), (4, .int .i64 y)] rfl _ (bdE5 _ _ _ _ _ _)) ?_
  refine nr ?_; intro U h; simp only [z0, z1] at h; subst h
  refine s_store rfl rfl 73 _ _ rfl g2 0 rfl (.agg (enA (⟨p, a, b, x, y⟩ : En))) rfl 73 _ kg2 (enA (⟨p, a, b, x, y⟩ : En)) rfl (si33' _) (enA_fit _ _) (enA_one _) (enA (⟨p, a, b, x, y⟩ : En)) (splice_whole _ _ (enA_sz _ _)) ?_
  intro w3 St
  have kS := kg2
  replace kg1 := St.has (by omega) kg1
  replace GG := GG.store St bg2
  replace kg2 := St.new
  clear St
  refine wpList_nil ?_
  refine then_n ?_
  refine wp_ret ?_
  refine bodyPost_ret (results_cell_row Try.results52 _ _ g2 73 _ (0, 0) _ rfl kg2 Try.underlying73 rfl (si33' _)) rfl ?_
  exact ⟨rfl, GG⟩
set_option maxRecDepth 100000 in
set_option maxHeartbeats 4000000 in
theorem isOpen_any (w : World) (ao : Option Addr) (cap : Nat) (l : List Bool) (H : RK kB w ao cap l) (n : Int) : Calls Try.prog 28 #[.slice ao l.length cap, .int .i64 n] w (fun e w' => e = .returned (.bool (isO l n)) ∧ Gro w w') := by
  refine s_enter Try.func28 rfl Try.ntmps28 [.slice ao l.length cap, .int .i64 n] [.slice ao l.length cap, .int .i64 n, undef, undef, undef, undef, undef, undef, undef, undef, undef, undef, undef, undef, undef, undef, undef, undef, undef] rfl ?_
  have GG := Gro.refl w
  refine wp_seq ?_
  refine wp_region_lit ?_
  refine s_val 4 rfl rfl (.bool false) (rfl) ?_
  refine nr ?_; intro U h; simp only [z0, z1] at h; subst h
  refine wpList_nil ?_
  refine then_n ?_
  refine wp_seq ?_
  refine wp_region_opq ?_
  intro OPS hY
  have y2 := hY 2 7 rfl
  have y8 := hY 8 13 rfl
  clear hY
  refine s_val 5 rfl rfl (.int .i64 n) (rfl) ?_
  refine nr ?_; intro U h; simp only [z0, z1] at h; subst h
  cases hlo : decide (0 ≤ n)
  · refine s_val 6 rfl rfl (.bool false) (run_leqT 3 _ _ _ rfl 0 n rfl rfl false hlo _) ?_
    refine nr ?_; intro U h; simp only [z0, z1] at h; subst h
    refine s_val 7 rfl rfl (.bool false) (rfl) ?_
    refine nr ?_; intro U h; simp only [z0, z1] at h; subst h
    refine s_skipY 8 rfl rfl y2 rfl ?_
    refine nr ?_; intro U h; simp only [z0, z1] at h; subst h
    refine s_skipY 9 rfl rfl y2 rfl ?_
    refine nr ?_; intro U h; simp only [z0, z1] at h; subst h
    refine s_skipY 10 rfl rfl y2 rfl ?_
    refine nr ?_; intro U h; simp only [z0, z1] at h; subst h
    refine s_skipY 11 rfl rfl y2 rfl ?_
    refine nr ?_; intro U h; simp only [z0, z1] at h; subst h
    refine s_val 12 rfl rfl (.bool false) (rfl) ?_
    refine nr ?_; intro U h; simp only [z0, z1] at h; subst h
    refine s_val 13 rfl rfl (.bool false) (rfl) ?_
    refine nr ?_; intro U h; simp only [z0, z1] at h; subst h
    refine s_skipY 14 rfl rfl y8 rfl ?_
    refine nr ?_; intro U h; simp only [z0, z1] at h; subst h
    refine s_skipY 15 rfl rfl y8 rfl ?_
    refine nr ?_; intro U h; simp only [z0, z1] at h; subst h
    refine s_skipY 16 rfl rfl y8 rfl ?_
    refine nr ?_; intro U h; simp only [z0, z1] at h; subst h
    refine s_skipY 17 rfl rfl y8 rfl ?_
    refine nr ?_; intro U h; simp only [z0, z1] at h; subst h
    refine s_val 18 rfl rfl (.bool false) (rfl) ?_
    refine nr ?_; intro U h; simp only [z0, z1] at h; subst h
    refine s_val 4 rfl rfl (.bool false) (rfl) ?_
    refine nr ?_; intro U h; simp only [z0, z1] at h; subst h
    refine wpList_nil ?_
    refine then_n ?_
    refine wp_ret ?_
    refine bodyPost_ret (results_tmp Try.results28 _ _ _) rfl ?_
    exact ⟨congrArg (fun b => Ending.returned (.bool b)) (isO_lo hlo).symm, GG⟩
  · have hlo2 := of_decide_eq_true hlo
    refine s_val 6 rfl rfl (.bool true) (run_leqT 3 _ _ _ rfl 0 n rfl rfl true hlo _) ?_
    refine nr ?_; intro U h; simp only [z0, z1] at h; subst h
    refine s_val 7 rfl rfl (.bool true) (rfl) ?_
    refine nr ?_; intro U h; simp only [z0, z1] at h; subst h
    refine s_gvalY 8 rfl rfl y2 rfl (.int .i64 n) (rfl) ?_
    refine nr ?_; intro U h; simp only [z0, z1] at h; subst h
    refine s_gvalY 9 rfl rfl y2 rfl (.slice ao l.length cap) (rfl) ?_
    refine nr ?_; intro U h; simp only [z0, z1] at h; subst h
    refine s_gvalY 10 rfl rfl y2 rfl (.int .i64 ((l.length : Nat) : Int)) (run_len Try.underlying27 _ rfl _ _ _ rfl _) ?_
    refine nr ?_; intro U h; simp only [z0, z1] at h; subst h
    cases hhi : decide (n < (l.length : Int))
    · refine s_gvalY 11 rfl rfl y2 rfl (.bool false) (run_lssT 3 _ _ _ rfl n ((l.length : Nat) : Int) rfl rfl false hhi _) ?_
      refine nr ?_; intro U h; simp only [z0, z1] at h; subst h
      refine s_val 12 rfl rfl (.bool false) (rfl) ?_
      refine nr ?_; intro U h; simp only [z0, z1] at h; subst h
      refine s_val 13 rfl rfl (.bool false) (rfl) ?_
      refine nr ?_; intro U h; simp only [z0, z1] at h; subst h
      refine s_skipY 14 rfl rfl y8 rfl ?_
      refine nr ?_; intro U h; simp only [z0, z1] at h; subst h
      refine s_skipY 15 rfl rfl y8 rfl ?_
      refine nr ?_; intro U h; simp only [z0, z1] at h; subst h
      refine s_skipY 16 rfl rfl y8 rfl ?_
      refine nr ?_; intro U h; simp only [z0, z1] at h; subst h
      refine s_skipY 17 rfl rfl y8 rfl ?_
      refine nr ?_; intro U h; simp only [z0, z1] at h; subst h
      refine s_val 18 rfl rfl (.bool false) (rfl) ?_
      refine nr ?_; intro U h; simp only [z0, z1] at h; subst h
      refine s_val 4 rfl rfl (.bool false) (rfl) ?_
      refine nr ?_; intro U h; simp only [z0, z1] at h; subst h
      refine wpList_nil ?_
      refine then_n ?_
      refine wp_ret ?_
      refine bodyPost_ret (results_tmp Try.results28 _ _ _) rfl ?_
      exact ⟨congrArg (fun b => Ending.returned (.bool b)) (isO_hi hhi).symm, GG⟩
    · have hhi2 := of_decide_eq_true hhi
      refine s_gvalY 11 rfl rfl y2 rfl (.bool true) (run_lssT 3 _ _ _ rfl n ((l.length : Nat) : Int) rfl rfl true hhi _) ?_
      refine nr ?_; intro U h; simp only [z0, z1] at h; subst h
      refine s_val 12 rfl rfl (.bool true) (rfl) ?_
      refine nr ?_; intro U h; simp only [z0, z1] at h; subst h
      refine s_val 13 rfl rfl (.bool true) (rfl) ?_
      refine nr ?_; intro U h; simp only [z0, z1] at h; subst h
      refine s_gvalY 14 rfl rfl y8 rfl (.slice ao l.length cap) (rfl) ?_
      refine nr ?_; intro U h; simp only [z0, z1] at h; subst h
      refine s_gvalY 15 rfl rfl y8 rfl (.int .i64 n) (rfl) ?_
      refine nr ?_; intro U h; simp only [z0, z1] at h; subst h
      refine s_gvalY 16 rfl rfl y8 rfl (.pointer (pK kB ao n.toNat 0)) (run_ixK rB (H.gro GG) _ _ rfl rfl n.toNat (by rw [Int.toNat_of_nonneg hlo2]; rfl) (by omega)) ?_
      refine nr ?_; intro U h; simp only [z0, z1] at h; subst h
      refine s_gvalY 17 rfl rfl y8 rfl (.bool (l.getD n.toNat false)) (run_ldKB (H.gro GG) _ rfl n.toNat rfl (by omega)) ?_
      refine nr ?_; intro U h; simp only [z0, z1] at h; subst h
      refine s_val 18 rfl rfl (.bool (l.getD n.toNat false)) (rfl) ?_
      refine nr ?_; intro U h; simp only [z0, z1] at h; subst h
      refine s_val 4 rfl rfl (.bool (l.getD n.toNat false)) (rfl) ?_
      refine nr ?_; intro U h; simp only [z0, z1] at h; subst h
      refine wpList_nil ?_
      refine then_n ?_
      refine wp_ret ?_
      refine bodyPost_ret (results_tmp Try.results28 _ _ _) rfl ?_
      exact ⟨congrArg (fun b => Ending.returned (.bool b)) (isO_in hlo hhi).symm, GG⟩
set_option maxRecDepth 100000 in
set_option maxHeartbeats 4000000 in
theorem leads_any (w : World) (n : Int) (ao : Option Addr) (cap : Nat) (l : List Int) (H : RC w ao cap l) : Calls Try.prog 27 #[.int .i64 n, .slice ao l.length cap] w (fun e w' => e = .returned (.bool (lead n l)) ∧ Gro w w') := by
  refine s_enter Try.func27 rfl Try.ntmps27 [.int .i64 n, .slice ao l.length cap] [.int .i64 n, .slice ao l.length cap, undef, undef, undef, undef, undef, undef, undef, undef, undef, undef, undef, undef, undef, undef, undef, undef, undef, undef, undef, undef, undef, undef] rfl ?_
  have GG := Gro.refl w
  refine wp_seq ?_
  refine wp_region_lit ?_
  refine s_val 4 rfl rfl (.bool false) (rfl) ?_
  refine nr ?_; intro U h; simp only [z0, z1] at h; subst h
  refine wpList_nil ?_
  refine then_n ?_
  refine wp_seq ?_
  refine wp_region_opq ?_
  intro OPS hY
  have y3 := hY 3 8 rfl
  have y8 := hY 8 13 rfl
  have y15 := hY 15 20 rfl
  clear hY
  refine s_val 5 rfl rfl (.slice ao l.length cap) (rfl) ?_
  refine nr ?_; intro U h; simp only [z0, z1] at h; subst h
  refine s_val 6 rfl rfl (.int .i64 ((l.length : Nat) : Int)) (run_len Try.underlying32 _ rfl _ _ _ rfl _) ?_
  refine nr ?_; intro U h; simp only [z0, z1] at h; subst h
  cases h2 : decide ((2 : Int) ≤ ((l.length : Nat) : Int))
  · refine s_val 7 rfl rfl (.bool false) (run_leqT 3 _ _ _ rfl 2 ((l.length : Nat) : Int) rfl rfl false h2 _) ?_
    refine nr ?_; intro U h; simp only [z0, z1] at h; subst h
    refine s_val 8 rfl rfl (.bool false) (rfl) ?_
    refine nr ?_; intro U h; simp only [z0, z1] at h; subst h
    refine s_skipY 9 rfl rfl y3 rfl ?_
    refine nr ?_; intro U h; simp only [z0, z1] at h; subst h
    refine s_skipY 10 rfl rfl y3 rfl ?_
    refine nr ?_; intro U h; simp only [z0, z1] at h; subst h
    refine s_skipY 11 rfl rfl y3 rfl ?_
    refine nr ?_; intro U h; simp only [z0, z1] at h; subst h
    refine s_val 12 rfl rfl (.bool false) (rfl) ?_
    refine nr ?_; intro U h; simp only [z0, z1] at h; subst h
    refine s_val 13 rfl rfl (.bool false) (rfl) ?_
    refine nr ?_; intro U h; simp only [z0, z1] at h; subst h
    refine s_skipY 14 rfl rfl y8 rfl ?_
    refine nr ?_; intro U h; simp only [z0, z1] at h; subst h
    refine s_skipY 15 rfl rfl y8 rfl ?_
    refine nr ?_; intro U h; simp only [z0, z1] at h; subst h
    refine s_skipY 16 rfl rfl y8 rfl ?_
    refine nr ?_; intro U h; simp only [z0, z1] at h; subst h
    refine s_skipY 17 rfl rfl y8 rfl ?_
    refine nr ?_; intro U h; simp only [z0, z1] at h; subst h
    refine s_skipY 18 rfl rfl y8 rfl ?_
    refine nr ?_; intro U h; simp only [z0, z1] at h; subst h
    refine s_val 19 rfl rfl (.bool false) (rfl) ?_
    refine nr ?_; intro U h; simp only [z0, z1] at h; subst h
    refine s_val 20 rfl rfl (.bool false) (rfl) ?_
    refine nr ?_; intro U h; simp only [z0, z1] at h; subst h
    refine s_skipY 21 rfl rfl y15 rfl ?_
    refine nr ?_; intro U h; simp only [z0, z1] at h; subst h
    refine s_skipY 22 rfl rfl y15 rfl ?_
    refine nr ?_; intro U h; simp only [z0, z1] at h; subst h
    refine s_val 23 rfl rfl (.bool false) (rfl) ?_
    refine nr ?_; intro U h; simp only [z0, z1] at h; subst h
    refine s_val 4 rfl rfl (.bool false) (rfl) ?_
    refine nr ?_; intro U h; simp only [z0, z1] at h; subst h
    refine wpList_nil ?_
    refine then_n ?_
    refine wp_ret ?_
    refine bodyPost_ret (results_tmp Try.results27 _ _ _) rfl ?_
    exact ⟨congrArg (fun b => Ending.returned (.bool b)) (by rw [decide_eq_false_iff_not] at h2; unfold lead; rw [decide_eq_false (by omega)]; rfl), GG⟩
  · have h2b := of_decide_eq_true h2
    refine s_val 7 rfl rfl (.bool true) (run_leqT 3 _ _ _ rfl 2 ((l.length : Nat) : Int) rfl rfl true h2 _) ?_
    refine nr ?_; intro U h; simp only [z0, z1] at h; subst h
    refine s_val 8 rfl rfl (.bool true) (rfl) ?_
    refine nr ?_; intro U h; simp only [z0, z1] at h; subst h
    refine s_gvalY 9 rfl rfl y3 rfl (.slice ao l.length cap) (rfl) ?_
    refine nr ?_; intro U h; simp only [z0, z1] at h; subst h
    refine s_gvalY 10 rfl rfl y3 rfl (.int .i64 ((l.length : Nat) : Int)) (run_len Try.underlying32 _ rfl _ _ _ rfl _) ?_
    refine nr ?_; intro U h; simp only [z0, z1] at h; subst h
    cases h64 : decide (((l.length : Nat) : Int) ≤ 64)
    · refine s_gvalY 11 rfl rfl y3 rfl (.bool false) (run_leqT 3 _ _ _ rfl ((l.length : Nat) : Int) 64 rfl rfl false h64 _) ?_
      refine nr ?_; intro U h; simp only [z0, z1] at h; subst h
      refine s_val 12 rfl rfl (.bool false) (rfl) ?_
      refine nr ?_; intro U h; simp only [z0, z1] at h; subst h
      refine s_val 13 rfl rfl (.bool false) (rfl) ?_
      refine nr ?_; intro U h; simp only [z0, z1] at h; subst h
      refine s_skipY 14 rfl rfl y8 rfl ?_
      refine nr ?_; intro U h; simp only [z0, z1] at h; subst h
      refine s_skipY 15 rfl rfl y8 rfl ?_
      refine nr ?_; intro U h; simp only [z0, z1] at h; subst h
      refine s_skipY 16 rfl rfl y8 rfl ?_
      refine nr ?_; intro U h; simp only [z0, z1] at h; subst h
      refine s_skipY 17 rfl rfl y8 rfl ?_
      refine nr ?_; intro U h; simp only [z0, z1] at h; subst h
      refine s_skipY 18 rfl rfl y8 rfl ?_
      refine nr ?_; intro U h; simp only [z0, z1] at h; subst h
      refine s_val 19 rfl rfl (.bool false) (rfl) ?_
      refine nr ?_; intro U h; simp only [z0, z1] at h; subst h
      refine s_val 20 rfl rfl (.bool false) (rfl) ?_
      refine nr ?_; intro U h; simp only [z0, z1] at h; subst h
      refine s_skipY 21 rfl rfl y15 rfl ?_
      refine nr ?_; intro U h; simp only [z0, z1] at h; subst h
      refine s_skipY 22 rfl rfl y15 rfl ?_
      refine nr ?_; intro U h; simp only [z0, z1] at h; subst h
      refine s_val 23 rfl rfl (.bool false) (rfl) ?_
      refine nr ?_; intro U h; simp only [z0, z1] at h; subst h
      refine s_val 4 rfl rfl (.bool false) (rfl) ?_
      refine nr ?_; intro U h; simp only [z0, z1] at h; subst h
      refine wpList_nil ?_
      refine then_n ?_
      refine wp_ret ?_
      refine bodyPost_ret (results_tmp Try.results27 _ _ _) rfl ?_
      exact ⟨congrArg (fun b => Ending.returned (.bool b)) (by rw [decide_eq_false_iff_not] at h64; unfold lead; rw [decide_eq_false (p := l.length ≤ 64) (by omega)]; simp), GG⟩
    · have h64b := of_decide_eq_true h64
      refine s_gvalY 11 rfl rfl y3 rfl (.bool true) (run_leqT 3 _ _ _ rfl ((l.length : Nat) : Int) 64 rfl rfl true h64 _) ?_
      refine nr ?_; intro U h; simp only [z0, z1] at h; subst h
      refine s_val 12 rfl rfl (.bool true) (rfl) ?_
      refine nr ?_; intro U h; simp only [z0, z1] at h; subst h
      refine s_val 13 rfl rfl (.bool true) (rfl) ?_
      refine nr ?_; intro U h; simp only [z0, z1] at h; subst h
      refine s_gvalY 14 rfl rfl y8 rfl (.slice ao l.length cap) (rfl) ?_
      refine nr ?_; intro U h; simp only [z0, z1] at h; subst h
      refine s_gvalY 15 rfl rfl y8 rfl (.pointer (pA ao 0)) (run_ixI (H.gro GG) _ _ rfl rfl 0 rfl (by omega)) ?_
      refine nr ?_; intro U h; simp only [z0, z1] at h; subst h
      refine s_gvalY 16 rfl rfl y8 rfl (.int .i64 (l.getD 0 0)) (run_ldI (H.gro GG) _ rfl 0 rfl (by omega)) ?_
      refine nr ?_; intro U h; simp only [z0, z1] at h; subst h
      refine s_gvalY 17 rfl rfl y8 rfl (.int .i64 n) (rfl) ?_
      refine nr ?_; intro U h; simp only [z0, z1] at h; subst h
      cases h0 : decide (l.getD 0 0 = n)
      · refine s_gvalY 18 rfl rfl y8 rfl (.bool false) (run_eq_k 3 .i64 _ _ _ rfl Try.underlying3 (l.getD 0 0) n rfl rfl false h0 _) ?_
        refine nr ?_; intro U h; simp only [z0, z1] at h; subst h
        refine s_val 19 rfl rfl (.bool false) (rfl) ?_
        refine nr ?_; intro U h; simp only [z0, z1] at h; subst h
        refine s_val 20 rfl rfl (.bool false) (rfl) ?_
        refine nr ?_; intro U h; simp only [z0, z1] at h; subst h
        refine s_skipY 21 rfl rfl y15 rfl ?_
        refine nr ?_; intro U h; simp only [z0, z1] at h; subst h
        refine s_skipY 22 rfl rfl y15 rfl ?_
        refine nr ?_; intro U h; simp only [z0, z1] at h; subst h
        refine s_val 23 rfl rfl (.bool false) (rfl) ?_
        refine nr ?_; intro U h; simp only [z0, z1] at h; subst h
        refine s_val 4 rfl rfl (.bool false) (rfl) ?_
        refine nr ?_; intro U h; simp only [z0, z1] at h; subst h
        refine wpList_nil ?_
        refine then_n ?_
        refine wp_ret ?_
        refine bodyPost_ret (results_tmp Try.results27 _ _ _) rfl ?_
        exact ⟨congrArg (fun b => Ending.returned (.bool b)) (by unfold lead; rw [h0]; simp), GG⟩
      · refine s_gvalY 18 rfl rfl y8 rfl (.bool true) (run_eq_k 3 .i64 _ _ _ rfl Try.underlying3 (l.getD 0 0) n rfl rfl true h0 _) ?_
        refine nr ?_; intro U h; simp only [z0, z1] at h; subst h
        refine s_val 19 rfl rfl (.bool true) (rfl) ?_
        refine nr ?_; intro U h; simp only [z0, z1] at h; subst h
        refine s_val 20 rfl rfl (.bool true) (rfl) ?_
        refine nr ?_; intro U h; simp only [z0, z1] at h; subst h
        refine s_gvalY 21 rfl rfl y15 rfl (.slice ao l.length cap) (rfl) ?_
        refine nr ?_; intro U h; simp only [z0, z1] at h; subst h
        refine s_gcallvY 22 rfl rfl y15 rfl _ 35 Try.call35 rfl rfl _ rfl [.slice ao l.length cap] rfl (simple_any _ ao cap l (H.gro GG) (by omega)) ?_
        intro w1 G
        replace GG := GG.trans G
        clear G
        refine nr ?_; intro U h; simp only [z0, z1] at h; subst h
        refine s_val 23 rfl rfl (.bool (decide l.Nodup)) (rfl) ?_
        refine nr ?_; intro U h; simp only [z0, z1] at h; subst h
        refine s_val 4 rfl rfl (.bool (decide l.Nodup)) (rfl) ?_
        refine nr ?_; intro U h; simp only [z0, z1] at h; subst h
        refine wpList_nil ?_
        refine then_n ?_
        refine wp_ret ?_
        refine bodyPost_ret (results_tmp Try.results27 _ _ _) rfl ?_
        exact ⟨congrArg (fun b => Ending.returned (.bool b)) ((lead_of (decide_eq_true (by omega)) (decide_eq_true (by omega)) h0).symm), GG⟩
set_option maxRecDepth 100000 in
set_option maxHeartbeats 4000000 in
theorem setupOf_yes (w : World) (M : Msg) (hk : M.kind = 4) (ao : Option Addr) (cap : Nat) (g : Fr) (d : FD) (HW : FrW w (frY M ao cap g) d) (hd : d.tr = M.l) (hi : ∀ x ∈ M.l, I64t x) (HS : FrS (frY M ao cap g)) : Calls Try.prog 34 #[.agg (frA (frY M ao cap g))] w (SupP w M) := by
  refine s_enter Try.func34 rfl Try.ntmps34 [.agg (frA (frY M ao cap g))] [.agg (frA (frY M ao cap g)), undef, undef, undef, undef, undef, undef, undef, undef, undef, undef, undef, undef, undef, undef, undef, undef, undef, undef, undef] rfl ?_
  have GG := Gro.refl w
  refine wp_seq ?_
  refine wp_region_lit ?_
  refine s_box 1 rfl rfl 64 _ rfl _ rfl (frA (frY M ao cap g)) rfl ?_
  intro w1 g1 G eg1 kg1
  have bg1 := size_base GG eg1
  replace GG := GG.trans G
  clear G
  clear eg1
  refine nr ?_; intro U h; simp only [z0, z1] at h; subst h
  refine s_alloc 2 rfl rfl 88 rfl _ zvU (suA zP 0 0 none 0 0) rfl ?_
  intro w2 g2 G eg2 kg2
  have bg2 := size_base GG eg2
  have dg1g2 := lt_new kg1 eg2
  replace kg1 := G.has kg1
  replace GG := GG.trans G
  clear G
  clear eg2
  refine nr ?_; intro U h; simp only [z0, z1] at h; subst h
  refine s_val 3 rfl rfl (.bool false) (rfl) ?_
  refine nr ?_; intro U h; simp only [z0, z1] at h; subst h
  refine wpList_nil ?_
  refine then_n ?_
  refine wp_seq ?_
  refine wp_region_lit ?_
  refine s_val 9 rfl rfl (.agg (frA (frY M ao cap g))) (ldF_0 _ rfl g1 rfl (kg1)) ?_
  refine nr ?_; intro U h; simp only [z0, z1] at h; subst h
  refine s_callx 10 rfl rfl _ 48 Try.call48 rfl rfl _ rfl [.agg (frA (frY M ao cap g))] rfl (of4 _ M hk ao cap g d (HW.gro GG) hd hi HS) (by rintro _ _ ⟨_, _, he, _⟩; exact ⟨_, he⟩) ?_
  rintro v w3 ⟨a2, c2, he, G, HI⟩
  cases he
  have dHIg1 := HI.neL (lt_of_heap kg1)
  have dHIg2 := HI.neL (lt_of_heap kg2)
  replace HI := HI.mono GG.size
  replace kg1 := G.has kg1
  replace kg2 := G.has kg2
  replace GG := GG.trans G
  clear G
  refine nr ?_; intro U h; simp only [z0, z1] at h; subst h
  refine s_val 8 rfl rfl (.tuple #[.iface 88 (.agg (suA M.p M.a M.b a2 M.l.length c2)), .bool true]) (rfl) ?_
  refine nr ?_; intro U h; simp only [z0, z1] at h; subst h
  refine s_val 11 rfl rfl (.iface 88 (.agg (suA M.p M.a M.b a2 M.l.length c2))) (rfl) ?_
  refine nr ?_; intro U h; simp only [z0, z1] at h; subst h
  refine s_val 12 rfl rfl (.bool true) (rfl) ?_
  refine nr ?_; intro U h; simp only [z0, z1] at h; subst h
  refine s_val 4 rfl rfl (.iface 88 (.agg (suA M.p M.a M.b a2 M.l.length c2))) (rfl) ?_
  refine nr ?_; intro U h; simp only [z0, z1] at h; subst h
  refine s_val 5 rfl rfl (.bool true) (rfl) ?_
  refine nr ?_; intro U h; simp only [z0, z1] at h; subst h
  refine wpList_nil ?_
  refine then_n ?_
  refine wp_seq ?_
  refine wp_region_lit ?_
  refine s_val 14 rfl rfl (.iface 88 (.agg (suA M.p M.a M.b a2 M.l.length c2))) (rfl) ?_
  refine nr ?_; intro U h; simp only [z0, z1] at h; subst h
  refine s_val 15 rfl rfl (.tuple #[.agg (suA M.p M.a M.b a2 M.l.length c2), .bool true]) (run_ta _ 102 88 true rfl (.iface 88 (.agg (suA M.p M.a M.b a2 M.l.length c2))) _ rfl (ta_yes _ _ _ _ _ _ _)) ?_
  refine nr ?_; intro U h; simp only [z0, z1] at h; subst h
  refine s_val 13 rfl rfl (.tuple #[.agg (suA M.p M.a M.b a2 M.l.length c2), .bool true]) (rfl) ?_
  refine nr ?_; intro U h; simp only [z0, z1] at h; subst h
  refine s_val 16 rfl rfl (.agg (suA M.p M.a M.b a2 M.l.length c2)) (rfl) ?_
  refine nr ?_; intro U h; simp only [z0, z1] at h; subst h
  refine s_val 17 rfl rfl (.bool true) (rfl) ?_
  refine nr ?_; intro U h; simp only [z0, z1] at h; subst h
  refine s_alloc 6 rfl rfl 88 rfl _ zvU (suA zP 0 0 none 0 0) rfl ?_
  intro w4 g3 G eg3 kg3
  have bg3 := size_base GG eg3
  have dg1g3 := lt_new kg1 eg3
  have dg2g3 := lt_new kg2 eg3
  have dHIg3 := HI.ne eg3
  replace kg1 := G.has kg1
  replace kg2 := G.has kg2
  replace HI := HI.gro G
  replace GG := GG.trans G
  clear G
  clear eg3
  refine nr ?_; intro U h; simp only [z0, z1] at h; subst h
  refine s_store rfl rfl 88 _ _ rfl g3 0 rfl (.agg (suA M.p M.a M.b a2 M.l.length c2)) rfl 88 _ kg3 (suA M.p M.a M.b a2 M.l.length c2) rfl (siU' _ _ _ _ _ _) (Nat.le_refl _) (oneU _ _ _ _ _ _) (suA M.p M.a M.b a2 M.l.length c2) (splice_whole _ _ (rfl)) ?_
  intro w5 St
  have kS := kg3
  replace kg1 := St.has (by omega) kg1
  replace kg2 := St.has (by omega) kg2
  replace HI := HI.st St dHIg3
  replace GG := GG.store St bg3
  replace kg3 := St.new
  clear St
  refine s_val 7 rfl rfl (.bool true) (rfl) ?_
  refine nr ?_; intro U h; simp only [z0, z1] at h; subst h
  refine wpList_nil ?_
  refine then_n ?_
  refine wp_seq ?_
  refine wp_region_lit ?_
  refine s_val 18 rfl rfl (.agg (suA M.p M.a M.b a2 M.l.length c2)) (ldU_0 _ rfl g3 rfl (kg3)) ?_
  refine nr ?_; intro U h; simp only [z0, z1] at h; subst h
  refine s_val 19 rfl rfl (.bool true) (rfl) ?_
  refine nr ?_; intro U h; simp only [z0, z1] at h; subst h
  refine s_store rfl rfl 88 _ _ rfl g2 0 rfl (.agg (suA M.p M.a M.b a2 M.l.length c2)) rfl 88 _ kg2 (suA M.p M.a M.b a2 M.l.length c2) rfl (siU' _ _ _ _ _ _) (Nat.le_refl _) (oneU _ _ _ _ _ _) (suA M.p M.a M.b a2 M.l.length c2) (splice_whole _ _ (rfl)) ?_
  intro w6 St
  have kS := kg2
  replace kg1 := St.has (by omega) kg1
  replace kg3 := St.has (by omega) kg3
  replace HI := HI.st St dHIg2
  replace GG := GG.store St bg2
  replace kg2 := St.new
  clear St
  refine s_val 3 rfl rfl (.bool true) (rfl) ?_
  refine nr ?_; intro U h; simp only [z0, z1] at h; subst h
  refine wpList_nil ?_
  refine then_n ?_
  refine wp_ret ?_
  refine bodyPost_ret (results_cell_tmp Try.results34 _ _ g2 88 _ (0, 0) _ rfl (.bool true) rfl kg2 Try.underlying88 rfl (siU' _ _ _ _ _ _)) rfl ?_
  exact ⟨a2, c2, rfl, GG, HI⟩
set_option maxRecDepth 100000 in
set_option maxHeartbeats 4000000 in
theorem setupOf_k (w : World) (M : Msg) (ao : Option Addr) (cap : Nat) (g : Fr) (d : FD) (HW : FrW w (frY M ao cap g) d) (HS : FrS (frY M ao cap g)) (k : Nat) (h1 : 1 ≤ k) (h2 : k ≤ 12) (h4 : k ≠ 4) (hk : M.kind = (k : Int)) : Calls Try.prog 34 #[.agg (frA (frY M ao cap g))] w (fun e w' => e = .returned (.tuple #[.agg (suA zP 0 0 none 0 0), .bool false]) ∧ Gro w w') := by
  refine s_enter Try.func34 rfl Try.ntmps34 [.agg (frA (frY M ao cap g))] [.agg (frA (frY M ao cap g)), undef, undef, undef, undef, undef, undef, undef, undef, undef, undef, undef, undef, undef, undef, undef, undef, undef, undef, undef] rfl ?_
  have GG := Gro.refl w
  refine wp_seq ?_
  refine wp_region_lit ?_
  refine s_box 1 rfl rfl 64 _ rfl _ rfl (frA (frY M ao cap g)) rfl ?_
  intro w1 g1 G eg1 kg1
  have bg1 := size_base GG eg1
  replace GG := GG.trans G
  clear G
  clear eg1
  refine nr ?_; intro U h; simp only [z0, z1] at h; subst h
  refine s_alloc 2 rfl rfl 88 rfl _ zvU (suA zP 0 0 none 0 0) rfl ?_
  intro w2 g2 G eg2 kg2
  have bg2 := size_base GG eg2
  have dg1g2 := lt_new kg1 eg2
  replace kg1 := G.has kg1
  replace GG := GG.trans G
  clear G
  clear eg2
  refine nr ?_; intro U h; simp only [z0, z1] at h; subst h
  refine s_val 3 rfl rfl (.bool false) (rfl) ?_
  refine nr ?_; intro U h; simp only [z0, z1] at h; subst h
  refine wpList_nil ?_
  refine then_n ?_
  refine wp_seq ?_
  refine wp_region_lit ?_
  refine s_val 9 rfl rfl (.agg (frA (frY M ao cap g))) (ldF_0 _ rfl g1 rfl (kg1)) ?_
  refine nr ?_; intro U h; simp only [z0, z1] at h; subst h
  refine s_callx 10 rfl rfl _ 48 Try.call48 rfl rfl _ rfl [.agg (frA (frY M ao cap g))] rfl (of_any k h1 h2 (frY M ao cap g) hk d _ (HW.gro GG) HS) (by rintro _ _ ⟨_, _, _, _, he, _⟩; exact ⟨_, he⟩) ?_
  rintro v w3 ⟨s1, s2, s3, s4, he, _, G⟩
  cases he
  replace kg1 := G.has kg1
  replace kg2 := G.has kg2
  replace GG := GG.trans G
  clear G
  refine nr ?_; intro U h; simp only [z0, z1] at h; subst h
  refine s_val 8 rfl rfl (.tuple #[bodyV k { frY M ao cap g with tr := s1, ids := s2, val := s3, tx := s4 }, .bool true]) (rfl) ?_
  refine nr ?_; intro U h; simp only [z0, z1] at h; subst h
  refine s_val 11 rfl rfl (bodyV k { frY M ao cap g with tr := s1, ids := s2, val := s3, tx := s4 }) (rfl) ?_
  refine nr ?_; intro U h; simp only [z0, z1] at h; subst h
  refine s_val 12 rfl rfl (.bool true) (rfl) ?_
  refine nr ?_; intro U h; simp only [z0, z1] at h; subst h
  refine s_val 4 rfl rfl (bodyV k { frY M ao cap g with tr := s1, ids := s2, val := s3, tx := s4 }) (rfl) ?_
  refine nr ?_; intro U h; simp only [z0, z1] at h; subst h
  refine s_val 5 rfl rfl (.bool true) (rfl) ?_
  refine nr ?_; intro U h; simp only [z0, z1] at h; subst h
  refine wpList_nil ?_
  refine then_n ?_
  refine wp_seq ?_
  refine wp_region_lit ?_
  refine s_val 14 rfl rfl (bodyV k { frY M ao cap g with tr := s1, ids := s2, val := s3, tx := s4 }) (rfl) ?_
  refine nr ?_; intro U h; simp only [z0, z1] at h; subst h
  refine s_val 15 rfl rfl (.tuple #[.agg (suA zP 0 0 none 0 0), .bool false]) (run_ta _ 102 88 true rfl (bodyV k { frY M ao cap g with tr := s1, ids := s2, val := s3, tx := s4 }) _ rfl (ta_no k _ h1 h2 h4 _)) ?_
  refine nr ?_; intro U h; simp only [z0, z1] at h; subst h
  refine s_val 13 rfl rfl (.tuple #[.agg (suA zP 0 0 none 0 0), .bool false]) (rfl) ?_
  refine nr ?_; intro U h; simp only [z0, z1] at h; subst h
  refine s_val 16 rfl rfl (.agg (suA zP 0 0 none 0 0)) (rfl) ?_
  refine nr ?_; intro U h; simp only [z0, z1] at h; subst h
  refine s_val 17 rfl rfl (.bool false) (rfl) ?_
  refine nr ?_; intro U h; simp only [z0, z1] at h; subst h
  refine s_alloc 6 rfl rfl 88 rfl _ zvU (suA zP 0 0 none 0 0) rfl ?_
  intro w4 g3 G eg3 kg3
  have bg3 := size_base GG eg3
  have dg1g3 := lt_new kg1 eg3
  have dg2g3 := lt_new kg2 eg3
  replace kg1 := G.has kg1
  replace kg2 := G.has kg2
  replace GG := GG.trans G
  clear G
  clear eg3
  refine nr ?_; intro U h; simp only [z0, z1] at h; subst h
  refine s_store rfl rfl 88 _ _ rfl g3 0 rfl (.agg (suA zP 0 0 none 0 0)) rfl 88 _ kg3 (suA zP 0 0 none 0 0) rfl (siU' _ _ _ _ _ _) (Nat.le_refl _) (oneU _ _ _ _ _ _) (suA zP 0 0 none 0 0) (splice_whole _ _ (rfl)) ?_
  intro w5 St
  have kS := kg3
  replace kg1 := St.has (by omega) kg1
  replace kg2 := St.has (by omega) kg2
  replace GG := GG.store St bg3
  replace kg3 := St.new
  clear St
  refine s_val 7 rfl rfl (.bool false) (rfl) ?_
  refine nr ?_; intro U h; simp only [z0, z1] at h; subst h
  refine wpList_nil ?_
  refine then_n ?_
  refine wp_seq ?_
  refine wp_region_lit ?_
  refine s_val 18 rfl rfl (.agg (suA zP 0 0 none 0 0)) (ldU_0 _ rfl g3 rfl (kg3)) ?_
  refine nr ?_; intro U h; simp only [z0, z1] at h; subst h
  refine s_val 19 rfl rfl (.bool false) (rfl) ?_
  refine nr ?_; intro U h; simp only [z0, z1] at h; subst h
  refine s_store rfl rfl 88 _ _ rfl g2 0 rfl (.agg (suA zP 0 0 none 0 0)) rfl 88 _ kg2 (suA zP 0 0 none 0 0) rfl (siU' _ _ _ _ _ _) (Nat.le_refl _) (oneU _ _ _ _ _ _) (suA zP 0 0 none 0 0) (splice_whole _ _ (rfl)) ?_
  intro w6 St
  have kS := kg2
  replace kg1 := St.has (by omega) kg1
  replace kg3 := St.has (by omega) kg3
  replace GG := GG.store St bg2
  replace kg2 := St.new
  clear St
  refine s_val 3 rfl rfl (.bool false) (rfl) ?_
  refine nr ?_; intro U h; simp only [z0, z1] at h; subst h
  refine wpList_nil ?_
  refine then_n ?_
  refine wp_ret ?_
  refine bodyPost_ret (results_cell_tmp Try.results34 _ _ g2 88 _ (0, 0) _ rfl (.bool false) rfl kg2 Try.underlying88 rfl (siU' _ _ _ _ _ _)) rfl ?_
  exact ⟨rfl, GG⟩
set_option maxRecDepth 100000 in
set_option maxHeartbeats 4000000 in
theorem setupOf_n (w : World) (M : Msg) (ao : Option Addr) (cap : Nat) (g : Fr) (d : FD) (HW : FrW w (frY M ao cap g) d) (HS : FrS (frY M ao cap g)) (hk : ¬ (1 ≤ M.kind ∧ M.kind ≤ 12)) : Calls Try.prog 34 #[.agg (frA (frY M ao cap g))] w (fun e w' => e = .returned (.tuple #[.agg (suA zP 0 0 none 0 0), .bool false]) ∧ Gro w w') := by
  refine s_enter Try.func34 rfl Try.ntmps34 [.agg (frA (frY M ao cap g))] [.agg (frA (frY M ao cap g)), undef, undef, undef, undef, undef, undef, undef, undef, undef, undef, undef, undef, undef, undef, undef, undef, undef, undef, undef] rfl ?_
  have GG := Gro.refl w
  refine wp_seq ?_
  refine wp_region_lit ?_
  refine s_box 1 rfl rfl 64 _ rfl _ rfl (frA (frY M ao cap g)) rfl ?_
  intro w1 g1 G eg1 kg1
  have bg1 := size_base GG eg1
  replace GG := GG.trans G
  clear G
  clear eg1
  refine nr ?_; intro U h; simp only [z0, z1] at h; subst h
  refine s_alloc 2 rfl rfl 88 rfl _ zvU (suA zP 0 0 none 0 0) rfl ?_
  intro w2 g2 G eg2 kg2
  have bg2 := size_base GG eg2
  have dg1g2 := lt_new kg1 eg2
  replace kg1 := G.has kg1
  replace GG := GG.trans G
  clear G
  clear eg2
  refine nr ?_; intro U h; simp only [z0, z1] at h; subst h
  refine s_val 3 rfl rfl (.bool false) (rfl) ?_
  refine nr ?_; intro U h; simp only [z0, z1] at h; subst h
  refine wpList_nil ?_
  refine then_n ?_
  refine wp_seq ?_
  refine wp_region_lit ?_
  refine s_val 9 rfl rfl (.agg (frA (frY M ao cap g))) (ldF_0 _ rfl g1 rfl (kg1)) ?_
  refine nr ?_; intro U h; simp only [z0, z1] at h; subst h
  refine s_callv 10 rfl rfl _ 48 Try.call48 rfl rfl _ rfl [.agg (frA (frY M ao cap g))] rfl (of_not (frY M ao cap g) hk d _ (HW.gro GG) HS) ?_
  intro w3 G
  replace kg1 := G.has kg1
  replace kg2 := G.has kg2
  replace GG := GG.trans G
  clear G
  refine nr ?_; intro U h; simp only [z0, z1] at h; subst h
  refine s_val 8 rfl rfl (.tuple #[.nilIface, .bool false]) (rfl) ?_
  refine nr ?_; intro U h; simp only [z0, z1] at h; subst h
  refine s_val 11 rfl rfl (.nilIface) (rfl) ?_
  refine nr ?_; intro U h; simp only [z0, z1] at h; subst h
  refine s_val 12 rfl rfl (.bool false) (rfl) ?_
  refine nr ?_; intro U h; simp only [z0, z1] at h; subst h
  refine s_val 4 rfl rfl (.nilIface) (rfl) ?_
  refine nr ?_; intro U h; simp only [z0, z1] at h; subst h
  refine s_val 5 rfl rfl (.bool false) (rfl) ?_
  refine nr ?_; intro U h; simp only [z0, z1] at h; subst h
  refine wpList_nil ?_
  refine then_n ?_
  refine wp_seq ?_
  refine wp_region_lit ?_
  refine s_val 14 rfl rfl (.nilIface) (rfl) ?_
  refine nr ?_; intro U h; simp only [z0, z1] at h; subst h
  refine s_val 15 rfl rfl (.tuple #[.agg (suA zP 0 0 none 0 0), .bool false]) (run_ta _ 102 88 true rfl (.nilIface) _ rfl (ta_nil _)) ?_
  refine nr ?_; intro U h; simp only [z0, z1] at h; subst h
  refine s_val 13 rfl rfl (.tuple #[.agg (suA zP 0 0 none 0 0), .bool false]) (rfl) ?_
  refine nr ?_; intro U h; simp only [z0, z1] at h; subst h
  refine s_val 16 rfl rfl (.agg (suA zP 0 0 none 0 0)) (rfl) ?_
  refine nr ?_; intro U h; simp only [z0, z1] at h; subst h
  refine s_val 17 rfl rfl (.bool false) (rfl) ?_
  refine nr ?_; intro U h; simp only [z0, z1] at h; subst h
  refine s_alloc 6 rfl rfl 88 rfl _ zvU (suA zP 0 0 none 0 0) rfl ?_
  intro w4 g3 G eg3 kg3
  have bg3 := size_base GG eg3
  have dg1g3 := lt_new kg1 eg3
  have dg2g3 := lt_new kg2 eg3
  replace kg1 := G.has kg1
  replace kg2 := G.has kg2
  replace GG := GG.trans G
  clear G
  clear eg3
  refine nr ?_; intro U h; simp only [z0, z1] at h; subst h
  refine s_store rfl rfl 88 _ _ rfl g3 0 rfl (.agg (suA zP 0 0 none 0 0)) rfl 88 _ kg3 (suA zP 0 0 none 0 0) rfl (siU' _ _ _ _ _ _) (Nat.le_refl _) (oneU _ _ _ _ _ _) (suA zP 0 0 none 0 0) (splice_whole _ _ (rfl)) ?_
  intro w5 St
  have kS := kg3
  replace kg1 := St.has (by omega) kg1
  replace kg2 := St.has (by omega) kg2
  replace GG := GG.store St bg3
  replace kg3 := St.new
  clear St
  refine s_val 7 rfl rfl (.bool false) (rfl) ?_
  refine nr ?_; intro U h; simp only [z0, z1] at h; subst h
  refine wpList_nil ?_
  refine then_n ?_
  refine wp_seq ?_
  refine wp_region_lit ?_
  refine s_val 18 rfl rfl (.agg (suA zP 0 0 none 0 0)) (ldU_0 _ rfl g3 rfl (kg3)) ?_
  refine nr ?_; intro U h; simp only [z0, z1] at h; subst h
  refine s_val 19 rfl rfl (.bool false) (rfl) ?_
  refine nr ?_; intro U h; simp only [z0, z1] at h; subst h
  refine s_store rfl rfl 88 _ _ rfl g2 0 rfl (.agg (suA zP 0 0 none 0 0)) rfl 88 _ kg2 (suA zP 0 0 none 0 0) rfl (siU' _ _ _ _ _ _) (Nat.le_refl _) (oneU _ _ _ _ _ _) (suA zP 0 0 none 0 0) (splice_whole _ _ (rfl)) ?_
  intro w6 St
  have kS := kg2
  replace kg1 := St.has (by omega) kg1
  replace kg3 := St.has (by omega) kg3
  replace GG := GG.store St bg2
  replace kg2 := St.new
  clear St
  refine s_val 3 rfl rfl (.bool false) (rfl) ?_
  refine nr ?_; intro U h; simp only [z0, z1] at h; subst h
  refine wpList_nil ?_
  refine then_n ?_
  refine wp_ret ?_
  refine bodyPost_ret (results_cell_tmp Try.results34 _ _ g2 88 _ (0, 0) _ rfl (.bool false) rfl kg2 Try.underlying88 rfl (siU' _ _ _ _ _ _)) rfl ?_
  exact ⟨rfl, GG⟩
theorem setupOf_no (w : World) (M : Msg) (ao : Option Addr) (cap : Nat) (g : Fr) (d : FD) (HW : FrW w (frY M ao cap g) d) (HS : FrS (frY M ao cap g)) (hk : M.kind ≠ 4) : Calls Try.prog 34 #[.agg (frA (frY M ao cap g))] w (fun e w' => e = .returned (.tuple #[.agg (suA zP 0 0 none 0 0), .bool false]) ∧ Gro w w') := by
  by_cases h : 1 ≤ M.kind ∧ M.kind ≤ 12
  · obtain ⟨k, h1, h2, h3⟩ := of_kind _ h.1 h.2
    exact setupOf_k w M ao cap g d HW HS k h1 h2 (fun e => hk (by rw [h3, e]; rfl)) h3
  · exact setupOf_n w M ao cap g d HW HS h
end Go.Proofs.Ytkjnefgenffhcaa
