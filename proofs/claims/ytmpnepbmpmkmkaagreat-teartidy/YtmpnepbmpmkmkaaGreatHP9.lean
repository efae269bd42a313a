/- Calls on keys and entries: less, right, the other end. -/
import Derived.Test.YtmpnepbmpmkmkaaGreatHP8
import Derived.Test.YtmpnepbmpmkmkaaGreatHW2
namespace Go.Proofs.YtmpnepbmpmkmkaaGreat
open Go.RowKit Go.Maps
theorem D.Gro.old {w w' : World} (h : D.Gro w w') : Go.Proofs.YtmpnepbmpmkmkaaGreat.Gro w w' := h.below
theorem hav_vals {posts : List PostE} {n e0 : Nat} {w0 : World} {S : List Nat} (X : List Nat) (hS : ((List.range n).all fun j => j == e0 || X.contains j) = true) (hv : allVal posts X) : ∀ j, j < n → j ≠ e0 → ∀ v a b, Gro w0 a → GroS S a b → (postE posts j).p v a → (postE posts j).p v b := fun j hj hne v a b _ _ hp => by
  have h1 := List.all_eq_true.1 hS j (List.mem_range.2 hj)
  rw [Bool.or_eq_true] at h1
  rcases h1 with h1 | h1
  · exact absurd (by simpa using h1) hne
  · obtain ⟨u, hu⟩ := allVal_at hv j (by simpa using h1)
    rw [hu] at hp ⊢
    exact hp
theorem opX_stS {P : Program} {ops : Array Oper} {o : Oper} {A : Act} {w : World} (kk : PostE) (hw : Region.wanted o (yielded ops A.tmps) = true) (ty : TypeId) (x y : Operand) (ho : o.op = .store ty x y) (g : Nat) (hx : A.eval x = .pointer (some ⟨g, 0, none⟩)) (cs : Array Value) (hy : A.eval y = .agg cs) (t : TypeId) (old : Array Value) (hg : w.heap[g]? = some (.cells old t (0, 0)))
    (hi : (P.info? ty).map (·.size) = some cs.size) (hle : old.size = cs.size) (h1 : cs.all (·.oneCell') = true) (H : ∀ w', w'.heap[g]? = some (.cells cs t (0, 0)) → kk.p undef w') : OpX P ops (fun z => GroS [g] w z) kk o A w := by
  refine ⟨hw, ?_⟩
  have he : (execOp A.eval o).run P w = .ok .skip (w.setRow g (splice old 0 cs)) := by
    unfold execOp
    simp only [ho, hx, hy, Instr.storeAt, Instr.sureAddr, Sem.run_bind, Sem.run_pure, Result.andThen_ok, run_storeVar_at w g 0 t ty old (.agg cs) hg hi (by show 0 + cs.size ≤ _; omega) h1]
    rfl
  rw [he, splice_whole old cs hle]
  have St := stored_setRow cs hg
  exact ⟨St.gros, H _ St.new⟩
def lessB (p q : Pa) : Bool := decide (ky p < ky q)
set_option maxRecDepth 100000 in
set_option maxHeartbeats 4000000 in
theorem rless_any (p q : Pa) (hp : p.ok) (hq : q.ok) (w : World) : Calls Tryz.prog 48 #[.agg (paA p), .agg (paA q)] w (fun e w' => e = .returned (.bool (lessB p q)) ∧ Gro w w') := by
  refine s_enter Tryz.func48 rfl Tryz.ntmps48 [.agg (paA p), .agg (paA q)] [.agg (paA p), .agg (paA q), undef, undef, undef, undef, undef, undef, undef, undef, undef, undef, undef, undef, undef, undef, undef, undef, undef, undef] rfl ?_
  have GG := Gro.refl w
  refine wp_seq ?_
  refine wp_region_lit ?_
  refine s_box 2 rfl rfl 31 _ rfl _ rfl (paA p) rfl ?_
  intro w1 g1 G eg1 kg1
  have bg1 := size_base GG eg1
  replace GG := GG.trans G
  clear G
  clear eg1
  refine nr ?_; intro U h; simp only [z0, z1] at h; subst h
  refine s_box 3 rfl rfl 31 _ rfl _ rfl (paA q) rfl ?_
  intro w2 g2 G eg2 kg2
  have bg2 := size_base GG eg2
  have dg1g2 := lt_new kg1 eg2
  replace kg1 := G.has kg1
  replace GG := GG.trans G
  clear G
  clear eg2
  refine nr ?_; intro U h; simp only [z0, z1] at h; subst h
  refine s_val 4 rfl rfl (.bool false) (rfl) ?_
  refine nr ?_; intro U h; simp only [z0, z1] at h; subst h
  refine wpList_nil ?_
  refine then_n ?_
  refine wp_seq ?_
  refine wp_seq ?_
  refine wp_region_lit ?_
  refine s_val 5 rfl rfl (.pointer (some ⟨g1, 0, none⟩)) (run_fld 31 _ 0 rfl g1 0 rfl 0 (by kernel_rfl)) ?_
  refine nr ?_; intro U h; simp only [z0, z1] at h; subst h
  refine s_val 6 rfl rfl (.agg (idA p.who)) (ldPw _ rfl g1 rfl (kg1)) ?_
  refine nr ?_; intro U h; simp only [z0, z1] at h; subst h
  refine s_val 7 rfl rfl (.pointer (some ⟨g2, 0, none⟩)) (run_fld 31 _ 0 rfl g2 0 rfl 0 (by kernel_rfl)) ?_
  refine nr ?_; intro U h; simp only [z0, z1] at h; subst h
  refine s_val 8 rfl rfl (.agg (idA q.who)) (ldPw _ rfl g2 rfl (kg2)) ?_
  refine nr ?_; intro U h; simp only [z0, z1] at h; subst h
  cases h1 : decide (p.who = q.who)
  · refine s_val 9 rfl rfl (.bool true) (run_neI _ _ _ rfl _ _ rfl rfl hp.who hq.who true h1) ?_
    refine nr ?_; intro U h; simp only [z0, z1] at h; subst h
    refine wpList_nil ?_
    refine then_n ?_
    refine wp_cond_true rfl ?_
    refine wp_seq ?_
    refine wp_region_lit ?_
    refine s_val 10 rfl rfl (.pointer (some ⟨g1, 0, none⟩)) (run_fld 31 _ 0 rfl g1 0 rfl 0 (by kernel_rfl)) ?_
    refine nr ?_; intro U h; simp only [z0, z1] at h; subst h
    refine s_val 11 rfl rfl (.agg (idA p.who)) (ldPw _ rfl g1 rfl (kg1)) ?_
    refine nr ?_; intro U h; simp only [z0, z1] at h; subst h
    refine s_val 12 rfl rfl (.pointer (some ⟨g2, 0, none⟩)) (run_fld 31 _ 0 rfl g2 0 rfl 0 (by kernel_rfl)) ?_
    refine nr ?_; intro U h; simp only [z0, z1] at h; subst h
    refine s_val 13 rfl rfl (.agg (idA q.who)) (ldPw _ rfl g2 rfl (kg2)) ?_
    refine nr ?_; intro U h; simp only [z0, z1] at h; subst h
    refine s_callv 14 rfl rfl _ 43 Tryz.call43 rfl rfl _ rfl [.agg (idA p.who), .agg (idA q.who)] rfl (less_any p.who q.who hp.who hq.who _) ?_
    intro w3 G
    replace kg1 := G.has kg1
    replace kg2 := G.has kg2
    replace GG := GG.trans G
    clear G
    refine nr ?_; intro U h; simp only [z0, z1] at h; subst h
    refine s_val 4 rfl rfl (.bool (decide (p.who < q.who))) (rfl) ?_
    refine nr ?_; intro U h; simp only [z0, z1] at h; subst h
    refine wpList_nil ?_
    refine then_n ?_
    refine wp_ret ?_
    refine then_r ?_
    refine bodyPost_ret (results_tmp Tryz.results48 _ _ _) rfl ?_
    refine ⟨congrArg (fun b => Ending.returned (.bool b)) ?_, GG⟩
    have h0 := of_decide_eq_false h1
    unfold lessB
    rw [decide_eq_decide, ky_lt hp hq]
    omega
  · refine s_val 9 rfl rfl (.bool false) (run_neI _ _ _ rfl _ _ rfl rfl hp.who hq.who false h1) ?_
    refine nr ?_; intro U h; simp only [z0, z1] at h; subst h
    refine wpList_nil ?_
    refine then_n ?_
    refine wp_cond_false rfl ?_
    refine wp_skip ?_
    refine then_n ?_
    refine wp_seq ?_
    refine wp_region_lit ?_
    refine s_val 15 rfl rfl (.pointer (some ⟨g1, 16, none⟩)) (run_fld 31 _ 1 rfl g1 0 rfl 16 (by kernel_rfl)) ?_
    refine nr ?_; intro U h; simp only [z0, z1] at h; subst h
    refine s_val 16 rfl rfl (.int .i64 p.n) (ldPn _ rfl g1 rfl (kg1)) ?_
    refine nr ?_; intro U h; simp only [z0, z1] at h; subst h
    refine s_val 17 rfl rfl (.pointer (some ⟨g2, 16, none⟩)) (run_fld 31 _ 1 rfl g2 0 rfl 16 (by kernel_rfl)) ?_
    refine nr ?_; intro U h; simp only [z0, z1] at h; subst h
    refine s_val 18 rfl rfl (.int .i64 q.n) (ldPn _ rfl g2 rfl (kg2)) ?_
    refine nr ?_; intro U h; simp only [z0, z1] at h; subst h
    cases h2 : decide (p.n < q.n)
    · refine s_val 19 rfl rfl (.bool false) (run_lssT 2 _ _ _ rfl p.n q.n rfl rfl false h2 _) ?_
      refine nr ?_; intro U h; simp only [z0, z1] at h; subst h
      refine s_val 4 rfl rfl (.bool false) (rfl) ?_
      refine nr ?_; intro U h; simp only [z0, z1] at h; subst h
      refine wpList_nil ?_
      refine then_n ?_
      refine wp_ret ?_
      refine bodyPost_ret (results_tmp Tryz.results48 _ _ _) rfl ?_
      refine ⟨congrArg (fun b => Ending.returned (.bool b)) ?_, GG⟩
      have h0 := of_decide_eq_true h1
      rw [← h2]
      unfold lessB
      rw [decide_eq_decide, ky_lt hp hq]
      omega
    · refine s_val 19 rfl rfl (.bool true) (run_lssT 2 _ _ _ rfl p.n q.n rfl rfl true h2 _) ?_
      refine nr ?_; intro U h; simp only [z0, z1] at h; subst h
      refine s_val 4 rfl rfl (.bool true) (rfl) ?_
      refine nr ?_; intro U h; simp only [z0, z1] at h; subst h
      refine wpList_nil ?_
      refine then_n ?_
      refine wp_ret ?_
      refine bodyPost_ret (results_tmp Tryz.results48 _ _ _) rfl ?_
      refine ⟨congrArg (fun b => Ending.returned (.bool b)) ?_, GG⟩
      have h0 := of_decide_eq_true h1
      rw [← h2]
      unfold lessB
      rw [decide_eq_decide, ky_lt hp hq]
      omega
set_option maxRecDepth 100000 in
set_option maxHeartbeats 4000000 in
theorem mayBe_any (n : Int) (w : World) : Calls Tryz.prog 62 #[.int .i64 n] w (fun e w' => e = .returned (.bool (decide (-1 ≤ n ∧ n < 6))) ∧ Gro w w') := by
  refine s_enter Tryz.func62 rfl Tryz.ntmps62 [.int .i64 n] [.int .i64 n, undef, undef, undef, undef, undef, undef, undef, undef] rfl ?_
  have GG := Gro.refl w
  refine wp_seq ?_
  refine wp_region_lit ?_
  refine s_val 2 rfl rfl (.bool false) (rfl) ?_
  refine nr ?_; intro U h; simp only [z0, z1] at h; subst h
  refine wpList_nil ?_
  refine then_n ?_
  refine wp_seq ?_
  refine wp_region_opq ?_
  intro OPS hY
  have y2 := hY 2 5 rfl
  clear hY
  refine s_val 3 rfl rfl (.int .i64 n) (rfl) ?_
  refine nr ?_; intro U h; simp only [z0, z1] at h; subst h
  cases h1 : decide (-1 ≤ n)
  · refine s_val 4 rfl rfl (.bool false) (run_leqT 3 _ _ _ rfl (-1) n rfl rfl false h1 _) ?_
    refine nr ?_; intro U h; simp only [z0, z1] at h; subst h
    refine s_val 5 rfl rfl (.bool false) (rfl) ?_
    refine nr ?_; intro U h; simp only [z0, z1] at h; subst h
    refine s_skipY 6 rfl rfl y2 rfl ?_
    refine nr ?_; intro U h; simp only [z0, z1] at h; subst h
    refine s_skipY 7 rfl rfl y2 rfl ?_
    refine nr ?_; intro U h; simp only [z0, z1] at h; subst h
    refine s_val 8 rfl rfl (.bool false) (rfl) ?_
    refine nr ?_; intro U h; simp only [z0, z1] at h; subst h
    refine s_val 2 rfl rfl (.bool false) (rfl) ?_
    refine nr ?_; intro U h; simp only [z0, z1] at h; subst h
    refine wpList_nil ?_
    refine then_n ?_
    refine wp_ret ?_
    refine bodyPost_ret (results_tmp Tryz.results62 _ _ _) rfl ?_
    refine ⟨congrArg (fun b => Ending.returned (.bool b)) ?_, GG⟩
    simp only [decide_eq_false_iff_not] at *
    symm
    rw [decide_eq_false_iff_not]
    omega
  · refine s_val 4 rfl rfl (.bool true) (run_leqT 3 _ _ _ rfl (-1) n rfl rfl true h1 _) ?_
    refine nr ?_; intro U h; simp only [z0, z1] at h; subst h
    refine s_val 5 rfl rfl (.bool true) (rfl) ?_
    refine nr ?_; intro U h; simp only [z0, z1] at h; subst h
    refine s_gvalY 6 rfl rfl y2 rfl (.int .i64 n) (rfl) ?_
    refine nr ?_; intro U h; simp only [z0, z1] at h; subst h
    cases h2 : decide (n < 6)
    · refine s_gvalY 7 rfl rfl y2 rfl (.bool false) (run_lssT 3 _ _ _ rfl n 6 rfl rfl false h2 _) ?_
      refine nr ?_; intro U h; simp only [z0, z1] at h; subst h
      refine s_val 8 rfl rfl (.bool false) (rfl) ?_
      refine nr ?_; intro U h; simp only [z0, z1] at h; subst h
      refine s_val 2 rfl rfl (.bool false) (rfl) ?_
      refine nr ?_; intro U h; simp only [z0, z1] at h; subst h
      refine wpList_nil ?_
      refine then_n ?_
      refine wp_ret ?_
      refine bodyPost_ret (results_tmp Tryz.results62 _ _ _) rfl ?_
      refine ⟨congrArg (fun b => Ending.returned (.bool b)) ?_, GG⟩
      simp only [decide_eq_true_eq, decide_eq_false_iff_not] at *
      symm
      rw [decide_eq_false_iff_not]
      omega
    · refine s_gvalY 7 rfl rfl y2 rfl (.bool true) (run_lssT 3 _ _ _ rfl n 6 rfl rfl true h2 _) ?_
      refine nr ?_; intro U h; simp only [z0, z1] at h; subst h
      refine s_val 8 rfl rfl (.bool true) (rfl) ?_
      refine nr ?_; intro U h; simp only [z0, z1] at h; subst h
      refine s_val 2 rfl rfl (.bool true) (rfl) ?_
      refine nr ?_; intro U h; simp only [z0, z1] at h; subst h
      refine wpList_nil ?_
      refine then_n ?_
      refine wp_ret ?_
      refine bodyPost_ret (results_tmp Tryz.results62 _ _ _) rfl ?_
      refine ⟨congrArg (fun b => Ending.returned (.bool b)) ?_, GG⟩
      simp only [decide_eq_true_eq] at *
      symm
      rw [decide_eq_true_eq]
      omega
set_option maxRecDepth 100000 in
set_option maxHeartbeats 4000000 in
theorem right_any (x : En) (hx : x.ok) (w : World) : Calls Tryz.prog 45 #[.agg (enA x)] w (fun e w' => e = .returned (.bool (rgt x)) ∧ Gro w w') := by
  refine s_enter Tryz.func45 rfl Tryz.ntmps45 [.agg (enA x)] [.agg (enA x), undef, undef, undef, undef, undef, undef, undef, undef, undef, undef, undef, undef, undef, undef, undef, undef, undef, undef, undef, undef, undef, undef, undef, undef] rfl ?_
  have GG := Gro.refl w
  refine wp_seq ?_
  refine wp_region_lit ?_
  refine s_box 1 rfl rfl 33 _ rfl _ rfl (enA x) rfl ?_
  intro w1 g1 G eg1 kg1
  have bg1 := size_base GG eg1
  replace GG := GG.trans G
  clear G
  clear eg1
  refine nr ?_; intro U h; simp only [z0, z1] at h; subst h
  refine s_val 2 rfl rfl (.bool false) (rfl) ?_
  refine nr ?_; intro U h; simp only [z0, z1] at h; subst h
  refine wpList_nil ?_
  refine then_n ?_
  refine wp_seq ?_
  cases h1 : decide (x.a = x.b)
  · cases h2 : decide (-1 ≤ x.na ∧ x.na < 6)
    · refine wp_region_opq ?_
      intro OPS hY
      have y5 := hY 5 8 rfl
      have y10 := hY 10 13 rfl
      have y15 := hY 15 18 rfl
      clear hY
      refine s_val 3 rfl rfl (.pointer (some ⟨g1, 17, none⟩)) (run_fld 33 _ 1 rfl g1 0 rfl 17 (by kernel_rfl)) ?_
      refine nr ?_; intro U h; simp only [z0, z1] at h; subst h
      refine s_val 4 rfl rfl (.agg (idA x.a)) (ldEa _ rfl g1 rfl (kg1)) ?_
      refine nr ?_; intro U h; simp only [z0, z1] at h; subst h
      refine s_val 5 rfl rfl (.pointer (some ⟨g1, 33, none⟩)) (run_fld 33 _ 2 rfl g1 0 rfl 33 (by kernel_rfl)) ?_
      refine nr ?_; intro U h; simp only [z0, z1] at h; subst h
      refine s_val 6 rfl rfl (.agg (idA x.b)) (ldEb _ rfl g1 rfl (kg1)) ?_
      refine nr ?_; intro U h; simp only [z0, z1] at h; subst h
      refine s_val 7 rfl rfl (.bool true) (run_neI _ _ _ rfl _ _ rfl rfl hx.a hx.b true h1) ?_
      refine nr ?_; intro U h; simp only [z0, z1] at h; subst h
      refine s_val 8 rfl rfl (.bool true) (rfl) ?_
      refine nr ?_; intro U h; simp only [z0, z1] at h; subst h
      refine s_gvalY 9 rfl rfl y5 rfl (.pointer (some ⟨g1, 49, none⟩)) (run_fld 33 _ 3 rfl g1 0 rfl 49 (by kernel_rfl)) ?_
      refine nr ?_; intro U h; simp only [z0, z1] at h; subst h
      refine s_gvalY 10 rfl rfl y5 rfl (.int .i64 x.na) (ldEna _ rfl g1 rfl (kg1)) ?_
      refine nr ?_; intro U h; simp only [z0, z1] at h; subst h
      refine s_gcallvY 11 rfl rfl y5 rfl _ 62 Tryz.call62 rfl rfl _ rfl [.int .i64 x.na] rfl (Calls.bool (mayBe_any x.na _) h2) ?_
      intro w2 G
      replace kg1 := G.has kg1
      replace GG := GG.trans G
      clear G
      refine nr ?_; intro U h; simp only [z0, z1] at h; subst h
      refine s_val 12 rfl rfl (.bool false) (rfl) ?_
      refine nr ?_; intro U h; simp only [z0, z1] at h; subst h
      refine s_val 13 rfl rfl (.bool false) (rfl) ?_
      refine nr ?_; intro U h; simp only [z0, z1] at h; subst h
      refine s_skipY 14 rfl rfl y10 rfl ?_
      refine nr ?_; intro U h; simp only [z0, z1] at h; subst h
      refine s_skipY 15 rfl rfl y10 rfl ?_
      refine nr ?_; intro U h; simp only [z0, z1] at h; subst h
      refine s_skipY 16 rfl rfl y10 rfl ?_
      refine nr ?_; intro U h; simp only [z0, z1] at h; subst h
      refine s_val 17 rfl rfl (.bool false) (rfl) ?_
      refine nr ?_; intro U h; simp only [z0, z1] at h; subst h
      refine s_val 18 rfl rfl (.bool false) (rfl) ?_
      refine nr ?_; intro U h; simp only [z0, z1] at h; subst h
      refine s_skipY 19 rfl rfl y15 rfl ?_
      refine nr ?_; intro U h; simp only [z0, z1] at h; subst h
      refine s_skipY 20 rfl rfl y15 rfl ?_
      refine nr ?_; intro U h; simp only [z0, z1] at h; subst h
      refine s_skipY 21 rfl rfl y15 rfl ?_
      refine nr ?_; intro U h; simp only [z0, z1] at h; subst h
      refine s_skipY 22 rfl rfl y15 rfl ?_
      refine nr ?_; intro U h; simp only [z0, z1] at h; subst h
      refine s_skipY 23 rfl rfl y15 rfl ?_
      refine nr ?_; intro U h; simp only [z0, z1] at h; subst h
      refine s_val 24 rfl rfl (.bool false) (rfl) ?_
      refine nr ?_; intro U h; simp only [z0, z1] at h; subst h
      refine s_val 2 rfl rfl (.bool false) (rfl) ?_
      refine nr ?_; intro U h; simp only [z0, z1] at h; subst h
      refine wpList_nil ?_
      refine then_n ?_
      refine wp_ret ?_
      refine bodyPost_ret (results_tmp Tryz.results45 _ _ _) rfl ?_
      exact ⟨congrArg (fun b => Ending.returned (.bool b)) (by unfold rgt; rw [h1, h2]; rfl), GG⟩
    · cases h3 : decide (-1 ≤ x.nb ∧ x.nb < 6)
      · refine wp_region_opq ?_
        intro OPS hY
        have y5 := hY 5 8 rfl
        have y10 := hY 10 13 rfl
        have y15 := hY 15 18 rfl
        clear hY
        refine s_val 3 rfl rfl (.pointer (some ⟨g1, 17, none⟩)) (run_fld 33 _ 1 rfl g1 0 rfl 17 (by kernel_rfl)) ?_
        refine nr ?_; intro U h; simp only [z0, z1] at h; subst h
        refine s_val 4 rfl rfl (.agg (idA x.a)) (ldEa _ rfl g1 rfl (kg1)) ?_
        refine nr ?_; intro U h; simp only [z0, z1] at h; subst h
        refine s_val 5 rfl rfl (.pointer (some ⟨g1, 33, none⟩)) (run_fld 33 _ 2 rfl g1 0 rfl 33 (by kernel_rfl)) ?_
        refine nr ?_; intro U h; simp only [z0, z1] at h; subst h
        refine s_val 6 rfl rfl (.agg (idA x.b)) (ldEb _ rfl g1 rfl (kg1)) ?_
        refine nr ?_; intro U h; simp only [z0, z1] at h; subst h
        refine s_val 7 rfl rfl (.bool true) (run_neI _ _ _ rfl _ _ rfl rfl hx.a hx.b true h1) ?_
        refine nr ?_; intro U h; simp only [z0, z1] at h; subst h
        refine s_val 8 rfl rfl (.bool true) (rfl) ?_
        refine nr ?_; intro U h; simp only [z0, z1] at h; subst h
        refine s_gvalY 9 rfl rfl y5 rfl (.pointer (some ⟨g1, 49, none⟩)) (run_fld 33 _ 3 rfl g1 0 rfl 49 (by kernel_rfl)) ?_
        refine nr ?_; intro U h; simp only [z0, z1] at h; subst h
        refine s_gvalY 10 rfl rfl y5 rfl (.int .i64 x.na) (ldEna _ rfl g1 rfl (kg1)) ?_
        refine nr ?_; intro U h; simp only [z0, z1] at h; subst h
        refine s_gcallvY 11 rfl rfl y5 rfl _ 62 Tryz.call62 rfl rfl _ rfl [.int .i64 x.na] rfl (Calls.bool (mayBe_any x.na _) h2) ?_
        intro w2 G
        replace kg1 := G.has kg1
        replace GG := GG.trans G
        clear G
        refine nr ?_; intro U h; simp only [z0, z1] at h; subst h
        refine s_val 12 rfl rfl (.bool true) (rfl) ?_
        refine nr ?_; intro U h; simp only [z0, z1] at h; subst h
        refine s_val 13 rfl rfl (.bool true) (rfl) ?_
        refine nr ?_; intro U h; simp only [z0, z1] at h; subst h
        refine s_gvalY 14 rfl rfl y10 rfl (.pointer (some ⟨g1, 50, none⟩)) (run_fld 33 _ 4 rfl g1 0 rfl 50 (by kernel_rfl)) ?_
        refine nr ?_; intro U h; simp only [z0, z1] at h; subst h
        refine s_gvalY 15 rfl rfl y10 rfl (.int .i64 x.nb) (ldEnb _ rfl g1 rfl (kg1)) ?_
        refine nr ?_; intro U h; simp only [z0, z1] at h; subst h
        refine s_gcallvY 16 rfl rfl y10 rfl _ 62 Tryz.call62 rfl rfl _ rfl [.int .i64 x.nb] rfl (Calls.bool (mayBe_any x.nb _) h3) ?_
        intro w3 G
        replace kg1 := G.has kg1
        replace GG := GG.trans G
        clear G
        refine nr ?_; intro U h; simp only [z0, z1] at h; subst h
        refine s_val 17 rfl rfl (.bool false) (rfl) ?_
        refine nr ?_; intro U h; simp only [z0, z1] at h; subst h
        refine s_val 18 rfl rfl (.bool false) (rfl) ?_
        refine nr ?_; intro U h; simp only [z0, z1] at h; subst h
        refine s_skipY 19 rfl rfl y15 rfl ?_
        refine nr ?_; intro U h; simp only [z0, z1] at h; subst h
        refine s_skipY 20 rfl rfl y15 rfl ?_
        refine nr ?_; intro U h; simp only [z0, z1] at h; subst h
        refine s_skipY 21 rfl rfl y15 rfl ?_
        refine nr ?_; intro U h; simp only [z0, z1] at h; subst h
        refine s_skipY 22 rfl rfl y15 rfl ?_
        refine nr ?_; intro U h; simp only [z0, z1] at h; subst h
        refine s_skipY 23 rfl rfl y15 rfl ?_
        refine nr ?_; intro U h; simp only [z0, z1] at h; subst h
        refine s_val 24 rfl rfl (.bool false) (rfl) ?_
        refine nr ?_; intro U h; simp only [z0, z1] at h; subst h
        refine s_val 2 rfl rfl (.bool false) (rfl) ?_
        refine nr ?_; intro U h; simp only [z0, z1] at h; subst h
        refine wpList_nil ?_
        refine then_n ?_
        refine wp_ret ?_
        refine bodyPost_ret (results_tmp Tryz.results45 _ _ _) rfl ?_
        exact ⟨congrArg (fun b => Ending.returned (.bool b)) (by unfold rgt; rw [h1, h2, h3]; rfl), GG⟩
      · cases h4 : decide (x.na = x.nb)
        · refine wp_region_opq ?_
          intro OPS hY
          have y5 := hY 5 8 rfl
          have y10 := hY 10 13 rfl
          have y15 := hY 15 18 rfl
          clear hY
          refine s_val 3 rfl rfl (.pointer (some ⟨g1, 17, none⟩)) (run_fld 33 _ 1 rfl g1 0 rfl 17 (by kernel_rfl)) ?_
          refine nr ?_; intro U h; simp only [z0, z1] at h; subst h
          refine s_val 4 rfl rfl (.agg (idA x.a)) (ldEa _ rfl g1 rfl (kg1)) ?_
          refine nr ?_; intro U h; simp only [z0, z1] at h; subst h
          refine s_val 5 rfl rfl (.pointer (some ⟨g1, 33, none⟩)) (run_fld 33 _ 2 rfl g1 0 rfl 33 (by kernel_rfl)) ?_
          refine nr ?_; intro U h; simp only [z0, z1] at h; subst h
          refine s_val 6 rfl rfl (.agg (idA x.b)) (ldEb _ rfl g1 rfl (kg1)) ?_
          refine nr ?_; intro U h; simp only [z0, z1] at h; subst h
          refine s_val 7 rfl rfl (.bool true) (run_neI _ _ _ rfl _ _ rfl rfl hx.a hx.b true h1) ?_
          refine nr ?_; intro U h; simp only [z0, z1] at h; subst h
          refine s_val 8 rfl rfl (.bool true) (rfl) ?_
          refine nr ?_; intro U h; simp only [z0, z1] at h; subst h
          refine s_gvalY 9 rfl rfl y5 rfl (.pointer (some ⟨g1, 49, none⟩)) (run_fld 33 _ 3 rfl g1 0 rfl 49 (by kernel_rfl)) ?_
          refine nr ?_; intro U h; simp only [z0, z1] at h; subst h
          refine s_gvalY 10 rfl rfl y5 rfl (.int .i64 x.na) (ldEna _ rfl g1 rfl (kg1)) ?_
          refine nr ?_; intro U h; simp only [z0, z1] at h; subst h
          refine s_gcallvY 11 rfl rfl y5 rfl _ 62 Tryz.call62 rfl rfl _ rfl [.int .i64 x.na] rfl (Calls.bool (mayBe_any x.na _) h2) ?_
          intro w2 G
          replace kg1 := G.has kg1
          replace GG := GG.trans G
          clear G
          refine nr ?_; intro U h; simp only [z0, z1] at h; subst h
          refine s_val 12 rfl rfl (.bool true) (rfl) ?_
          refine nr ?_; intro U h; simp only [z0, z1] at h; subst h
          refine s_val 13 rfl rfl (.bool true) (rfl) ?_
          refine nr ?_; intro U h; simp only [z0, z1] at h; subst h
          refine s_gvalY 14 rfl rfl y10 rfl (.pointer (some ⟨g1, 50, none⟩)) (run_fld 33 _ 4 rfl g1 0 rfl 50 (by kernel_rfl)) ?_
          refine nr ?_; intro U h; simp only [z0, z1] at h; subst h
          refine s_gvalY 15 rfl rfl y10 rfl (.int .i64 x.nb) (ldEnb _ rfl g1 rfl (kg1)) ?_
          refine nr ?_; intro U h; simp only [z0, z1] at h; subst h
          refine s_gcallvY 16 rfl rfl y10 rfl _ 62 Tryz.call62 rfl rfl _ rfl [.int .i64 x.nb] rfl (Calls.bool (mayBe_any x.nb _) h3) ?_
          intro w3 G
          replace kg1 := G.has kg1
          replace GG := GG.trans G
          clear G
          refine nr ?_; intro U h; simp only [z0, z1] at h; subst h
          refine s_val 17 rfl rfl (.bool true) (rfl) ?_
          refine nr ?_; intro U h; simp only [z0, z1] at h; subst h
          refine s_val 18 rfl rfl (.bool true) (rfl) ?_
          refine nr ?_; intro U h; simp only [z0, z1] at h; subst h
          refine s_gvalY 19 rfl rfl y15 rfl (.pointer (some ⟨g1, 49, none⟩)) (run_fld 33 _ 3 rfl g1 0 rfl 49 (by kernel_rfl)) ?_
          refine nr ?_; intro U h; simp only [z0, z1] at h; subst h
          refine s_gvalY 20 rfl rfl y15 rfl (.int .i64 x.na) (ldEna _ rfl g1 rfl (kg1)) ?_
          refine nr ?_; intro U h; simp only [z0, z1] at h; subst h
          refine s_gvalY 21 rfl rfl y15 rfl (.pointer (some ⟨g1, 50, none⟩)) (run_fld 33 _ 4 rfl g1 0 rfl 50 (by kernel_rfl)) ?_
          refine nr ?_; intro U h; simp only [z0, z1] at h; subst h
          refine s_gvalY 22 rfl rfl y15 rfl (.int .i64 x.nb) (ldEnb _ rfl g1 rfl (kg1)) ?_
          refine nr ?_; intro U h; simp only [z0, z1] at h; subst h
          refine s_gvalY 23 rfl rfl y15 rfl (.bool true) (run_neq_k 3 .i64 _ _ _ rfl Tryz.underlying3 x.na x.nb rfl rfl true h4 _) ?_
          refine nr ?_; intro U h; simp only [z0, z1] at h; subst h
          refine s_val 24 rfl rfl (.bool true) (rfl) ?_
          refine nr ?_; intro U h; simp only [z0, z1] at h; subst h
          refine s_val 2 rfl rfl (.bool true) (rfl) ?_
          refine nr ?_; intro U h; simp only [z0, z1] at h; subst h
          refine wpList_nil ?_
          refine then_n ?_
          refine wp_ret ?_
          refine bodyPost_ret (results_tmp Tryz.results45 _ _ _) rfl ?_
          exact ⟨congrArg (fun b => Ending.returned (.bool b)) (by unfold rgt; rw [h1, h2, h3, h4]; rfl), GG⟩
        · refine wp_region_opq ?_
          intro OPS hY
          have y5 := hY 5 8 rfl
          have y10 := hY 10 13 rfl
          have y15 := hY 15 18 rfl
          clear hY
          refine s_val 3 rfl rfl (.pointer (some ⟨g1, 17, none⟩)) (run_fld 33 _ 1 rfl g1 0 rfl 17 (by kernel_rfl)) ?_
          refine nr ?_; intro U h; simp only [z0, z1] at h; subst h
          refine s_val 4 rfl rfl (.agg (idA x.a)) (ldEa _ rfl g1 rfl (kg1)) ?_
          refine nr ?_; intro U h; simp only [z0, z1] at h; subst h
          refine s_val 5 rfl rfl (.pointer (some ⟨g1, 33, none⟩)) (run_fld 33 _ 2 rfl g1 0 rfl 33 (by kernel_rfl)) ?_
          refine nr ?_; intro U h; simp only [z0, z1] at h; subst h
          refine s_val 6 rfl rfl (.agg (idA x.b)) (ldEb _ rfl g1 rfl (kg1)) ?_
          refine nr ?_; intro U h; simp only [z0, z1] at h; subst h
          refine s_val 7 rfl rfl (.bool true) (run_neI _ _ _ rfl _ _ rfl rfl hx.a hx.b true h1) ?_
          refine nr ?_; intro U h; simp only [z0, z1] at h; subst h
          refine s_val 8 rfl rfl (.bool true) (rfl) ?_
          refine nr ?_; intro U h; simp only [z0, z1] at h; subst h
          refine s_gvalY 9 rfl rfl y5 rfl (.pointer (some ⟨g1, 49, none⟩)) (run_fld 33 _ 3 rfl g1 0 rfl 49 (by kernel_rfl)) ?_
          refine nr ?_; intro U h; simp only [z0, z1] at h; subst h
          refine s_gvalY 10 rfl rfl y5 rfl (.int .i64 x.na) (ldEna _ rfl g1 rfl (kg1)) ?_
          refine nr ?_; intro U h; simp only [z0, z1] at h; subst h
          refine s_gcallvY 11 rfl rfl y5 rfl _ 62 Tryz.call62 rfl rfl _ rfl [.int .i64 x.na] rfl (Calls.bool (mayBe_any x.na _) h2) ?_
          intro w2 G
          replace kg1 := G.has kg1
          replace GG := GG.trans G
          clear G
          refine nr ?_; intro U h; simp only [z0, z1] at h; subst h
          refine s_val 12 rfl rfl (.bool true) (rfl) ?_
          refine nr ?_; intro U h; simp only [z0, z1] at h; subst h
          refine s_val 13 rfl rfl (.bool true) (rfl) ?_
          refine nr ?_; intro U h; simp only [z0, z1] at h; subst h
          refine s_gvalY 14 rfl rfl y10 rfl (.pointer (some ⟨g1, 50, none⟩)) (run_fld 33 _ 4 rfl g1 0 rfl 50 (by kernel_rfl)) ?_
          refine nr ?_; intro U h; simp only [z0, z1] at h; subst h
          refine s_gvalY 15 rfl rfl y10 rfl (.int .i64 x.nb) (ldEnb _ rfl g1 rfl (kg1)) ?_
          refine nr ?_; intro U h; simp only [z0, z1] at h; subst h
          refine s_gcallvY 16 rfl rfl y10 rfl _ 62 Tryz.call62 rfl rfl _ rfl [.int .i64 x.nb] rfl (Calls.bool (mayBe_any x.nb _) h3) ?_
          intro w3 G
          replace kg1 := G.has kg1
          replace GG := GG.trans G
          clear G
          refine nr ?_; intro U h; simp only [z0, z1] at h; subst h
          refine s_val 17 rfl rfl (.bool true) (rfl) ?_
          refine nr ?_; intro U h; simp only [z0, z1] at h; subst h
          refine s_val 18 rfl rfl (.bool true) (rfl) ?_
          refine nr ?_; intro U h; simp only [z0, z1] at h; subst h
          refine s_gvalY 19 rfl rfl y15 rfl (.pointer (some ⟨g1, 49, none⟩)) (run_fld 33 _ 3 rfl g1 0 rfl 49 (by kernel_rfl)) ?_
          refine nr ?_; intro U h; simp only [z0, z1] at h; subst h
          refine s_gvalY 20 rfl rfl y15 rfl (.int .i64 x.na) (ldEna _ rfl g1 rfl (kg1)) ?_
          refine nr ?_; intro U h; simp only [z0, z1] at h; subst h
          refine s_gvalY 21 rfl rfl y15 rfl (.pointer (some ⟨g1, 50, none⟩)) (run_fld 33 _ 4 rfl g1 0 rfl 50 (by kernel_rfl)) ?_
          refine nr ?_; intro U h; simp only [z0, z1] at h; subst h
          refine s_gvalY 22 rfl rfl y15 rfl (.int .i64 x.nb) (ldEnb _ rfl g1 rfl (kg1)) ?_
          refine nr ?_; intro U h; simp only [z0, z1] at h; subst h
          refine s_gvalY 23 rfl rfl y15 rfl (.bool false) (run_neq_k 3 .i64 _ _ _ rfl Tryz.underlying3 x.na x.nb rfl rfl false h4 _) ?_
          refine nr ?_; intro U h; simp only [z0, z1] at h; subst h
          refine s_val 24 rfl rfl (.bool false) (rfl) ?_
          refine nr ?_; intro U h; simp only [z0, z1] at h; subst h
          refine s_val 2 rfl rfl (.bool false) (rfl) ?_
          refine nr ?_; intro U h; simp only [z0, z1] at h; subst h
          refine wpList_nil ?_
          refine then_n ?_
          refine wp_ret ?_
          refine bodyPost_ret (results_tmp Tryz.results45 _ _ _) rfl ?_
          exact ⟨congrArg (fun b => Ending.returned (.bool b)) (by unfold rgt; rw [h1, h2, h3, h4]; rfl), GG⟩
  · refine wp_region_opq ?_
    intro OPS hY
    have y5 := hY 5 8 rfl
    have y10 := hY 10 13 rfl
    have y15 := hY 15 18 rfl
    clear hY
    refine s_val 3 rfl rfl (.pointer (some ⟨g1, 17, none⟩)) (run_fld 33 _ 1 rfl g1 0 rfl 17 (by kernel_rfl)) ?_
    refine nr ?_; intro U h; simp only [z0, z1] at h; subst h
    refine s_val 4 rfl rfl (.agg (idA x.a)) (ldEa _ rfl g1 rfl (kg1)) ?_
    refine nr ?_; intro U h; simp only [z0, z1] at h; subst h
    refine s_val 5 rfl rfl (.pointer (some ⟨g1, 33, none⟩)) (run_fld 33 _ 2 rfl g1 0 rfl 33 (by kernel_rfl)) ?_
    refine nr ?_; intro U h; simp only [z0, z1] at h; subst h
    refine s_val 6 rfl rfl (.agg (idA x.b)) (ldEb _ rfl g1 rfl (kg1)) ?_
    refine nr ?_; intro U h; simp only [z0, z1] at h; subst h
    refine s_val 7 rfl rfl (.bool false) (run_neI _ _ _ rfl _ _ rfl rfl hx.a hx.b false h1) ?_
    refine nr ?_; intro U h; simp only [z0, z1] at h; subst h
    refine s_val 8 rfl rfl (.bool false) (rfl) ?_
    refine nr ?_; intro U h; simp only [z0, z1] at h; subst h
    refine s_skipY 9 rfl rfl y5 rfl ?_
    refine nr ?_; intro U h; simp only [z0, z1] at h; subst h
    refine s_skipY 10 rfl rfl y5 rfl ?_
    refine nr ?_; intro U h; simp only [z0, z1] at h; subst h
    refine s_skipY 11 rfl rfl y5 rfl ?_
    refine nr ?_; intro U h; simp only [z0, z1] at h; subst h
    refine s_val 12 rfl rfl (.bool false) (rfl) ?_
    refine nr ?_; intro U h; simp only [z0, z1] at h; subst h
    refine s_val 13 rfl rfl (.bool false) (rfl) ?_
    refine nr ?_; intro U h; simp only [z0, z1] at h; subst h
    refine s_skipY 14 rfl rfl y10 rfl ?_
    refine nr ?_; intro U h; simp only [z0, z1] at h; subst h
    refine s_skipY 15 rfl rfl y10 rfl ?_
    refine nr ?_; intro U h; simp only [z0, z1] at h; subst h
    refine s_skipY 16 rfl rfl y10 rfl ?_
    refine nr ?_; intro U h; simp only [z0, z1] at h; subst h
    refine s_val 17 rfl rfl (.bool false) (rfl) ?_
    refine nr ?_; intro U h; simp only [z0, z1] at h; subst h
    refine s_val 18 rfl rfl (.bool false) (rfl) ?_
    refine nr ?_; intro U h; simp only [z0, z1] at h; subst h
    refine s_skipY 19 rfl rfl y15 rfl ?_
    refine nr ?_; intro U h; simp only [z0, z1] at h; subst h
    refine s_skipY 20 rfl rfl y15 rfl ?_
    refine nr ?_; intro U h; simp only [z0, z1] at h; subst h
    refine s_skipY 21 rfl rfl y15 rfl ?_
    refine nr ?_; intro U h; simp only [z0, z1] at h; subst h
    refine s_skipY 22 rfl rfl y15 rfl ?_
    refine nr ?_; intro U h; simp only [z0, z1] at h; subst h
    refine s_skipY 23 rfl rfl y15 rfl ?_
    refine nr ?_; intro U h; simp only [z0, z1] at h; subst h
    refine s_val 24 rfl rfl (.bool false) (rfl) ?_
    refine nr ?_; intro U h; simp only [z0, z1] at h; subst h
    refine s_val 2 rfl rfl (.bool false) (rfl) ?_
    refine nr ?_; intro U h; simp only [z0, z1] at h; subst h
    refine wpList_nil ?_
    refine then_n ?_
    refine wp_ret ?_
    refine bodyPost_ret (results_tmp Tryz.results45 _ _ _) rfl ?_
    exact ⟨congrArg (fun b => Ending.returned (.bool b)) (by unfold rgt; rw [h1]; rfl), GG⟩
set_option maxRecDepth 100000 in
set_option maxHeartbeats 4000000 in
theorem rright_any (x : En) (hx : x.ok) (w : World) : Calls Tryz.prog 46 #[.agg (enA x)] w (fun e w' => e = .returned (.bool (rgt x)) ∧ Gro w w') := by
  refine s_enter Tryz.func46 rfl Tryz.ntmps46 [.agg (enA x)] [.agg (enA x), undef, undef, undef, undef, undef, undef, undef, undef, undef, undef, undef, undef, undef, undef, undef, undef, undef, undef, undef, undef, undef, undef, undef, undef, undef, undef, undef, undef, undef, undef, undef, undef, undef, undef] rfl ?_
  have GG := Gro.refl w
  refine wp_seq ?_
  refine wp_region_lit ?_
  refine s_box 1 rfl rfl 33 _ rfl _ rfl (enA x) rfl ?_
  intro w1 g1 G eg1 kg1
  have bg1 := size_base GG eg1
  replace GG := GG.trans G
  clear G
  clear eg1
  refine nr ?_; intro U h; simp only [z0, z1] at h; subst h
  refine s_val 2 rfl rfl (.bool false) (rfl) ?_
  refine nr ?_; intro U h; simp only [z0, z1] at h; subst h
  refine wpList_nil ?_
  refine then_n ?_
  refine wp_seq ?_
  cases h1 : decide (x.a = x.b)
  · cases h2 : decide (x.na = x.nb)
    · cases h3 : decide (-1 ≤ x.na)
      · refine wp_region_opq ?_
        intro OPS hY
        have y5 := hY 5 8 rfl
        have y12 := hY 12 15 rfl
        have y17 := hY 17 20 rfl
        have y22 := hY 22 25 rfl
        have y27 := hY 27 30 rfl
        clear hY
        refine s_val 3 rfl rfl (.pointer (some ⟨g1, 17, none⟩)) (run_fld 33 _ 1 rfl g1 0 rfl 17 (by kernel_rfl)) ?_
        refine nr ?_; intro U h; simp only [z0, z1] at h; subst h
        refine s_val 4 rfl rfl (.agg (idA x.a)) (ldEa _ rfl g1 rfl (kg1)) ?_
        refine nr ?_; intro U h; simp only [z0, z1] at h; subst h
        refine s_val 5 rfl rfl (.pointer (some ⟨g1, 33, none⟩)) (run_fld 33 _ 2 rfl g1 0 rfl 33 (by kernel_rfl)) ?_
        refine nr ?_; intro U h; simp only [z0, z1] at h; subst h
        refine s_val 6 rfl rfl (.agg (idA x.b)) (ldEb _ rfl g1 rfl (kg1)) ?_
        refine nr ?_; intro U h; simp only [z0, z1] at h; subst h
        refine s_val 7 rfl rfl (.bool true) (run_neI _ _ _ rfl _ _ rfl rfl hx.a hx.b true h1) ?_
        refine nr ?_; intro U h; simp only [z0, z1] at h; subst h
        refine s_val 8 rfl rfl (.bool true) (rfl) ?_
        refine nr ?_; intro U h; simp only [z0, z1] at h; subst h
        refine s_gvalY 9 rfl rfl y5 rfl (.pointer (some ⟨g1, 49, none⟩)) (run_fld 33 _ 3 rfl g1 0 rfl 49 (by kernel_rfl)) ?_
        refine nr ?_; intro U h; simp only [z0, z1] at h; subst h
        refine s_gvalY 10 rfl rfl y5 rfl (.int .i64 x.na) (ldEna _ rfl g1 rfl (kg1)) ?_
        refine nr ?_; intro U h; simp only [z0, z1] at h; subst h
        refine s_gvalY 11 rfl rfl y5 rfl (.pointer (some ⟨g1, 50, none⟩)) (run_fld 33 _ 4 rfl g1 0 rfl 50 (by kernel_rfl)) ?_
        refine nr ?_; intro U h; simp only [z0, z1] at h; subst h
        refine s_gvalY 12 rfl rfl y5 rfl (.int .i64 x.nb) (ldEnb _ rfl g1 rfl (kg1)) ?_
        refine nr ?_; intro U h; simp only [z0, z1] at h; subst h
        refine s_gvalY 13 rfl rfl y5 rfl (.bool true) (run_neq_k 3 .i64 _ _ _ rfl Tryz.underlying3 x.na x.nb rfl rfl true h2 _) ?_
        refine nr ?_; intro U h; simp only [z0, z1] at h; subst h
        refine s_val 14 rfl rfl (.bool true) (rfl) ?_
        refine nr ?_; intro U h; simp only [z0, z1] at h; subst h
        refine s_val 15 rfl rfl (.bool true) (rfl) ?_
        refine nr ?_; intro U h; simp only [z0, z1] at h; subst h
        refine s_gvalY 16 rfl rfl y12 rfl (.pointer (some ⟨g1, 49, none⟩)) (run_fld 33 _ 3 rfl g1 0 rfl 49 (by kernel_rfl)) ?_
        refine nr ?_; intro U h; simp only [z0, z1] at h; subst h
        refine s_gvalY 17 rfl rfl y12 rfl (.int .i64 x.na) (ldEna _ rfl g1 rfl (kg1)) ?_
        refine nr ?_; intro U h; simp only [z0, z1] at h; subst h
        refine s_gvalY 18 rfl rfl y12 rfl (.bool false) (run_geqT 3 _ _ _ rfl x.na (-1) rfl rfl false h3 _) ?_
        refine nr ?_; intro U h; simp only [z0, z1] at h; subst h
        refine s_val 19 rfl rfl (.bool false) (rfl) ?_
        refine nr ?_; intro U h; simp only [z0, z1] at h; subst h
        refine s_val 20 rfl rfl (.bool false) (rfl) ?_
        refine nr ?_; intro U h; simp only [z0, z1] at h; subst h
        refine s_skipY 21 rfl rfl y17 rfl ?_
        refine nr ?_; intro U h; simp only [z0, z1] at h; subst h
        refine s_skipY 22 rfl rfl y17 rfl ?_
        refine nr ?_; intro U h; simp only [z0, z1] at h; subst h
        refine s_skipY 23 rfl rfl y17 rfl ?_
        refine nr ?_; intro U h; simp only [z0, z1] at h; subst h
        refine s_val 24 rfl rfl (.bool false) (rfl) ?_
        refine nr ?_; intro U h; simp only [z0, z1] at h; subst h
        refine s_val 25 rfl rfl (.bool false) (rfl) ?_
        refine nr ?_; intro U h; simp only [z0, z1] at h; subst h
        refine s_skipY 26 rfl rfl y22 rfl ?_
        refine nr ?_; intro U h; simp only [z0, z1] at h; subst h
        refine s_skipY 27 rfl rfl y22 rfl ?_
        refine nr ?_; intro U h; simp only [z0, z1] at h; subst h
        refine s_skipY 28 rfl rfl y22 rfl ?_
        refine nr ?_; intro U h; simp only [z0, z1] at h; subst h
        refine s_val 29 rfl rfl (.bool false) (rfl) ?_
        refine nr ?_; intro U h; simp only [z0, z1] at h; subst h
        refine s_val 30 rfl rfl (.bool false) (rfl) ?_
        refine nr ?_; intro U h; simp only [z0, z1] at h; subst h
        refine s_skipY 31 rfl rfl y27 rfl ?_
        refine nr ?_; intro U h; simp only [z0, z1] at h; subst h
        refine s_skipY 32 rfl rfl y27 rfl ?_
        refine nr ?_; intro U h; simp only [z0, z1] at h; subst h
        refine s_skipY 33 rfl rfl y27 rfl ?_
        refine nr ?_; intro U h; simp only [z0, z1] at h; subst h
        refine s_val 34 rfl rfl (.bool false) (rfl) ?_
        refine nr ?_; intro U h; simp only [z0, z1] at h; subst h
        refine s_val 2 rfl rfl (.bool false) (rfl) ?_
        refine nr ?_; intro U h; simp only [z0, z1] at h; subst h
        refine wpList_nil ?_
        refine then_n ?_
        refine wp_ret ?_
        refine bodyPost_ret (results_tmp Tryz.results46 _ _ _) rfl ?_
        refine ⟨congrArg (fun b => Ending.returned (.bool b)) ?_, GG⟩
        simp only [decide_eq_false_iff_not] at *
        symm
        rw [Bool.eq_false_iff]
        intro h
        have h0 := rgt_iff.1 h
        omega
      · cases h4 : decide (x.na ≤ 5)
        · refine wp_region_opq ?_
          intro OPS hY
          have y5 := hY 5 8 rfl
          have y12 := hY 12 15 rfl
          have y17 := hY 17 20 rfl
          have y22 := hY 22 25 rfl
          have y27 := hY 27 30 rfl
          clear hY
          refine s_val 3 rfl rfl (.pointer (some ⟨g1, 17, none⟩)) (run_fld 33 _ 1 rfl g1 0 rfl 17 (by kernel_rfl)) ?_
          refine nr ?_; intro U h; simp only [z0, z1] at h; subst h
          refine s_val 4 rfl rfl (.agg (idA x.a)) (ldEa _ rfl g1 rfl (kg1)) ?_
          refine nr ?_; intro U h; simp only [z0, z1] at h; subst h
          refine s_val 5 rfl rfl (.pointer (some ⟨g1, 33, none⟩)) (run_fld 33 _ 2 rfl g1 0 rfl 33 (by kernel_rfl)) ?_
          refine nr ?_; intro U h; simp only [z0, z1] at h; subst h
          refine s_val 6 rfl rfl (.agg (idA x.b)) (ldEb _ rfl g1 rfl (kg1)) ?_
          refine nr ?_; intro U h; simp only [z0, z1] at h; subst h
          refine s_val 7 rfl rfl (.bool true) (run_neI _ _ _ rfl _ _ rfl rfl hx.a hx.b true h1) ?_
          refine nr ?_; intro U h; simp only [z0, z1] at h; subst h
          refine s_val 8 rfl rfl (.bool true) (rfl) ?_
          refine nr ?_; intro U h; simp only [z0, z1] at h; subst h
          refine s_gvalY 9 rfl rfl y5 rfl (.pointer (some ⟨g1, 49, none⟩)) (run_fld 33 _ 3 rfl g1 0 rfl 49 (by kernel_rfl)) ?_
          refine nr ?_; intro U h; simp only [z0, z1] at h; subst h
          refine s_gvalY 10 rfl rfl y5 rfl (.int .i64 x.na) (ldEna _ rfl g1 rfl (kg1)) ?_
          refine nr ?_; intro U h; simp only [z0, z1] at h; subst h
          refine s_gvalY 11 rfl rfl y5 rfl (.pointer (some ⟨g1, 50, none⟩)) (run_fld 33 _ 4 rfl g1 0 rfl 50 (by kernel_rfl)) ?_
          refine nr ?_; intro U h; simp only [z0, z1] at h; subst h
          refine s_gvalY 12 rfl rfl y5 rfl (.int .i64 x.nb) (ldEnb _ rfl g1 rfl (kg1)) ?_
          refine nr ?_; intro U h; simp only [z0, z1] at h; subst h
          refine s_gvalY 13 rfl rfl y5 rfl (.bool true) (run_neq_k 3 .i64 _ _ _ rfl Tryz.underlying3 x.na x.nb rfl rfl true h2 _) ?_
          refine nr ?_; intro U h; simp only [z0, z1] at h; subst h
          refine s_val 14 rfl rfl (.bool true) (rfl) ?_
          refine nr ?_; intro U h; simp only [z0, z1] at h; subst h
          refine s_val 15 rfl rfl (.bool true) (rfl) ?_
          refine nr ?_; intro U h; simp only [z0, z1] at h; subst h
          refine s_gvalY 16 rfl rfl y12 rfl (.pointer (some ⟨g1, 49, none⟩)) (run_fld 33 _ 3 rfl g1 0 rfl 49 (by kernel_rfl)) ?_
          refine nr ?_; intro U h; simp only [z0, z1] at h; subst h
          refine s_gvalY 17 rfl rfl y12 rfl (.int .i64 x.na) (ldEna _ rfl g1 rfl (kg1)) ?_
          refine nr ?_; intro U h; simp only [z0, z1] at h; subst h
          refine s_gvalY 18 rfl rfl y12 rfl (.bool true) (run_geqT 3 _ _ _ rfl x.na (-1) rfl rfl true h3 _) ?_
          refine nr ?_; intro U h; simp only [z0, z1] at h; subst h
          refine s_val 19 rfl rfl (.bool true) (rfl) ?_
          refine nr ?_; intro U h; simp only [z0, z1] at h; subst h
          refine s_val 20 rfl rfl (.bool true) (rfl) ?_
          refine nr ?_; intro U h; simp only [z0, z1] at h; subst h
          refine s_gvalY 21 rfl rfl y17 rfl (.pointer (some ⟨g1, 49, none⟩)) (run_fld 33 _ 3 rfl g1 0 rfl 49 (by kernel_rfl)) ?_
          refine nr ?_; intro U h; simp only [z0, z1] at h; subst h
          refine s_gvalY 22 rfl rfl y17 rfl (.int .i64 x.na) (ldEna _ rfl g1 rfl (kg1)) ?_
          refine nr ?_; intro U h; simp only [z0, z1] at h; subst h
          refine s_gvalY 23 rfl rfl y17 rfl (.bool false) (run_leqT 3 _ _ _ rfl x.na 5 rfl rfl false h4 _) ?_
          refine nr ?_; intro U h; simp only [z0, z1] at h; subst h
          refine s_val 24 rfl rfl (.bool false) (rfl) ?_
          refine nr ?_; intro U h; simp only [z0, z1] at h; subst h
          refine s_val 25 rfl rfl (.bool false) (rfl) ?_
          refine nr ?_; intro U h; simp only [z0, z1] at h; subst h
          refine s_skipY 26 rfl rfl y22 rfl ?_
          refine nr ?_; intro U h; simp only [z0, z1] at h; subst h
          refine s_skipY 27 rfl rfl y22 rfl ?_
          refine nr ?_; intro U h; simp only [z0, z1] at h; subst h
          refine s_skipY 28 rfl rfl y22 rfl ?_
          refine nr ?_; intro U h; simp only [z0, z1] at h; subst h
          refine s_val 29 rfl rfl (.bool false) (rfl) ?_
          refine nr ?_; intro U h; simp only [z0, z1] at h; subst h
          refine s_val 30 rfl rfl (.bool false) (rfl) ?_
          refine nr ?_; intro U h; simp only [z0, z1] at h; subst h
          refine s_skipY 31 rfl rfl y27 rfl ?_
          refine nr ?_; intro U h; simp only [z0, z1] at h; subst h
          refine s_skipY 32 rfl rfl y27 rfl ?_
          refine nr ?_; intro U h; simp only [z0, z1] at h; subst h
          refine s_skipY 33 rfl rfl y27 rfl ?_
          refine nr ?_; intro U h; simp only [z0, z1] at h; subst h
          refine s_val 34 rfl rfl (.bool false) (rfl) ?_
          refine nr ?_; intro U h; simp only [z0, z1] at h; subst h
          refine s_val 2 rfl rfl (.bool false) (rfl) ?_
          refine nr ?_; intro U h; simp only [z0, z1] at h; subst h
          refine wpList_nil ?_
          refine then_n ?_
          refine wp_ret ?_
          refine bodyPost_ret (results_tmp Tryz.results46 _ _ _) rfl ?_
          refine ⟨congrArg (fun b => Ending.returned (.bool b)) ?_, GG⟩
          simp only [decide_eq_true_eq, decide_eq_false_iff_not] at *
          symm
          rw [Bool.eq_false_iff]
          intro h
          have h0 := rgt_iff.1 h
          omega
        · cases h5 : decide (-1 ≤ x.nb)
          · refine wp_region_opq ?_
            intro OPS hY
            have y5 := hY 5 8 rfl
            have y12 := hY 12 15 rfl
            have y17 := hY 17 20 rfl
            have y22 := hY 22 25 rfl
            have y27 := hY 27 30 rfl
            clear hY
            refine s_val 3 rfl rfl (.pointer (some ⟨g1, 17, none⟩)) (run_fld 33 _ 1 rfl g1 0 rfl 17 (by kernel_rfl)) ?_
            refine nr ?_; intro U h; simp only [z0, z1] at h; subst h
            refine s_val 4 rfl rfl (.agg (idA x.a)) (ldEa _ rfl g1 rfl (kg1)) ?_
            refine nr ?_; intro U h; simp only [z0, z1] at h; subst h
            refine s_val 5 rfl rfl (.pointer (some ⟨g1, 33, none⟩)) (run_fld 33 _ 2 rfl g1 0 rfl 33 (by kernel_rfl)) ?_
            refine nr ?_; intro U h; simp only [z0, z1] at h; subst h
            refine s_val 6 rfl rfl (.agg (idA x.b)) (ldEb _ rfl g1 rfl (kg1)) ?_
            refine nr ?_; intro U h; simp only [z0, z1] at h; subst h
            refine s_val 7 rfl rfl (.bool true) (run_neI _ _ _ rfl _ _ rfl rfl hx.a hx.b true h1) ?_
            refine nr ?_; intro U h; simp only [z0, z1] at h; subst h
            refine s_val 8 rfl rfl (.bool true) (rfl) ?_
            refine nr ?_; intro U h; simp only [z0, z1] at h; subst h
            refine s_gvalY 9 rfl rfl y5 rfl (.pointer (some ⟨g1, 49, none⟩)) (run_fld 33 _ 3 rfl g1 0 rfl 49 (by kernel_rfl)) ?_
            refine nr ?_; intro U h; simp only [z0, z1] at h; subst h
            refine s_gvalY 10 rfl rfl y5 rfl (.int .i64 x.na) (ldEna _ rfl g1 rfl (kg1)) ?_
            refine nr ?_; intro U h; simp only [z0, z1] at h; subst h
            refine s_gvalY 11 rfl rfl y5 rfl (.pointer (some ⟨g1, 50, none⟩)) (run_fld 33 _ 4 rfl g1 0 rfl 50 (by kernel_rfl)) ?_
            refine nr ?_; intro U h; simp only [z0, z1] at h; subst h
            refine s_gvalY 12 rfl rfl y5 rfl (.int .i64 x.nb) (ldEnb _ rfl g1 rfl (kg1)) ?_
            refine nr ?_; intro U h; simp only [z0, z1] at h; subst h
            refine s_gvalY 13 rfl rfl y5 rfl (.bool true) (run_neq_k 3 .i64 _ _ _ rfl Tryz.underlying3 x.na x.nb rfl rfl true h2 _) ?_
            refine nr ?_; intro U h; simp only [z0, z1] at h; subst h
            refine s_val 14 rfl rfl (.bool true) (rfl) ?_
            refine nr ?_; intro U h; simp only [z0, z1] at h; subst h
            refine s_val 15 rfl rfl (.bool true) (rfl) ?_
            refine nr ?_; intro U h; simp only [z0, z1] at h; subst h
            refine s_gvalY 16 rfl rfl y12 rfl (.pointer (some ⟨g1, 49, none⟩)) (run_fld 33 _ 3 rfl g1 0 rfl 49 (by kernel_rfl)) ?_
            refine nr ?_; intro U h; simp only [z0, z1] at h; subst h
            refine s_gvalY 17 rfl rfl y12 rfl (.int .i64 x.na) (ldEna _ rfl g1 rfl (kg1)) ?_
            refine nr ?_; intro U h; simp only [z0, z1] at h; subst h
            refine s_gvalY 18 rfl rfl y12 rfl (.bool true) (run_geqT 3 _ _ _ rfl x.na (-1) rfl rfl true h3 _) ?_
            refine nr ?_; intro U h; simp only [z0, z1] at h; subst h
            refine s_val 19 rfl rfl (.bool true) (rfl) ?_
            refine nr ?_; intro U h; simp only [z0, z1] at h; subst h
            refine s_val 20 rfl rfl (.bool true) (rfl) ?_
            refine nr ?_; intro U h; simp only [z0, z1] at h; subst h
            refine s_gvalY 21 rfl rfl y17 rfl (.pointer (some ⟨g1, 49, none⟩)) (run_fld 33 _ 3 rfl g1 0 rfl 49 (by kernel_rfl)) ?_
            refine nr ?_; intro U h; simp only [z0, z1] at h; subst h
            refine s_gvalY 22 rfl rfl y17 rfl (.int .i64 x.na) (ldEna _ rfl g1 rfl (kg1)) ?_
            refine nr ?_; intro U h; simp only [z0, z1] at h; subst h
            refine s_gvalY 23 rfl rfl y17 rfl (.bool true) (run_leqT 3 _ _ _ rfl x.na 5 rfl rfl true h4 _) ?_
            refine nr ?_; intro U h; simp only [z0, z1] at h; subst h
            refine s_val 24 rfl rfl (.bool true) (rfl) ?_
            refine nr ?_; intro U h; simp only [z0, z1] at h; subst h
            refine s_val 25 rfl rfl (.bool true) (rfl) ?_
            refine nr ?_; intro U h; simp only [z0, z1] at h; subst h
            refine s_gvalY 26 rfl rfl y22 rfl (.pointer (some ⟨g1, 50, none⟩)) (run_fld 33 _ 4 rfl g1 0 rfl 50 (by kernel_rfl)) ?_
            refine nr ?_; intro U h; simp only [z0, z1] at h; subst h
            refine s_gvalY 27 rfl rfl y22 rfl (.int .i64 x.nb) (ldEnb _ rfl g1 rfl (kg1)) ?_
            refine nr ?_; intro U h; simp only [z0, z1] at h; subst h
            refine s_gvalY 28 rfl rfl y22 rfl (.bool false) (run_geqT 3 _ _ _ rfl x.nb (-1) rfl rfl false h5 _) ?_
            refine nr ?_; intro U h; simp only [z0, z1] at h; subst h
            refine s_val 29 rfl rfl (.bool false) (rfl) ?_
            refine nr ?_; intro U h; simp only [z0, z1] at h; subst h
            refine s_val 30 rfl rfl (.bool false) (rfl) ?_
            refine nr ?_; intro U h; simp only [z0, z1] at h; subst h
            refine s_skipY 31 rfl rfl y27 rfl ?_
            refine nr ?_; intro U h; simp only [z0, z1] at h; subst h
            refine s_skipY 32 rfl rfl y27 rfl ?_
            refine nr ?_; intro U h; simp only [z0, z1] at h; subst h
            refine s_skipY 33 rfl rfl y27 rfl ?_
            refine nr ?_; intro U h; simp only [z0, z1] at h; subst h
            refine s_val 34 rfl rfl (.bool false) (rfl) ?_
            refine nr ?_; intro U h; simp only [z0, z1] at h; subst h
            refine s_val 2 rfl rfl (.bool false) (rfl) ?_
            refine nr ?_; intro U h; simp only [z0, z1] at h; subst h
            refine wpList_nil ?_
            refine then_n ?_
            refine wp_ret ?_
            refine bodyPost_ret (results_tmp Tryz.results46 _ _ _) rfl ?_
            refine ⟨congrArg (fun b => Ending.returned (.bool b)) ?_, GG⟩
            simp only [decide_eq_true_eq, decide_eq_false_iff_not] at *
            symm
            rw [Bool.eq_false_iff]
            intro h
            have h0 := rgt_iff.1 h
            omega
          · cases h6 : decide (x.nb ≤ 5)
            · refine wp_region_opq ?_
              intro OPS hY
              have y5 := hY 5 8 rfl
              have y12 := hY 12 15 rfl
              have y17 := hY 17 20 rfl
              have y22 := hY 22 25 rfl
              have y27 := hY 27 30 rfl
              clear hY
              refine s_val 3 rfl rfl (.pointer (some ⟨g1, 17, none⟩)) (run_fld 33 _ 1 rfl g1 0 rfl 17 (by kernel_rfl)) ?_
              refine nr ?_; intro U h; simp only [z0, z1] at h; subst h
              refine s_val 4 rfl rfl (.agg (idA x.a)) (ldEa _ rfl g1 rfl (kg1)) ?_
              refine nr ?_; intro U h; simp only [z0, z1] at h; subst h
              refine s_val 5 rfl rfl (.pointer (some ⟨g1, 33, none⟩)) (run_fld 33 _ 2 rfl g1 0 rfl 33 (by kernel_rfl)) ?_
              refine nr ?_; intro U h; simp only [z0, z1] at h; subst h
              refine s_val 6 rfl rfl (.agg (idA x.b)) (ldEb _ rfl g1 rfl (kg1)) ?_
              refine nr ?_; intro U h; simp only [z0, z1] at h; subst h
              refine s_val 7 rfl rfl (.bool true) (run_neI _ _ _ rfl _ _ rfl rfl hx.a hx.b true h1) ?_
              refine nr ?_; intro U h; simp only [z0, z1] at h; subst h
              refine s_val 8 rfl rfl (.bool true) (rfl) ?_
              refine nr ?_; intro U h; simp only [z0, z1] at h; subst h
              refine s_gvalY 9 rfl rfl y5 rfl (.pointer (some ⟨g1, 49, none⟩)) (run_fld 33 _ 3 rfl g1 0 rfl 49 (by kernel_rfl)) ?_
              refine nr ?_; intro U h; simp only [z0, z1] at h; subst h
              refine s_gvalY 10 rfl rfl y5 rfl (.int .i64 x.na) (ldEna _ rfl g1 rfl (kg1)) ?_
              refine nr ?_; intro U h; simp only [z0, z1] at h; subst h
              refine s_gvalY 11 rfl rfl y5 rfl (.pointer (some ⟨g1, 50, none⟩)) (run_fld 33 _ 4 rfl g1 0 rfl 50 (by kernel_rfl)) ?_
              refine nr ?_; intro U h; simp only [z0, z1] at h; subst h
              refine s_gvalY 12 rfl rfl y5 rfl (.int .i64 x.nb) (ldEnb _ rfl g1 rfl (kg1)) ?_
              refine nr ?_; intro U h; simp only [z0, z1] at h; subst h
              refine s_gvalY 13 rfl rfl y5 rfl (.bool true) (run_neq_k 3 .i64 _ _ _ rfl Tryz.underlying3 x.na x.nb rfl rfl true h2 _) ?_
              refine nr ?_; intro U h; simp only [z0, z1] at h; subst h
              refine s_val 14 rfl rfl (.bool true) (rfl) ?_
              refine nr ?_; intro U h; simp only [z0, z1] at h; subst h
              refine s_val 15 rfl rfl (.bool true) (rfl) ?_
              refine nr ?_; intro U h; simp only [z0, z1] at h; subst h
              refine s_gvalY 16 rfl rfl y12 rfl (.pointer (some ⟨g1, 49, none⟩)) (run_fld 33 _ 3 rfl g1 0 rfl 49 (by kernel_rfl)) ?_
              refine nr ?_; intro U h; simp only [z0, z1] at h; subst h
              refine s_gvalY 17 rfl rfl y12 rfl (.int .i64 x.na) (ldEna _ rfl g1 rfl (kg1)) ?_
              refine nr ?_; intro U h; simp only [z0, z1] at h; subst h
              refine s_gvalY 18 rfl rfl y12 rfl (.bool true) (run_geqT 3 _ _ _ rfl x.na (-1) rfl rfl true h3 _) ?_
              refine nr ?_; intro U h; simp only [z0, z1] at h; subst h
              refine s_val 19 rfl rfl (.bool true) (rfl) ?_
              refine nr ?_; intro U h; simp only [z0, z1] at h; subst h
              refine s_val 20 rfl rfl (.bool true) (rfl) ?_
              refine nr ?_; intro U h; simp only [z0, z1] at h; subst h
              refine s_gvalY 21 rfl rfl y17 rfl (.pointer (some ⟨g1, 49, none⟩)) (run_fld 33 _ 3 rfl g1 0 rfl 49 (by kernel_rfl)) ?_
              refine nr ?_; intro U h; simp only [z0, z1] at h; subst h
              refine s_gvalY 22 rfl rfl y17 rfl (.int .i64 x.na) (ldEna _ rfl g1 rfl (kg1)) ?_
              refine nr ?_; intro U h; simp only [z0, z1] at h; subst h
              refine s_gvalY 23 rfl rfl y17 rfl (.bool true) (run_leqT 3 _ _ _ rfl x.na 5 rfl rfl true h4 _) ?_
              refine nr ?_; intro U h; simp only [z0, z1] at h; subst h
              refine s_val 24 rfl rfl (.bool true) (rfl) ?_
              refine nr ?_; intro U h; simp only [z0, z1] at h; subst h
              refine s_val 25 rfl rfl (.bool true) (rfl) ?_
              refine nr ?_; intro U h; simp only [z0, z1] at h; subst h
              refine s_gvalY 26 rfl rfl y22 rfl (.pointer (some ⟨g1, 50, none⟩)) (run_fld 33 _ 4 rfl g1 0 rfl 50 (by kernel_rfl)) ?_
              refine nr ?_; intro U h; simp only [z0, z1] at h; subst h
              refine s_gvalY 27 rfl rfl y22 rfl (.int .i64 x.nb) (ldEnb _ rfl g1 rfl (kg1)) ?_
              refine nr ?_; intro U h; simp only [z0, z1] at h; subst h
              refine s_gvalY 28 rfl rfl y22 rfl (.bool true) (run_geqT 3 _ _ _ rfl x.nb (-1) rfl rfl true h5 _) ?_
              refine nr ?_; intro U h; simp only [z0, z1] at h; subst h
              refine s_val 29 rfl rfl (.bool true) (rfl) ?_
              refine nr ?_; intro U h; simp only [z0, z1] at h; subst h
              refine s_val 30 rfl rfl (.bool true) (rfl) ?_
              refine nr ?_; intro U h; simp only [z0, z1] at h; subst h
              refine s_gvalY 31 rfl rfl y27 rfl (.pointer (some ⟨g1, 50, none⟩)) (run_fld 33 _ 4 rfl g1 0 rfl 50 (by kernel_rfl)) ?_
              refine nr ?_; intro U h; simp only [z0, z1] at h; subst h
              refine s_gvalY 32 rfl rfl y27 rfl (.int .i64 x.nb) (ldEnb _ rfl g1 rfl (kg1)) ?_
              refine nr ?_; intro U h; simp only [z0, z1] at h; subst h
              refine s_gvalY 33 rfl rfl y27 rfl (.bool false) (run_leqT 3 _ _ _ rfl x.nb 5 rfl rfl false h6 _) ?_
              refine nr ?_; intro U h; simp only [z0, z1] at h; subst h
              refine s_val 34 rfl rfl (.bool false) (rfl) ?_
              refine nr ?_; intro U h; simp only [z0, z1] at h; subst h
              refine s_val 2 rfl rfl (.bool false) (rfl) ?_
              refine nr ?_; intro U h; simp only [z0, z1] at h; subst h
              refine wpList_nil ?_
              refine then_n ?_
              refine wp_ret ?_
              refine bodyPost_ret (results_tmp Tryz.results46 _ _ _) rfl ?_
              refine ⟨congrArg (fun b => Ending.returned (.bool b)) ?_, GG⟩
              simp only [decide_eq_true_eq, decide_eq_false_iff_not] at *
              symm
              rw [Bool.eq_false_iff]
              intro h
              have h0 := rgt_iff.1 h
              omega
            · refine wp_region_opq ?_
              intro OPS hY
              have y5 := hY 5 8 rfl
              have y12 := hY 12 15 rfl
              have y17 := hY 17 20 rfl
              have y22 := hY 22 25 rfl
              have y27 := hY 27 30 rfl
              clear hY
              refine s_val 3 rfl rfl (.pointer (some ⟨g1, 17, none⟩)) (run_fld 33 _ 1 rfl g1 0 rfl 17 (by kernel_rfl)) ?_
              refine nr ?_; intro U h; simp only [z0, z1] at h; subst h
              refine s_val 4 rfl rfl (.agg (idA x.a)) (ldEa _ rfl g1 rfl (kg1)) ?_
              refine nr ?_; intro U h; simp only [z0, z1] at h; subst h
              refine s_val 5 rfl rfl (.pointer (some ⟨g1, 33, none⟩)) (run_fld 33 _ 2 rfl g1 0 rfl 33 (by kernel_rfl)) ?_
              refine nr ?_; intro U h; simp only [z0, z1] at h; subst h
              refine s_val 6 rfl rfl (.agg (idA x.b)) (ldEb _ rfl g1 rfl (kg1)) ?_
              refine nr ?_; intro U h; simp only [z0, z1] at h; subst h
              refine s_val 7 rfl rfl (.bool true) (run_neI _ _ _ rfl _ _ rfl rfl hx.a hx.b true h1) ?_
              refine nr ?_; intro U h; simp only [z0, z1] at h; subst h
              refine s_val 8 rfl rfl (.bool true) (rfl) ?_
              refine nr ?_; intro U h; simp only [z0, z1] at h; subst h
              refine s_gvalY 9 rfl rfl y5 rfl (.pointer (some ⟨g1, 49, none⟩)) (run_fld 33 _ 3 rfl g1 0 rfl 49 (by kernel_rfl)) ?_
              refine nr ?_; intro U h; simp only [z0, z1] at h; subst h
              refine s_gvalY 10 rfl rfl y5 rfl (.int .i64 x.na) (ldEna _ rfl g1 rfl (kg1)) ?_
              refine nr ?_; intro U h; simp only [z0, z1] at h; subst h
              refine s_gvalY 11 rfl rfl y5 rfl (.pointer (some ⟨g1, 50, none⟩)) (run_fld 33 _ 4 rfl g1 0 rfl 50 (by kernel_rfl)) ?_
              refine nr ?_; intro U h; simp only [z0, z1] at h; subst h
              refine s_gvalY 12 rfl rfl y5 rfl (.int .i64 x.nb) (ldEnb _ rfl g1 rfl (kg1)) ?_
              refine nr ?_; intro U h; simp only [z0, z1] at h; subst h
              refine s_gvalY 13 rfl rfl y5 rfl (.bool true) (run_neq_k 3 .i64 _ _ _ rfl Tryz.underlying3 x.na x.nb rfl rfl true h2 _) ?_
              refine nr ?_; intro U h; simp only [z0, z1] at h; subst h
              refine s_val 14 rfl rfl (.bool true) (rfl) ?_
              refine nr ?_; intro U h; simp only [z0, z1] at h; subst h
              refine s_val 15 rfl rfl (.bool true) (rfl) ?_
              refine nr ?_; intro U h; simp only [z0, z1] at h; subst h
              refine s_gvalY 16 rfl rfl y12 rfl (.pointer (some ⟨g1, 49, none⟩)) (run_fld 33 _ 3 rfl g1 0 rfl 49 (by kernel_rfl)) ?_
              refine nr ?_; intro U h; simp only [z0, z1] at h; subst h
              refine s_gvalY 17 rfl rfl y12 rfl (.int .i64 x.na) (ldEna _ rfl g1 rfl (kg1)) ?_
              refine nr ?_; intro U h; simp only [z0, z1] at h; subst h
              refine s_gvalY 18 rfl rfl y12 rfl (.bool true) (run_geqT 3 _ _ _ rfl x.na (-1) rfl rfl true h3 _) ?_
              refine nr ?_; intro U h; simp only [z0, z1] at h; subst h
              refine s_val 19 rfl rfl (.bool true) (rfl) ?_
              refine nr ?_; intro U h; simp only [z0, z1] at h; subst h
              refine s_val 20 rfl rfl (.bool true) (rfl) ?_
              refine nr ?_; intro U h; simp only [z0, z1] at h; subst h
              refine s_gvalY 21 rfl rfl y17 rfl (.pointer (some ⟨g1, 49, none⟩)) (run_fld 33 _ 3 rfl g1 0 rfl 49 (by kernel_rfl)) ?_
              refine nr ?_; intro U h; simp only [z0, z1] at h; subst h
              refine s_gvalY 22 rfl rfl y17 rfl (.int .i64 x.na) (ldEna _ rfl g1 rfl (kg1)) ?_
              refine nr ?_; intro U h; simp only [z0, z1] at h; subst h
              refine s_gvalY 23 rfl rfl y17 rfl (.bool true) (run_leqT 3 _ _ _ rfl x.na 5 rfl rfl true h4 _) ?_
              refine nr ?_; intro U h; simp only [z0, z1] at h; subst h
              refine s_val 24 rfl rfl (.bool true) (rfl) ?_
              refine nr ?_; intro U h; simp only [z0, z1] at h; subst h
              refine s_val 25 rfl rfl (.bool true) (rfl) ?_
              refine nr ?_; intro U h; simp only [z0, z1] at h; subst h
              refine s_gvalY 26 rfl rfl y22 rfl (.pointer (some ⟨g1, 50, none⟩)) (run_fld 33 _ 4 rfl g1 0 rfl 50 (by kernel_rfl)) ?_
              refine nr ?_; intro U h; simp only [z0, z1] at h; subst h
              refine s_gvalY 27 rfl rfl y22 rfl (.int .i64 x.nb) (ldEnb _ rfl g1 rfl (kg1)) ?_
              refine nr ?_; intro U h; simp only [z0, z1] at h; subst h
              refine s_gvalY 28 rfl rfl y22 rfl (.bool true) (run_geqT 3 _ _ _ rfl x.nb (-1) rfl rfl true h5 _) ?_
              refine nr ?_; intro U h; simp only [z0, z1] at h; subst h
              refine s_val 29 rfl rfl (.bool true) (rfl) ?_
              refine nr ?_; intro U h; simp only [z0, z1] at h; subst h
              refine s_val 30 rfl rfl (.bool true) (rfl) ?_
              refine nr ?_; intro U h; simp only [z0, z1] at h; subst h
              refine s_gvalY 31 rfl rfl y27 rfl (.pointer (some ⟨g1, 50, none⟩)) (run_fld 33 _ 4 rfl g1 0 rfl 50 (by kernel_rfl)) ?_
              refine nr ?_; intro U h; simp only [z0, z1] at h; subst h
              refine s_gvalY 32 rfl rfl y27 rfl (.int .i64 x.nb) (ldEnb _ rfl g1 rfl (kg1)) ?_
              refine nr ?_; intro U h; simp only [z0, z1] at h; subst h
              refine s_gvalY 33 rfl rfl y27 rfl (.bool true) (run_leqT 3 _ _ _ rfl x.nb 5 rfl rfl true h6 _) ?_
              refine nr ?_; intro U h; simp only [z0, z1] at h; subst h
              refine s_val 34 rfl rfl (.bool true) (rfl) ?_
              refine nr ?_; intro U h; simp only [z0, z1] at h; subst h
              refine s_val 2 rfl rfl (.bool true) (rfl) ?_
              refine nr ?_; intro U h; simp only [z0, z1] at h; subst h
              refine wpList_nil ?_
              refine then_n ?_
              refine wp_ret ?_
              refine bodyPost_ret (results_tmp Tryz.results46 _ _ _) rfl ?_
              refine ⟨congrArg (fun b => Ending.returned (.bool b)) ?_, GG⟩
              simp only [decide_eq_true_eq, decide_eq_false_iff_not] at *
              symm
              rw [rgt_iff]
              omega
    · refine wp_region_opq ?_
      intro OPS hY
      have y5 := hY 5 8 rfl
      have y12 := hY 12 15 rfl
      have y17 := hY 17 20 rfl
      have y22 := hY 22 25 rfl
      have y27 := hY 27 30 rfl
      clear hY
      refine s_val 3 rfl rfl (.pointer (some ⟨g1, 17, none⟩)) (run_fld 33 _ 1 rfl g1 0 rfl 17 (by kernel_rfl)) ?_
      refine nr ?_; intro U h; simp only [z0, z1] at h; subst h
      refine s_val 4 rfl rfl (.agg (idA x.a)) (ldEa _ rfl g1 rfl (kg1)) ?_
      refine nr ?_; intro U h; simp only [z0, z1] at h; subst h
      refine s_val 5 rfl rfl (.pointer (some ⟨g1, 33, none⟩)) (run_fld 33 _ 2 rfl g1 0 rfl 33 (by kernel_rfl)) ?_
      refine nr ?_; intro U h; simp only [z0, z1] at h; subst h
      refine s_val 6 rfl rfl (.agg (idA x.b)) (ldEb _ rfl g1 rfl (kg1)) ?_
      refine nr ?_; intro U h; simp only [z0, z1] at h; subst h
      refine s_val 7 rfl rfl (.bool true) (run_neI _ _ _ rfl _ _ rfl rfl hx.a hx.b true h1) ?_
      refine nr ?_; intro U h; simp only [z0, z1] at h; subst h
      refine s_val 8 rfl rfl (.bool true) (rfl) ?_
      refine nr ?_; intro U h; simp only [z0, z1] at h; subst h
      refine s_gvalY 9 rfl rfl y5 rfl (.pointer (some ⟨g1, 49, none⟩)) (run_fld 33 _ 3 rfl g1 0 rfl 49 (by kernel_rfl)) ?_
      refine nr ?_; intro U h; simp only [z0, z1] at h; subst h
      refine s_gvalY 10 rfl rfl y5 rfl (.int .i64 x.na) (ldEna _ rfl g1 rfl (kg1)) ?_
      refine nr ?_; intro U h; simp only [z0, z1] at h; subst h
      refine s_gvalY 11 rfl rfl y5 rfl (.pointer (some ⟨g1, 50, none⟩)) (run_fld 33 _ 4 rfl g1 0 rfl 50 (by kernel_rfl)) ?_
      refine nr ?_; intro U h; simp only [z0, z1] at h; subst h
      refine s_gvalY 12 rfl rfl y5 rfl (.int .i64 x.nb) (ldEnb _ rfl g1 rfl (kg1)) ?_
      refine nr ?_; intro U h; simp only [z0, z1] at h; subst h
      refine s_gvalY 13 rfl rfl y5 rfl (.bool false) (run_neq_k 3 .i64 _ _ _ rfl Tryz.underlying3 x.na x.nb rfl rfl false h2 _) ?_
      refine nr ?_; intro U h; simp only [z0, z1] at h; subst h
      refine s_val 14 rfl rfl (.bool false) (rfl) ?_
      refine nr ?_; intro U h; simp only [z0, z1] at h; subst h
      refine s_val 15 rfl rfl (.bool false) (rfl) ?_
      refine nr ?_; intro U h; simp only [z0, z1] at h; subst h
      refine s_skipY 16 rfl rfl y12 rfl ?_
      refine nr ?_; intro U h; simp only [z0, z1] at h; subst h
      refine s_skipY 17 rfl rfl y12 rfl ?_
      refine nr ?_; intro U h; simp only [z0, z1] at h; subst h
      refine s_skipY 18 rfl rfl y12 rfl ?_
      refine nr ?_; intro U h; simp only [z0, z1] at h; subst h
      refine s_val 19 rfl rfl (.bool false) (rfl) ?_
      refine nr ?_; intro U h; simp only [z0, z1] at h; subst h
      refine s_val 20 rfl rfl (.bool false) (rfl) ?_
      refine nr ?_; intro U h; simp only [z0, z1] at h; subst h
      refine s_skipY 21 rfl rfl y17 rfl ?_
      refine nr ?_; intro U h; simp only [z0, z1] at h; subst h
      refine s_skipY 22 rfl rfl y17 rfl ?_
      refine nr ?_; intro U h; simp only [z0, z1] at h; subst h
      refine s_skipY 23 rfl rfl y17 rfl ?_
      refine nr ?_; intro U h; simp only [z0, z1] at h; subst h
      refine s_val 24 rfl rfl (.bool false) (rfl) ?_
      refine nr ?_; intro U h; simp only [z0, z1] at h; subst h
      refine s_val 25 rfl rfl (.bool false) (rfl) ?_
      refine nr ?_; intro U h; simp only [z0, z1] at h; subst h
      refine s_skipY 26 rfl rfl y22 rfl ?_
      refine nr ?_; intro U h; simp only [z0, z1] at h; subst h
      refine s_skipY 27 rfl rfl y22 rfl ?_
      refine nr ?_; intro U h; simp only [z0, z1] at h; subst h
      refine s_skipY 28 rfl rfl y22 rfl ?_
      refine nr ?_; intro U h; simp only [z0, z1] at h; subst h
      refine s_val 29 rfl rfl (.bool false) (rfl) ?_
      refine nr ?_; intro U h; simp only [z0, z1] at h; subst h
      refine s_val 30 rfl rfl (.bool false) (rfl) ?_
      refine nr ?_; intro U h; simp only [z0, z1] at h; subst h
      refine s_skipY 31 rfl rfl y27 rfl ?_
      refine nr ?_; intro U h; simp only [z0, z1] at h; subst h
      refine s_skipY 32 rfl rfl y27 rfl ?_
      refine nr ?_; intro U h; simp only [z0, z1] at h; subst h
      refine s_skipY 33 rfl rfl y27 rfl ?_
      refine nr ?_; intro U h; simp only [z0, z1] at h; subst h
      refine s_val 34 rfl rfl (.bool false) (rfl) ?_
      refine nr ?_; intro U h; simp only [z0, z1] at h; subst h
      refine s_val 2 rfl rfl (.bool false) (rfl) ?_
      refine nr ?_; intro U h; simp only [z0, z1] at h; subst h
      refine wpList_nil ?_
      refine then_n ?_
      refine wp_ret ?_
      refine bodyPost_ret (results_tmp Tryz.results46 _ _ _) rfl ?_
      refine ⟨congrArg (fun b => Ending.returned (.bool b)) ?_, GG⟩
      simp only [decide_eq_true_eq, decide_eq_false_iff_not] at *
      symm
      rw [Bool.eq_false_iff]
      intro h
      have h0 := rgt_iff.1 h
      omega
  · refine wp_region_opq ?_
    intro OPS hY
    have y5 := hY 5 8 rfl
    have y12 := hY 12 15 rfl
    have y17 := hY 17 20 rfl
    have y22 := hY 22 25 rfl
    have y27 := hY 27 30 rfl
    clear hY
    refine s_val 3 rfl rfl (.pointer (some ⟨g1, 17, none⟩)) (run_fld 33 _ 1 rfl g1 0 rfl 17 (by kernel_rfl)) ?_
    refine nr ?_; intro U h; simp only [z0, z1] at h; subst h
    refine s_val 4 rfl rfl (.agg (idA x.a)) (ldEa _ rfl g1 rfl (kg1)) ?_
    refine nr ?_; intro U h; simp only [z0, z1] at h; subst h
    refine s_val 5 rfl rfl (.pointer (some ⟨g1, 33, none⟩)) (run_fld 33 _ 2 rfl g1 0 rfl 33 (by kernel_rfl)) ?_
    refine nr ?_; intro U h; simp only [z0, z1] at h; subst h
    refine s_val 6 rfl rfl (.agg (idA x.b)) (ldEb _ rfl g1 rfl (kg1)) ?_
    refine nr ?_; intro U h; simp only [z0, z1] at h; subst h
    refine s_val 7 rfl rfl (.bool false) (run_neI _ _ _ rfl _ _ rfl rfl hx.a hx.b false h1) ?_
    refine nr ?_; intro U h; simp only [z0, z1] at h; subst h
    refine s_val 8 rfl rfl (.bool false) (rfl) ?_
    refine nr ?_; intro U h; simp only [z0, z1] at h; subst h
    refine s_skipY 9 rfl rfl y5 rfl ?_
    refine nr ?_; intro U h; simp only [z0, z1] at h; subst h
    refine s_skipY 10 rfl rfl y5 rfl ?_
    refine nr ?_; intro U h; simp only [z0, z1] at h; subst h
    refine s_skipY 11 rfl rfl y5 rfl ?_
    refine nr ?_; intro U h; simp only [z0, z1] at h; subst h
    refine s_skipY 12 rfl rfl y5 rfl ?_
    refine nr ?_; intro U h; simp only [z0, z1] at h; subst h
    refine s_skipY 13 rfl rfl y5 rfl ?_
    refine nr ?_; intro U h; simp only [z0, z1] at h; subst h
    refine s_val 14 rfl rfl (.bool false) (rfl) ?_
    refine nr ?_; intro U h; simp only [z0, z1] at h; subst h
    refine s_val 15 rfl rfl (.bool false) (rfl) ?_
    refine nr ?_; intro U h; simp only [z0, z1] at h; subst h
    refine s_skipY 16 rfl rfl y12 rfl ?_
    refine nr ?_; intro U h; simp only [z0, z1] at h; subst h
    refine s_skipY 17 rfl rfl y12 rfl ?_
    refine nr ?_; intro U h; simp only [z0, z1] at h; subst h
    refine s_skipY 18 rfl rfl y12 rfl ?_
    refine nr ?_; intro U h; simp only [z0, z1] at h; subst h
    refine s_val 19 rfl rfl (.bool false) (rfl) ?_
    refine nr ?_; intro U h; simp only [z0, z1] at h; subst h
    refine s_val 20 rfl rfl (.bool false) (rfl) ?_
    refine nr ?_; intro U h; simp only [z0, z1] at h; subst h
    refine s_skipY 21 rfl rfl y17 rfl ?_
    refine nr ?_; intro U h; simp only [z0, z1] at h; subst h
    refine s_skipY 22 rfl rfl y17 rfl ?_
    refine nr ?_; intro U h; simp only [z0, z1] at h; subst h
    refine s_skipY 23 rfl rfl y17 rfl ?_
    refine nr ?_; intro U h; simp only [z0, z1] at h; subst h
    refine s_val 24 rfl rfl (.bool false) (rfl) ?_
    refine nr ?_; intro U h; simp only [z0, z1] at h; subst h
    refine s_val 25 rfl rfl (.bool false) (rfl) ?_
    refine nr ?_; intro U h; simp only [z0, z1] at h; subst h
    refine s_skipY 26 rfl rfl y22 rfl ?_
    refine nr ?_; intro U h; simp only [z0, z1] at h; subst h
    refine s_skipY 27 rfl rfl y22 rfl ?_
    refine nr ?_; intro U h; simp only [z0, z1] at h; subst h
    refine s_skipY 28 rfl rfl y22 rfl ?_
    refine nr ?_; intro U h; simp only [z0, z1] at h; subst h
    refine s_val 29 rfl rfl (.bool false) (rfl) ?_
    refine nr ?_; intro U h; simp only [z0, z1] at h; subst h
    refine s_val 30 rfl rfl (.bool false) (rfl) ?_
    refine nr ?_; intro U h; simp only [z0, z1] at h; subst h
    refine s_skipY 31 rfl rfl y27 rfl ?_
    refine nr ?_; intro U h; simp only [z0, z1] at h; subst h
    refine s_skipY 32 rfl rfl y27 rfl ?_
    refine nr ?_; intro U h; simp only [z0, z1] at h; subst h
    refine s_skipY 33 rfl rfl y27 rfl ?_
    refine nr ?_; intro U h; simp only [z0, z1] at h; subst h
    refine s_val 34 rfl rfl (.bool false) (rfl) ?_
    refine nr ?_; intro U h; simp only [z0, z1] at h; subst h
    refine s_val 2 rfl rfl (.bool false) (rfl) ?_
    refine nr ?_; intro U h; simp only [z0, z1] at h; subst h
    refine wpList_nil ?_
    refine then_n ?_
    refine wp_ret ?_
    refine bodyPost_ret (results_tmp Tryz.results46 _ _ _) rfl ?_
    refine ⟨congrArg (fun b => Ending.returned (.bool b)) ?_, GG⟩
    simp only [decide_eq_true_eq] at *
    symm
    rw [Bool.eq_false_iff]
    intro h
    have h0 := rgt_iff.1 h
    omega
def othI (x : En) : Nat := if x.na = -1 then x.b else x.a
def othN (x : En) : Int := if x.na = -1 then x.nb else x.na
def othB (x : En) : Bool := !decide (x.na = -1)
set_option maxRecDepth 100000 in
set_option maxHeartbeats 4000000 in
theorem other_any (x : En) (_hx : x.ok) (w : World) : Calls Tryz.prog 21 #[.agg (enA x)] w (fun e w' => e = .returned (.tuple #[.agg (idA (othI x)), .int .i64 (othN x), .bool (othB x)]) ∧ Gro w w') := by
  refine s_enter Tryz.func21 rfl Tryz.ntmps21 [.agg (enA x)] [.agg (enA x), undef, undef, undef, undef, undef, undef, undef, undef, undef, undef, undef, undef, undef, undef, undef] rfl ?_
  have GG := Gro.refl w
  refine wp_seq ?_
  refine wp_region_lit ?_
  refine s_box 1 rfl rfl 33 _ rfl _ rfl (enA x) rfl ?_
  intro w1 g1 G eg1 kg1
  have bg1 := size_base GG eg1
  replace GG := GG.trans G
  clear G
  clear eg1
  refine nr ?_; intro U h; simp only [z0, z1] at h; subst h
  refine s_alloc 2 rfl rfl 24 rfl _ zero23 (idA 0) rfl ?_
  intro w2 g2 G eg2 kg2
  have bg2 := size_base GG eg2
  have dg1g2 := lt_new kg1 eg2
  replace kg1 := G.has kg1
  replace GG := GG.trans G
  clear G
  clear eg2
  refine nr ?_; intro U h; simp only [z0, z1] at h; subst h
  refine s_val 3 rfl rfl (.int .i64 0) (rfl) ?_
  refine nr ?_; intro U h; simp only [z0, z1] at h; subst h
  refine s_val 4 rfl rfl (.bool false) (rfl) ?_
  refine nr ?_; intro U h; simp only [z0, z1] at h; subst h
  refine wpList_nil ?_
  refine then_n ?_
  refine wp_seq ?_
  refine wp_seq ?_
  refine wp_region_lit ?_
  refine s_val 5 rfl rfl (.pointer (some ⟨g1, 49, none⟩)) (run_fld 33 _ 3 rfl g1 0 rfl 49 (by kernel_rfl)) ?_
  refine nr ?_; intro U h; simp only [z0, z1] at h; subst h
  refine s_val 6 rfl rfl (.int .i64 x.na) (ldEna _ rfl g1 rfl (kg1)) ?_
  refine nr ?_; intro U h; simp only [z0, z1] at h; subst h
  cases h1 : decide (x.na = -1)
  · refine s_val 7 rfl rfl (.bool false) (run_eq_k 3 .i64 _ _ _ rfl Tryz.underlying3 x.na (-1) rfl rfl false h1 _) ?_
    refine nr ?_; intro U h; simp only [z0, z1] at h; subst h
    refine wpList_nil ?_
    refine then_n ?_
    refine wp_cond_false rfl ?_
    refine wp_skip ?_
    refine then_n ?_
    refine wp_seq ?_
    refine wp_region_pg (A := ?Ax1) [g2] 5 [(0, 12), (1, 13), (2, 14), (3, 15)] [.val (.pointer (some ⟨g1, 17, none⟩)), .val (.agg (idA x.a)), .val (.pointer (some ⟨g1, 49, none⟩)), .val (.int .i64 x.na), PostE.ex (fun _ y => y.heap[g2]? = some (.cells (idA x.a) 24 (0, 0))) (fun _ _ _ G h => G.has h)] 4 follows (by kernel_rfl) rfl (by decide) (hav_vals [0, 1, 2, 3] (by decide) ⟨⟨_, rfl⟩, ⟨_, rfl⟩, ⟨_, rfl⟩, ⟨_, rfl⟩, trivial⟩) ?hAx1 (opsG_a (by decide) ?o0x1 (opsG_a (by decide) ?o1x1 (opsG_a (by decide) ?o2x1 (opsG_a (by decide) ?o3x1 (opsG_e ?o4x1 opsG_nil))))) ?restx1
    case hAx1 =>
      intro ptrs
      simp only [full, foldSlots, filledE, postE, List.foldl_cons, List.foldl_nil, List.getD_cons_zero, List.getD_cons_succ, fill_val, List.set_cons_zero, List.set_cons_succ]
      exact rfl
    case o0x1 => exact fun _ _ _ _ => opE_value (v := .pointer (some ⟨g1, 17, none⟩)) rfl (run_fld 33 _ 1 rfl g1 0 rfl 17 (by kernel_rfl))
    case o1x1 => exact fun _ _ hw _ => opE_value (v := .agg (idA x.a)) rfl (ldEa _ rfl g1 rfl (hw.has kg1 (by simp; omega)))
    case o2x1 => exact fun _ _ _ _ => opE_value (v := .pointer (some ⟨g1, 49, none⟩)) rfl (run_fld 33 _ 3 rfl g1 0 rfl 49 (by kernel_rfl))
    case o3x1 => exact fun _ _ hw _ => opE_value (v := .int .i64 x.na) rfl (ldEna _ rfl g1 rfl (hw.has kg1 (by simp; omega)))
    case o4x1 =>
      intro ptrs y hw hE
      have hk := hw.has kg2
      exact opX_stS (PostE.ex (fun _ y => y.heap[g2]? = some (.cells (idA x.a) 24 (0, 0))) (fun _ _ _ G h => G.has h)) rfl 24 _ _ rfl g2 rfl (idA x.a) rfl 24 _ hk (size23' _) (idA_sz _ _) (idA_one _) (fun _ h => h)
    intro ptrs w3 GD hxE
    simp only [List.drop_succ_cons, List.drop_zero]
    have hE4 := hxE.1
    replace kg2 := hE4
    replace kg1 := GD.has kg1 (by simp; omega)
    replace GG := GD.gro GG.drew (by simp; omega)
    clear GD hxE hE4
    refine s_val 3 rfl rfl (.int .i64 x.na) (rfl) ?_
    refine nr ?_; intro U h; simp only [z0, z1] at h; subst h
    refine s_val 4 rfl rfl (.bool true) (rfl) ?_
    refine nr ?_; intro U h; simp only [z0, z1] at h; subst h
    refine wpList_nil ?_
    refine then_n ?_
    refine wp_ret ?_
    refine bodyPost_ret (results_cell_tmp2 Tryz.results21 _ _ g2 24 _ (0, 0) _ rfl (.int .i64 x.na) rfl (.bool true) rfl kg2 Tryz.underlying24 rfl (size23' _)) rfl ?_
    have h0 := of_decide_eq_false h1
    exact ⟨by unfold othI othN othB; rw [if_neg h0, if_neg h0, h1]; rfl, GG⟩
  · refine s_val 7 rfl rfl (.bool true) (run_eq_k 3 .i64 _ _ _ rfl Tryz.underlying3 x.na (-1) rfl rfl true h1 _) ?_
    refine nr ?_; intro U h; simp only [z0, z1] at h; subst h
    refine wpList_nil ?_
    refine then_n ?_
    refine wp_cond_true rfl ?_
    refine wp_seq ?_
    refine wp_region_pg (A := ?Ax2) [g2] 5 [(0, 8), (1, 9), (2, 10), (3, 11)] [.val (.pointer (some ⟨g1, 33, none⟩)), .val (.agg (idA x.b)), .val (.pointer (some ⟨g1, 50, none⟩)), .val (.int .i64 x.nb), PostE.ex (fun _ y => y.heap[g2]? = some (.cells (idA x.b) 24 (0, 0))) (fun _ _ _ G h => G.has h)] 4 follows (by kernel_rfl) rfl (by decide) (hav_vals [0, 1, 2, 3] (by decide) ⟨⟨_, rfl⟩, ⟨_, rfl⟩, ⟨_, rfl⟩, ⟨_, rfl⟩, trivial⟩) ?hAx2 (opsG_a (by decide) ?o0x2 (opsG_a (by decide) ?o1x2 (opsG_a (by decide) ?o2x2 (opsG_a (by decide) ?o3x2 (opsG_e ?o4x2 opsG_nil))))) ?restx2
    case hAx2 =>
      intro ptrs
      simp only [full, foldSlots, filledE, postE, List.foldl_cons, List.foldl_nil, List.getD_cons_zero, List.getD_cons_succ, fill_val, List.set_cons_zero, List.set_cons_succ]
      exact rfl
    case o0x2 => exact fun _ _ _ _ => opE_value (v := .pointer (some ⟨g1, 33, none⟩)) rfl (run_fld 33 _ 2 rfl g1 0 rfl 33 (by kernel_rfl))
    case o1x2 => exact fun _ _ hw _ => opE_value (v := .agg (idA x.b)) rfl (ldEb _ rfl g1 rfl (hw.has kg1 (by simp; omega)))
    case o2x2 => exact fun _ _ _ _ => opE_value (v := .pointer (some ⟨g1, 50, none⟩)) rfl (run_fld 33 _ 4 rfl g1 0 rfl 50 (by kernel_rfl))
    case o3x2 => exact fun _ _ hw _ => opE_value (v := .int .i64 x.nb) rfl (ldEnb _ rfl g1 rfl (hw.has kg1 (by simp; omega)))
    case o4x2 =>
      intro ptrs y hw hE
      have hk := hw.has kg2
      exact opX_stS (PostE.ex (fun _ y => y.heap[g2]? = some (.cells (idA x.b) 24 (0, 0))) (fun _ _ _ G h => G.has h)) rfl 24 _ _ rfl g2 rfl (idA x.b) rfl 24 _ hk (size23' _) (idA_sz _ _) (idA_one _) (fun _ h => h)
    intro ptrs w3 GD hxE
    simp only [List.drop_succ_cons, List.drop_zero]
    have hE4 := hxE.1
    replace kg2 := hE4
    replace kg1 := GD.has kg1 (by simp; omega)
    replace GG := GD.gro GG.drew (by simp; omega)
    clear GD hxE hE4
    refine s_val 3 rfl rfl (.int .i64 x.nb) (rfl) ?_
    refine nr ?_; intro U h; simp only [z0, z1] at h; subst h
    refine s_val 4 rfl rfl (.bool false) (rfl) ?_
    refine nr ?_; intro U h; simp only [z0, z1] at h; subst h
    refine wpList_nil ?_
    refine then_n ?_
    refine wp_ret ?_
    refine then_r ?_
    refine bodyPost_ret (results_cell_tmp2 Tryz.results21 _ _ g2 24 _ (0, 0) _ rfl (.int .i64 x.nb) rfl (.bool false) rfl kg2 Tryz.underlying24 rfl (size23' _)) rfl ?_
    have h0 := of_decide_eq_true h1
    exact ⟨by unfold othI othN othB; rw [if_pos h0, if_pos h0, h1]; rfl, GG⟩
end Go.Proofs.YtmpnepbmpmkmkaaGreat
