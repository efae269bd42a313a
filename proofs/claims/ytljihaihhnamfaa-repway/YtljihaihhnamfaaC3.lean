/- All come to know the least identity. -/
import Derived.Test.YtljihaihhnamfaaC2
namespace Go.Proofs.Ytljihaihhnamfaa
open Go.RowKit
theorem run_cut3X {P : Program} {o : Oper} {A : Act} {t e : TypeId} {sz b : Nat} {z : Value} (T : RowT P t e sz b z) (x z u : Operand) (ho : o.op = .slice t x none (some z) (some u)) (ao : Option Addr) (n cap j : Nat) (hx : A.eval x = .slice ao n cap) (hz : A.eval z = .int .i64 (j : Int)) (hu : A.eval u = .int .i64 (j : Int)) (hj : j ≤ cap) (w : World) :
    (execOp A.eval o).run P w = .ok (.value (.slice ao j j)) w := by
  have h : (Instr.slice t (.slice ao n cap) none (some (.int .i64 (j : Int))) (some (.int .i64 (j : Int)))).run P w = .ok (.slice ao j j) w := by
    simp only [Instr.slice, Sem.run_bind, run_underlying T.und, Result.andThen_ok, Instr.sliceBounds, Instr.sliceBound, asIntOf, Sem.run_pure, run_sizeX T]
    have h3 : (0 : Int) ≤ (j : Int) ∧ (j : Int) ≤ (cap : Int) := by omega
    simp [h3]
    intro _
    cases ao <;> simp [add_zero]
  unfold execOp
  simp only [ho, hx, hz, hu, Option.map_some, Option.map_none, Sem.run_bind, sliceAtX_run T, h, Result.andThen_ok, Sem.run_pure]

theorem RK.take3 {α : Type} {K : Kd α} {w : World} {ao : Option Addr} {cap : Nat} {l : List α} (h : RK K w ao cap l) (i : Nat) (hi : i ≤ l.length) : RK K w ao i (l.take i) := by
  have hl : (l.take i).length = i := by rw [List.length_take]; omega
  refine ⟨⟨flx_len K.len _, by omega, fun e => ?_, fun ad ha j v hv => h.xc.cell ad ha j v ?_, fl_oneK⟩, fun x hx => h.all x (List.mem_of_mem_take hx)⟩
  · have h1 := h.xc.bare e
    have h2 := h.xc.fit
    omega
  · rw [← flx_take K.len] at hv
    rw [List.getElem?_take] at hv
    split at hv
    · exact hv
    · cases hv
theorem lst_yes {R : Nat → Nat → Bool} {ids : Nat → Nat} {a b : Nat} (h1 : R a b = true) (h2 : ids b < lstH R ids a b) : lstH R ids a (b + 1) = ids b := by rw [lstH, if_pos ⟨h1, h2⟩]
theorem lst_no {R : Nat → Nat → Bool} {ids : Nat → Nat} {a b : Nat} (h : ¬ (R a b = true ∧ ids b < lstH R ids a b)) : lstH R ids a (b + 1) = lstH R ids a b := by rw [lstH, if_neg h]
theorem lst_lt {R : Nat → Nat → Bool} {I : List Nat} {a b : Nat} (h : ∀ x ∈ I, x < top) : lstH R (fun c => I.getD c 0) a b < top := by
  have hg : ∀ c, I.getD c 0 < top := fun c => by
    by_cases hc : c < I.length
    · have : I.getD c 0 = I[c] := by simp [List.getD_eq_getElem?_getD, hc]
      rw [this]
      exact h _ (List.getElem_mem hc)
    · rw [List.getD_eq_getElem?_getD, List.getElem?_eq_none (by omega)]
      exact top_0
  rcases (lstH_is R (fun c => I.getD c 0) a b).1 with e | ⟨c, _, _, e⟩
  · rw [e]; exact hg a
  · rw [e]; exact hg c
theorem comes_any (n : Nat) (h6 : n ≤ 6) (Lk : List (Int × Int)) (ids : Nat → Nat) (Hs : List RVh) {a : Nat} (ha : a < n) : (bstT n (lkF n mx0 Lk) ids (h0F n (lkF n mx0 Lk) Hs) 12 a).id = lstH (warH n (lkF n (dgF n) Lk) n) ids a n :=
  comes_pure (lkF_sym Lk mx0 fun _ _ => rfl) (fun c _ => (ihF_nb n _ c _).of) h6 (lkF_rel Lk mx0 (dgF n) (dg_rel n)) ha
theorem way_any (n : Nat) (h6 : n ≤ 6) (Lk : List (Int × Int)) (ids : Nat → Nat) (Hs : List RVh) (hd : ∀ a b, a < n → b < n → ids a = ids b → a = b) {a : Nat} (ha : a < n) : bstT n (lkF n mx0 Lk) ids (h0F n (lkF n mx0 Lk) Hs) 12 a = hdOwn (ids a) ∨ ∃ b, b < n ∧ (bstT n (lkF n mx0 Lk) ids (h0F n (lkF n mx0 Lk) Hs) 12 a).n = (b : Int) ∧ (bstT n (lkF n mx0 Lk) ids (h0F n (lkF n mx0 Lk) Hs) 12 b).id = (bstT n (lkF n mx0 Lk) ids (h0F n (lkF n mx0 Lk) Hs) 12 a).id ∧ (bstT n (lkF n mx0 Lk) ids (h0F n (lkF n mx0 Lk) Hs) 12 a).far = (bstT n (lkF n mx0 Lk) ids (h0F n (lkF n mx0 Lk) Hs) 12 b).far + 1 :=
  bstT_way (lkF_sym Lk mx0 fun _ _ => rfl) (fun c _ => (ihF_nb n _ c _).of) h6 hd ha
theorem vI {P : Program} {o : Oper} {A : Act} {w : World} {x y : Int} (L : (execOp A.eval o).run P w = .ok (.value (.int .i64 x)) w) (h : x = y) : (execOp A.eval o).run P w = .ok (.value (.int .i64 y)) w := h ▸ L
set_option maxRecDepth 100000 in
set_option maxHeartbeats 4000000 in
theorem repComes_any (w : World) (aw : Option Addr) (cw : Nat) (IW : List Nat) (HW : RK kI w aw cw IW) (hWl : IW.length ≤ 9223372036854775807) (al : Option Addr) (cl : Nat) (Lk : List (Int × Int)) (HK : RK kP w al cl Lk) (hK : Lk.length ≤ 9223372036854775807) (ah : Option Addr) (ch : Nat) (Hs : List RVh) (HHs : RK kS w ah ch Hs) (hH : ∀ i, i < Hs.length → RK kH w (Hs.getD i zR).ao (Hs.getD i zR).cap (Hs.getD i zR).l ∧ (Hs.getD i zR).l.length ≤ 9223372036854775807) (hHl : Hs.length ≤ 9223372036854775807) : Calls Try.prog 6 #[.agg (wdA aw IW.length cw al Lk.length cl ah Hs.length ch)] w (fun e w' => e = .returned (.bool true) ∧ Gro w w') := by
  refine s_enter Try.func6 rfl Try.ntmps6 [.agg (wdA aw IW.length cw al Lk.length cl ah Hs.length ch)] [.agg (wdA aw IW.length cw al Lk.length cl ah Hs.length ch), undef, undef, undef, undef, undef, undef, undef, undef, undef, undef, undef, undef, undef, undef, undef, undef, undef, undef, undef, undef, undef, undef, undef, undef, undef, undef, undef, undef, undef, undef, undef, undef, undef, undef, undef, undef, undef, undef, undef, undef, undef, undef, undef, undef, undef, undef, undef, undef, undef, undef, undef, undef, undef, undef, undef, undef, undef, undef, undef, undef, undef, undef, undef, undef, undef, undef, undef] rfl ?_
  have GG := Gro.refl w
  obtain ⟨I, hIe⟩ : ∃ I : List Nat, I = IW.take (min IW.length 6) := ⟨_, rfl⟩
  have hIn : I.length = min IW.length 6 := by rw [hIe, List.length_take]; omega
  have hI6 : I.length ≤ 6 := by omega
  have hIm : (min ((IW.length : Nat) : Int) 6) = ((I.length : Nat) : Int) := by omega
  have hIc : I.length ≤ cw := by have := HW.xc.fit; omega
  have HI : RK kI w aw I.length I := by rw [hIn, hIe]; exact HW.take3 _ (by omega)
  clear hIe hIn
  refine wp_seq ?_
  refine wp_region_lit ?_
  refine s_box 1 rfl rfl 45 _ rfl _ rfl (wdA aw IW.length cw al Lk.length cl ah Hs.length ch) rfl ?_
  intro w1 g1 G eg1 kg1
  have bg1 := size_base GG eg1
  replace GG := GG.trans G
  clear G
  clear eg1
  refine nr ?_; intro U h; simp only [z0, z1] at h; subst h
  refine s_val 2 rfl rfl (.bool false) (rfl) ?_
  refine nr ?_; intro U h; simp only [z0, z1] at h; subst h
  refine wpList_nil ?_
  refine then_n ?_
  refine wp_seq ?_
  refine wp_seq ?_
  refine wp_region_lit ?_
  refine s_callv 9 rfl rfl _ 11 Try.call11 rfl rfl _ rfl [] rfl (fixed_any _) ?_
  intro w2 G
  replace kg1 := G.has kg1
  replace GG := GG.trans G
  clear G
  refine nr ?_; intro U h; simp only [z0, z1] at h; subst h
  refine s_val 10 rfl rfl (.bool false) (run_nt _ _ rfl true rfl) ?_
  refine nr ?_; intro U h; simp only [z0, z1] at h; subst h
  refine wpList_nil ?_
  refine then_n ?_
  refine wp_cond_false rfl ?_
  refine wp_skip ?_
  refine then_n ?_
  refine wp_seq ?_
  refine wp_region_lit ?_
  refine s_val 11 rfl rfl (.pointer (some ⟨g1, 0, none⟩)) (run_fld 45 _ 0 rfl g1 0 rfl 0 (by kernel_rfl)) ?_
  refine nr ?_; intro U h; simp only [z0, z1] at h; subst h
  refine s_val 12 rfl rfl (.slice aw IW.length cw) (ldWi _ rfl g1 rfl (kg1)) ?_
  refine nr ?_; intro U h; simp only [z0, z1] at h; subst h
  refine s_val 13 rfl rfl (.pointer (some ⟨g1, 0, none⟩)) (run_fld 45 _ 0 rfl g1 0 rfl 0 (by kernel_rfl)) ?_
  refine nr ?_; intro U h; simp only [z0, z1] at h; subst h
  refine s_val 14 rfl rfl (.slice aw IW.length cw) (ldWi _ rfl g1 rfl (kg1)) ?_
  refine nr ?_; intro U h; simp only [z0, z1] at h; subst h
  refine s_val 15 rfl rfl (.int .i64 ((IW.length : Nat) : Int)) (run_len Try.underlying41 _ rfl _ _ _ rfl _) ?_
  refine nr ?_; intro U h; simp only [z0, z1] at h; subst h
  refine s_val 16 rfl rfl (.int .i64 (min ((IW.length : Nat) : Int) 6)) (run_minI _ _ _ rfl ((IW.length : Nat) : Int) 6 rfl rfl _) ?_
  refine nr ?_; intro U h; simp only [z0, z1] at h; subst h
  refine s_val 17 rfl rfl (.pointer (some ⟨g1, 0, none⟩)) (run_fld 45 _ 0 rfl g1 0 rfl 0 (by kernel_rfl)) ?_
  refine nr ?_; intro U h; simp only [z0, z1] at h; subst h
  refine s_val 18 rfl rfl (.slice aw IW.length cw) (ldWi _ rfl g1 rfl (kg1)) ?_
  refine nr ?_; intro U h; simp only [z0, z1] at h; subst h
  refine s_val 19 rfl rfl (.int .i64 ((IW.length : Nat) : Int)) (run_len Try.underlying41 _ rfl _ _ _ rfl _) ?_
  refine nr ?_; intro U h; simp only [z0, z1] at h; subst h
  refine s_val 20 rfl rfl (.int .i64 (min ((IW.length : Nat) : Int) 6)) (run_minI _ _ _ rfl ((IW.length : Nat) : Int) 6 rfl rfl _) ?_
  refine nr ?_; intro U h; simp only [z0, z1] at h; subst h
  refine s_val 21 rfl rfl (.slice aw I.length I.length) (run_cut3X rI _ _ _ rfl aw IW.length cw I.length rfl (by exact congrArg (Value.int .i64) hIm) (by exact congrArg (Value.int .i64) hIm) hIc _) ?_
  refine nr ?_; intro U h; simp only [z0, z1] at h; subst h
  refine s_val 3 rfl rfl (.slice aw I.length I.length) (rfl) ?_
  refine nr ?_; intro U h; simp only [z0, z1] at h; subst h
  refine wpList_nil ?_
  refine then_n ?_
  refine wp_seq ?_
  refine wp_region_lit ?_
  refine s_val 23 rfl rfl (.agg (wdA aw IW.length cw al Lk.length cl ah Hs.length ch)) (ldW0 _ rfl g1 rfl (kg1)) ?_
  refine nr ?_; intro U h; simp only [z0, z1] at h; subst h
  refine s_val 24 rfl rfl (.slice aw I.length I.length) (rfl) ?_
  refine nr ?_; intro U h; simp only [z0, z1] at h; subst h
  refine s_callx 25 rfl rfl _ 18 Try.call18 rfl rfl _ rfl [.agg (wdA aw IW.length cw al Lk.length cl ah Hs.length ch), .slice aw I.length I.length, .int .i64 12] rfl (rounds_any _ aw cw IW al cl Lk (HK.gro GG) hK ah ch Hs (HHs.gro GG) (fun i hi => ⟨(hH i hi).1.gro GG, (hH i hi).2⟩) hHl aw I.length I (HI.gro GG) hI6 12 (by decide)) (by rintro _ _ ⟨_, _, _, he, _⟩; exact ⟨_, he⟩) ?_
  rintro v w3 ⟨aoB, capB, B, he, G, HB, hBl, hB⟩
  cases he
  replace kg1 := G.has kg1
  replace GG := GG.trans G
  clear G
  refine nr ?_; intro U h; simp only [z0, z1] at h; subst h
  refine s_val 22 rfl rfl (.tuple #[.slice aoB B.length capB, .agg (mxA (warH I.length (lkF I.length (dgF I.length) Lk) I.length))]) (rfl) ?_
  refine nr ?_; intro U h; simp only [z0, z1] at h; subst h
  refine s_val 26 rfl rfl (.slice aoB B.length capB) (rfl) ?_
  refine nr ?_; intro U h; simp only [z0, z1] at h; subst h
  refine s_val 27 rfl rfl (.agg (mxA (warH I.length (lkF I.length (dgF I.length) Lk) I.length))) (rfl) ?_
  refine nr ?_; intro U h; simp only [z0, z1] at h; subst h
  refine s_alloc 5 rfl rfl 47 rfl _ zeroM (mxA mx0) rfl ?_
  intro w4 g2 G eg2 kg2
  have bg2 := size_base GG eg2
  have dg1g2 := lt_new kg1 eg2
  have dHBg2 := HB.ne eg2
  replace kg1 := G.has kg1
  replace HB := HB.gro G
  replace GG := GG.trans G
  clear G
  clear eg2
  refine nr ?_; intro U h; simp only [z0, z1] at h; subst h
  refine s_val 4 rfl rfl (.slice aoB B.length capB) (rfl) ?_
  refine nr ?_; intro U h; simp only [z0, z1] at h; subst h
  refine s_store rfl rfl 47 _ _ rfl g2 0 rfl (.agg (mxA (warH I.length (lkF I.length (dgF I.length) Lk) I.length))) rfl 47 _ kg2 (mxA (warH I.length (lkF I.length (dgF I.length) Lk) I.length)) rfl (siM' _) (mxA_fit _ _) (mxA_one _) (mxA (warH I.length (lkF I.length (dgF I.length) Lk) I.length)) (splice_whole _ _ (mxA_sz _ _)) ?_
  intro w5 St
  have kS := kg2
  replace kg1 := St.has (by omega) kg1
  replace HB := HB.st St dHBg2
  replace GG := GG.store St bg2
  replace kg2 := St.new
  clear St
  refine wpList_nil ?_
  refine then_n ?_
  refine wp_seq ?_
  refine wp_seq ?_
  refine wp_region_lit ?_
  refine s_val 28 rfl rfl (.slice aw I.length I.length) (rfl) ?_
  refine nr ?_; intro U h; simp only [z0, z1] at h; subst h
  refine s_val 29 rfl rfl (.int .i64 ((I.length : Nat) : Int)) (run_len Try.underlying41 _ rfl _ _ _ rfl _) ?_
  refine nr ?_; intro U h; simp only [z0, z1] at h; subst h
  refine s_val 30 rfl rfl (.int .i64 0) (rfl) ?_
  refine nr ?_; intro U h; simp only [z0, z1] at h; subst h
  refine wpList_nil ?_
  refine then_n ?_
  refine wp_block ?_
  refine wp_loopN (fun mz az wv => ∃ (a : Nat) (us1 : Nat → Value), mz = I.length + 1 - a ∧ az = ⟨[.agg (wdA aw IW.length cw al Lk.length cl ah Hs.length ch), .pointer (some ⟨g1, 0, none⟩), us1 0, .slice aw I.length I.length, .slice aoB B.length capB, .pointer (some ⟨g2, 0, none⟩), us1 1, us1 2, us1 3, .bool true, .bool false, .pointer (some ⟨g1, 0, none⟩), .slice aw IW.length cw, .pointer (some ⟨g1, 0, none⟩), .slice aw IW.length cw, .int .i64 ((IW.length : Nat) : Int), .int .i64 (min ((IW.length : Nat) : Int) 6), .pointer (some ⟨g1, 0, none⟩), .slice aw IW.length cw, .int .i64 ((IW.length : Nat) : Int), .int .i64 (min ((IW.length : Nat) : Int) 6), .slice aw I.length I.length, .tuple #[.slice aoB B.length capB, .agg (mxA (warH I.length (lkF I.length (dgF I.length) Lk) I.length))], .agg (wdA aw IW.length cw al Lk.length cl ah Hs.length ch), .slice aw I.length I.length, .tuple #[.slice aoB B.length capB, .agg (mxA (warH I.length (lkF I.length (dgF I.length) Lk) I.length))], .slice aoB B.length capB, .agg (mxA (warH I.length (lkF I.length (dgF I.length) Lk) I.length)), .slice aw I.length I.length, .int .i64 ((I.length : Nat) : Int), .int .i64 ((a : Nat) : Int), us1 4, us1 5, us1 6, us1 7, us1 8, us1 9, us1 10, us1 11, us1 12, us1 13, us1 14, us1 15, us1 16, us1 17, us1 18, us1 19, us1 20, us1 21, us1 22, us1 23, us1 24, us1 25, us1 26, us1 27, us1 28, us1 29, us1 30, us1 31, us1 32, us1 33, us1 34, us1 35, us1 36, us1 37, us1 38, us1 39, us1 40].toArray, []⟩ ∧ a ≤ I.length ∧ Gro w wv ∧ wv.heap[g1]? = some (.cells (wdA aw IW.length cw al Lk.length cl ah Hs.length ch) 45 (0, 0)) ∧ wv.heap[g2]? = some (.cells (mxA (warH I.length (lkF I.length (dgF I.length) Lk) I.length)) 47 (0, 0)) ∧ RK kH wv aoB capB B) ?_ _ ⟨0, (fun kz => ([.bool false, undef, undef, undef, undef, undef, undef, undef, undef, undef, undef, undef, undef, undef, undef, undef, undef, undef, undef, undef, undef, undef, undef, undef, undef, undef, undef, undef, undef, undef, undef, undef, undef, undef, undef, undef, undef, undef, undef, undef, undef] : List Value).getD kz undef), rfl, rfl, Nat.zero_le _, GG, kg1, kg2, HB⟩
  clear GG kg1 kg2 HB
  rintro mz az wv ⟨a, us1, rfl, rfl, ha, GG, kg1, kg2, HB⟩
  refine wp_seq ?_
  refine wp_region_lit ?_
  cases ha1 : decide (((a : Nat) : Int) < ((I.length : Nat) : Int))
  · have hae : a = I.length := by have := of_decide_eq_false ha1; omega
    refine s_val 31 rfl rfl (.bool false) (run_lssT 3 _ _ _ rfl ((a : Nat) : Int) ((I.length : Nat) : Int) rfl rfl false ha1 _) ?_
    refine nr ?_; intro U h; simp only [z0, z1] at h; subst h
    refine wpList_nil ?_
    refine then_n ?_
    refine wp_seq ?_
    refine wp_cond_false rfl ?_
    refine wp_exit ?_
    refine then_x ?_
    refine then_x ?_
    refine blk_x ?_
    refine then_n ?_
    refine wp_seq ?_
    refine wp_region_lit ?_
    refine s_val 2 rfl rfl (.bool true) (rfl) ?_
    refine nr ?_; intro U h; simp only [z0, z1] at h; subst h
    refine wpList_nil ?_
    refine then_n ?_
    refine wp_ret ?_
    refine bodyPost_ret (results_tmp Try.results6 _ _ _) rfl ?_
    exact ⟨rfl, GG⟩
  · have hal : a < I.length := by have := of_decide_eq_true ha1; omega
    refine s_val 31 rfl rfl (.bool true) (run_lssT 3 _ _ _ rfl ((a : Nat) : Int) ((I.length : Nat) : Int) rfl rfl true ha1 _) ?_
    refine nr ?_; intro U h; simp only [z0, z1] at h; subst h
    refine wpList_nil ?_
    refine then_n ?_
    refine wp_seq ?_
    refine wp_cond_true rfl ?_
    refine wp_skip ?_
    refine then_n ?_
    refine wp_seq ?_
    refine wp_block ?_
    refine wp_seq ?_
    refine wp_region_lit ?_
    refine s_val 32 rfl rfl (.int .i64 ((a : Nat) : Int)) (rfl) ?_
    refine nr ?_; intro U h; simp only [z0, z1] at h; subst h
    refine s_val 6 rfl rfl (.int .i64 ((a : Nat) : Int)) (rfl) ?_
    refine nr ?_; intro U h; simp only [z0, z1] at h; subst h
    refine wpList_nil ?_
    refine then_n ?_
    refine wp_seq ?_
    refine wp_region_lit ?_
    refine s_val 33 rfl rfl (.slice aw I.length I.length) (rfl) ?_
    refine nr ?_; intro U h; simp only [z0, z1] at h; subst h
    refine s_val 34 rfl rfl (.int .i64 ((a : Nat) : Int)) (rfl) ?_
    refine nr ?_; intro U h; simp only [z0, z1] at h; subst h
    refine s_val 35 rfl rfl (.pointer (pK kI aw a 0)) (run_ixK rI (HI.gro GG) _ _ rfl rfl a rfl (by omega)) ?_
    refine nr ?_; intro U h; simp only [z0, z1] at h; subst h
    refine s_val 36 rfl rfl (.agg (idA (I.getD a 0))) (run_ldKI (HI.gro GG) _ rfl a rfl (by omega)) ?_
    refine nr ?_; intro U h; simp only [z0, z1] at h; subst h
    refine s_alloc 7 rfl rfl 23 rfl _ zero23 (idA 0) rfl ?_
    intro w6 g3 G eg3 kg3
    have bg3 := size_base GG eg3
    have dg1g3 := lt_new kg1 eg3
    have dg2g3 := lt_new kg2 eg3
    have dHBg3 := HB.ne eg3
    replace kg1 := G.has kg1
    replace kg2 := G.has kg2
    replace HB := HB.gro G
    replace GG := GG.trans G
    clear G
    clear eg3
    refine nr ?_; intro U h; simp only [z0, z1] at h; subst h
    refine s_store rfl rfl 23 _ _ rfl g3 0 rfl (.agg (idA (I.getD a 0))) rfl 23 _ kg3 (idA (I.getD a 0)) rfl (size23' _) (idA_fit _ _) (idA_one _) (idA (I.getD a 0)) (splice_whole _ _ (idA_sz _ _)) ?_
    intro w7 St
    have kS := kg3
    replace kg1 := St.has (by omega) kg1
    replace kg2 := St.has (by omega) kg2
    replace HB := HB.st St dHBg3
    replace GG := GG.store St bg3
    replace kg3 := St.new
    clear St
    refine wpList_nil ?_
    refine then_n ?_
    refine wp_seq ?_
    refine wp_seq ?_
    refine wp_region_lit ?_
    refine s_val 37 rfl rfl (.slice aw I.length I.length) (rfl) ?_
    refine nr ?_; intro U h; simp only [z0, z1] at h; subst h
    refine s_val 38 rfl rfl (.int .i64 ((I.length : Nat) : Int)) (run_len Try.underlying41 _ rfl _ _ _ rfl _) ?_
    refine nr ?_; intro U h; simp only [z0, z1] at h; subst h
    refine s_val 39 rfl rfl (.int .i64 0) (rfl) ?_
    refine nr ?_; intro U h; simp only [z0, z1] at h; subst h
    refine wpList_nil ?_
    refine then_n ?_
    refine wp_block ?_
    refine wp_loopN (fun mz az wv => ∃ (b : Nat) (us2 : Nat → Value), mz = I.length + 1 - b ∧ az = ⟨[.agg (wdA aw IW.length cw al Lk.length cl ah Hs.length ch), .pointer (some ⟨g1, 0, none⟩), us1 0, .slice aw I.length I.length, .slice aoB B.length capB, .pointer (some ⟨g2, 0, none⟩), .int .i64 ((a : Nat) : Int), .pointer (some ⟨g3, 0, none⟩), us2 0, .bool true, .bool false, .pointer (some ⟨g1, 0, none⟩), .slice aw IW.length cw, .pointer (some ⟨g1, 0, none⟩), .slice aw IW.length cw, .int .i64 ((IW.length : Nat) : Int), .int .i64 (min ((IW.length : Nat) : Int) 6), .pointer (some ⟨g1, 0, none⟩), .slice aw IW.length cw, .int .i64 ((IW.length : Nat) : Int), .int .i64 (min ((IW.length : Nat) : Int) 6), .slice aw I.length I.length, .tuple #[.slice aoB B.length capB, .agg (mxA (warH I.length (lkF I.length (dgF I.length) Lk) I.length))], .agg (wdA aw IW.length cw al Lk.length cl ah Hs.length ch), .slice aw I.length I.length, .tuple #[.slice aoB B.length capB, .agg (mxA (warH I.length (lkF I.length (dgF I.length) Lk) I.length))], .slice aoB B.length capB, .agg (mxA (warH I.length (lkF I.length (dgF I.length) Lk) I.length)), .slice aw I.length I.length, .int .i64 ((I.length : Nat) : Int), .int .i64 ((a : Nat) : Int), .bool true, .int .i64 ((a : Nat) : Int), .slice aw I.length I.length, .int .i64 ((a : Nat) : Int), .pointer (pK kI aw a 0), .agg (idA (I.getD a 0)), .slice aw I.length I.length, .int .i64 ((I.length : Nat) : Int), .int .i64 ((b : Nat) : Int), us2 1, us2 2, us2 3, us2 4, us2 5, us2 6, us2 7, us2 8, us2 9, us2 10, us2 11, us2 12, us2 13, us2 14, us2 15, us2 16, us2 17, us2 18, us2 19, us2 20, us1 33, us1 34, us1 35, us1 36, us1 37, us1 38, us1 39, us1 40].toArray, []⟩ ∧ b ≤ I.length ∧ Gro w wv ∧ wv.heap[g1]? = some (.cells (wdA aw IW.length cw al Lk.length cl ah Hs.length ch) 45 (0, 0)) ∧ wv.heap[g2]? = some (.cells (mxA (warH I.length (lkF I.length (dgF I.length) Lk) I.length)) 47 (0, 0)) ∧ RK kH wv aoB capB B ∧ (wv.heap[g3]? = some (.cells (idA (lstH (warH I.length (lkF I.length (dgF I.length) Lk) I.length) (fun c => I.getD c 0) a b)) 23 (0, 0)))) ?_ _ ⟨0, (fun kz => ([us1 3, us1 13, us1 14, us1 15, us1 16, us1 17, us1 18, us1 19, us1 20, us1 21, us1 22, us1 23, us1 24, us1 25, us1 26, us1 27, us1 28, us1 29, us1 30, us1 31, us1 32] : List Value).getD kz undef), rfl, rfl, Nat.zero_le _, GG, kg1, kg2, HB, kg3⟩
    clear GG kg1 kg2 kg3 HB
    rintro mz az wv ⟨b, us2, rfl, rfl, hb, GG, kg1, kg2, HB, kg3⟩
    refine wp_seq ?_
    refine wp_region_lit ?_
    cases hb1 : decide (((b : Nat) : Int) < ((I.length : Nat) : Int))
    · have hbe : b = I.length := by have := of_decide_eq_false hb1; omega
      refine s_val 40 rfl rfl (.bool false) (run_lssT 3 _ _ _ rfl ((b : Nat) : Int) ((I.length : Nat) : Int) rfl rfl false hb1 _) ?_
      refine nr ?_; intro U h; simp only [z0, z1] at h; subst h
      refine wpList_nil ?_
      refine then_n ?_
      refine wp_seq ?_
      refine wp_cond_false rfl ?_
      refine wp_exit ?_
      refine then_x ?_
      refine then_x ?_
      refine blk_x ?_
      refine then_n ?_
      refine wp_seq ?_
      have hq : decide ((B.getD a zH).id = (lstH (warH I.length (lkF I.length (dgF I.length) Lk) I.length) (fun c => I.getD c 0) a b)) = true := decide_eq_true (by rw [hB a hal, hbe]; exact comes_any I.length hI6 Lk _ Hs hal)
      refine wp_region_exA (A := ?Ax1) 6 [(0, 60), (1, 61), (2, 62), (3, 63), (4, 64), (5, 65)] [.val (.slice aoB B.length capB), .val (.int .i64 ((a : Nat) : Int)), .val (.pointer (pK kH aoB a 0)), .val (.pointer (pK kH aoB a 1)), .val (.agg (idA (B.getD a zH).id)), .val (.agg (idA (lstH (warH I.length (lkF I.length (dgF I.length) Lk) I.length) (fun c => I.getD c 0) a b)))] follows (by kernel_rfl) rfl ?hAx1 (opsA_cons ?o0x1 (opsA_cons ?o1x1 (opsA_cons ?o2x1 (opsA_cons ?o3x1 (opsA_cons ?o4x1 (opsA_cons ?o5x1 opsA_nil)))))) ?restx1
      case hAx1 =>
        intro ptrs
        simp only [full, foldSlots, filledE, postE, List.foldl_cons, List.foldl_nil, List.getD_cons_zero, List.getD_cons_succ, fill_val, List.set_cons_zero, List.set_cons_succ]
        exact rfl
      case o0x1 => exact fun _ _ _ _ => opE_move (v := .slice aoB B.length capB) _ rfl rfl rfl
      case o1x1 => exact fun _ _ _ _ => opE_move (v := .int .i64 ((a : Nat) : Int)) _ rfl rfl rfl
      case o2x1 => exact fun _ _ hw _ => opE_value (v := .pointer (pK kH aoB a 0)) rfl (run_ixK rH (HB.gro ((Gro.refl _).drew.trans hw)) _ _ rfl rfl a rfl (by omega))
      case o3x1 => exact fun _ _ hw _ => opE_value (v := .pointer (pK kH aoB a 1)) rfl (run_fdK (HB.gro ((Gro.refl _).drew.trans hw)) 26 _ 1 1 (fdH_1 _) rfl a rfl (by omega))
      case o4x1 => exact fun _ _ hw _ => opE_value (v := .agg (idA (B.getD a zH).id)) rfl (run_ldKHi (HB.gro ((Gro.refl _).drew.trans hw)) _ rfl a rfl (by omega))
      case o5x1 => exact fun _ _ hw _ => opE_value (v := .agg (idA (lstH (warH I.length (lkF I.length (dgF I.length) Lk) I.length) (fun c => I.getD c 0) a b))) rfl (ldI0 _ rfl g3 rfl (hw.has kg3))
      intro ptrs w8 GD hxE
      simp only [List.drop_succ_cons, List.drop_zero]
      replace kg1 := GD.has kg1
      replace kg2 := GD.has kg2
      replace kg3 := GD.has kg3
      replace HB := HB.gro ((Gro.refl _).drew.trans GD)
      replace GG := GG.drew.trans GD
      clear GD
      refine s_val 66 rfl rfl (.bool false) (run_neI _ _ _ rfl _ _ rfl rfl (atH HB (by omega)).id (lst_lt HI.all) false hq) ?_
      refine nr ?_; intro U h; simp only [z0, z1] at h; subst h
      refine wpList_nil ?_
      refine then_n ?_
      refine wp_cond_false rfl ?_
      refine wp_skip ?_
      refine blk_n ?_
      refine then_n ?_
      refine wp_region_lit ?_
      refine s_val 67 rfl rfl (.int .i64 ((a + 1 : Nat) : Int)) (run_addI 3 _ _ _ rfl ((a : Nat) : Int) 1 ((a + 1 : Nat) : Int) rfl rfl (by omega) (by omega) (by omega) _) ?_
      refine nr ?_; intro U h; simp only [z0, z1] at h; subst h
      refine s_val 30 rfl rfl (.int .i64 ((a + 1 : Nat) : Int)) (rfl) ?_
      refine nr ?_; intro U h; simp only [z0, z1] at h; subst h
      refine wpList_nil ?_
      refine then_n ?_
      exact ⟨I.length + 1 - (a + 1), by omega, a + 1, (fun kz => ([us1 0, .int .i64 ((a : Nat) : Int), .pointer (some ⟨g3, 0, none⟩), us2 0, .bool true, .int .i64 ((a : Nat) : Int), .slice aw I.length I.length, .int .i64 ((a : Nat) : Int), .pointer (pK kI aw a 0), .agg (idA (I.getD a 0)), .slice aw I.length I.length, .int .i64 ((I.length : Nat) : Int), .int .i64 ((b : Nat) : Int), .bool false, us2 2, us2 3, us2 4, us2 5, us2 6, us2 7, us2 8, us2 9, us2 10, us2 11, us2 12, us2 13, us2 14, us2 15, us2 16, us2 17, us2 18, us2 19, us2 20, .slice aoB B.length capB, .int .i64 ((a : Nat) : Int), .pointer (pK kH aoB a 0), .pointer (pK kH aoB a 1), .agg (idA (B.getD a zH).id), .agg (idA (lstH (warH I.length (lkF I.length (dgF I.length) Lk) I.length) (fun c => I.getD c 0) a b)), .bool false, .int .i64 ((a + 1 : Nat) : Int)] : List Value).getD kz undef), rfl, rfl, by omega, GG, kg1, kg2, HB⟩
    · have hbl : b < I.length := by have := of_decide_eq_true hb1; omega
      refine s_val 40 rfl rfl (.bool true) (run_lssT 3 _ _ _ rfl ((b : Nat) : Int) ((I.length : Nat) : Int) rfl rfl true hb1 _) ?_
      refine nr ?_; intro U h; simp only [z0, z1] at h; subst h
      refine wpList_nil ?_
      refine then_n ?_
      refine wp_seq ?_
      refine wp_cond_true rfl ?_
      refine wp_skip ?_
      refine then_n ?_
      refine wp_seq ?_
      refine wp_block ?_
      refine wp_seq ?_
      refine wp_region_lit ?_
      refine s_val 41 rfl rfl (.int .i64 ((b : Nat) : Int)) (rfl) ?_
      refine nr ?_; intro U h; simp only [z0, z1] at h; subst h
      refine s_val 8 rfl rfl (.int .i64 ((b : Nat) : Int)) (rfl) ?_
      refine nr ?_; intro U h; simp only [z0, z1] at h; subst h
      refine wpList_nil ?_
      refine then_n ?_
      refine wp_seq ?_
      cases y1 : decide ((warH I.length (lkF I.length (dgF I.length) Lk) I.length) a b = true)
      · refine wp_region_exA (A := ?Ax2) 12 [(0, 42), (1, 43), (2, 44), (3, 45), (4, 46), (5, 47), (6, 48), (7, 49), (8, 50), (9, 51), (10, 52), (11, 53)] [.val (.int .i64 ((a : Nat) : Int)), .val (.int .i64 ((b : Nat) : Int)), .val (.pointer (some ⟨g2, a * 6, none⟩)), .val (.pointer (some ⟨g2, a * 6 + b, none⟩)), .val (.bool false), .val (.bool false), .val undef, .val undef, .val undef, .val undef, .val undef, .val undef] follows (by kernel_rfl) rfl ?hAx2 (opsA_cons ?o0x2 (opsA_cons ?o1x2 (opsA_cons ?o2x2 (opsA_cons ?o3x2 (opsA_cons ?o4x2 (opsA_cons ?o5x2 (opsA_cons ?o6x2 (opsA_cons ?o7x2 (opsA_cons ?o8x2 (opsA_cons ?o9x2 (opsA_cons ?o10x2 (opsA_cons ?o11x2 opsA_nil)))))))))))) ?restx2
        case hAx2 =>
          intro ptrs
          simp only [full, foldSlots, filledE, postE, List.foldl_cons, List.foldl_nil, List.getD_cons_zero, List.getD_cons_succ, fill_val, List.set_cons_zero, List.set_cons_succ]
          exact rfl
        case o0x2 => exact fun _ _ _ _ => opE_move (v := .int .i64 ((a : Nat) : Int)) _ rfl rfl rfl
        case o1x2 => exact fun _ _ _ _ => opE_move (v := .int .i64 ((b : Nat) : Int)) _ rfl rfl rfl
        case o2x2 => exact fun _ _ _ _ => opE_value (v := .pointer (some ⟨g2, a * 6, none⟩)) rfl (run_ia47 _ _ rfl g2 a rfl rfl (by omega) _)
        case o3x2 => exact fun _ _ _ _ => opE_value (v := .pointer (some ⟨g2, a * 6 + b, none⟩)) rfl (run_ia46 _ _ rfl g2 (a * 6) b rfl rfl (by omega) _)
        case o4x2 => exact fun _ _ hw _ => opE_value (v := .bool false) rfl (ldMb _ rfl g2 a b rfl (by omega) (by omega) (hw.has kg2) false (Bool.eq_false_iff.2 (of_decide_eq_false y1)))
        case o5x2 => exact fun _ _ _ _ => opE_move (v := .bool false) _ rfl rfl rfl
        case o6x2 => exact fun _ _ _ _ => opE_skip rfl
        case o7x2 => exact fun _ _ _ _ => opE_skip rfl
        case o8x2 => exact fun _ _ _ _ => opE_skip rfl
        case o9x2 => exact fun _ _ _ _ => opE_skip rfl
        case o10x2 => exact fun _ _ _ _ => opE_skip rfl
        case o11x2 => exact fun _ _ _ _ => opE_skip rfl
        intro ptrs w8 GD hxE
        simp only [List.drop_succ_cons, List.drop_zero]
        replace kg1 := GD.has kg1
        replace kg2 := GD.has kg2
        replace kg3 := GD.has kg3
        replace HB := HB.gro ((Gro.refl _).drew.trans GD)
        replace GG := GG.drew.trans GD
        clear GD
        refine s_val 54 rfl rfl (.bool false) (rfl) ?_
        refine nr ?_; intro U h; simp only [z0, z1] at h; subst h
        refine wpList_nil ?_
        refine then_n ?_
        refine wp_cond_false rfl ?_
        refine wp_skip ?_
        refine blk_n ?_
        refine then_n ?_
        refine wp_region_lit ?_
        refine s_val 59 rfl rfl (.int .i64 ((b + 1 : Nat) : Int)) (run_addI 3 _ _ _ rfl ((b : Nat) : Int) 1 ((b + 1 : Nat) : Int) rfl rfl (by omega) (by omega) (by omega) _) ?_
        refine nr ?_; intro U h; simp only [z0, z1] at h; subst h
        refine s_val 39 rfl rfl (.int .i64 ((b + 1 : Nat) : Int)) (rfl) ?_
        refine nr ?_; intro U h; simp only [z0, z1] at h; subst h
        refine wpList_nil ?_
        refine then_n ?_
        exact ⟨I.length + 1 - (b + 1), by omega, b + 1, (fun kz => ([.int .i64 ((b : Nat) : Int), .bool true, .int .i64 ((b : Nat) : Int), .int .i64 ((a : Nat) : Int), .int .i64 ((b : Nat) : Int), .pointer (some ⟨g2, a * 6, none⟩), .pointer (some ⟨g2, a * 6 + b, none⟩), .bool false, .bool false, undef, undef, undef, undef, undef, undef, .bool false, us2 16, us2 17, us2 18, us2 19, .int .i64 ((b + 1 : Nat) : Int)] : List Value).getD kz undef), rfl, rfl, by omega, GG, kg1, kg2, HB, by rw [lst_no (ids := fun c => I.getD c 0) fun c => of_decide_eq_false y1 c.1]; exact kg3⟩
      · cases y2 : decide (I.getD b 0 < (lstH (warH I.length (lkF I.length (dgF I.length) Lk) I.length) (fun c => I.getD c 0) a b))
        · refine wp_region_exA (A := ?Ax3) 12 [(0, 42), (1, 43), (2, 44), (3, 45), (4, 46), (5, 47), (6, 48), (7, 49), (8, 50), (9, 51), (10, 52), (11, 53)] [.val (.int .i64 ((a : Nat) : Int)), .val (.int .i64 ((b : Nat) : Int)), .val (.pointer (some ⟨g2, a * 6, none⟩)), .val (.pointer (some ⟨g2, a * 6 + b, none⟩)), .val (.bool true), .val (.bool true), .val (.slice aw I.length I.length), .val (.int .i64 ((b : Nat) : Int)), .val (.pointer (pK kI aw b 0)), .val (.agg (idA (I.getD b 0))), .val (.agg (idA (lstH (warH I.length (lkF I.length (dgF I.length) Lk) I.length) (fun c => I.getD c 0) a b))), .val (.bool false)] follows (by kernel_rfl) rfl ?hAx3 (opsA_cons ?o0x3 (opsA_cons ?o1x3 (opsA_cons ?o2x3 (opsA_cons ?o3x3 (opsA_cons ?o4x3 (opsA_cons ?o5x3 (opsA_cons ?o6x3 (opsA_cons ?o7x3 (opsA_cons ?o8x3 (opsA_cons ?o9x3 (opsA_cons ?o10x3 (opsA_cons ?o11x3 opsA_nil)))))))))))) ?restx3
          case hAx3 =>
            intro ptrs
            simp only [full, foldSlots, filledE, postE, List.foldl_cons, List.foldl_nil, List.getD_cons_zero, List.getD_cons_succ, fill_val, List.set_cons_zero, List.set_cons_succ]
            exact rfl
          case o0x3 => exact fun _ _ _ _ => opE_move (v := .int .i64 ((a : Nat) : Int)) _ rfl rfl rfl
          case o1x3 => exact fun _ _ _ _ => opE_move (v := .int .i64 ((b : Nat) : Int)) _ rfl rfl rfl
          case o2x3 => exact fun _ _ _ _ => opE_value (v := .pointer (some ⟨g2, a * 6, none⟩)) rfl (run_ia47 _ _ rfl g2 a rfl rfl (by omega) _)
          case o3x3 => exact fun _ _ _ _ => opE_value (v := .pointer (some ⟨g2, a * 6 + b, none⟩)) rfl (run_ia46 _ _ rfl g2 (a * 6) b rfl rfl (by omega) _)
          case o4x3 => exact fun _ _ hw _ => opE_value (v := .bool true) rfl (ldMb _ rfl g2 a b rfl (by omega) (by omega) (hw.has kg2) true (of_decide_eq_true y1))
          case o5x3 => exact fun _ _ _ _ => opE_move (v := .bool true) _ rfl rfl rfl
          case o6x3 => exact fun _ _ _ _ => opE_move (v := .slice aw I.length I.length) _ rfl rfl rfl
          case o7x3 => exact fun _ _ _ _ => opE_move (v := .int .i64 ((b : Nat) : Int)) _ rfl rfl rfl
          case o8x3 => exact fun _ _ hw _ => opE_value (v := .pointer (pK kI aw b 0)) rfl (run_ixK rI (HI.gro (GG.drew.trans hw)) _ _ rfl rfl b rfl (by omega))
          case o9x3 => exact fun _ _ hw _ => opE_value (v := .agg (idA (I.getD b 0))) rfl (run_ldKI (HI.gro (GG.drew.trans hw)) _ rfl b rfl (by omega))
          case o10x3 => exact fun _ _ hw _ => opE_value (v := .agg (idA (lstH (warH I.length (lkF I.length (dgF I.length) Lk) I.length) (fun c => I.getD c 0) a b))) rfl (ldI0 _ rfl g3 rfl (hw.has kg3))
          case o11x3 =>
            intro ptrs w' hw hE
            exact opE_call (.val (.bool false)) rfl _ 17 Try.call17 rfl rfl _ rfl [.agg (idA (I.getD b 0)), .agg (idA (lstH (warH I.length (lkF I.length (dgF I.length) Lk) I.length) (fun c => I.getD c 0) a b))] rfl ((Calls.bool (less_any (I.getD b 0) (lstH (warH I.length (lkF I.length (dgF I.length) Lk) I.length) (fun c => I.getD c 0) a b) (atI HI (by omega)) (lst_lt HI.all) _) y2).mono fun e w' ⟨he, hg⟩ => ⟨_, he, hg, rfl⟩)
          intro ptrs w8 GD hxE
          simp only [List.drop_succ_cons, List.drop_zero]
          replace kg1 := GD.has kg1
          replace kg2 := GD.has kg2
          replace kg3 := GD.has kg3
          replace HB := HB.gro ((Gro.refl _).drew.trans GD)
          replace GG := GG.drew.trans GD
          clear GD
          refine s_val 54 rfl rfl (.bool false) (rfl) ?_
          refine nr ?_; intro U h; simp only [z0, z1] at h; subst h
          refine wpList_nil ?_
          refine then_n ?_
          refine wp_cond_false rfl ?_
          refine wp_skip ?_
          refine blk_n ?_
          refine then_n ?_
          refine wp_region_lit ?_
          refine s_val 59 rfl rfl (.int .i64 ((b + 1 : Nat) : Int)) (run_addI 3 _ _ _ rfl ((b : Nat) : Int) 1 ((b + 1 : Nat) : Int) rfl rfl (by omega) (by omega) (by omega) _) ?_
          refine nr ?_; intro U h; simp only [z0, z1] at h; subst h
          refine s_val 39 rfl rfl (.int .i64 ((b + 1 : Nat) : Int)) (rfl) ?_
          refine nr ?_; intro U h; simp only [z0, z1] at h; subst h
          refine wpList_nil ?_
          refine then_n ?_
          exact ⟨I.length + 1 - (b + 1), by omega, b + 1, (fun kz => ([.int .i64 ((b : Nat) : Int), .bool true, .int .i64 ((b : Nat) : Int), .int .i64 ((a : Nat) : Int), .int .i64 ((b : Nat) : Int), .pointer (some ⟨g2, a * 6, none⟩), .pointer (some ⟨g2, a * 6 + b, none⟩), .bool true, .bool true, .slice aw I.length I.length, .int .i64 ((b : Nat) : Int), .pointer (pK kI aw b 0), .agg (idA (I.getD b 0)), .agg (idA (lstH (warH I.length (lkF I.length (dgF I.length) Lk) I.length) (fun c => I.getD c 0) a b)), .bool false, .bool false, us2 16, us2 17, us2 18, us2 19, .int .i64 ((b + 1 : Nat) : Int)] : List Value).getD kz undef), rfl, rfl, by omega, GG, kg1, kg2, HB, by rw [lst_no (ids := fun c => I.getD c 0) fun c => of_decide_eq_false y2 c.2]; exact kg3⟩
        · refine wp_region_exA (A := ?Ax4) 12 [(0, 42), (1, 43), (2, 44), (3, 45), (4, 46), (5, 47), (6, 48), (7, 49), (8, 50), (9, 51), (10, 52), (11, 53)] [.val (.int .i64 ((a : Nat) : Int)), .val (.int .i64 ((b : Nat) : Int)), .val (.pointer (some ⟨g2, a * 6, none⟩)), .val (.pointer (some ⟨g2, a * 6 + b, none⟩)), .val (.bool true), .val (.bool true), .val (.slice aw I.length I.length), .val (.int .i64 ((b : Nat) : Int)), .val (.pointer (pK kI aw b 0)), .val (.agg (idA (I.getD b 0))), .val (.agg (idA (lstH (warH I.length (lkF I.length (dgF I.length) Lk) I.length) (fun c => I.getD c 0) a b))), .val (.bool true)] follows (by kernel_rfl) rfl ?hAx4 (opsA_cons ?o0x4 (opsA_cons ?o1x4 (opsA_cons ?o2x4 (opsA_cons ?o3x4 (opsA_cons ?o4x4 (opsA_cons ?o5x4 (opsA_cons ?o6x4 (opsA_cons ?o7x4 (opsA_cons ?o8x4 (opsA_cons ?o9x4 (opsA_cons ?o10x4 (opsA_cons ?o11x4 opsA_nil)))))))))))) ?restx4
          case hAx4 =>
            intro ptrs
            simp only [full, foldSlots, filledE, postE, List.foldl_cons, List.foldl_nil, List.getD_cons_zero, List.getD_cons_succ, fill_val, List.set_cons_zero, List.set_cons_succ]
            exact rfl
          case o0x4 => exact fun _ _ _ _ => opE_move (v := .int .i64 ((a : Nat) : Int)) _ rfl rfl rfl
          case o1x4 => exact fun _ _ _ _ => opE_move (v := .int .i64 ((b : Nat) : Int)) _ rfl rfl rfl
          case o2x4 => exact fun _ _ _ _ => opE_value (v := .pointer (some ⟨g2, a * 6, none⟩)) rfl (run_ia47 _ _ rfl g2 a rfl rfl (by omega) _)
          case o3x4 => exact fun _ _ _ _ => opE_value (v := .pointer (some ⟨g2, a * 6 + b, none⟩)) rfl (run_ia46 _ _ rfl g2 (a * 6) b rfl rfl (by omega) _)
          case o4x4 => exact fun _ _ hw _ => opE_value (v := .bool true) rfl (ldMb _ rfl g2 a b rfl (by omega) (by omega) (hw.has kg2) true (of_decide_eq_true y1))
          case o5x4 => exact fun _ _ _ _ => opE_move (v := .bool true) _ rfl rfl rfl
          case o6x4 => exact fun _ _ _ _ => opE_move (v := .slice aw I.length I.length) _ rfl rfl rfl
          case o7x4 => exact fun _ _ _ _ => opE_move (v := .int .i64 ((b : Nat) : Int)) _ rfl rfl rfl
          case o8x4 => exact fun _ _ hw _ => opE_value (v := .pointer (pK kI aw b 0)) rfl (run_ixK rI (HI.gro (GG.drew.trans hw)) _ _ rfl rfl b rfl (by omega))
          case o9x4 => exact fun _ _ hw _ => opE_value (v := .agg (idA (I.getD b 0))) rfl (run_ldKI (HI.gro (GG.drew.trans hw)) _ rfl b rfl (by omega))
          case o10x4 => exact fun _ _ hw _ => opE_value (v := .agg (idA (lstH (warH I.length (lkF I.length (dgF I.length) Lk) I.length) (fun c => I.getD c 0) a b))) rfl (ldI0 _ rfl g3 rfl (hw.has kg3))
          case o11x4 =>
            intro ptrs w' hw hE
            exact opE_call (.val (.bool true)) rfl _ 17 Try.call17 rfl rfl _ rfl [.agg (idA (I.getD b 0)), .agg (idA (lstH (warH I.length (lkF I.length (dgF I.length) Lk) I.length) (fun c => I.getD c 0) a b))] rfl ((Calls.bool (less_any (I.getD b 0) (lstH (warH I.length (lkF I.length (dgF I.length) Lk) I.length) (fun c => I.getD c 0) a b) (atI HI (by omega)) (lst_lt HI.all) _) y2).mono fun e w' ⟨he, hg⟩ => ⟨_, he, hg, rfl⟩)
          intro ptrs w8 GD hxE
          simp only [List.drop_succ_cons, List.drop_zero]
          replace kg1 := GD.has kg1
          replace kg2 := GD.has kg2
          replace kg3 := GD.has kg3
          replace HB := HB.gro ((Gro.refl _).drew.trans GD)
          replace GG := GG.drew.trans GD
          clear GD
          refine s_val 54 rfl rfl (.bool true) (rfl) ?_
          refine nr ?_; intro U h; simp only [z0, z1] at h; subst h
          refine wpList_nil ?_
          refine then_n ?_
          refine wp_cond_true rfl ?_
          refine wp_region_lit ?_
          refine s_val 55 rfl rfl (.slice aw I.length I.length) (rfl) ?_
          refine nr ?_; intro U h; simp only [z0, z1] at h; subst h
          refine s_val 56 rfl rfl (.int .i64 ((b : Nat) : Int)) (rfl) ?_
          refine nr ?_; intro U h; simp only [z0, z1] at h; subst h
          refine s_val 57 rfl rfl (.pointer (pK kI aw b 0)) (run_ixK rI (HI.gro GG) _ _ rfl rfl b rfl (by omega)) ?_
          refine nr ?_; intro U h; simp only [z0, z1] at h; subst h
          refine s_val 58 rfl rfl (.agg (idA (I.getD b 0))) (run_ldKI (HI.gro GG) _ rfl b rfl (by omega)) ?_
          refine nr ?_; intro U h; simp only [z0, z1] at h; subst h
          refine s_store rfl rfl 23 _ _ rfl g3 0 rfl (.agg (idA (I.getD b 0))) rfl 23 _ kg3 (idA (I.getD b 0)) rfl (size23' _) (idA_fit _ _) (idA_one _) (idA (I.getD b 0)) (splice_whole _ _ (idA_sz _ _)) ?_
          intro w9 St
          have kS := kg3
          replace kg1 := St.has (by omega) kg1
          replace kg2 := St.has (by omega) kg2
          replace HB := HB.st St dHBg3
          replace GG := GG.store St bg3
          replace kg3 := St.new
          clear St
          refine wpList_nil ?_
          refine blk_n ?_
          refine then_n ?_
          refine wp_region_lit ?_
          refine s_val 59 rfl rfl (.int .i64 ((b + 1 : Nat) : Int)) (run_addI 3 _ _ _ rfl ((b : Nat) : Int) 1 ((b + 1 : Nat) : Int) rfl rfl (by omega) (by omega) (by omega) _) ?_
          refine nr ?_; intro U h; simp only [z0, z1] at h; subst h
          refine s_val 39 rfl rfl (.int .i64 ((b + 1 : Nat) : Int)) (rfl) ?_
          refine nr ?_; intro U h; simp only [z0, z1] at h; subst h
          refine wpList_nil ?_
          refine then_n ?_
          exact ⟨I.length + 1 - (b + 1), by omega, b + 1, (fun kz => ([.int .i64 ((b : Nat) : Int), .bool true, .int .i64 ((b : Nat) : Int), .int .i64 ((a : Nat) : Int), .int .i64 ((b : Nat) : Int), .pointer (some ⟨g2, a * 6, none⟩), .pointer (some ⟨g2, a * 6 + b, none⟩), .bool true, .bool true, .slice aw I.length I.length, .int .i64 ((b : Nat) : Int), .pointer (pK kI aw b 0), .agg (idA (I.getD b 0)), .agg (idA (lstH (warH I.length (lkF I.length (dgF I.length) Lk) I.length) (fun c => I.getD c 0) a b)), .bool true, .bool true, .slice aw I.length I.length, .int .i64 ((b : Nat) : Int), .pointer (pK kI aw b 0), .agg (idA (I.getD b 0)), .int .i64 ((b + 1 : Nat) : Int)] : List Value).getD kz undef), rfl, rfl, by omega, GG, kg1, kg2, HB, by rw [lst_yes (ids := fun c => I.getD c 0) (of_decide_eq_true y1) (of_decide_eq_true y2)]; exact kg3⟩
end Go.Proofs.Ytljihaihhnamfaa
