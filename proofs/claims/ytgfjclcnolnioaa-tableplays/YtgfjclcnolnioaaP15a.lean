/- No more entries than room, no two of one key. -/
import Derived.Test.YtgfjclcnolnioaaP14
namespace Go.Proofs.Ytgfjclcnolnioaa
open Classical
open Go.RowKit Go.Maps

/-- Where a key stands. -/
def plc (l : List En) (p : Pa) : Nat := l.findIdx fun x => eqP x.p p
theorem plc_lt {l : List En} {p : Pa} (h : hasL l p = true) : plc l p < l.length := by
  obtain ⟨x, hx, e⟩ := hasL_iff.1 h
  exact List.findIdx_lt_length_of_exists ⟨x, hx, by simpa using e⟩
theorem plc_at {l : List En} {p : Pa} (h : hasL l p = true) : (l.getD (plc l p) zE).p = p := by
  have hl := plc_lt h
  have := List.findIdx_getElem (xs := l) (p := fun x : En => eqP x.p p) (w := hl)
  have hg : l.getD (plc l p) zE = l[plc l p] := by simp [List.getD_eq_getElem?_getD, hl]
  rw [hg]
  exact of_decide_eq_true ((eqP_eq _ _).symm.trans this)
theorem plc_eq {l : List En} {p : Pa} {i : Nat} (hi : i < l.length) (h1 : ∀ k, k < i → (l.getD k zE).p ≠ p) (h2 : (l.getD i zE).p = p) : plc l p = i := by
  have hh : hasL l p = true := hasL_iff.2 ⟨_, getD_in hi, h2⟩
  have a := plc_lt hh
  have b := plc_at hh
  by_cases e : plc l p < i
  · exact absurd b (h1 _ e)
  · by_cases e2 : i < plc l p
    · have := List.not_of_lt_findIdx (xs := l) (p := fun x : En => eqP x.p p) (i := i) e2
      have hg : l.getD i zE = l[i] := by simp [List.getD_eq_getElem?_getD, hi]
      rw [hg] at h2
      simp [h2] at this
    · omega
def plcV (l : List En) (p : Pa) : Int := if hasL l p = true then ((plc l p : Nat) : Int) else -1
theorem plcV_y {l : List En} {p : Pa} (h : hasL l p = true) : plcV l p = ((plc l p : Nat) : Int) := if_pos h
theorem plcV_n {l : List En} {p : Pa} (h : hasL l p = false) : plcV l p = -1 := if_neg (by rw [h]; decide)
theorem hasL_perm {l m : List En} (h : KN l) (p : l.Perm m) (q : Pa) : hasL l q = hasL m q := by unfold hasL; rw [getL_perm h p q]
theorem lst_no {l : List En} {p : Pa} {i : Nat} (hi : i = l.length) (h1 : ∀ k, k < i → (l.getD k zE).p ≠ p) : hasL l p = false := by
  rw [Bool.eq_false_iff]
  intro h
  obtain ⟨x, hx, e⟩ := hasL_iff.1 h
  obtain ⟨k, hk, rfl⟩ := List.getElem_of_mem hx
  have := h1 k (by omega)
  exact this (by simpa [List.getD_eq_getElem?_getD, hk] using e)
theorem plc_in {I L : List En} (hp : I.Perm L) (hk : KN L) {x : En} (hx : x ∈ L) : I.getD (plc I x.p) zE = x := by
  have hI : KN I := hk.perm hp.symm
  have hh : hasL I x.p = true := hasL_iff.2 ⟨x, hp.mem_iff.2 hx, rfl⟩
  exact hI.inj (getD_in (plc_lt hh)) (hp.mem_iff.2 hx) (plc_at hh)
theorem ris_less {L : List En} (h : Ris L) {q : Nat} (h0 : 0 < q) (hq : q < L.length) : lessB (L.getD (q - 1) zE).p (L.getD q zE).p = true := by
  have := List.pairwise_iff_getElem.1 h (q - 1) q (by omega) hq (by omega)
  unfold lessB
  rw [decide_eq_true_eq]
  simpa [List.getD_eq_getElem?_getD, hq, show q - 1 < L.length by omega] using this
theorem cut_perm {I L : List En} (hp : I.Perm L) (hk : KN L) {p : Pa} (h : hasL L p = true) : (I.take (plc I p) ++ I.drop (plc I p + 1)).Perm (delL p L) := by
  have hI : KN I := hk.perm hp.symm
  have hh : hasL I p = true := by rw [hasL_perm hI hp]; exact h
  have hl := plc_lt hh
  have e1 : I.take (plc I p) ++ I.drop (plc I p + 1) = I.eraseIdx (plc I p) := (List.eraseIdx_eq_take_drop_succ ..).symm
  have hg : I.getD (plc I p) zE = I[plc I p] := by simp [List.getD_eq_getElem?_getD, hl]
  have hpa := plc_at hh
  rw [hg] at hpa
  have h1 := erase_perm I (plc I p) hl
  have hm : I[plc I p] ∈ L := hp.mem_iff.1 (List.getElem_mem hl)
  have h2 := delL_perm hk hm
  rw [hpa] at h2
  rw [e1]
  exact List.Perm.cons_inv ((h1.trans hp).trans h2.symm)
theorem OE.cut3 {w : World} {B : Nat} {ao : Option Addr} {cap : Nat} {l : List En} (h : OE w B ao cap l) (i : Nat) (hi : i ≤ l.length) : OE w B ao i (l.take i) := by
  have hx := h.re.take i hi
  refine ⟨⟨hx.xc.len, ?_, hx.xc.one⟩, hx.all⟩
  have hlen : (l.take i).length = i := by rw [List.length_take]; omega
  rcases h.own.row with ⟨h1, h2, h3⟩ | ⟨g, d, cur, h1, h2, h3, h4, h5, h6, h7⟩
  · exact .inl ⟨h1, by omega, by rw [hlen]; omega⟩
  · refine .inr ⟨g, d, cur, h1, h2, h3, by omega, by omega, ?_, ?_⟩
    · have : i * 51 ≤ cap * 51 := Nat.mul_le_mul_right _ (by omega)
      omega
    · rw [hlen, flE, ← flx_take enL_len, ← flE, ← h7, List.take_take, Nat.min_eq_left (Nat.mul_le_mul_right _ hi)]
theorem run_cut3X {P : Program} {o : Oper} {A : Act} {t e : TypeId} {sz b : Nat} {z : Value} (T : RowT P t e sz b z) (x z u : Operand) (ho : o.op = .slice t x none (some z) (some u)) (ao : Option Addr) (n cap j : Nat) (hx : A.eval x = .slice ao n cap) (hz : A.eval z = .int .i64 (j : Int)) (hu : A.eval u = .int .i64 (j : Int)) (hj : j ≤ cap) (w : World) :
    (execOp A.eval o).run P w = .ok (.value (.slice ao j j)) w := by
  have h : (Instr.slice t (.slice ao n cap) none (some (.int .i64 (j : Int))) (some (.int .i64 (j : Int)))).run P w = .ok (.slice ao j j) w := by
    simp only [Instr.slice, Sem.run_bind, run_underlying T.und, Result.andThen_ok, Instr.sliceBounds, Instr.sliceBound, asIntOf, Sem.run_pure, run_sizeX T]
    have h3 : (0 : Int) ≤ (j : Int) ∧ (j : Int) ≤ (cap : Int) := by omega
    simp [h3]
    intro _
    cases ao <;> simp [add_zero]
  unfold execOp
  simp only [ho, hx, hz, hu, Option.map_some, Option.map_none, Sem.run_bind, sliceAtX_run T, h, Result.andThen_ok, Sem.run_pure]
set_option maxRecDepth 100000 in
set_option maxHeartbeats 4000000 in
theorem place_any (w : World) (ao : Option Addr) (cap : Nat) (l : List En) (H : RE w ao cap l) (hl : l.length ≤ 1000000) (p : Pa) (hp : p.ok) : Calls Try.prog 33 #[.slice ao l.length cap, .agg (paA p)] w (fun e w' => e = .returned (.int .i64 (plcV l p)) ∧ Gro w w') := by
  refine s_enter Try.func33 rfl Try.ntmps33 [.slice ao l.length cap, .agg (paA p)] [.slice ao l.length cap, .agg (paA p), undef, undef, undef, undef, undef, undef, undef, undef, undef, undef, undef, undef, undef, undef, undef, undef, undef, undef] rfl ?_
  have GG := Gro.refl w
  refine wp_seq ?_
  refine wp_region_lit ?_
  refine s_box 3 rfl rfl 31 _ rfl _ rfl (paA p) rfl ?_
  intro w1 g1 G eg1 kg1
  have bg1 := size_base GG eg1
  replace GG := GG.trans G
  clear G
  clear eg1
  refine nr ?_; intro U h; simp only [z0, z1] at h; subst h
  refine s_val 4 rfl rfl (.int .i64 0) (rfl) ?_
  refine nr ?_; intro U h; simp only [z0, z1] at h; subst h
  refine wpList_nil ?_
  refine then_n ?_
  refine wp_seq ?_
  refine wp_seq ?_
  refine wp_region_lit ?_
  refine s_val 7 rfl rfl (.slice ao l.length cap) (rfl) ?_
  refine nr ?_; intro U h; simp only [z0, z1] at h; subst h
  refine s_val 8 rfl rfl (.int .i64 ((l.length : Nat) : Int)) (run_len Try.underlying41 _ rfl _ _ _ rfl _) ?_
  refine nr ?_; intro U h; simp only [z0, z1] at h; subst h
  refine s_val 9 rfl rfl (.int .i64 0) (rfl) ?_
  refine nr ?_; intro U h; simp only [z0, z1] at h; subst h
  refine wpList_nil ?_
  refine then_n ?_
  refine wp_block ?_
  refine wp_loopN (fun mz az wv => ∃ (i : Nat) (us1 : Nat → Value), mz = l.length + 1 - i ∧ az = ⟨[.slice ao l.length cap, .agg (paA p), undef, .pointer (some ⟨g1, 0, none⟩), us1 0, us1 1, us1 2, .slice ao l.length cap, .int .i64 ((l.length : Nat) : Int), .int .i64 ((i : Nat) : Int), us1 3, us1 4, us1 5, us1 6, us1 7, us1 8, us1 9, us1 10, us1 11, us1 12].toArray, []⟩ ∧ i ≤ l.length ∧ (∀ k, k < i → (l.getD k zE).p ≠ p) ∧ Gro w wv ∧ wv.heap[g1]? = some (.cells (paA p) 31 (0, 0))) ?_ _ ⟨0, (fun kz => ([.int .i64 0, undef, undef, undef, undef, undef, undef, undef, undef, undef, undef, undef, undef] : List Value).getD kz undef), rfl, rfl, Nat.zero_le _, fun k hk => absurd hk (by omega), GG, kg1⟩
  clear GG kg1
  rintro mz az wv ⟨i, us1, rfl, rfl, hi, hno, GG, kg1⟩
  refine wp_seq ?_
  refine wp_region_lit ?_
  cases hj1 : decide (((i : Nat) : Int) < ((l.length : Nat) : Int))
  · have hje : i = l.length := by have := of_decide_eq_false hj1; omega
    refine s_val 10 rfl rfl (.bool false) (run_lssT 3 _ _ _ rfl ((i : Nat) : Int) ((l.length : Nat) : Int) rfl rfl false hj1 _) ?_
    refine nr ?_; intro U h; simp only [z0, z1] at h; subst h
    refine wpList_nil ?_
    refine then_n ?_
    refine wp_seq ?_
    refine wp_cond_false rfl ?_
    refine wp_exit ?_
    refine then_x ?_
    refine then_x ?_
    refine blk_x ?_
    refine then_n ?_
    refine wp_seq ?_
    refine wp_region_lit ?_
    refine s_val 4 rfl rfl (.int .i64 (-1)) (rfl) ?_
    refine nr ?_; intro U h; simp only [z0, z1] at h; subst h
    refine wpList_nil ?_
    refine then_n ?_
    refine wp_ret ?_
    refine bodyPost_ret (results_tmp Try.results33 _ _ _) rfl ?_
    exact ⟨congrArg (fun z => Ending.returned (.int .i64 z)) (plcV_n (lst_no hje hno)).symm, GG⟩
  · have hjl : i < l.length := by have := of_decide_eq_true hj1; omega
    refine s_val 10 rfl rfl (.bool true) (run_lssT 3 _ _ _ rfl ((i : Nat) : Int) ((l.length : Nat) : Int) rfl rfl true hj1 _) ?_
    refine nr ?_; intro U h; simp only [z0, z1] at h; subst h
    refine wpList_nil ?_
    refine then_n ?_
    refine wp_seq ?_
    refine wp_cond_true rfl ?_
    refine wp_skip ?_
    refine then_n ?_
    refine wp_seq ?_
    refine wp_block ?_
    refine wp_seq ?_
    refine wp_region_lit ?_
    refine s_val 11 rfl rfl (.int .i64 ((i : Nat) : Int)) (rfl) ?_
    refine nr ?_; intro U h; simp only [z0, z1] at h; subst h
    refine s_val 12 rfl rfl (.pointer (pE ao i 0)) (run_ixE (H.gro GG) _ _ rfl rfl i rfl (by omega)) ?_
    refine nr ?_; intro U h; simp only [z0, z1] at h; subst h
    refine s_val 13 rfl rfl (.agg (enA (l.getD i zE))) (run_ldE (H.gro GG) _ rfl i rfl (by omega)) ?_
    refine nr ?_; intro U h; simp only [z0, z1] at h; subst h
    refine s_alloc 6 rfl rfl 33 rfl _ zero33 (enA zE) rfl ?_
    intro w2 g2 G eg2 kg2
    have bg2 := size_base GG eg2
    have dg1g2 := lt_new kg1 eg2
    replace kg1 := G.has kg1
    replace GG := GG.trans G
    clear G
    clear eg2
    refine nr ?_; intro U h; simp only [z0, z1] at h; subst h
    refine s_val 5 rfl rfl (.int .i64 ((i : Nat) : Int)) (rfl) ?_
    refine nr ?_; intro U h; simp only [z0, z1] at h; subst h
    refine s_store rfl rfl 33 _ _ rfl g2 0 rfl (.agg (enA (l.getD i zE))) rfl 33 _ kg2 (enA (l.getD i zE)) rfl (si33' _) (enA_fit _ _) (enA_one _) (enA (l.getD i zE)) (splice_whole _ _ (enA_sz _ _)) ?_
    intro w3 St
    have kS := kg2
    replace kg1 := St.has (by omega) kg1
    replace GG := GG.store St bg2
    replace kg2 := St.new
    clear St
    refine wpList_nil ?_
    refine then_n ?_
    refine wp_seq ?_
    refine wp_region_lit ?_
    refine s_val 14 rfl rfl (.pointer (some ⟨g2, 0, none⟩)) (run_fld 33 _ 0 rfl g2 0 rfl 0 (by kernel_rfl)) ?_
    refine nr ?_; intro U h; simp only [z0, z1] at h; subst h
    refine s_val 15 rfl rfl (.agg (paA ((l.getD i zE).p))) (ldEp _ rfl g2 rfl (kg2)) ?_
    refine nr ?_; intro U h; simp only [z0, z1] at h; subst h
    refine s_val 16 rfl rfl (.agg (paA p)) (ldP0 _ rfl g1 rfl (kg1)) ?_
    refine nr ?_; intro U h; simp only [z0, z1] at h; subst h
    cases hx : decide ((l.getD i zE).p = p)
    · refine s_val 17 rfl rfl (.bool false) (run_eqP _ _ _ rfl _ _ rfl rfl (H.all.at (by omega)).p hp false hx) ?_
      refine nr ?_; intro U h; simp only [z0, z1] at h; subst h
      refine wpList_nil ?_
      refine then_n ?_
      refine wp_cond_false rfl ?_
      refine wp_skip ?_
      refine blk_n ?_
      refine then_n ?_
      refine wp_region_lit ?_
      refine s_val 19 rfl rfl (.int .i64 ((i + 1 : Nat) : Int)) (run_addI 3 _ _ _ rfl ((i : Nat) : Int) 1 ((i + 1 : Nat) : Int) rfl rfl (by omega) (by omega) (by omega) _) ?_
      refine nr ?_; intro U h; simp only [z0, z1] at h; subst h
      refine s_val 9 rfl rfl (.int .i64 ((i + 1 : Nat) : Int)) (rfl) ?_
      refine nr ?_; intro U h; simp only [z0, z1] at h; subst h
      refine wpList_nil ?_
      refine then_n ?_
      exact ⟨l.length + 1 - (i + 1), by omega, i + 1, (fun kz => ([us1 0, .int .i64 ((i : Nat) : Int), .pointer (some ⟨g2, 0, none⟩), .bool true, .int .i64 ((i : Nat) : Int), .pointer (pE ao i 0), .agg (enA (l.getD i zE)), .pointer (some ⟨g2, 0, none⟩), .agg (paA ((l.getD i zE).p)), .agg (paA p), .bool false, us1 11, .int .i64 ((i + 1 : Nat) : Int)] : List Value).getD kz undef), rfl, rfl, by omega, fun k hk => (Nat.lt_succ_iff_lt_or_eq.1 hk).elim (hno k) (fun e => e ▸ of_decide_eq_false hx), GG, kg1⟩
    · refine s_val 17 rfl rfl (.bool true) (run_eqP _ _ _ rfl _ _ rfl rfl (H.all.at (by omega)).p hp true hx) ?_
      refine nr ?_; intro U h; simp only [z0, z1] at h; subst h
      refine wpList_nil ?_
      refine then_n ?_
      refine wp_cond_true rfl ?_
      refine wp_seq ?_
      refine wp_region_lit ?_
      refine s_val 18 rfl rfl (.int .i64 ((i : Nat) : Int)) (rfl) ?_
      refine nr ?_; intro U h; simp only [z0, z1] at h; subst h
      refine s_val 4 rfl rfl (.int .i64 ((i : Nat) : Int)) (rfl) ?_
      refine nr ?_; intro U h; simp only [z0, z1] at h; subst h
      refine wpList_nil ?_
      refine then_n ?_
      refine wp_ret ?_
      refine blk_r ?_
      refine then_r ?_
      refine then_r ?_
      refine blk_r ?_
      refine then_r ?_
      refine bodyPost_ret (results_tmp Try.results33 _ _ _) rfl ?_
      have hpe := plc_eq hjl hno (of_decide_eq_true hx)
      have hph : hasL l p = true := hasL_iff.2 ⟨_, getD_in hjl, of_decide_eq_true hx⟩
      exact ⟨congrArg (fun z => Ending.returned (.int .i64 z)) (by rw [plcV_y hph, hpe]), GG⟩
end Go.Proofs.Ytgfjclcnolnioaa
