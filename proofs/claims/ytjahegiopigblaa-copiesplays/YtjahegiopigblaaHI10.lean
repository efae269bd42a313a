/- slices.Compact over a row of identities; what the program lines up. -/
import Derived.Test.YtjahegiopigblaaHI9
namespace Go.Proofs.Ytjahegiopigblaa
open Go.RowKit
/-- Without those that stand behind one that is the same: of the first ones. -/
def cpt (S : List Nat) : Nat → List Nat
  | 0 => []
  | e + 1 => if 0 < e ∧ S.getD e 0 = S.getD (e - 1) 0 then cpt S e else cpt S e ++ [S.getD e 0]
theorem cpt_eq {S : List Nat} {e : Nat} (h0 : 0 < e) (h : S.getD e 0 = S.getD (e - 1) 0) : cpt S (e + 1) = cpt S e := by rw [cpt, if_pos ⟨h0, h⟩]
theorem cpt_ne {S : List Nat} {e : Nat} (h : S.getD e 0 ≠ S.getD (e - 1) 0) : cpt S (e + 1) = cpt S e ++ [S.getD e 0] := by rw [cpt, if_neg (fun hc => h hc.2)]
theorem cpt_1 (S : List Nat) (h : 0 < S.length) : cpt S 1 = S.take 1 := by
  rw [cpt, if_neg (by omega), cpt, List.take_add_one, List.getElem?_eq_getElem h]
  simp [List.getD_eq_getElem?_getD, h]
theorem take_snoc (S : List Nat) (k : Nat) (hk : k < S.length) : S.take (k + 1) = S.take k ++ [S.getD k 0] := by
  rw [List.take_add_one, List.getElem?_eq_getElem hk]
  simp [List.getD_eq_getElem?_getD, hk]
/-- Of a row that doesn't fall it leaves a row that rises, with the same ones. -/
theorem cpt_spec {s : Nat} {S : List Nat} (hs : s < top) (hS : All S) (hp : S.Pairwise fun x y => kc s x ≤ kc s y) : ∀ e, e ≤ S.length → Risi (kc s) (cpt S e) ∧ (∀ x, x ∈ cpt S e ↔ x ∈ S.take e) ∧ (0 < e → S.getD (e - 1) 0 ∈ cpt S e ∧ ∀ x ∈ cpt S e, kc s x ≤ kc s (S.getD (e - 1) 0))
  | 0, _ => ⟨List.Pairwise.nil, fun x => by simp [cpt], fun h => absurd h (Nat.lt_irrefl _)⟩
  | e + 1, he => by
    obtain ⟨h1, h2, h3⟩ := cpt_spec hs hS hp e (by omega)
    have hget : ∀ i, i < S.length → S.getD i 0 ∈ S := fun i hi => getD_memi hi
    rw [Nat.add_sub_cancel]
    by_cases hc : 0 < e ∧ S.getD e 0 = S.getD (e - 1) 0
    · rw [cpt_eq hc.1 hc.2]
      obtain ⟨h4, h5⟩ := h3 hc.1
      refine ⟨h1, fun x => ?_, fun _ => by rw [hc.2]; exact ⟨h4, h5⟩⟩
      rw [h2 x, take_snoc S e (by omega), List.mem_append, List.mem_singleton]
      exact ⟨.inl, fun h => h.elim id fun e' => by rw [e', hc.2]; exact (h2 _).1 h4⟩
    · rw [cpt, if_neg hc]
      have hlt : ∀ x ∈ cpt S e, kc s x < kc s (S.getD e 0) := fun x hx => by
        have h0 : 0 < e := by
          apply Nat.pos_of_ne_zero
          intro e0
          subst e0
          cases hx
        have h6 := (h3 h0).2 x hx
        have h7 : kc s (S.getD (e - 1) 0) ≤ kc s (S.getD e 0) := by
          have := List.pairwise_iff_getElem.1 hp (e - 1) e (by omega) (by omega) (by omega)
          simpa [List.getD_eq_getElem?_getD, show e - 1 < S.length by omega, show e < S.length by omega] using this
        have h8 : kc s (S.getD (e - 1) 0) ≠ kc s (S.getD e 0) := fun e' => hc ⟨h0, (kc_inj hs _ _ (hS _ (hget _ (by omega))) (hS _ (hget _ (by omega))) e').symm⟩
        omega
      refine ⟨?_, fun x => ?_, fun _ => ⟨List.mem_append_right _ List.mem_cons_self, fun x hx => ?_⟩⟩
      · unfold Risi
        rw [List.pairwise_append]
        exact ⟨h1, List.pairwise_singleton _ _, fun a ha b hb => by rw [List.mem_singleton.1 hb]; exact hlt a ha⟩
      · rw [List.mem_append, h2 x, take_snoc S e (by omega), List.mem_append]
      · rcases List.mem_append.1 hx with hx | hx
        · exact Nat.le_of_lt (hlt x hx)
        · rw [List.mem_singleton.1 hx]; exact Nat.le_refl _
theorem RC.from {w : World} {g : Nat} {Z : List Nat} {t : TypeId} {fr : Nat × Nat} (hg : w.heap[g]? = some (.cells (fl Z).toArray t fr)) (hZ : All Z) {m k cap : Nat} (hm : m ≤ Z.length) (hk : k < m) (hc : m ≤ cap) : RC w (some ⟨g, k * 16, none⟩) (cap - k) ((Z.take m).drop k) := by
  have := (RC.blk (cap := cap) hg hZ m hm hc).drop k (by rw [List.length_take]; omega)
  rw [if_neg (by omega)] at this
  simpa [add_at] using this
theorem getD_td (Z : List Nat) (m k q : Nat) (hq : k + q < m) : ((Z.take m).drop k).getD q 0 = Z.getD (k + q) 0 := by
  rw [List.getD_eq_getElem?_getD, List.getD_eq_getElem?_getD, List.getElem?_drop, List.getElem?_take, if_pos hq]
theorem getD_t (Z : List Nat) (m q : Nat) (hq : q < m) : (Z.take m).getD q 0 = Z.getD q 0 := by
  rw [List.getD_eq_getElem?_getD, List.getD_eq_getElem?_getD, List.getElem?_take, if_pos hq]
set_option maxRecDepth 100000 in
set_option maxHeartbeats 4000000 in
theorem compact_any (w : World) (g m cap : Nat) (Z : List Nat) (hal : All Z) (hm : m ≤ Z.length) (hmc : m ≤ cap) (hml : Z.length ≤ 1000000) (hcap : cap ≤ 1000000) (kg : w.heap[g]? = some (.cells (fl Z).toArray 23 (0, 0))) : Calls Try.prog 58 #[.slice (some ⟨g, 0, none⟩) m cap] w (BlkP w g cap (cpt (Z.take m) m) Z.length) := by
  have hlt : (Z.take m).length = m := by rw [List.length_take]; omega
  refine s_enter Try.func58 rfl Try.ntmps58 [.slice (some ⟨g, 0, none⟩) m cap] [.slice (some ⟨g, 0, none⟩) m cap, undef, undef, undef, undef, undef, undef, undef, undef, undef, undef, undef, undef, undef, undef, undef, undef, undef, undef, undef, undef, undef, undef, undef, undef, undef, undef, undef, undef, undef, undef, undef, undef, undef, undef, undef, undef, undef, undef, undef, undef, undef, undef, undef, undef, undef, undef, undef, undef, undef, undef, undef, undef, undef, undef, undef, undef, undef, undef, undef, undef] rfl ?_
  have GG := GroS.refl [g] w
  refine wp_seq ?_
  refine wp_region_lit ?_
  refine s_val 2 rfl rfl (.slice none 0 0) (rfl) ?_
  refine nr ?_; intro U h; simp only [z0, z1] at h; subst h
  refine wpList_nil ?_
  refine then_n ?_
  refine wp_seq ?_
  refine wp_seq ?_
  refine wp_region_lit ?_
  refine s_val 6 rfl rfl (.slice (some ⟨g, 0, none⟩) m cap) (rfl) ?_
  refine nr ?_; intro U h; simp only [z0, z1] at h; subst h
  refine s_val 7 rfl rfl (.int .i64 ((m : Nat) : Int)) (run_len Try.underlying24 _ rfl _ _ _ rfl _) ?_
  refine nr ?_; intro U h; simp only [z0, z1] at h; subst h
  cases hm2 : decide (((m : Nat) : Int) < 2)
  · have hm1 : 2 ≤ m := by have := of_decide_eq_false hm2; omega
    refine s_val 8 rfl rfl (.bool false) (run_lssT 3 _ _ _ rfl ((m : Nat) : Int) 2 rfl rfl false hm2 _) ?_
    refine nr ?_; intro U h; simp only [z0, z1] at h; subst h
    refine wpList_nil ?_
    refine then_n ?_
    refine wp_cond_false rfl ?_
    refine wp_skip ?_
    refine then_n ?_
    refine wp_seq ?_
    refine wp_seq ?_
    refine wp_region_lit ?_
    refine s_val 3 rfl rfl (.int .i64 1) (rfl) ?_
    refine nr ?_; intro U h; simp only [z0, z1] at h; subst h
    refine wpList_nil ?_
    refine then_n ?_
    refine wp_block ?_
    refine wp_loopN (fun mz az wv => ∃ (k : Nat) (us1 : Nat → Value), mz = m - k ∧ az = ⟨[.slice (some ⟨g, 0, none⟩) m cap, undef, us1 0, .int .i64 ((k : Nat) : Int), us1 1, us1 2, .slice (some ⟨g, 0, none⟩) m cap, .int .i64 ((m : Nat) : Int), .bool false, undef, us1 3, us1 4, us1 5, us1 6, us1 7, us1 8, us1 9, us1 10, us1 11, us1 12, us1 13, us1 14, us1 15, us1 16, us1 17, us1 18, us1 19, us1 20, us1 21, us1 22, us1 23, us1 24, us1 25, us1 26, us1 27, us1 28, us1 29, us1 30, us1 31, us1 32, us1 33, us1 34, us1 35, us1 36, us1 37, us1 38, us1 39, us1 40, us1 41, us1 42, us1 43, us1 44, us1 45, us1 46, us1 47, us1 48, us1 49, us1 50, us1 51, us1 52, undef].toArray, []⟩ ∧ 1 ≤ k ∧ k ≤ m ∧ cpt (Z.take m) k = Z.take k ∧ GroS [g] w wv ∧ wv.heap[g]? = some (.cells (fl Z).toArray 23 (0, 0))) ?_ _ ⟨1, (fun kz => ([.slice none 0 0, undef, undef, undef, undef, undef, undef, undef, undef, undef, undef, undef, undef, undef, undef, undef, undef, undef, undef, undef, undef, undef, undef, undef, undef, undef, undef, undef, undef, undef, undef, undef, undef, undef, undef, undef, undef, undef, undef, undef, undef, undef, undef, undef, undef, undef, undef, undef, undef, undef, undef, undef, undef] : List Value).getD kz undef), rfl, rfl, Nat.le_refl _, (by omega), (by rw [cpt_1 _ (by rw [hlt]; omega), List.take_take, Nat.min_eq_left (by omega)]), GG, kg⟩
    clear GG kg
    rintro mz az wv ⟨k, us1, rfl, rfl, hk0, hkle, hcp, GG, kg⟩
    refine wp_seq ?_
    refine wp_seq ?_
    refine wp_region_lit ?_
    refine s_val 10 rfl rfl (.int .i64 ((k : Nat) : Int)) (rfl) ?_
    refine nr ?_; intro U h; simp only [z0, z1] at h; subst h
    refine s_val 11 rfl rfl (.slice (some ⟨g, 0, none⟩) m cap) (rfl) ?_
    refine nr ?_; intro U h; simp only [z0, z1] at h; subst h
    refine s_val 12 rfl rfl (.int .i64 ((m : Nat) : Int)) (run_len Try.underlying24 _ rfl _ _ _ rfl _) ?_
    refine nr ?_; intro U h; simp only [z0, z1] at h; subst h
    cases hk1 : decide (((k : Nat) : Int) < ((m : Nat) : Int))
    · have hke : k = m := by have := of_decide_eq_false hk1; omega
      refine s_val 13 rfl rfl (.bool false) (run_lssT 3 _ _ _ rfl ((k : Nat) : Int) ((m : Nat) : Int) rfl rfl false hk1 _) ?_
      refine nr ?_; intro U h; simp only [z0, z1] at h; subst h
      refine wpList_nil ?_
      refine then_n ?_
      refine wp_cond_false rfl ?_
      refine wp_exit ?_
      refine then_x ?_
      refine then_x ?_
      refine blk_x ?_
      refine then_n ?_
      refine wp_seq ?_
      refine wp_region_lit ?_
      refine s_val 60 rfl rfl (.slice (some ⟨g, 0, none⟩) m cap) (rfl) ?_
      refine nr ?_; intro U h; simp only [z0, z1] at h; subst h
      refine s_val 2 rfl rfl (.slice (some ⟨g, 0, none⟩) m cap) (rfl) ?_
      refine nr ?_; intro U h; simp only [z0, z1] at h; subst h
      refine wpList_nil ?_
      refine then_n ?_
      refine wp_ret ?_
      refine bodyPost_ret (results_tmp Try.results58 _ _ _) rfl ?_
      subst hke
      exact ⟨Z, k, rfl, GG, kg, hm, hmc, hcp.symm, hal, rfl⟩
    · have hkm : k < m := by have := of_decide_eq_true hk1; omega
      have hb0 : (Z.take m).getD k 0 < top := (RC.blk (cap := cap) kg hal m hm hmc).at (by rw [hlt]; omega)
      have hb1 : (Z.take m).getD (k - 1) 0 < top := (RC.blk (cap := cap) kg hal m hm hmc).at (by rw [hlt]; omega)
      refine s_val 13 rfl rfl (.bool true) (run_lssT 3 _ _ _ rfl ((k : Nat) : Int) ((m : Nat) : Int) rfl rfl true hk1 _) ?_
      refine nr ?_; intro U h; simp only [z0, z1] at h; subst h
      refine wpList_nil ?_
      refine then_n ?_
      refine wp_cond_true rfl ?_
      refine wp_skip ?_
      refine then_n ?_
      refine wp_seq ?_
      refine wp_block ?_
      refine wp_seq ?_
      cases hq : decide (((Z.take m).getD k 0) = ((Z.take m).getD (k - 1) 0))
      · refine wp_region_exA (A := ?Ax7) 9 [(0, 16), (1, 17), (2, 18), (3, 19), (4, 20), (5, 21), (6, 22), (7, 23), (8, 24)] [.val (.slice (some ⟨g, 0, none⟩) m cap), .val (.int .i64 ((k : Nat) : Int)), .val (.pointer (pA (some ⟨g, 0, none⟩) k)), .val (.agg (idA ((Z.take m).getD k 0))), .val (.slice (some ⟨g, 0, none⟩) m cap), .val (.int .i64 ((k : Nat) : Int)), .val (.int .i64 ((k - 1 : Nat) : Int)), .val (.pointer (pA (some ⟨g, 0, none⟩) (k - 1))), .val (.agg (idA ((Z.take m).getD (k - 1) 0)))] follows (by kernel_rfl) rfl ?hAx7 (opsA_cons ?o0x7 (opsA_cons ?o1x7 (opsA_cons ?o2x7 (opsA_cons ?o3x7 (opsA_cons ?o4x7 (opsA_cons ?o5x7 (opsA_cons ?o6x7 (opsA_cons ?o7x7 (opsA_cons ?o8x7 opsA_nil))))))))) ?restx7
        case hAx7 =>
          intro ptrs
          simp only [full, foldSlots, filledE, postE, List.foldl_cons, List.foldl_nil, List.getD_cons_zero, List.getD_cons_succ, fill_val, List.set_cons_zero, List.set_cons_succ]
          exact rfl
        case o0x7 => exact fun _ _ _ _ => opE_move (v := .slice (some ⟨g, 0, none⟩) m cap) _ rfl rfl rfl
        case o1x7 => exact fun _ _ _ _ => opE_move (v := .int .i64 ((k : Nat) : Int)) _ rfl rfl rfl
        case o2x7 => exact fun _ _ hw _ => opE_value (v := .pointer (pA (some ⟨g, 0, none⟩) k)) rfl (run_ixN (RC.blk (hw.has kg) hal m hm hmc) hlt _ _ rfl rfl k rfl hkm)
        case o3x7 => exact fun _ _ hw _ => opE_value (v := .agg (idA ((Z.take m).getD k 0))) rfl (run_ldI (RC.blk (cap := cap) (hw.has kg) hal m hm hmc) _ rfl k rfl (by rw [hlt]; omega))
        case o4x7 => exact fun _ _ _ _ => opE_move (v := .slice (some ⟨g, 0, none⟩) m cap) _ rfl rfl rfl
        case o5x7 => exact fun _ _ _ _ => opE_move (v := .int .i64 ((k : Nat) : Int)) _ rfl rfl rfl
        case o6x7 => exact fun _ _ _ _ => opE_value (v := .int .i64 ((k - 1 : Nat) : Int)) rfl (run_subIi 3 _ _ _ rfl ((k : Nat) : Int) 1 ((k - 1 : Nat) : Int) rfl rfl (by omega) (by omega) (by omega) _)
        case o7x7 => exact fun _ _ hw _ => opE_value (v := .pointer (pA (some ⟨g, 0, none⟩) (k - 1))) rfl (run_ixN (RC.blk (hw.has kg) hal m hm hmc) hlt _ _ rfl rfl (k - 1) rfl (by omega))
        case o8x7 => exact fun _ _ hw _ => opE_value (v := .agg (idA ((Z.take m).getD (k - 1) 0))) rfl (run_ldI (RC.blk (cap := cap) (hw.has kg) hal m hm hmc) _ rfl (k - 1) rfl (by rw [hlt]; omega))
        intro ptrs w1 GD hxE
        simp only [List.drop_succ_cons, List.drop_zero]
        replace kg := GD.has kg
        replace GG := GG.drew.tg GD
        clear GD
        refine s_val 25 rfl rfl (.bool false) (run_eqIi _ _ _ rfl _ _ rfl rfl hb0 hb1 false hq) ?_
        refine nr ?_; intro U h; simp only [z0, z1] at h; subst h
        refine wpList_nil ?_
        refine then_n ?_
        refine wp_cond_false rfl ?_
        refine wp_skip ?_
        refine blk_n ?_
        refine then_n ?_
        refine wp_region_lit ?_
        refine s_val 14 rfl rfl (.int .i64 ((k : Nat) : Int)) (rfl) ?_
        refine nr ?_; intro U h; simp only [z0, z1] at h; subst h
        refine s_val 15 rfl rfl (.int .i64 ((k + 1 : Nat) : Int)) (run_addIi 3 _ _ _ rfl ((k : Nat) : Int) 1 ((k + 1 : Nat) : Int) rfl rfl (by omega) (by omega) (by omega) _) ?_
        refine nr ?_; intro U h; simp only [z0, z1] at h; subst h
        refine s_val 3 rfl rfl (.int .i64 ((k + 1 : Nat) : Int)) (rfl) ?_
        refine nr ?_; intro U h; simp only [z0, z1] at h; subst h
        refine wpList_nil ?_
        refine then_n ?_
        have hn := cpt_ne (of_decide_eq_false hq)
        rw [hcp, getD_t Z m k hkm] at hn
        exact ⟨_, (by omega : m - (k + 1) < m - k), k + 1, (fun kz => ([us1 0, us1 1, us1 2, .int .i64 ((k : Nat) : Int), .slice (some ⟨g, 0, none⟩) m cap, .int .i64 ((m : Nat) : Int), .bool true, .int .i64 ((k : Nat) : Int), .int .i64 ((k + 1 : Nat) : Int), .slice (some ⟨g, 0, none⟩) m cap, .int .i64 ((k : Nat) : Int), .pointer (pA (some ⟨g, 0, none⟩) k), .agg (idA ((Z.take m).getD k 0)), .slice (some ⟨g, 0, none⟩) m cap, .int .i64 ((k : Nat) : Int), .int .i64 ((k - 1 : Nat) : Int), .pointer (pA (some ⟨g, 0, none⟩) (k - 1)), .agg (idA ((Z.take m).getD (k - 1) 0)), .bool false, us1 19, us1 20, us1 21, us1 22, us1 23, us1 24, us1 25, us1 26, us1 27, us1 28, us1 29, us1 30, us1 31, us1 32, us1 33, us1 34, us1 35, us1 36, us1 37, us1 38, us1 39, us1 40, us1 41, us1 42, us1 43, us1 44, us1 45, us1 46, us1 47, us1 48, us1 49, us1 50, us1 51, us1 52] : List Value).getD kz undef), rfl, rfl, by omega, hkm, (by rw [hn, take_snoc Z k (by omega)]), GG, kg⟩
      · refine wp_region_exA (A := ?Ax8) 9 [(0, 16), (1, 17), (2, 18), (3, 19), (4, 20), (5, 21), (6, 22), (7, 23), (8, 24)] [.val (.slice (some ⟨g, 0, none⟩) m cap), .val (.int .i64 ((k : Nat) : Int)), .val (.pointer (pA (some ⟨g, 0, none⟩) k)), .val (.agg (idA ((Z.take m).getD k 0))), .val (.slice (some ⟨g, 0, none⟩) m cap), .val (.int .i64 ((k : Nat) : Int)), .val (.int .i64 ((k - 1 : Nat) : Int)), .val (.pointer (pA (some ⟨g, 0, none⟩) (k - 1))), .val (.agg (idA ((Z.take m).getD (k - 1) 0)))] follows (by kernel_rfl) rfl ?hAx8 (opsA_cons ?o0x8 (opsA_cons ?o1x8 (opsA_cons ?o2x8 (opsA_cons ?o3x8 (opsA_cons ?o4x8 (opsA_cons ?o5x8 (opsA_cons ?o6x8 (opsA_cons ?o7x8 (opsA_cons ?o8x8 opsA_nil))))))))) ?restx8
        case hAx8 =>
          intro ptrs
          simp only [full, foldSlots, filledE, postE, List.foldl_cons, List.foldl_nil, List.getD_cons_zero, List.getD_cons_succ, fill_val, List.set_cons_zero, List.set_cons_succ]
          exact rfl
        case o0x8 => exact fun _ _ _ _ => opE_move (v := .slice (some ⟨g, 0, none⟩) m cap) _ rfl rfl rfl
        case o1x8 => exact fun _ _ _ _ => opE_move (v := .int .i64 ((k : Nat) : Int)) _ rfl rfl rfl
        case o2x8 => exact fun _ _ hw _ => opE_value (v := .pointer (pA (some ⟨g, 0, none⟩) k)) rfl (run_ixN (RC.blk (hw.has kg) hal m hm hmc) hlt _ _ rfl rfl k rfl hkm)
        case o3x8 => exact fun _ _ hw _ => opE_value (v := .agg (idA ((Z.take m).getD k 0))) rfl (run_ldI (RC.blk (cap := cap) (hw.has kg) hal m hm hmc) _ rfl k rfl (by rw [hlt]; omega))
        case o4x8 => exact fun _ _ _ _ => opE_move (v := .slice (some ⟨g, 0, none⟩) m cap) _ rfl rfl rfl
        case o5x8 => exact fun _ _ _ _ => opE_move (v := .int .i64 ((k : Nat) : Int)) _ rfl rfl rfl
        case o6x8 => exact fun _ _ _ _ => opE_value (v := .int .i64 ((k - 1 : Nat) : Int)) rfl (run_subIi 3 _ _ _ rfl ((k : Nat) : Int) 1 ((k - 1 : Nat) : Int) rfl rfl (by omega) (by omega) (by omega) _)
        case o7x8 => exact fun _ _ hw _ => opE_value (v := .pointer (pA (some ⟨g, 0, none⟩) (k - 1))) rfl (run_ixN (RC.blk (hw.has kg) hal m hm hmc) hlt _ _ rfl rfl (k - 1) rfl (by omega))
        case o8x8 => exact fun _ _ hw _ => opE_value (v := .agg (idA ((Z.take m).getD (k - 1) 0))) rfl (run_ldI (RC.blk (cap := cap) (hw.has kg) hal m hm hmc) _ rfl (k - 1) rfl (by rw [hlt]; omega))
        intro ptrs w1 GD hxE
        simp only [List.drop_succ_cons, List.drop_zero]
        replace kg := GD.has kg
        replace GG := GG.drew.tg GD
        clear GD
        refine s_val 25 rfl rfl (.bool true) (run_eqIi _ _ _ rfl _ _ rfl rfl hb0 hb1 true hq) ?_
        refine nr ?_; intro U h; simp only [z0, z1] at h; subst h
        refine wpList_nil ?_
        refine then_n ?_
        refine wp_cond_true rfl ?_
        refine wp_seq ?_
        refine wp_region_lit ?_
        refine s_val 26 rfl rfl (.slice (some ⟨g, 0, none⟩) m cap) (rfl) ?_
        refine nr ?_; intro U h; simp only [z0, z1] at h; subst h
        refine s_val 27 rfl rfl (.int .i64 ((k : Nat) : Int)) (rfl) ?_
        refine nr ?_; intro U h; simp only [z0, z1] at h; subst h
        refine s_val 28 rfl rfl (.slice (some ⟨g, k * 16, none⟩) (m - k) (cap - k)) ((run_cutX rI _ _ rfl (some ⟨g, 0, none⟩) m cap k rfl rfl (by omega) _).trans (by rw [if_neg (by omega)]; simp [add_at])) ?_
        refine nr ?_; intro U h; simp only [z0, z1] at h; subst h
        refine s_val 4 rfl rfl (.slice (some ⟨g, k * 16, none⟩) (m - k) (cap - k)) (rfl) ?_
        refine nr ?_; intro U h; simp only [z0, z1] at h; subst h
        refine wpList_nil ?_
        refine then_n ?_
        refine wp_seq ?_
        refine wp_seq ?_
        refine wp_region_lit ?_
        refine s_val 5 rfl rfl (.int .i64 1) (rfl) ?_
        refine nr ?_; intro U h; simp only [z0, z1] at h; subst h
        refine wpList_nil ?_
        refine then_n ?_
        refine wp_block ?_
        refine wp_loopN (fun mz az wv => ∃ (q : Nat) (u : Nat) (Y : List Nat) (us2 : Nat → Value), mz = m - (k + q) ∧ az = ⟨[.slice (some ⟨g, 0, none⟩) m cap, undef, us1 0, .int .i64 ((u : Nat) : Int), .slice (some ⟨g, k * 16, none⟩) (m - k) (cap - k), .int .i64 ((q : Nat) : Int), .slice (some ⟨g, 0, none⟩) m cap, .int .i64 ((m : Nat) : Int), .bool false, undef, .int .i64 ((k : Nat) : Int), .slice (some ⟨g, 0, none⟩) m cap, .int .i64 ((m : Nat) : Int), .bool true, us1 7, us1 8, .slice (some ⟨g, 0, none⟩) m cap, .int .i64 ((k : Nat) : Int), .pointer (pA (some ⟨g, 0, none⟩) k), .agg (idA ((Z.take m).getD k 0)), .slice (some ⟨g, 0, none⟩) m cap, .int .i64 ((k : Nat) : Int), .int .i64 ((k - 1 : Nat) : Int), .pointer (pA (some ⟨g, 0, none⟩) (k - 1)), .agg (idA ((Z.take m).getD (k - 1) 0)), .bool true, .slice (some ⟨g, 0, none⟩) m cap, .int .i64 ((k : Nat) : Int), .slice (some ⟨g, k * 16, none⟩) (m - k) (cap - k), us2 0, us2 1, us2 2, us2 3, us2 4, us2 5, us2 6, us2 7, us2 8, us2 9, us2 10, us2 11, us2 12, us2 13, us2 14, us2 15, us2 16, us2 17, us2 18, us2 19, us2 20, us2 21, us2 22, us2 23, us2 24, us1 47, us1 48, us1 49, us1 50, us1 51, us1 52, undef].toArray, []⟩ ∧ 1 ≤ q ∧ k + q ≤ m ∧ u ≤ k + q - 1 ∧ Y.length = Z.length ∧ Y.take u = cpt (Z.take m) (k + q) ∧ Y.drop (k + q - 1) = Z.drop (k + q - 1) ∧ All Y ∧ GroS [g] w wv ∧ wv.heap[g]? = some (.cells (fl Y).toArray 23 (0, 0))) ?_ _ ⟨1, k, Z, (fun kz => ([us1 22, us1 23, us1 24, us1 25, us1 26, us1 27, us1 28, us1 29, us1 30, us1 31, us1 32, us1 33, us1 34, us1 35, us1 36, us1 37, us1 38, us1 39, us1 40, us1 41, us1 42, us1 43, us1 44, us1 45, us1 46] : List Value).getD kz undef), rfl, rfl, Nat.le_refl _, hkm, (by omega), rfl, (by rw [cpt_eq hk0 (of_decide_eq_true hq), hcp]), rfl, hal, GG, kg⟩
        clear GG kg
        rintro mz az wv ⟨q, u, Y, us2, rfl, rfl, hq0, hqle, huk, hYl, hYt, hYd, HY, GG, kg⟩
        have hld : ((Y.take m).drop k).length = m - k := by rw [List.length_drop, List.length_take]; omega
        have hlY : (Y.take m).length = m := by rw [List.length_take]; omega
        refine wp_seq ?_
        refine wp_seq ?_
        refine wp_region_lit ?_
        refine s_val 29 rfl rfl (.int .i64 ((q : Nat) : Int)) (rfl) ?_
        refine nr ?_; intro U h; simp only [z0, z1] at h; subst h
        refine s_val 30 rfl rfl (.slice (some ⟨g, k * 16, none⟩) (m - k) (cap - k)) (rfl) ?_
        refine nr ?_; intro U h; simp only [z0, z1] at h; subst h
        refine s_val 31 rfl rfl (.int .i64 (((m - k) : Nat) : Int)) (run_len Try.underlying24 _ rfl _ _ _ rfl _) ?_
        refine nr ?_; intro U h; simp only [z0, z1] at h; subst h
        cases hq1 : decide (((q : Nat) : Int) < ((m - k : Nat) : Int))
        · have hqe : k + q = m := by have := of_decide_eq_false hq1; omega
          refine s_val 32 rfl rfl (.bool false) (run_lssT 3 _ _ _ rfl ((q : Nat) : Int) (((m - k) : Nat) : Int) rfl rfl false hq1 _) ?_
          refine nr ?_; intro U h; simp only [z0, z1] at h; subst h
          refine wpList_nil ?_
          refine then_n ?_
          refine wp_cond_false rfl ?_
          refine wp_exit ?_
          refine then_x ?_
          refine then_x ?_
          refine blk_x ?_
          refine then_n ?_
          refine wp_seq ?_
          refine wp_region_lit ?_
          refine s_val 54 rfl rfl (.slice (some ⟨g, 0, none⟩) m cap) (rfl) ?_
          refine nr ?_; intro U h; simp only [z0, z1] at h; subst h
          refine s_val 55 rfl rfl (.int .i64 ((u : Nat) : Int)) (rfl) ?_
          refine nr ?_; intro U h; simp only [z0, z1] at h; subst h
          refine s_val 56 rfl rfl (.slice (if cap = u then some ⟨g, 0, none⟩ else (some ⟨g, 0, none⟩ : Option Addr).map (·.add (u * 16))) (m - u) (cap - u)) (run_cutX rI _ _ rfl (some ⟨g, 0, none⟩) m cap u rfl rfl (by omega) _) ?_
          refine nr ?_; intro U h; simp only [z0, z1] at h; subst h
          refine s_clI rfl rfl _ rfl g m cap u rfl kg (by omega) (by omega) hmc ?_
          intro w2 St
          replace GG := GG.st St (.inr (by simp))
          replace kg := St.new
          clear St
          refine wpList_nil ?_
          refine then_n ?_
          refine wp_seq ?_
          refine wp_region_lit ?_
          refine s_val 57 rfl rfl (.slice (some ⟨g, 0, none⟩) m cap) (rfl) ?_
          refine nr ?_; intro U h; simp only [z0, z1] at h; subst h
          refine s_val 58 rfl rfl (.int .i64 ((u : Nat) : Int)) (rfl) ?_
          refine nr ?_; intro U h; simp only [z0, z1] at h; subst h
          refine s_val 59 rfl rfl (.slice (some ⟨g, 0, none⟩) u cap) (run_cut0X rI _ _ rfl (some ⟨g, 0, none⟩) m cap u rfl rfl (by omega) _) ?_
          refine nr ?_; intro U h; simp only [z0, z1] at h; subst h
          refine s_val 2 rfl rfl (.slice (some ⟨g, 0, none⟩) u cap) (rfl) ?_
          refine nr ?_; intro U h; simp only [z0, z1] at h; subst h
          refine wpList_nil ?_
          refine then_n ?_
          refine wp_ret ?_
          refine blk_r ?_
          refine then_r ?_
          refine then_r ?_
          refine blk_r ?_
          refine then_r ?_
          refine bodyPost_ret (results_tmp Try.results58 _ _ _) rfl ?_
          rw [hqe] at hYt
          refine ⟨_, u, rfl, GG, kg, ?_, by omega, ?_, ?_, ?_⟩
          · simp; omega
          · rw [List.append_assoc, List.take_left' (by simp; omega), hYt]
          · intro x hx
            rcases List.mem_append.1 hx with hx | hx
            · rcases List.mem_append.1 hx with hx | hx
              · exact HY x (List.mem_of_mem_take hx)
              · rw [List.eq_of_mem_replicate hx]; exact top_0i
            · exact HY x (List.mem_of_mem_drop hx)
          · simp; omega
        · have hqm : k + q < m := by have := of_decide_eq_true hq1; omega
          have hc0 : ((Y.take m).drop k).getD q 0 < top := (RC.from (k := k) (cap := cap) kg HY (by omega) (by omega) hmc).at (by rw [hld]; omega)
          have hc1 : ((Y.take m).drop k).getD (q - 1) 0 < top := (RC.from (k := k) (cap := cap) kg HY (by omega) (by omega) hmc).at (by rw [hld]; omega)
          refine s_val 32 rfl rfl (.bool true) (run_lssT 3 _ _ _ rfl ((q : Nat) : Int) (((m - k) : Nat) : Int) rfl rfl true hq1 _) ?_
          refine nr ?_; intro U h; simp only [z0, z1] at h; subst h
          refine wpList_nil ?_
          refine then_n ?_
          refine wp_cond_true rfl ?_
          refine wp_skip ?_
          refine then_n ?_
          refine wp_seq ?_
          refine wp_block ?_
          refine wp_seq ?_
          cases hv : decide (((Y.take m).drop k).getD q 0 = ((Y.take m).drop k).getD (q - 1) 0)
          · refine wp_region_exA (A := ?Ax9) 9 [(0, 35), (1, 36), (2, 37), (3, 38), (4, 39), (5, 40), (6, 41), (7, 42), (8, 43)] [.val (.slice (some ⟨g, k * 16, none⟩) (m - k) (cap - k)), .val (.int .i64 ((q : Nat) : Int)), .val (.pointer (pA (some ⟨g, k * 16, none⟩) q)), .val (.agg (idA (((Y.take m).drop k).getD q 0))), .val (.slice (some ⟨g, k * 16, none⟩) (m - k) (cap - k)), .val (.int .i64 ((q : Nat) : Int)), .val (.int .i64 ((q - 1 : Nat) : Int)), .val (.pointer (pA (some ⟨g, k * 16, none⟩) (q - 1))), .val (.agg (idA (((Y.take m).drop k).getD (q - 1) 0)))] follows (by kernel_rfl) rfl ?hAx9 (opsA_cons ?o0x9 (opsA_cons ?o1x9 (opsA_cons ?o2x9 (opsA_cons ?o3x9 (opsA_cons ?o4x9 (opsA_cons ?o5x9 (opsA_cons ?o6x9 (opsA_cons ?o7x9 (opsA_cons ?o8x9 opsA_nil))))))))) ?restx9
            case hAx9 =>
              intro ptrs
              simp only [full, foldSlots, filledE, postE, List.foldl_cons, List.foldl_nil, List.getD_cons_zero, List.getD_cons_succ, fill_val, List.set_cons_zero, List.set_cons_succ]
              exact rfl
            case o0x9 => exact fun _ _ _ _ => opE_move (v := .slice (some ⟨g, k * 16, none⟩) (m - k) (cap - k)) _ rfl rfl rfl
            case o1x9 => exact fun _ _ _ _ => opE_move (v := .int .i64 ((q : Nat) : Int)) _ rfl rfl rfl
            case o2x9 => exact fun _ _ hw _ => opE_value (v := .pointer (pA (some ⟨g, k * 16, none⟩) q)) rfl (run_ixN (RC.from (k := k) (cap := cap) (hw.has kg) HY (by omega) (by omega) hmc) hld _ _ rfl rfl q rfl (by omega))
            case o3x9 => exact fun _ _ hw _ => opE_value (v := .agg (idA (((Y.take m).drop k).getD q 0))) rfl (run_ldI (RC.from (k := k) (cap := cap) (hw.has kg) HY (by omega) (by omega) hmc) _ rfl q rfl (by rw [hld]; omega))
            case o4x9 => exact fun _ _ _ _ => opE_move (v := .slice (some ⟨g, k * 16, none⟩) (m - k) (cap - k)) _ rfl rfl rfl
            case o5x9 => exact fun _ _ _ _ => opE_move (v := .int .i64 ((q : Nat) : Int)) _ rfl rfl rfl
            case o6x9 => exact fun _ _ _ _ => opE_value (v := .int .i64 ((q - 1 : Nat) : Int)) rfl (run_subIi 3 _ _ _ rfl ((q : Nat) : Int) 1 ((q - 1 : Nat) : Int) rfl rfl (by omega) (by omega) (by omega) _)
            case o7x9 => exact fun _ _ hw _ => opE_value (v := .pointer (pA (some ⟨g, k * 16, none⟩) (q - 1))) rfl (run_ixN (RC.from (k := k) (cap := cap) (hw.has kg) HY (by omega) (by omega) hmc) hld _ _ rfl rfl (q - 1) rfl (by omega))
            case o8x9 => exact fun _ _ hw _ => opE_value (v := .agg (idA (((Y.take m).drop k).getD (q - 1) 0))) rfl (run_ldI (RC.from (k := k) (cap := cap) (hw.has kg) HY (by omega) (by omega) hmc) _ rfl (q - 1) rfl (by rw [hld]; omega))
            intro ptrs w2 GD hxE
            simp only [List.drop_succ_cons, List.drop_zero]
            replace kg := GD.has kg
            replace GG := GG.drew.tg GD
            clear GD
            refine s_val 44 rfl rfl (.bool true) (run_neIi _ _ _ rfl _ _ rfl rfl hc0 hc1 true hv) ?_
            refine nr ?_; intro U h; simp only [z0, z1] at h; subst h
            refine wpList_nil ?_
            refine then_n ?_
            refine wp_cond_true rfl ?_
            refine wp_seq ?_
            refine wp_region_lit ?_
            refine s_val 45 rfl rfl (.slice (some ⟨g, 0, none⟩) m cap) (rfl) ?_
            refine nr ?_; intro U h; simp only [z0, z1] at h; subst h
            refine s_val 46 rfl rfl (.int .i64 ((u : Nat) : Int)) (rfl) ?_
            refine nr ?_; intro U h; simp only [z0, z1] at h; subst h
            refine s_val 47 rfl rfl (.slice (some ⟨g, k * 16, none⟩) (m - k) (cap - k)) (rfl) ?_
            refine nr ?_; intro U h; simp only [z0, z1] at h; subst h
            refine s_val 48 rfl rfl (.int .i64 ((q : Nat) : Int)) (rfl) ?_
            refine nr ?_; intro U h; simp only [z0, z1] at h; subst h
            refine s_val 49 rfl rfl (.pointer (pA (some ⟨g, k * 16, none⟩) q)) (run_ixN (RC.from (k := k) (cap := cap) kg HY (by omega) (by omega) hmc) hld _ _ rfl rfl q rfl (by omega)) ?_
            refine nr ?_; intro U h; simp only [z0, z1] at h; subst h
            refine s_val 50 rfl rfl (.agg (idA (((Y.take m).drop k).getD q 0))) (run_ldI (RC.from (k := k) (cap := cap) kg HY (by omega) (by omega) hmc) _ rfl q rfl (by rw [hld]; omega)) ?_
            refine nr ?_; intro U h; simp only [z0, z1] at h; subst h
            refine s_val 51 rfl rfl (.pointer (pA (some ⟨g, 0, none⟩) u)) (run_ixN (RC.blk kg HY m (by omega) hmc) hlY _ _ rfl rfl u rfl (by omega)) ?_
            refine nr ?_; intro U h; simp only [z0, z1] at h; subst h
            refine s_store rfl rfl 23 _ _ rfl g (u * 16) (congrArg Value.pointer (pA_0 g u)) (.agg (idA (((Y.take m).drop k).getD q 0))) rfl 23 _ kg (idA (((Y.take m).drop k).getD q 0)) rfl (size23' _) (by rw [idA_size]; simp [fl_len]; omega) (idA_one _) _ (fl_set Y u (((Y.take m).drop k).getD q 0) (by omega)) ?_
            intro w3 St
            replace GG := GG.st St (.inr (by simp))
            replace kg := St.new
            clear St
            refine wpList_nil ?_
            refine then_n ?_
            refine wp_region_lit ?_
            refine s_val 52 rfl rfl (.int .i64 ((u : Nat) : Int)) (rfl) ?_
            refine nr ?_; intro U h; simp only [z0, z1] at h; subst h
            refine s_val 53 rfl rfl (.int .i64 ((u + 1 : Nat) : Int)) (run_addIi 3 _ _ _ rfl ((u : Nat) : Int) 1 ((u + 1 : Nat) : Int) rfl rfl (by omega) (by omega) (by omega) _) ?_
            refine nr ?_; intro U h; simp only [z0, z1] at h; subst h
            refine s_val 3 rfl rfl (.int .i64 ((u + 1 : Nat) : Int)) (rfl) ?_
            refine nr ?_; intro U h; simp only [z0, z1] at h; subst h
            refine wpList_nil ?_
            refine blk_n ?_
            refine then_n ?_
            refine wp_region_lit ?_
            refine s_val 33 rfl rfl (.int .i64 ((q : Nat) : Int)) (rfl) ?_
            refine nr ?_; intro U h; simp only [z0, z1] at h; subst h
            refine s_val 34 rfl rfl (.int .i64 ((q + 1 : Nat) : Int)) (run_addIi 3 _ _ _ rfl ((q : Nat) : Int) 1 ((q + 1 : Nat) : Int) rfl rfl (by omega) (by omega) (by omega) _) ?_
            refine nr ?_; intro U h; simp only [z0, z1] at h; subst h
            refine s_val 5 rfl rfl (.int .i64 ((q + 1 : Nat) : Int)) (rfl) ?_
            refine nr ?_; intro U h; simp only [z0, z1] at h; subst h
            refine wpList_nil ?_
            refine then_n ?_
            have hx0 : ((Y.take m).drop k).getD q 0 = (Z.take m).getD (k + q) 0 := by rw [getD_td Y m k q hqm, getD_t Z m _ hqm]; exact getD_drop Y Z (k + q - 1) (k + q) hYd (by omega)
            have hx1 : ((Y.take m).drop k).getD (q - 1) 0 = (Z.take m).getD (k + q - 1) 0 := by rw [getD_td Y m k (q - 1) (by omega), getD_t Z m _ (by omega), show k + (q - 1) = k + q - 1 by omega]; exact getD_drop Y Z (k + q - 1) (k + q - 1) hYd (Nat.le_refl _)
            have hn := cpt_ne (S := Z.take m) (e := k + q) (by rw [← hx0, ← hx1]; exact of_decide_eq_false hv)
            exact ⟨_, (by omega : m - (k + (q + 1)) < m - (k + q)), q + 1, u + 1, Y.set u (((Y.take m).drop k).getD q 0), (fun kz => ([.int .i64 ((q : Nat) : Int), .slice (some ⟨g, k * 16, none⟩) (m - k) (cap - k), .int .i64 (((m - k) : Nat) : Int), .bool true, .int .i64 ((q : Nat) : Int), .int .i64 ((q + 1 : Nat) : Int), .slice (some ⟨g, k * 16, none⟩) (m - k) (cap - k), .int .i64 ((q : Nat) : Int), .pointer (pA (some ⟨g, k * 16, none⟩) q), .agg (idA (((Y.take m).drop k).getD q 0)), .slice (some ⟨g, k * 16, none⟩) (m - k) (cap - k), .int .i64 ((q : Nat) : Int), .int .i64 ((q - 1 : Nat) : Int), .pointer (pA (some ⟨g, k * 16, none⟩) (q - 1)), .agg (idA (((Y.take m).drop k).getD (q - 1) 0)), .bool true, .slice (some ⟨g, 0, none⟩) m cap, .int .i64 ((u : Nat) : Int), .slice (some ⟨g, k * 16, none⟩) (m - k) (cap - k), .int .i64 ((q : Nat) : Int), .pointer (pA (some ⟨g, k * 16, none⟩) q), .agg (idA (((Y.take m).drop k).getD q 0)), .pointer (pA (some ⟨g, 0, none⟩) u), .int .i64 ((u : Nat) : Int), .int .i64 ((u + 1 : Nat) : Int)] : List Value).getD kz undef), rfl, rfl, by omega, by omega, by omega, (by rw [List.length_set]; exact hYl), (by rw [take_set Y u _ (by omega), ← Nat.add_assoc, hn, hYt, hx0]), (by rw [drop_set Y u _ _ (by omega)]; exact drop_le hYd (by omega)), all_set HY hc0, GG, kg⟩
          · refine wp_region_exA (A := ?Ax10) 9 [(0, 35), (1, 36), (2, 37), (3, 38), (4, 39), (5, 40), (6, 41), (7, 42), (8, 43)] [.val (.slice (some ⟨g, k * 16, none⟩) (m - k) (cap - k)), .val (.int .i64 ((q : Nat) : Int)), .val (.pointer (pA (some ⟨g, k * 16, none⟩) q)), .val (.agg (idA (((Y.take m).drop k).getD q 0))), .val (.slice (some ⟨g, k * 16, none⟩) (m - k) (cap - k)), .val (.int .i64 ((q : Nat) : Int)), .val (.int .i64 ((q - 1 : Nat) : Int)), .val (.pointer (pA (some ⟨g, k * 16, none⟩) (q - 1))), .val (.agg (idA (((Y.take m).drop k).getD (q - 1) 0)))] follows (by kernel_rfl) rfl ?hAx10 (opsA_cons ?o0x10 (opsA_cons ?o1x10 (opsA_cons ?o2x10 (opsA_cons ?o3x10 (opsA_cons ?o4x10 (opsA_cons ?o5x10 (opsA_cons ?o6x10 (opsA_cons ?o7x10 (opsA_cons ?o8x10 opsA_nil))))))))) ?restx10
            case hAx10 =>
              intro ptrs
              simp only [full, foldSlots, filledE, postE, List.foldl_cons, List.foldl_nil, List.getD_cons_zero, List.getD_cons_succ, fill_val, List.set_cons_zero, List.set_cons_succ]
              exact rfl
            case o0x10 => exact fun _ _ _ _ => opE_move (v := .slice (some ⟨g, k * 16, none⟩) (m - k) (cap - k)) _ rfl rfl rfl
            case o1x10 => exact fun _ _ _ _ => opE_move (v := .int .i64 ((q : Nat) : Int)) _ rfl rfl rfl
            case o2x10 => exact fun _ _ hw _ => opE_value (v := .pointer (pA (some ⟨g, k * 16, none⟩) q)) rfl (run_ixN (RC.from (k := k) (cap := cap) (hw.has kg) HY (by omega) (by omega) hmc) hld _ _ rfl rfl q rfl (by omega))
            case o3x10 => exact fun _ _ hw _ => opE_value (v := .agg (idA (((Y.take m).drop k).getD q 0))) rfl (run_ldI (RC.from (k := k) (cap := cap) (hw.has kg) HY (by omega) (by omega) hmc) _ rfl q rfl (by rw [hld]; omega))
            case o4x10 => exact fun _ _ _ _ => opE_move (v := .slice (some ⟨g, k * 16, none⟩) (m - k) (cap - k)) _ rfl rfl rfl
            case o5x10 => exact fun _ _ _ _ => opE_move (v := .int .i64 ((q : Nat) : Int)) _ rfl rfl rfl
            case o6x10 => exact fun _ _ _ _ => opE_value (v := .int .i64 ((q - 1 : Nat) : Int)) rfl (run_subIi 3 _ _ _ rfl ((q : Nat) : Int) 1 ((q - 1 : Nat) : Int) rfl rfl (by omega) (by omega) (by omega) _)
            case o7x10 => exact fun _ _ hw _ => opE_value (v := .pointer (pA (some ⟨g, k * 16, none⟩) (q - 1))) rfl (run_ixN (RC.from (k := k) (cap := cap) (hw.has kg) HY (by omega) (by omega) hmc) hld _ _ rfl rfl (q - 1) rfl (by omega))
            case o8x10 => exact fun _ _ hw _ => opE_value (v := .agg (idA (((Y.take m).drop k).getD (q - 1) 0))) rfl (run_ldI (RC.from (k := k) (cap := cap) (hw.has kg) HY (by omega) (by omega) hmc) _ rfl (q - 1) rfl (by rw [hld]; omega))
            intro ptrs w2 GD hxE
            simp only [List.drop_succ_cons, List.drop_zero]
            replace kg := GD.has kg
            replace GG := GG.drew.tg GD
            clear GD
            refine s_val 44 rfl rfl (.bool false) (run_neIi _ _ _ rfl _ _ rfl rfl hc0 hc1 false hv) ?_
            refine nr ?_; intro U h; simp only [z0, z1] at h; subst h
            refine wpList_nil ?_
            refine then_n ?_
            refine wp_cond_false rfl ?_
            refine wp_skip ?_
            refine blk_n ?_
            refine then_n ?_
            refine wp_region_lit ?_
            refine s_val 33 rfl rfl (.int .i64 ((q : Nat) : Int)) (rfl) ?_
            refine nr ?_; intro U h; simp only [z0, z1] at h; subst h
            refine s_val 34 rfl rfl (.int .i64 ((q + 1 : Nat) : Int)) (run_addIi 3 _ _ _ rfl ((q : Nat) : Int) 1 ((q + 1 : Nat) : Int) rfl rfl (by omega) (by omega) (by omega) _) ?_
            refine nr ?_; intro U h; simp only [z0, z1] at h; subst h
            refine s_val 5 rfl rfl (.int .i64 ((q + 1 : Nat) : Int)) (rfl) ?_
            refine nr ?_; intro U h; simp only [z0, z1] at h; subst h
            refine wpList_nil ?_
            refine then_n ?_
            have hx0 : ((Y.take m).drop k).getD q 0 = (Z.take m).getD (k + q) 0 := by rw [getD_td Y m k q hqm, getD_t Z m _ hqm]; exact getD_drop Y Z (k + q - 1) (k + q) hYd (by omega)
            have hx1 : ((Y.take m).drop k).getD (q - 1) 0 = (Z.take m).getD (k + q - 1) 0 := by rw [getD_td Y m k (q - 1) (by omega), getD_t Z m _ (by omega), show k + (q - 1) = k + q - 1 by omega]; exact getD_drop Y Z (k + q - 1) (k + q - 1) hYd (Nat.le_refl _)
            have hn := cpt_eq (S := Z.take m) (e := k + q) (by omega) (by rw [← hx0, ← hx1]; exact of_decide_eq_true hv)
            exact ⟨_, (by omega : m - (k + (q + 1)) < m - (k + q)), q + 1, u, Y, (fun kz => ([.int .i64 ((q : Nat) : Int), .slice (some ⟨g, k * 16, none⟩) (m - k) (cap - k), .int .i64 (((m - k) : Nat) : Int), .bool true, .int .i64 ((q : Nat) : Int), .int .i64 ((q + 1 : Nat) : Int), .slice (some ⟨g, k * 16, none⟩) (m - k) (cap - k), .int .i64 ((q : Nat) : Int), .pointer (pA (some ⟨g, k * 16, none⟩) q), .agg (idA (((Y.take m).drop k).getD q 0)), .slice (some ⟨g, k * 16, none⟩) (m - k) (cap - k), .int .i64 ((q : Nat) : Int), .int .i64 ((q - 1 : Nat) : Int), .pointer (pA (some ⟨g, k * 16, none⟩) (q - 1)), .agg (idA (((Y.take m).drop k).getD (q - 1) 0)), .bool false, us2 16, us2 17, us2 18, us2 19, us2 20, us2 21, us2 22, us2 23, us2 24] : List Value).getD kz undef), rfl, rfl, by omega, by omega, by omega, hYl, (by rw [← Nat.add_assoc, hn]; exact hYt), drop_le hYd (by omega), HY, GG, kg⟩
  · have hm1 : m < 2 := by have := of_decide_eq_true hm2; omega
    refine s_val 8 rfl rfl (.bool true) (run_lssT 3 _ _ _ rfl ((m : Nat) : Int) 2 rfl rfl true hm2 _) ?_
    refine nr ?_; intro U h; simp only [z0, z1] at h; subst h
    refine wpList_nil ?_
    refine then_n ?_
    refine wp_cond_true rfl ?_
    refine wp_seq ?_
    refine wp_region_lit ?_
    refine s_val 9 rfl rfl (.slice (some ⟨g, 0, none⟩) m cap) (rfl) ?_
    refine nr ?_; intro U h; simp only [z0, z1] at h; subst h
    refine s_val 2 rfl rfl (.slice (some ⟨g, 0, none⟩) m cap) (rfl) ?_
    refine nr ?_; intro U h; simp only [z0, z1] at h; subst h
    refine wpList_nil ?_
    refine then_n ?_
    refine wp_ret ?_
    refine then_r ?_
    refine bodyPost_ret (results_tmp Try.results58 _ _ _) rfl ?_
    refine ⟨Z, m, rfl, GG, kg, hm, hmc, ?_, hal, rfl⟩
    by_cases hm0 : m = 0
    · subst hm0; simp [cpt]
    · have : m = 1 := by omega
      subst this
      rw [cpt_1 _ (by rw [hlt]; omega), List.take_take, Nat.min_self]
set_option maxRecDepth 100000 in
set_option maxHeartbeats 4000000 in
theorem clockwise_any (w : World) (s : Nat) : Calls Try.prog 59 #[.agg (idA s)] w (CloP w s) := by
  refine s_enter Try.func59 rfl Try.ntmps59 [.agg (idA s)] [.agg (idA s), undef, undef, undef] rfl ?_
  have GG := Gro.refl w
  refine wp_seq ?_
  refine wp_region_lit ?_
  refine s_box 1 rfl rfl 23 _ rfl _ rfl (idA s) rfl ?_
  intro w1 g1 G eg1 kg1
  have bg1 := size_base GG eg1
  replace GG := GG.trans G
  clear G
  clear eg1
  refine nr ?_; intro U h; simp only [z0, z1] at h; subst h
  refine s_val 2 rfl rfl (.nilFunc) (rfl) ?_
  refine nr ?_; intro U h; simp only [z0, z1] at h; subst h
  refine wpList_nil ?_
  refine then_n ?_
  refine wp_seq ?_
  refine wp_region_lit ?_
  refine s_val 3 rfl rfl (.func (.func 70) #[] #[.pointer (some ⟨g1, 0, none⟩)]) (run_mkFi 70 _ rfl _ rfl) ?_
  refine nr ?_; intro U h; simp only [z0, z1] at h; subst h
  refine s_val 2 rfl rfl (.func (.func 70) #[] #[.pointer (some ⟨g1, 0, none⟩)]) (rfl) ?_
  refine nr ?_; intro U h; simp only [z0, z1] at h; subst h
  refine wpList_nil ?_
  refine then_n ?_
  refine wp_ret ?_
  refine bodyPost_ret (results_tmp Try.results59 _ _ _) rfl ?_
  exact ⟨g1, rfl, GG, kg1⟩
set_option maxRecDepth 100000 in
set_option maxHeartbeats 4000000 in
theorem rising_any (w : World) : Calls Try.prog 50 #[] w (CloP w 0) := by
  refine s_enter Try.func50 rfl Try.ntmps50 [] [undef, undef, undef] rfl ?_
  have GG := Gro.refl w
  refine wp_seq ?_
  refine wp_region_lit ?_
  refine s_val 0 rfl rfl (.nilFunc) (rfl) ?_
  refine nr ?_; intro U h; simp only [z0] at h; subst h
  refine wpList_nil ?_
  refine then_n ?_
  refine wp_seq ?_
  refine wp_region_lit ?_
  refine s_val 1 rfl rfl (.agg (idA 0)) (run_bd0 rfl _) ?_
  refine nr ?_; intro U h; simp only [z0, z1] at h; subst h
  refine s_callx 2 rfl rfl _ 59 Try.call59 rfl rfl _ rfl [.agg (idA 0)] rfl (clockwise_any _ 0) (by rintro _ _ ⟨_, he, _⟩; exact ⟨_, he⟩) ?_
  rintro v w1 ⟨c1, he, G, kc1⟩
  cases he
  replace GG := GG.trans G
  clear G
  refine nr ?_; intro U h; simp only [z0, z1] at h; subst h
  refine s_val 0 rfl rfl (.func (.func 70) #[] #[.pointer (some ⟨c1, 0, none⟩)]) (rfl) ?_
  refine nr ?_; intro U h; simp only [z0] at h; subst h
  refine wpList_nil ?_
  refine then_n ?_
  refine wp_ret ?_
  refine bodyPost_ret (results_tmp Try.results50 _ _ _) rfl ?_
  exact ⟨_, rfl, GG, kc1⟩
/-- A new row of one's own. -/
def RowPo (w : World) (L : List Nat) (e : Ending) (w' : World) : Prop := ∃ ao cap, e = .returned (.slice ao L.length cap) ∧ Gro w w' ∧ RC w' ao cap L ∧ OY w' 23 16 w.heap.size ao cap L.length (fl L)
set_option maxRecDepth 100000 in
set_option maxHeartbeats 4000000 in
theorem lined_own (w : World) (s h wo : Nat) (ao : Option Addr) (cap : Nat) (l : List Nat) (hs : s < top) (hwo : wo < top) (kh : w.heap[h]? = some (.cells (idA s) 23 (0, 0))) (H : RC w ao cap l) (hl : l.length ≤ 1000000) : Calls Try.prog 49 #[.func (.func 70) #[] #[.pointer (some ⟨h, 0, none⟩)], .agg (idA wo), .slice ao l.length cap] w (RowPo w (lin (kc s) wo l)) := by
  refine s_enter Try.func49 rfl Try.ntmps49 [.func (.func 70) #[] #[.pointer (some ⟨h, 0, none⟩)], .agg (idA wo), .slice ao l.length cap] [.func (.func 70) #[] #[.pointer (some ⟨h, 0, none⟩)], .agg (idA wo), .slice ao l.length cap, undef, undef, undef, undef, undef, undef, undef, undef, undef, undef, undef, undef, undef, undef, undef, undef, undef, undef, undef] rfl ?_
  have GG := Gro.refl w
  refine wp_seq ?_
  refine wp_region_lit ?_
  refine s_box 4 rfl rfl 23 _ rfl _ rfl (idA wo) rfl ?_
  intro w1 g1 G eg1 kg1
  have bg1 := size_base GG eg1
  have dhg1 := lt_new kh eg1
  replace kh := G.has kh
  replace GG := GG.trans G
  clear G
  clear eg1
  refine nr ?_; intro U h; simp only [z0, z1] at h; subst h
  refine s_val 6 rfl rfl (.slice none 0 0) (rfl) ?_
  refine nr ?_; intro U h; simp only [z0, z1] at h; subst h
  refine wpList_nil ?_
  refine then_n ?_
  refine wp_seq ?_
  refine wp_region_lit ?_
  refine s_val 8 rfl rfl (.slice ao l.length cap) (rfl) ?_
  refine nr ?_; intro U h; simp only [z0, z1] at h; subst h
  refine s_val 9 rfl rfl (.int .i64 ((l.length : Nat) : Int)) (run_len Try.underlying24 _ rfl _ _ _ rfl _) ?_
  refine nr ?_; intro U h; simp only [z0, z1] at h; subst h
  refine s_mkI 10 rfl rfl _ _ rfl l.length rfl rfl hl ?_
  intro w2 g G eg kg
  have bg := size_base GG eg
  have dhg := lt_new kh eg
  have dg1g := lt_new kg1 eg
  have hHg := (H.gro GG).ne eg
  replace kh := G.has kh
  replace kg1 := G.has kg1
  replace GG := GG.trans G
  clear G
  clear eg
  refine nr ?_; intro U h; simp only [z0, z1] at h; subst h
  refine s_val 7 rfl rfl (.slice (some ⟨g, 0, none⟩) l.length l.length) (rfl) ?_
  refine nr ?_; intro U h; simp only [z0, z1] at h; subst h
  refine wpList_nil ?_
  refine then_n ?_
  refine wp_seq ?_
  refine wp_region_lit ?_
  refine s_val 11 rfl rfl (.slice (some ⟨g, 0, none⟩) l.length l.length) (rfl) ?_
  refine nr ?_; intro U h; simp only [z0, z1] at h; subst h
  refine s_val 12 rfl rfl (.slice ao l.length cap) (rfl) ?_
  refine nr ?_; intro U h; simp only [z0, z1] at h; subst h
  refine s_cpI 13 rfl rfl _ _ rfl g l.length l.length rfl kg (by simp) rfl (H.gro GG) rfl ?_
  intro w3 St
  replace kh := St.has (by omega) kh
  replace kg1 := St.has (by omega) kg1
  replace GG := GG.store St bg
  replace kg := St.new
  clear St
  refine nr ?_; intro U h; simp only [z0, z1] at h; subst h
  refine wpList_nil ?_
  refine then_n ?_
  refine wp_seq ?_
  refine wp_region_lit ?_
  refine s_val 14 rfl rfl (.slice (some ⟨g, 0, none⟩) l.length l.length) (rfl) ?_
  refine nr ?_; intro U h; simp only [z0, z1] at h; subst h
  refine s_val 15 rfl rfl (.func (.func 57) #[] #[.pointer (some ⟨g1, 0, none⟩)]) (run_mkFi 57 _ rfl _ rfl) ?_
  refine nr ?_; intro U h; simp only [z0, z1] at h; subst h
  refine s_callx 16 rfl rfl _ 56 Try.call56 rfl rfl _ rfl [.slice (some ⟨g, 0, none⟩) l.length l.length, .func (.func 57) #[] #[.pointer (some ⟨g1, 0, none⟩)]] rfl (delete_any _ g g1 wo l hl hwo (by omega) H.all kg1 kg) (by rintro _ _ ⟨_, _, he, _⟩; exact ⟨_, he⟩) ?_
  rintro v w4 ⟨Z, i, he, GS, kg2, hiZ, hil, hZi, hZ, hZl⟩
  cases he
  replace kh := GS.has kh (by simp; omega)
  replace kg1 := GS.has kg1 (by simp; omega)
  replace GG := GS.gro GG (fun x hx => by rw [List.mem_singleton.1 hx]; exact bg)
  clear GS
  clear kg
  refine nr ?_; intro U h; simp only [z0, z1] at h; subst h
  refine s_val 7 rfl rfl (.slice (some ⟨g, 0, none⟩) i l.length) (rfl) ?_
  refine nr ?_; intro U h; simp only [z0, z1] at h; subst h
  refine wpList_nil ?_
  refine then_n ?_
  refine wp_seq ?_
  refine wp_region_lit ?_
  refine s_val 17 rfl rfl (.slice (some ⟨g, 0, none⟩) i l.length) (rfl) ?_
  refine nr ?_; intro U h; simp only [z0, z1] at h; subst h
  refine s_val 18 rfl rfl (.func (.func 70) #[] #[.pointer (some ⟨h, 0, none⟩)]) (rfl) ?_
  refine nr ?_; intro U h; simp only [z0, z1] at h; subst h
  refine s_callx 19 rfl rfl _ 37 Try.call37 rfl rfl _ rfl [.slice (some ⟨g, 0, none⟩) i l.length, .func (.func 70) #[] #[.pointer (some ⟨h, 0, none⟩)]] rfl (sort_anyi s h g i l.length hs _ kh Z hZ kg2 hiZ (by omega) (by omega)) (by rintro _ _ ⟨he, _⟩; exact ⟨_, he⟩) ?_
  rintro v w5 ⟨he, S, hSp, hSs, GS, kg3⟩
  cases he
  replace kh := GS.has kh (by simp; omega)
  replace kg1 := GS.has kg1 (by simp; omega)
  replace GG := GS.gro GG (fun x hx => by rw [List.mem_singleton.1 hx]; exact bg)
  clear GS
  clear kg2
  refine nr ?_; intro U h; simp only [z0, z1] at h; subst h
  refine wpList_nil ?_
  refine then_n ?_
  refine wp_seq ?_
  have hSlen : S.length = i := by rw [hSp.length_eq, List.length_take]; omega
  have hSall : All (S ++ Z.drop i) := fun x hx => (List.mem_append.1 hx).elim (fun h => hZ x (List.mem_of_mem_take (hSp.mem_iff.1 h))) (fun h => hZ x (List.mem_of_mem_drop h))
  have hSle : i ≤ (S ++ Z.drop i).length := by rw [List.length_append]; omega
  have hSl : (S ++ Z.drop i).length ≤ 1000000 := by rw [List.length_append, List.length_drop]; omega
  refine wp_region_lit ?_
  refine s_val 20 rfl rfl (.slice (some ⟨g, 0, none⟩) i l.length) (rfl) ?_
  refine nr ?_; intro U h; simp only [z0, z1] at h; subst h
  refine s_callx 21 rfl rfl _ 58 Try.call58 rfl rfl _ rfl [.slice (some ⟨g, 0, none⟩) i l.length] rfl (compact_any _ g i l.length (S ++ Z.drop i) hSall hSle hil hSl hl kg3) (by rintro _ _ ⟨_, _, he, _⟩; exact ⟨_, he⟩) ?_
  rintro v w6 ⟨Y, u, he, GS, kg4, huY, hul, hYu, hY, hYl⟩
  cases he
  replace kh := GS.has kh (by simp; omega)
  replace kg1 := GS.has kg1 (by simp; omega)
  replace GG := GS.gro GG (fun x hx => by rw [List.mem_singleton.1 hx]; exact bg)
  clear GS
  clear kg3
  refine nr ?_; intro U h; simp only [z0, z1] at h; subst h
  refine s_val 6 rfl rfl (.slice (some ⟨g, 0, none⟩) u l.length) (rfl) ?_
  refine nr ?_; intro U h; simp only [z0, z1] at h; subst h
  refine wpList_nil ?_
  refine then_n ?_
  refine wp_ret ?_
  refine bodyPost_ret (results_tmp Try.results49 _ _ _) rfl ?_
  rw [List.take_left' hSlen] at hYu
  have hcs := cpt_spec hs (fun x hx => hSall x (List.mem_append_left _ hx)) hSs i (by omega)
  have hL : cpt S i = lin (kc s) wo l := lin_eq (kc_inj hs) H.all hcs.1 fun x => by
    rw [hcs.2.1 x, List.take_of_length_le (by omega), hSp.mem_iff, hZi, fil, List.mem_filter]
    simp
  rw [hL] at hYu
  have hul2 : (lin (kc s) wo l).length = u := by rw [← hYu, List.length_take]; omega
  refine ⟨some ⟨g, 0, none⟩, l.length, ?_, GG, ?_, ?_⟩
  · rw [hul2]; rfl
  · rw [← hYu]
    exact RC.blk kg4 hY u huY hul
  · have hYn : Y.length = l.length := by rw [hYl, List.length_append, List.length_drop]; omega
    refine ⟨fl_len _, .inr ⟨g, 0, _, rfl, bg, kg4, by omega, by unfold maxLen; omega, ?_, ?_⟩, fl_one⟩
    · rw [List.size_toArray, fl_len, hYn]; omega
    · rw [List.drop_zero, hul2, show (fl Y).toArray.toList = fl Y from rfl, fl_take, hYu]
end Go.Proofs.Ytjahegiopigblaa
