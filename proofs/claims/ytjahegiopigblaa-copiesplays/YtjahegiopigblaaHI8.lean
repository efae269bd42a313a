/- Who is among some, likeness, copies: each call of the program's and the document's. -/
import Derived.Test.YtjahegiopigblaaHI7
namespace Go.Proofs.Ytjahegiopigblaa
open Go.RowKit
theorem getD_memi {l : List Nat} {j : Nat} (hj : j < l.length) : l.getD j 0 ∈ l := by
  have : l.getD j 0 = l[j] := by simp [List.getD_eq_getElem?_getD, hj]
  rw [this]
  exact List.getElem_mem hj
theorem upto_succ {p : Nat → Prop} {j : Nat} (h : ∀ i, i < j → p i) (hj : p j) : ∀ i, i < j + 1 → p i := fun i hi => by
  by_cases e : i = j
  · exact e ▸ hj
  · exact h i (by omega)
theorem not_mem_of {l : List Nat} {x : Nat} (h : ∀ i, i < l.length → l.getD i 0 ≠ x) : x ∉ l := fun hm => by
  obtain ⟨i, hi, rfl⟩ := List.mem_iff_getElem.1 hm
  exact h i hi (by simp [List.getD_eq_getElem?_getD, hi])
set_option maxRecDepth 100000 in
set_option maxHeartbeats 4000000 in
theorem refhas_any (w : World) (ao : Option Addr) (cap : Nat) (l : List Nat) (H : RC w ao cap l) (hl : l.length ≤ 1000000) (x : Nat) (hx : x < top) : Calls Try.prog 40 #[.slice ao l.length cap, .agg (idA x)] w (fun e w' => e = .returned (.bool (decide (x ∈ l))) ∧ Gro w w') := by
  refine s_enter Try.func40 rfl Try.ntmps40 [.slice ao l.length cap, .agg (idA x)] [.slice ao l.length cap, .agg (idA x), undef, undef, undef, undef, undef, undef, undef, undef, undef, undef, undef, undef, undef, undef, undef, undef] rfl ?_
  have GG := Gro.refl w
  refine wp_seq ?_
  refine wp_region_lit ?_
  refine s_box 3 rfl rfl 23 _ rfl _ rfl (idA x) rfl ?_
  intro w1 g1 G eg1 kg1
  have bg1 := size_base GG eg1
  replace GG := GG.trans G
  clear G
  clear eg1
  refine nr ?_; intro U h; simp only [z0, z1] at h; subst h
  refine s_val 4 rfl rfl (.bool false) (rfl) ?_
  refine nr ?_; intro U h; simp only [z0, z1] at h; subst h
  refine wpList_nil ?_
  refine then_n ?_
  refine wp_seq ?_
  refine wp_seq ?_
  refine wp_region_lit ?_
  refine s_val 5 rfl rfl (.int .i64 0) (rfl) ?_
  refine nr ?_; intro U h; simp only [z0, z1] at h; subst h
  refine wpList_nil ?_
  refine then_n ?_
  refine wp_block ?_
  refine wp_loopN (fun mz az wv => ∃ (j : Nat) (us1 : Nat → Value), mz = l.length - j ∧ az = ⟨[.slice ao l.length cap, .agg (idA x), undef, .pointer (some ⟨g1, 0, none⟩), us1 0, .int .i64 ((j : Nat) : Int), us1 1, us1 2, us1 3, us1 4, us1 5, us1 6, us1 7, us1 8, us1 9, us1 10, us1 11, us1 12].toArray, []⟩ ∧ j ≤ l.length ∧ (∀ i, i < j → l.getD i 0 ≠ x) ∧ Gro w wv ∧ wv.heap[g1]? = some (.cells (idA x) 23 (0, 0))) ?_ _ ⟨0, (fun kz => ([.bool false, undef, undef, undef, undef, undef, undef, undef, undef, undef, undef, undef, undef] : List Value).getD kz undef), rfl, rfl, Nat.zero_le _, (fun i hi => absurd hi (Nat.not_lt_zero i)), GG, kg1⟩
  clear GG kg1
  rintro mz az wv ⟨j, us1, rfl, rfl, hj, hnot, GG, kg1⟩
  refine wp_seq ?_
  refine wp_seq ?_
  refine wp_region_lit ?_
  refine s_val 6 rfl rfl (.int .i64 ((j : Nat) : Int)) (rfl) ?_
  refine nr ?_; intro U h; simp only [z0, z1] at h; subst h
  refine s_val 7 rfl rfl (.slice ao l.length cap) (rfl) ?_
  refine nr ?_; intro U h; simp only [z0, z1] at h; subst h
  refine s_val 8 rfl rfl (.int .i64 ((l.length : Nat) : Int)) (run_len Try.underlying24 _ rfl _ _ _ rfl _) ?_
  refine nr ?_; intro U h; simp only [z0, z1] at h; subst h
  cases hj1 : decide (((j : Nat) : Int) < ((l.length : Nat) : Int))
  · have hje : j = l.length := by have := of_decide_eq_false hj1; omega
    refine s_val 9 rfl rfl (.bool false) (run_lssT 3 _ _ _ rfl ((j : Nat) : Int) ((l.length : Nat) : Int) rfl rfl false hj1 _) ?_
    refine nr ?_; intro U h; simp only [z0, z1] at h; subst h
    refine wpList_nil ?_
    refine then_n ?_
    refine wp_cond_false rfl ?_
    refine wp_exit ?_
    refine then_x ?_
    refine then_x ?_
    refine blk_x ?_
    refine then_n ?_
    refine wp_seq ?_
    refine wp_region_lit ?_
    refine s_val 4 rfl rfl (.bool false) (rfl) ?_
    refine nr ?_; intro U h; simp only [z0, z1] at h; subst h
    refine wpList_nil ?_
    refine then_n ?_
    refine wp_ret ?_
    refine bodyPost_ret (results_tmp Try.results40 _ _ _) rfl ?_
    subst hje
    exact ⟨congrArg (fun b => Ending.returned (.bool b)) (decide_eq_false (not_mem_of hnot)).symm, GG⟩
  · have hjl : j < l.length := by have := of_decide_eq_true hj1; omega
    refine s_val 9 rfl rfl (.bool true) (run_lssT 3 _ _ _ rfl ((j : Nat) : Int) ((l.length : Nat) : Int) rfl rfl true hj1 _) ?_
    refine nr ?_; intro U h; simp only [z0, z1] at h; subst h
    refine wpList_nil ?_
    refine then_n ?_
    refine wp_cond_true rfl ?_
    refine wp_skip ?_
    refine then_n ?_
    refine wp_seq ?_
    refine wp_block ?_
    refine wp_seq ?_
    cases hq : decide ((l.getD j 0) = x)
    · refine wp_region_exA (A := ?Ax3) 5 [(0, 12), (1, 13), (2, 14), (3, 15), (4, 16)] [.val (.slice ao l.length cap), .val (.int .i64 ((j : Nat) : Int)), .val (.pointer (pA ao j)), .val (.agg (idA (l.getD j 0))), .val (.agg (idA x))] follows (by kernel_rfl) rfl ?hAx3 (opsA_cons ?o0x3 (opsA_cons ?o1x3 (opsA_cons ?o2x3 (opsA_cons ?o3x3 (opsA_cons ?o4x3 opsA_nil))))) ?restx3
      case hAx3 =>
        intro ptrs
        simp only [full, foldSlots, filledE, postE, List.foldl_cons, List.foldl_nil, List.getD_cons_zero, List.getD_cons_succ, fill_val, List.set_cons_zero, List.set_cons_succ]
        exact rfl
      case o0x3 => exact fun _ _ _ _ => opE_move (v := .slice ao l.length cap) _ rfl rfl rfl
      case o1x3 => exact fun _ _ _ _ => opE_move (v := .int .i64 ((j : Nat) : Int)) _ rfl rfl rfl
      case o2x3 => exact fun _ _ hw _ => opE_value (v := .pointer (pA ao j)) rfl (run_ixI (H.gro (GG.drew.trans hw)) _ _ rfl rfl j rfl hjl)
      case o3x3 => exact fun _ _ hw _ => opE_value (v := .agg (idA (l.getD j 0))) rfl (run_ldI (H.gro (GG.drew.trans hw)) _ rfl j rfl hjl)
      case o4x3 => exact fun _ _ hw _ => opE_value (v := .agg (idA x)) rfl (run_ldB _ rfl g1 _ rfl (hw.has kg1))
      intro ptrs w2 GD hxE
      simp only [List.drop_succ_cons, List.drop_zero]
      replace kg1 := GD.has kg1
      replace GG := GG.drew.trans GD
      clear GD
      refine s_val 17 rfl rfl (.bool false) (run_eqIi _ _ _ rfl _ _ rfl rfl (H.at hjl) hx false hq) ?_
      refine nr ?_; intro U h; simp only [z0, z1] at h; subst h
      refine wpList_nil ?_
      refine then_n ?_
      refine wp_cond_false rfl ?_
      refine wp_skip ?_
      refine blk_n ?_
      refine then_n ?_
      refine wp_region_lit ?_
      refine s_val 10 rfl rfl (.int .i64 ((j : Nat) : Int)) (rfl) ?_
      refine nr ?_; intro U h; simp only [z0, z1] at h; subst h
      refine s_val 11 rfl rfl (.int .i64 ((j + 1 : Nat) : Int)) (run_addIi 3 _ _ _ rfl ((j : Nat) : Int) 1 ((j + 1 : Nat) : Int) rfl rfl (by omega) (by omega) (by omega) _) ?_
      refine nr ?_; intro U h; simp only [z0, z1] at h; subst h
      refine s_val 5 rfl rfl (.int .i64 ((j + 1 : Nat) : Int)) (rfl) ?_
      refine nr ?_; intro U h; simp only [z0, z1] at h; subst h
      refine wpList_nil ?_
      refine then_n ?_
      exact ⟨_, (by omega : l.length - (j + 1) < l.length - j), j + 1, (fun kz => ([us1 0, .int .i64 ((j : Nat) : Int), .slice ao l.length cap, .int .i64 ((l.length : Nat) : Int), .bool true, .int .i64 ((j : Nat) : Int), .int .i64 ((j + 1 : Nat) : Int), .slice ao l.length cap, .int .i64 ((j : Nat) : Int), .pointer (pA ao j), .agg (idA (l.getD j 0)), .agg (idA x), .bool false] : List Value).getD kz undef), rfl, rfl, hjl, (upto_succ hnot (of_decide_eq_false hq)), GG, kg1⟩
    · refine wp_region_exA (A := ?Ax4) 5 [(0, 12), (1, 13), (2, 14), (3, 15), (4, 16)] [.val (.slice ao l.length cap), .val (.int .i64 ((j : Nat) : Int)), .val (.pointer (pA ao j)), .val (.agg (idA (l.getD j 0))), .val (.agg (idA x))] follows (by kernel_rfl) rfl ?hAx4 (opsA_cons ?o0x4 (opsA_cons ?o1x4 (opsA_cons ?o2x4 (opsA_cons ?o3x4 (opsA_cons ?o4x4 opsA_nil))))) ?restx4
      case hAx4 =>
        intro ptrs
        simp only [full, foldSlots, filledE, postE, List.foldl_cons, List.foldl_nil, List.getD_cons_zero, List.getD_cons_succ, fill_val, List.set_cons_zero, List.set_cons_succ]
        exact rfl
      case o0x4 => exact fun _ _ _ _ => opE_move (v := .slice ao l.length cap) _ rfl rfl rfl
      case o1x4 => exact fun _ _ _ _ => opE_move (v := .int .i64 ((j : Nat) : Int)) _ rfl rfl rfl
      case o2x4 => exact fun _ _ hw _ => opE_value (v := .pointer (pA ao j)) rfl (run_ixI (H.gro (GG.drew.trans hw)) _ _ rfl rfl j rfl hjl)
      case o3x4 => exact fun _ _ hw _ => opE_value (v := .agg (idA (l.getD j 0))) rfl (run_ldI (H.gro (GG.drew.trans hw)) _ rfl j rfl hjl)
      case o4x4 => exact fun _ _ hw _ => opE_value (v := .agg (idA x)) rfl (run_ldB _ rfl g1 _ rfl (hw.has kg1))
      intro ptrs w2 GD hxE
      simp only [List.drop_succ_cons, List.drop_zero]
      replace kg1 := GD.has kg1
      replace GG := GG.drew.trans GD
      clear GD
      refine s_val 17 rfl rfl (.bool true) (run_eqIi _ _ _ rfl _ _ rfl rfl (H.at hjl) hx true hq) ?_
      refine nr ?_; intro U h; simp only [z0, z1] at h; subst h
      refine wpList_nil ?_
      refine then_n ?_
      refine wp_cond_true rfl ?_
      refine wp_seq ?_
      refine wp_region_lit ?_
      refine s_val 4 rfl rfl (.bool true) (rfl) ?_
      refine nr ?_; intro U h; simp only [z0, z1] at h; subst h
      refine wpList_nil ?_
      refine then_n ?_
      refine wp_ret ?_
      refine blk_r ?_
      refine then_r ?_
      refine then_r ?_
      refine blk_r ?_
      refine then_r ?_
      refine bodyPost_ret (results_tmp Try.results40 _ _ _) rfl ?_
      exact ⟨congrArg (fun b => Ending.returned (.bool b)) (decide_eq_true (by rw [← of_decide_eq_true hq]; exact getD_memi hjl : x ∈ l)).symm, GG⟩
theorem eq_of_getD {l m : List Nat} (h : l.length = m.length) (ha : ∀ i, i < l.length → l.getD i 0 = m.getD i 0) : l = m := by
  apply List.ext_getElem h
  intro i h1 h2
  have := ha i h1
  simpa [List.getD_eq_getElem?_getD, h1, h2] using this
set_option maxRecDepth 100000 in
set_option maxHeartbeats 4000000 in
theorem same_ids (w : World) (ao : Option Addr) (cap : Nat) (l : List Nat) (H : RC w ao cap l) (hl : l.length ≤ 1000000) (bo : Option Addr) (bap : Nat) (m : List Nat) (HM : RC w bo bap m) (_hm : m.length ≤ 1000000) : Calls Try.prog 14 #[.slice ao l.length cap, .slice bo m.length bap] w (fun e w' => e = .returned (.bool (decide (l = m))) ∧ Gro w w') := by
  refine s_enter Try.func14 rfl Try.ntmps14 [.slice ao l.length cap, .slice bo m.length bap] [.slice ao l.length cap, .slice bo m.length bap, undef, undef, undef, undef, undef, undef, undef, undef, undef, undef, undef, undef, undef, undef, undef, undef, undef, undef, undef, undef, undef, undef, undef, undef] rfl ?_
  have GG := Gro.refl w
  refine wp_seq ?_
  refine wp_region_lit ?_
  refine s_val 4 rfl rfl (.bool false) (rfl) ?_
  refine nr ?_; intro U h; simp only [z0, z1] at h; subst h
  refine wpList_nil ?_
  refine then_n ?_
  refine wp_seq ?_
  refine wp_seq ?_
  refine wp_region_lit ?_
  refine s_val 6 rfl rfl (.slice ao l.length cap) (rfl) ?_
  refine nr ?_; intro U h; simp only [z0, z1] at h; subst h
  refine s_val 7 rfl rfl (.int .i64 ((l.length : Nat) : Int)) (run_len Try.underlying24 _ rfl _ _ _ rfl _) ?_
  refine nr ?_; intro U h; simp only [z0, z1] at h; subst h
  refine s_val 8 rfl rfl (.slice bo m.length bap) (rfl) ?_
  refine nr ?_; intro U h; simp only [z0, z1] at h; subst h
  refine s_val 9 rfl rfl (.int .i64 ((m.length : Nat) : Int)) (run_len Try.underlying24 _ rfl _ _ _ rfl _) ?_
  refine nr ?_; intro U h; simp only [z0, z1] at h; subst h
  cases hlen : decide (((l.length : Nat) : Int) = ((m.length : Nat) : Int))
  · have hne : l.length ≠ m.length := by have := of_decide_eq_false hlen; omega
    refine s_val 10 rfl rfl (.bool true) (run_neq_k 3 .i64 _ _ _ rfl Try.underlying3 ((l.length : Nat) : Int) ((m.length : Nat) : Int) rfl rfl true hlen _) ?_
    refine nr ?_; intro U h; simp only [z0, z1] at h; subst h
    refine wpList_nil ?_
    refine then_n ?_
    refine wp_cond_true rfl ?_
    refine wp_seq ?_
    refine wp_region_lit ?_
    refine s_val 4 rfl rfl (.bool false) (rfl) ?_
    refine nr ?_; intro U h; simp only [z0, z1] at h; subst h
    refine wpList_nil ?_
    refine then_n ?_
    refine wp_ret ?_
    refine then_r ?_
    refine bodyPost_ret (results_tmp Try.results14 _ _ _) rfl ?_
    exact ⟨congrArg (fun b => Ending.returned (.bool b)) (decide_eq_false (fun e => hne (by rw [e]))).symm, GG⟩
  · have hee : l.length = m.length := by have := of_decide_eq_true hlen; omega
    refine s_val 10 rfl rfl (.bool false) (run_neq_k 3 .i64 _ _ _ rfl Try.underlying3 ((l.length : Nat) : Int) ((m.length : Nat) : Int) rfl rfl false hlen _) ?_
    refine nr ?_; intro U h; simp only [z0, z1] at h; subst h
    refine wpList_nil ?_
    refine then_n ?_
    refine wp_cond_false rfl ?_
    refine wp_skip ?_
    refine then_n ?_
    refine wp_seq ?_
    refine wp_seq ?_
    refine wp_region_lit ?_
    refine s_val 5 rfl rfl (.int .i64 0) (rfl) ?_
    refine nr ?_; intro U h; simp only [z0, z1] at h; subst h
    refine wpList_nil ?_
    refine then_n ?_
    refine wp_block ?_
    refine wp_loopN (fun mz az wv => ∃ (j : Nat) (us1 : Nat → Value), mz = l.length - j ∧ az = ⟨[.slice ao l.length cap, .slice bo m.length bap, undef, undef, us1 0, .int .i64 ((j : Nat) : Int), .slice ao l.length cap, .int .i64 ((l.length : Nat) : Int), .slice bo m.length bap, .int .i64 ((m.length : Nat) : Int), .bool false, us1 1, us1 2, us1 3, us1 4, us1 5, us1 6, us1 7, us1 8, us1 9, us1 10, us1 11, us1 12, us1 13, us1 14, us1 15].toArray, []⟩ ∧ j ≤ l.length ∧ (∀ i, i < j → l.getD i 0 = m.getD i 0) ∧ Gro w wv) ?_ _ ⟨0, (fun kz => ([.bool false, undef, undef, undef, undef, undef, undef, undef, undef, undef, undef, undef, undef, undef, undef, undef] : List Value).getD kz undef), rfl, rfl, Nat.zero_le _, (fun i hi => absurd hi (Nat.not_lt_zero i)), GG⟩
    clear GG
    rintro mz az wv ⟨j, us1, rfl, rfl, hj, hall, GG⟩
    refine wp_seq ?_
    refine wp_seq ?_
    refine wp_region_lit ?_
    refine s_val 11 rfl rfl (.int .i64 ((j : Nat) : Int)) (rfl) ?_
    refine nr ?_; intro U h; simp only [z0, z1] at h; subst h
    refine s_val 12 rfl rfl (.slice ao l.length cap) (rfl) ?_
    refine nr ?_; intro U h; simp only [z0, z1] at h; subst h
    refine s_val 13 rfl rfl (.int .i64 ((l.length : Nat) : Int)) (run_len Try.underlying24 _ rfl _ _ _ rfl _) ?_
    refine nr ?_; intro U h; simp only [z0, z1] at h; subst h
    cases hj1 : decide (((j : Nat) : Int) < ((l.length : Nat) : Int))
    · have hje : j = l.length := by have := of_decide_eq_false hj1; omega
      refine s_val 14 rfl rfl (.bool false) (run_lssT 3 _ _ _ rfl ((j : Nat) : Int) ((l.length : Nat) : Int) rfl rfl false hj1 _) ?_
      refine nr ?_; intro U h; simp only [z0, z1] at h; subst h
      refine wpList_nil ?_
      refine then_n ?_
      refine wp_cond_false rfl ?_
      refine wp_exit ?_
      refine then_x ?_
      refine then_x ?_
      refine blk_x ?_
      refine then_n ?_
      refine wp_seq ?_
      refine wp_region_lit ?_
      refine s_val 4 rfl rfl (.bool true) (rfl) ?_
      refine nr ?_; intro U h; simp only [z0, z1] at h; subst h
      refine wpList_nil ?_
      refine then_n ?_
      refine wp_ret ?_
      refine bodyPost_ret (results_tmp Try.results14 _ _ _) rfl ?_
      subst hje
      exact ⟨congrArg (fun b => Ending.returned (.bool b)) (decide_eq_true (eq_of_getD hee hall)).symm, GG⟩
    · have hjl : j < l.length := by have := of_decide_eq_true hj1; omega
      have hjm : j < m.length := by omega
      refine s_val 14 rfl rfl (.bool true) (run_lssT 3 _ _ _ rfl ((j : Nat) : Int) ((l.length : Nat) : Int) rfl rfl true hj1 _) ?_
      refine nr ?_; intro U h; simp only [z0, z1] at h; subst h
      refine wpList_nil ?_
      refine then_n ?_
      refine wp_cond_true rfl ?_
      refine wp_skip ?_
      refine then_n ?_
      refine wp_seq ?_
      refine wp_block ?_
      refine wp_seq ?_
      cases hq : decide ((l.getD j 0) = (m.getD j 0))
      · refine wp_region_exA (A := ?Ax5) 8 [(0, 17), (1, 18), (2, 19), (3, 20), (4, 21), (5, 22), (6, 23), (7, 24)] [.val (.slice ao l.length cap), .val (.int .i64 ((j : Nat) : Int)), .val (.pointer (pA ao j)), .val (.agg (idA (l.getD j 0))), .val (.slice bo m.length bap), .val (.int .i64 ((j : Nat) : Int)), .val (.pointer (pA bo j)), .val (.agg (idA (m.getD j 0)))] follows (by kernel_rfl) rfl ?hAx5 (opsA_cons ?o0x5 (opsA_cons ?o1x5 (opsA_cons ?o2x5 (opsA_cons ?o3x5 (opsA_cons ?o4x5 (opsA_cons ?o5x5 (opsA_cons ?o6x5 (opsA_cons ?o7x5 opsA_nil)))))))) ?restx5
        case hAx5 =>
          intro ptrs
          simp only [full, foldSlots, filledE, postE, List.foldl_cons, List.foldl_nil, List.getD_cons_zero, List.getD_cons_succ, fill_val, List.set_cons_zero, List.set_cons_succ]
          exact rfl
        case o0x5 => exact fun _ _ _ _ => opE_move (v := .slice ao l.length cap) _ rfl rfl rfl
        case o1x5 => exact fun _ _ _ _ => opE_move (v := .int .i64 ((j : Nat) : Int)) _ rfl rfl rfl
        case o2x5 => exact fun _ _ hw _ => opE_value (v := .pointer (pA ao j)) rfl (run_ixI (H.gro (GG.drew.trans hw)) _ _ rfl rfl j rfl hjl)
        case o3x5 => exact fun _ _ hw _ => opE_value (v := .agg (idA (l.getD j 0))) rfl (run_ldI (H.gro (GG.drew.trans hw)) _ rfl j rfl hjl)
        case o4x5 => exact fun _ _ _ _ => opE_move (v := .slice bo m.length bap) _ rfl rfl rfl
        case o5x5 => exact fun _ _ _ _ => opE_move (v := .int .i64 ((j : Nat) : Int)) _ rfl rfl rfl
        case o6x5 => exact fun _ _ hw _ => opE_value (v := .pointer (pA bo j)) rfl (run_ixI (HM.gro (GG.drew.trans hw)) _ _ rfl rfl j rfl hjm)
        case o7x5 => exact fun _ _ hw _ => opE_value (v := .agg (idA (m.getD j 0))) rfl (run_ldI (HM.gro (GG.drew.trans hw)) _ rfl j rfl hjm)
        intro ptrs w1 GD hxE
        simp only [List.drop_succ_cons, List.drop_zero]
        replace GG := GG.drew.trans GD
        clear GD
        refine s_val 25 rfl rfl (.bool true) (run_neIi _ _ _ rfl _ _ rfl rfl (H.at hjl) (HM.at hjm) true hq) ?_
        refine nr ?_; intro U h; simp only [z0, z1] at h; subst h
        refine wpList_nil ?_
        refine then_n ?_
        refine wp_cond_true rfl ?_
        refine wp_seq ?_
        refine wp_region_lit ?_
        refine s_val 4 rfl rfl (.bool false) (rfl) ?_
        refine nr ?_; intro U h; simp only [z0, z1] at h; subst h
        refine wpList_nil ?_
        refine then_n ?_
        refine wp_ret ?_
        refine blk_r ?_
        refine then_r ?_
        refine then_r ?_
        refine blk_r ?_
        refine then_r ?_
        refine bodyPost_ret (results_tmp Try.results14 _ _ _) rfl ?_
        exact ⟨congrArg (fun b => Ending.returned (.bool b)) (decide_eq_false (fun e => of_decide_eq_false hq (by rw [e]))).symm, GG⟩
      · refine wp_region_exA (A := ?Ax6) 8 [(0, 17), (1, 18), (2, 19), (3, 20), (4, 21), (5, 22), (6, 23), (7, 24)] [.val (.slice ao l.length cap), .val (.int .i64 ((j : Nat) : Int)), .val (.pointer (pA ao j)), .val (.agg (idA (l.getD j 0))), .val (.slice bo m.length bap), .val (.int .i64 ((j : Nat) : Int)), .val (.pointer (pA bo j)), .val (.agg (idA (m.getD j 0)))] follows (by kernel_rfl) rfl ?hAx6 (opsA_cons ?o0x6 (opsA_cons ?o1x6 (opsA_cons ?o2x6 (opsA_cons ?o3x6 (opsA_cons ?o4x6 (opsA_cons ?o5x6 (opsA_cons ?o6x6 (opsA_cons ?o7x6 opsA_nil)))))))) ?restx6
        case hAx6 =>
          intro ptrs
          simp only [full, foldSlots, filledE, postE, List.foldl_cons, List.foldl_nil, List.getD_cons_zero, List.getD_cons_succ, fill_val, List.set_cons_zero, List.set_cons_succ]
          exact rfl
        case o0x6 => exact fun _ _ _ _ => opE_move (v := .slice ao l.length cap) _ rfl rfl rfl
        case o1x6 => exact fun _ _ _ _ => opE_move (v := .int .i64 ((j : Nat) : Int)) _ rfl rfl rfl
        case o2x6 => exact fun _ _ hw _ => opE_value (v := .pointer (pA ao j)) rfl (run_ixI (H.gro (GG.drew.trans hw)) _ _ rfl rfl j rfl hjl)
        case o3x6 => exact fun _ _ hw _ => opE_value (v := .agg (idA (l.getD j 0))) rfl (run_ldI (H.gro (GG.drew.trans hw)) _ rfl j rfl hjl)
        case o4x6 => exact fun _ _ _ _ => opE_move (v := .slice bo m.length bap) _ rfl rfl rfl
        case o5x6 => exact fun _ _ _ _ => opE_move (v := .int .i64 ((j : Nat) : Int)) _ rfl rfl rfl
        case o6x6 => exact fun _ _ hw _ => opE_value (v := .pointer (pA bo j)) rfl (run_ixI (HM.gro (GG.drew.trans hw)) _ _ rfl rfl j rfl hjm)
        case o7x6 => exact fun _ _ hw _ => opE_value (v := .agg (idA (m.getD j 0))) rfl (run_ldI (HM.gro (GG.drew.trans hw)) _ rfl j rfl hjm)
        intro ptrs w1 GD hxE
        simp only [List.drop_succ_cons, List.drop_zero]
        replace GG := GG.drew.trans GD
        clear GD
        refine s_val 25 rfl rfl (.bool false) (run_neIi _ _ _ rfl _ _ rfl rfl (H.at hjl) (HM.at hjm) false hq) ?_
        refine nr ?_; intro U h; simp only [z0, z1] at h; subst h
        refine wpList_nil ?_
        refine then_n ?_
        refine wp_cond_false rfl ?_
        refine wp_skip ?_
        refine blk_n ?_
        refine then_n ?_
        refine wp_region_lit ?_
        refine s_val 15 rfl rfl (.int .i64 ((j : Nat) : Int)) (rfl) ?_
        refine nr ?_; intro U h; simp only [z0, z1] at h; subst h
        refine s_val 16 rfl rfl (.int .i64 ((j + 1 : Nat) : Int)) (run_addIi 3 _ _ _ rfl ((j : Nat) : Int) 1 ((j + 1 : Nat) : Int) rfl rfl (by omega) (by omega) (by omega) _) ?_
        refine nr ?_; intro U h; simp only [z0, z1] at h; subst h
        refine s_val 5 rfl rfl (.int .i64 ((j + 1 : Nat) : Int)) (rfl) ?_
        refine nr ?_; intro U h; simp only [z0, z1] at h; subst h
        refine wpList_nil ?_
        refine then_n ?_
        exact ⟨_, (by omega : l.length - (j + 1) < l.length - j), j + 1, (fun kz => ([us1 0, .int .i64 ((j : Nat) : Int), .slice ao l.length cap, .int .i64 ((l.length : Nat) : Int), .bool true, .int .i64 ((j : Nat) : Int), .int .i64 ((j + 1 : Nat) : Int), .slice ao l.length cap, .int .i64 ((j : Nat) : Int), .pointer (pA ao j), .agg (idA (l.getD j 0)), .slice bo m.length bap, .int .i64 ((j : Nat) : Int), .pointer (pA bo j), .agg (idA (m.getD j 0)), .bool false] : List Value).getD kz undef), rfl, rfl, hjl, (upto_succ hall (of_decide_eq_true hq)), GG⟩
theorem run_minN {P : Program} {o : Oper} {A : Act} (x y : Operand) (ats : Array TypeId) (ho : o.op = .call { callee := .builtin .min, args := #[x, y], argTypes := ats }) (n m : Nat) (hx : A.eval x = .int .i64 (n : Int)) (hy : A.eval y = .int .i64 (m : Int)) (w : World) : (execOp A.eval o).run P w = .ok (.value (.int .i64 ((min n m : Nat) : Int))) w := by
  unfold execOp
  simp only [ho, hx, hy, List.map_toArray, List.map_cons, List.map_nil, resolve, invoke]
  simp [builtin, Builtin.min_, Builtin.min2, go_sem]
  omega
theorem run_cut3Xi {P : Program} {o : Oper} {A : Act} {t e : TypeId} {sz b : Nat} {z : Value} (T : RowT P t e sz b z) (x z u : Operand) (ho : o.op = .slice t x none (some z) (some u)) (ao : Option Addr) (n cap j : Nat) (hx : A.eval x = .slice ao n cap) (hz : A.eval z = .int .i64 (j : Int)) (hu : A.eval u = .int .i64 (j : Int)) (hj : j ≤ cap) (w : World) :
    (execOp A.eval o).run P w = .ok (.value (.slice ao j j)) w := by
  have h : (Instr.slice t (.slice ao n cap) none (some (.int .i64 (j : Int))) (some (.int .i64 (j : Int)))).run P w = .ok (.slice ao j j) w := by
    simp only [Instr.slice, Sem.run_bind, run_underlying T.und, Result.andThen_ok, Instr.sliceBounds, Instr.sliceBound, asIntOf, Sem.run_pure, run_sizeX T]
    have h3 : (0 : Int) ≤ (j : Int) ∧ (j : Int) ≤ (cap : Int) := by omega
    simp [h3]
    intro _
    cases ao <;> simp [add_zero]
  unfold execOp
  simp only [ho, hx, hz, hu, Option.map_some, Option.map_none, Sem.run_bind, sliceAtX_run T, h, Result.andThen_ok, Sem.run_pure]
end Go.Proofs.Ytjahegiopigblaa
