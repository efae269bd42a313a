/- Walks. -/
import Derived.Test.YtjahegiopigblaaHB4
import Derived.Test.YtjahegiopigblaaHW2
namespace Go.Proofs.Ytjahegiopigblaa
open Go.RowKit
/-- How far two are apart, the shorter way. -/
def farN (a b : Nat) : Nat := if subN b a < subN a b then subN b a else subN a b
theorem farN_lt (a b : Nat) : farN a b < top := by unfold farN; split <;> exact subN_lt _ _
theorem cmpN_neg (a b : Nat) : (cmpN a b < 0) = (a < b) := by
  unfold cmpN
  apply propext
  split
  · simp [*]
  · split <;> simp_all
set_option maxHeartbeats 400000 in
theorem far_any (a b : Nat) (ha : a < top) (hb : b < top) (w : World) :
    Calls Try.prog 47 #[idV a, idV b] w fun e w' => e = .returned (idV (farN a b)) ∧ Gro w w' := by
  have s1 := subN_lt a b
  have s2 := subN_lt b a
  have GG : Gro w w := Gro.refl w
  have hf : Hid (farN a b = if subN b a < subN a b then subN b a else subN a b) := rfl
  unfold idV
  go_enter Try.func47, Try.ntmps47
  go_wp2_with (first | (refine wpList_box_d 2 rfl rfl 23 _ rfl _ rfl ?_; intro w1 g1 G1 e1 k1; have b1 := size_base GG e1; replace GG := GG.trans G1; clear G1 e1) | (refine wpList_box_d 3 rfl rfl 23 _ rfl _ rfl ?_; intro w2 g2 G2 e2 k2; have b2 := size_base GG e2; have d12 := lt_new k1 e2; replace k1 := G2.has k1; replace GG := GG.trans G2; clear G2 e2) | (refine wpList_alloc_d 4 rfl rfl 23 rfl _ zero23 ?_; intro w3 g3 G3 e3 k3; have b3 := size_base GG e3; (try have d13 := lt_new k1 e3); (try replace k1 := G3.has k1); (try have d23 := lt_new k2 e3); (try replace k2 := G3.has k2); replace GG := GG.trans G3; clear G3 e3))
  simp only [Act.put, List.setIfInBounds_toArray, List.set_cons_zero, List.set_cons_succ]
  refine wp_region_grow 8 [(0, 7), (1, 8), (2, 9), (3, 10), (4, 11), (5, 12), (6, 5), (7, 6)] [.val (.agg (idA a)), .val (.agg (idA b)), .val (.agg (idA (subN a b))), .val (.agg (idA b)), .val (.agg (idA a)), .val (.agg (idA (subN b a))), .new 23 (idA 0), .new 23 (idA 0)] follows (by kernel_rfl) rfl
    (opsOK_cons ?o0 (opsOK_cons ?o1 (opsOK_cons ?o2 (opsOK_cons ?o3 (opsOK_cons ?o4 (opsOK_cons ?o5 (opsOK_cons ?o6 (opsOK_cons ?o7 opsOK_nil)))))))) ?rest
  case o0 => exact fun _ _ hw _ => ok_load_id a rfl _ rfl g1 rfl (hw.has k1)
  case o1 => exact fun _ _ hw _ => ok_load_id b rfl _ rfl g2 rfl (hw.has k2)
  case o2 => exact fun _ _ hw _ => ok_call rfl _ 48 Try.call48 rfl rfl _ rfl [.agg (idA a), .agg (idA b)] rfl _ (sub_any a b ha hb _)
  case o3 => exact fun _ _ hw _ => ok_load_id b rfl _ rfl g2 rfl (hw.has k2)
  case o4 => exact fun _ _ hw _ => ok_load_id a rfl _ rfl g1 rfl (hw.has k1)
  case o5 => exact fun _ _ hw _ => ok_call rfl _ 48 Try.call48 rfl rfl _ rfl [.agg (idA b), .agg (idA a)] rfl _ (sub_any b a hb ha _)
  case o6 => exact fun _ _ hw _ => ok_alloc_id rfl rfl
  case o7 => exact fun _ _ hw _ => ok_alloc_id rfl rfl
  intro ptrs w5 G5 hn hap
  obtain ⟨⟨g4, p4, k4, c4⟩, ⟨g5, p5, k5, c5⟩, hz⟩ := hn
  have hap' : List.Pairwise (fun i j => ptrs i ≠ ptrs j) [6, 7] := hap
  simp [p4, p5] at hap'
  simp only [full, foldSlots, filled, postAt, List.foldl_cons, List.foldl_nil, List.getD_cons_zero, List.getD_cons_succ, PostK.fill, PostK.val, PostK.new, List.set_cons_zero, List.set_cons_succ, List.drop_succ_cons, List.drop_zero, p4, p5]
  have k4' : w5.heap[g4]? = some (.cells (idA 0) 23 (0, 0)) := k4
  clear k4
  have k4 := k4'
  clear k4'
  have d14 : g1 < g4 := Nat.lt_of_lt_of_le (lt_of_heap k1) c4
  have d24 : g2 < g4 := Nat.lt_of_lt_of_le (lt_of_heap k2) c4
  have d34 : g3 < g4 := Nat.lt_of_lt_of_le (lt_of_heap k3) c4
  have b4 : w.heap.size ≤ g4 := Nat.le_trans GG.size c4
  have k5' : w5.heap[g5]? = some (.cells (idA 0) 23 (0, 0)) := k5
  clear k5
  have k5 := k5'
  clear k5'
  have d15 : g1 < g5 := Nat.lt_of_lt_of_le (lt_of_heap k1) c5
  have d25 : g2 < g5 := Nat.lt_of_lt_of_le (lt_of_heap k2) c5
  have d35 : g3 < g5 := Nat.lt_of_lt_of_le (lt_of_heap k3) c5
  have b5 : w.heap.size ≤ g5 := Nat.le_trans GG.size c5
  replace k1 := G5.has k1
  replace k2 := G5.has k2
  replace k3 := G5.has k3
  replace GG := GG.drew.trans G5
  clear G5 c4 c5
  clear hz p4 p5 hap ptrs
  cases hc : decide (cmpN (subN b a) (subN a b) < 0)
  · go_wp2_with (first | (refine wpList_store_agg rfl rfl 23 _ _ rfl _ rfl _ rfl 23 _ k4 (size23' _) (by rw [idA_size, idA_size]) (idA_one _) ?_; intro wN SN; (try replace k1 := SN.has (by omega) k1); (try replace k2 := SN.has (by omega) k2); (try replace k3 := SN.has (by omega) k3); (try replace k5 := SN.has (by omega) k5); replace k4 := SN.new; replace GG := GG.store SN b4; clear SN) | (refine wpList_store_agg rfl rfl 23 _ _ rfl _ rfl _ rfl 23 _ k5 (size23' _) (by rw [idA_size, idA_size]) (idA_one _) ?_; intro wN SN; (try replace k1 := SN.has (by omega) k1); (try replace k2 := SN.has (by omega) k2); (try replace k3 := SN.has (by omega) k3); (try replace k4 := SN.has (by omega) k4); replace k5 := SN.new; replace GG := GG.store SN b5; clear SN) | (refine wpList_load_row rfl 23 _ rfl _ rfl 23 _ (0, 0) _ (by first | exact k1 | exact k2 | exact k4 | exact k5) Try.underlying23 rfl (size23' _) ?_) | (go_at_call 38; refine (cmp_any _ _ (by assumption) (by assumption) _).mono ?_; rintro e wN ⟨rfl, GN⟩; (try replace k1 := GN.has k1); (try replace k2 := GN.has k2); (try replace k3 := GN.has k3); (try replace k4 := GN.has k4); (try replace k5 := GN.has k5); replace GG := GG.trans GN; clear GN) | (refine wpList_store_agg rfl rfl 23 _ _ rfl _ rfl _ rfl 23 _ k3 (size23' _) (by rw [idA_size, idA_size]) (idA_one _) ?_; intro wN SN; (try replace k1 := SN.has (by omega) k1); (try replace k2 := SN.has (by omega) k2); (try replace k4 := SN.has (by omega) k4); (try replace k5 := SN.has (by omega) k5); replace k3 := SN.new; replace GG := GG.store SN b3; clear SN))
    have e : farN a b = subN a b := by rw [hf.out, if_neg]; simpa [cmpN_neg] using hc
    exact bodyPost_ret (v := .agg (idA (farN a b))) (results_cell_row Try.results47 _ _ g3 23 _ (0, 0) _ rfl (by rw [e]; exact k3) Try.underlying23 rfl (size23' _)) rfl ⟨rfl, GG⟩
  · go_wp2_with (first | (refine wpList_store_agg rfl rfl 23 _ _ rfl _ rfl _ rfl 23 _ k4 (size23' _) (by rw [idA_size, idA_size]) (idA_one _) ?_; intro wN SN; (try replace k1 := SN.has (by omega) k1); (try replace k2 := SN.has (by omega) k2); (try replace k3 := SN.has (by omega) k3); (try replace k5 := SN.has (by omega) k5); replace k4 := SN.new; replace GG := GG.store SN b4; clear SN) | (refine wpList_store_agg rfl rfl 23 _ _ rfl _ rfl _ rfl 23 _ k5 (size23' _) (by rw [idA_size, idA_size]) (idA_one _) ?_; intro wN SN; (try replace k1 := SN.has (by omega) k1); (try replace k2 := SN.has (by omega) k2); (try replace k3 := SN.has (by omega) k3); (try replace k4 := SN.has (by omega) k4); replace k5 := SN.new; replace GG := GG.store SN b5; clear SN) | (refine wpList_load_row rfl 23 _ rfl _ rfl 23 _ (0, 0) _ (by first | exact k1 | exact k2 | exact k4 | exact k5) Try.underlying23 rfl (size23' _) ?_) | (go_at_call 38; refine (cmp_any _ _ (by assumption) (by assumption) _).mono ?_; rintro e wN ⟨rfl, GN⟩; (try replace k1 := GN.has k1); (try replace k2 := GN.has k2); (try replace k3 := GN.has k3); (try replace k4 := GN.has k4); (try replace k5 := GN.has k5); replace GG := GG.trans GN; clear GN) | (refine wpList_store_agg rfl rfl 23 _ _ rfl _ rfl _ rfl 23 _ k3 (size23' _) (by rw [idA_size, idA_size]) (idA_one _) ?_; intro wN SN; (try replace k1 := SN.has (by omega) k1); (try replace k2 := SN.has (by omega) k2); (try replace k4 := SN.has (by omega) k4); (try replace k5 := SN.has (by omega) k5); replace k3 := SN.new; replace GG := GG.store SN b3; clear SN))
    have e : farN a b = subN b a := by rw [hf.out, if_pos]; simpa [cmpN_neg] using hc
    exact bodyPost_ret (v := .agg (idA (farN a b))) (results_cell_row Try.results47 _ _ g3 23 _ (0, 0) _ rfl (by rw [e]; exact k3) Try.underlying23 rfl (size23' _)) rfl ⟨rfl, GG⟩
end Go.Proofs.Ytjahegiopigblaa
