/- Walks. -/
import Derived.Test.YtjahegiopigblaaHB4
import Derived.Test.YtjahegiopigblaaHW3
namespace Go.Proofs.Ytjahegiopigblaa
open Go.RowKit
set_option maxHeartbeats 400000 in
theorem reffar_any (a b : Nat) (ha : a < top) (hb : b < top) (w : World) :
    Calls Try.prog 45 #[idV a, idV b] w fun e w' => e = .returned (idV (farN a b)) ∧ Gro w w' := by
  have s1 := subN_lt a b
  have s2 := subN_lt b a
  have GG : Gro w w := Gro.refl w
  have hf : Hid (farN a b = if subN b a < subN a b then subN b a else subN a b) := rfl
  unfold idV
  go_enter Try.func45, Try.ntmps45
  go_wp2_with (first | (refine wpList_box_d 2 rfl rfl 23 _ rfl _ rfl ?_; intro w1 g1 G1 e1 k1; have b1 := size_base GG e1; replace GG := GG.trans G1; clear G1 e1) | (refine wpList_box_d 3 rfl rfl 23 _ rfl _ rfl ?_; intro w2 g2 G2 e2 k2; have b2 := size_base GG e2; have d12 := lt_new k1 e2; replace k1 := G2.has k1; replace GG := GG.trans G2; clear G2 e2) | (refine wpList_alloc_d 4 rfl rfl 23 rfl _ zero23 ?_; intro w3 g3 G3 e3 k3; have b3 := size_base GG e3; (try have d13 := lt_new k1 e3); (try replace k1 := G3.has k1); (try have d23 := lt_new k2 e3); (try replace k2 := G3.has k2); replace GG := GG.trans G3; clear G3 e3))
  try simp only [Act.put, List.setIfInBounds_toArray, List.set_cons_zero, List.set_cons_succ]
  refine wp_region_gro follows (by kernel_rfl) ?_
  iterate 7 (first | go_big_quiet_skip | (refine wq_load_id rfl _ rfl _ rfl _ (fun _ hw => Gro.has hw (by first | exact k1 | exact k2)) ?_; simp only [Act.put, List.setIfInBounds_toArray, List.set_cons_zero, List.set_cons_succ]) | (refine wq_call rfl _ 44 Try.call44 rfl rfl _ rfl _ rfl _ (fun _ hw => Calls.gro hw (refsub_any _ _ (by assumption) (by assumption) _)) ?_; simp only [Act.put, List.setIfInBounds_toArray, List.set_cons_zero, List.set_cons_succ]) | (refine wq_call rfl _ 43 Try.call43 rfl rfl _ rfl _ rfl _ (fun _ hw => Calls.gro hw (less_any _ _ (by assumption) (by assumption) _)) ?_; simp only [Act.put, List.setIfInBounds_toArray, List.set_cons_zero, List.set_cons_succ]) | (go_big_quiet_want; go_big_quiet_op; go_big_quiet_on))
  refine wpQuiet_nil ?_
  intro wq Gq0
  have Gq : Gro _ wq := Gq0
  clear Gq0
  replace k1 := Gq.has k1
  replace k2 := Gq.has k2
  replace k3 := Gq.has k3
  replace GG := GG.trans Gq
  clear Gq
  cases hc : decide (subN b a < subN a b)
  · go_wp2_with (first | (refine wpList_load_row rfl 23 _ rfl _ rfl 23 _ (0, 0) _ (by first | exact k1 | exact k2) Try.underlying23 rfl (size23' _) ?_) | (go_at_call 44; refine (refsub_any _ _ (by assumption) (by assumption) _).mono ?_; rintro e wN ⟨rfl, GN⟩; (try replace k1 := GN.has k1); (try replace k2 := GN.has k2); (try replace k3 := GN.has k3); replace GG := GG.trans GN; clear GN) | (refine wpList_store_agg rfl rfl 23 _ _ rfl _ rfl _ rfl 23 _ k3 (size23' _) (by rw [idA_size, idA_size]) (idA_one _) ?_; intro wN SN; (try replace k1 := SN.has (by omega) k1); (try replace k2 := SN.has (by omega) k2); replace k3 := SN.new; replace GG := GG.store SN b3; clear SN))
    have e : farN a b = subN a b := by rw [hf.out, if_neg]; simpa using hc
    exact bodyPost_ret (v := .agg (idA (farN a b))) (results_cell_row Try.results45 _ _ g3 23 _ (0, 0) _ rfl (by rw [e]; exact k3) Try.underlying23 rfl (size23' _)) rfl ⟨rfl, GG⟩
  · go_wp2_with (first | (refine wpList_load_row rfl 23 _ rfl _ rfl 23 _ (0, 0) _ (by first | exact k1 | exact k2) Try.underlying23 rfl (size23' _) ?_) | (go_at_call 44; refine (refsub_any _ _ (by assumption) (by assumption) _).mono ?_; rintro e wN ⟨rfl, GN⟩; (try replace k1 := GN.has k1); (try replace k2 := GN.has k2); (try replace k3 := GN.has k3); replace GG := GG.trans GN; clear GN) | (refine wpList_store_agg rfl rfl 23 _ _ rfl _ rfl _ rfl 23 _ k3 (size23' _) (by rw [idA_size, idA_size]) (idA_one _) ?_; intro wN SN; (try replace k1 := SN.has (by omega) k1); (try replace k2 := SN.has (by omega) k2); replace k3 := SN.new; replace GG := GG.store SN b3; clear SN))
    have e : farN a b = subN b a := by rw [hf.out, if_pos]; simpa using hc
    exact bodyPost_ret (v := .agg (idA (farN a b))) (results_cell_row Try.results45 _ _ g3 23 _ (0, 0) _ rfl (by rw [e]; exact k3) Try.underlying23 rfl (size23' _)) rfl ⟨rfl, GG⟩
end Go.Proofs.Ytjahegiopigblaa
