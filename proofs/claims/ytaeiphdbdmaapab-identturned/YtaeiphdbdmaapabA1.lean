/- Walks. -/
import Derived.Test.YtaeiphdbdmaapabBase
import Derived.Test.YtaeiphdbdmaapabW11
import Derived.Test.YtaeiphdbdmaapabLaw2
namespace Go.Proofs.Ytaeiphdbdmaapab
open Go.RowKit

def addN (a b : Nat) : Nat := (a + b) % top
theorem addN_lt (a b : Nat) : addN a b < top := Nat.mod_lt _ (by decide)
theorem add_of_sub (a b : Nat) (ha : a < top) (hb : b < top) : subN a (subN 0 b) = addN a b := by
  unfold subN addN top at *
  omega
theorem around_1 (a b c : Nat) (ha : a < top) (hb : b < top) (hc : c < top) : decide (addN (subN a b) (subN b c) = subN a c) = true := by
  rw [decide_eq_true_iff]
  unfold subN addN top at *
  omega
theorem around_2 (a b : Nat) (ha : a < top) (hb : b < top) : decide (addN a (subN b a) = b) = true := by
  rw [decide_eq_true_iff]
  unfold subN addN top at *
  omega
theorem around_3 (a b : Nat) (ha : a < top) (hb : b < top) : decide (addN (subN a b) (subN b a) = 0) = true := by
  rw [decide_eq_true_iff]
  unfold subN addN top at *
  omega
theorem far_comm (a b : Nat) : farN a b = farN b a := by
  unfold farN
  split <;> split <;> omega

set_option maxHeartbeats 1600000 in
theorem add_any (a b : Nat) (ha : a < top) (hb : b < top) (w : World) : Calls Try.prog 5 #[idV a, idV b] w fun e w' => e = .returned (idV (addN a b)) ∧ Gro w w' := by
  have GG : Gro w w := Gro.refl w
  have s1 := subN_lt 0 b
  rw [← add_of_sub a b ha hb]
  unfold idV
  go_enter Try.func5, Try.ntmps5
  go_wp2_with (first | (with_reducible refine wpList_at ?_; first | (refine wpList_box_d 2 rfl rfl 23 _ rfl _ rfl ?_; intro w1 g1 G1 e1 k1; have b1 := size_base GG e1; replace GG := GG.trans G1; clear G1 e1; (try simp only [Act.put, List.setIfInBounds_toArray, List.set_cons_zero, List.set_cons_succ])) | (refine wpList_box_d 3 rfl rfl 23 _ rfl _ rfl ?_; intro w2 g2 G2 e2 k2; have b2 := size_base GG e2; have d12 := lt_new k1 e2; replace k1 := G2.has k1; replace GG := GG.trans G2; clear G2 e2; (try simp only [Act.put, List.setIfInBounds_toArray, List.set_cons_zero, List.set_cons_succ])) | (refine wpList_alloc_d 4 rfl rfl 23 rfl _ zero23 ?_; intro w3 g3 G3 e3 k3; have b3 := size_base GG e3; (try have d13 := lt_new k1 e3); (try replace k1 := G3.has k1); (try have d23 := lt_new k2 e3); (try replace k2 := G3.has k2); replace GG := GG.trans G3; clear G3 e3; (try simp only [Act.put, List.setIfInBounds_toArray, List.set_cons_zero, List.set_cons_succ]))))
  refine wp_region_grow 5 [(0, 5), (1, 6), (2, 7), (3, 8), (4, 9)] [.val (.agg (idA a)), .val (.agg (idA 0)), .val (.agg (idA b)), .val (.agg (idA (subN 0 b))), .val (.agg (idA (subN a (subN 0 b))))] follows (by kernel_rfl) rfl
    (opsOK_cons ?o0 (opsOK_cons ?o1 (opsOK_cons ?o2 (opsOK_cons ?o3 (opsOK_cons ?o4 opsOK_nil))))) ?rest
  case o0 => exact fun _ _ hw _ => ok_load_id a rfl _ rfl g1 rfl (hw.has k1)
  case o1 => exact fun _ _ hw _ => ok_value rfl (run_build_0 rfl _)
  case o2 => exact fun _ _ hw _ => ok_load_id b rfl _ rfl g2 rfl (hw.has k2)
  case o3 => exact fun _ _ hw _ => ok_call rfl _ 12 Try.call12 rfl rfl _ rfl [.agg (idA 0), .agg (idA b)] rfl _ (refsub_any 0 b (by decide) hb _)
  case o4 => exact fun _ _ hw _ => ok_call rfl _ 12 Try.call12 rfl rfl _ rfl [.agg (idA a), .agg (idA (subN 0 b))] rfl _ (refsub_any a (subN 0 b) ha s1 _)
  intro ptrs w5 G5 hn hap
  simp only [full, foldSlots, filled, postAt, List.foldl_cons, List.foldl_nil, List.getD_cons_zero, List.getD_cons_succ, PostK.fill, PostK.val, List.set_cons_zero, List.set_cons_succ, List.drop_succ_cons, List.drop_zero]
  replace k3 := G5.has k3
  replace GG := GG.drew.trans G5
  clear G5 hn hap ptrs k1 k2
  go_wp2_with (first | (with_reducible refine wpList_at ?_; first | (refine wpList_store_agg rfl rfl 23 _ _ rfl _ rfl _ rfl 23 _ k3 (size23' _) (by simp only [idA_size]) (idA_one _) ?_; intro wN SN; replace k3 := SN.new; replace GG := GG.store SN b3; clear SN)))
  exact bodyPost_ret (v := .agg (idA (subN a (subN 0 b)))) (results_cell_row Try.results5 _ _ g3 23 _ (0, 0) _ rfl k3 Try.underlying23 rfl (size23' _)) rfl ⟨rfl, GG⟩

set_option maxHeartbeats 1600000 in
theorem around_any (a b c : Nat) (ha : a < top) (hb : b < top) (hc : c < top) (w : World) : Calls Try.prog 3 #[idV a, idV b, idV c] w fun e w' => e = .returned (.bool true) ∧ Gro w w' := by
  have GG : Gro w w := Gro.refl w
  have s1 := subN_lt a b
  have s2 := subN_lt b c
  have s3 := subN_lt a c
  have s4 := subN_lt b a
  have a1 := addN_lt (subN a b) (subN b c)
  have a2 := addN_lt a (subN b a)
  have a3 := addN_lt (subN a b) (subN b a)
  have f1 := farN_lt a b
  have f2 := farN_lt b a
  unfold idV
  go_enter Try.func3, Try.ntmps3
  go_wp2_with (first | (with_reducible refine wpList_at ?_; first | (refine wpList_box_d 3 rfl rfl 23 _ rfl _ rfl ?_; intro w1 g1 G1 e1 k1; have b1 := size_base GG e1; replace GG := GG.trans G1; clear G1 e1; (try simp only [Act.put, List.setIfInBounds_toArray, List.set_cons_zero, List.set_cons_succ])) | (refine wpList_box_d 4 rfl rfl 23 _ rfl _ rfl ?_; intro w2 g2 G2 e2 k2; have b2 := size_base GG e2; have d12 := lt_new k1 e2; replace k1 := G2.has k1; replace GG := GG.trans G2; clear G2 e2; (try simp only [Act.put, List.setIfInBounds_toArray, List.set_cons_zero, List.set_cons_succ])) | (refine wpList_box_d 5 rfl rfl 23 _ rfl _ rfl ?_; intro w3 g3 G3 e3 k3; have b3 := size_base GG e3; have d13 := lt_new k1 e3; replace k1 := G3.has k1; have d23 := lt_new k2 e3; replace k2 := G3.has k2; replace GG := GG.trans G3; clear G3 e3; (try simp only [Act.put, List.setIfInBounds_toArray, List.set_cons_zero, List.set_cons_succ]))))
  refine wp_region_grow2 9 [(0, 8), (1, 9), (2, 10), (3, 11), (4, 12), (5, 13), (6, 14), (7, 7)] [.val (.agg (idA a)), .val (.agg (idA b)), .val (.agg (idA (subN a b))), .val (.agg (idA b)), .val (.agg (idA c)), .val (.agg (idA (subN b c))), .val (.agg (idA (addN (subN a b) (subN b c)))), .new 23 (idA 0) (idA (addN (subN a b) (subN b c))) 8, .put 7] follows (by kernel_rfl) (by kernel_rfl) rfl
    (opsOK2_cons ?o0 (opsOK2_cons ?o1 (opsOK2_cons ?o2 (opsOK2_cons ?o3 (opsOK2_cons ?o4 (opsOK2_cons ?o5 (opsOK2_cons ?o6 (opsOK2_cons ?o7 (opsOK2_cons ?o8 (opsOK2_nil)))))))))) ?rest
  case o0 => exact fun _ _ _ hw _ _ => OpOK2.of_val (ok_load_id a rfl _ rfl g1 rfl (hw.has k1))
  case o1 => exact fun _ _ _ hw _ _ => OpOK2.of_val (ok_load_id b rfl _ rfl g2 rfl (hw.has k2))
  case o2 => exact fun _ _ _ hw _ _ => OpOK2.of_val (ok_call rfl _ 6 Try.call6 rfl rfl _ rfl [.agg (idA a), .agg (idA b)] rfl _ (sub_any a b ha hb _))
  case o3 => exact fun _ _ _ hw _ _ => OpOK2.of_val (ok_load_id b rfl _ rfl g2 rfl (hw.has k2))
  case o4 => exact fun _ _ _ hw _ _ => OpOK2.of_val (ok_load_id c rfl _ rfl g3 rfl (hw.has k3))
  case o5 => exact fun _ _ _ hw _ _ => OpOK2.of_val (ok_call rfl _ 6 Try.call6 rfl rfl _ rfl [.agg (idA b), .agg (idA c)] rfl _ (sub_any b c hb hc _))
  case o6 => exact fun _ _ _ hw _ _ => OpOK2.of_val (ok_call rfl _ 5 Try.call5 rfl rfl _ rfl [.agg (idA (subN a b)), .agg (idA (subN b c))] rfl _ (add_any (subN a b) (subN b c) s1 s2 _))
  case o7 => exact fun _ _ _ hw _ _ => OpOK2.of_new (ok_alloc_id rfl rfl)
  case o8 => 
        intro ptrs L w hw hn hL
        obtain ⟨⟨g, p, k, cz⟩, hz⟩ := hn
        have hL' : L 8 = false := hL
        have p' : ptrs 7 = .pointer (some ⟨g, 0, none⟩) := p
        have k' : w.heap[g]? = some (.cells (if L 8 = true then (idA (addN (subN a b) (subN b c))) else (idA 0)) 23 (0, 0)) := k
        rw [hL'] at k'
        refine ok2_store rfl 23 _ _ rfl g ?_ (idA (addN (subN a b) (subN b c))) rfl (idA 0) k' (size23' _) (by rw [idA_size, idA_size]) (idA_one _) rfl p' _
        show ptrs 7 = _
        exact p'
  intro ptrs L w4 G4 hL hn hap
  obtain ⟨⟨g4, p4, k4, c4⟩, hz⟩ := hn
  have hap' : List.Pairwise (fun i j => ptrs i ≠ ptrs j) [7] := hap
  simp [p4] at hap'
  simp only [full, foldSlots, filled2, postAt2, List.foldl_cons, List.foldl_nil, List.getD_cons_zero, List.getD_cons_succ, PostS.fill, PostS.val, PostS.new, PostS.put, List.set_cons_zero, List.set_cons_succ, List.drop_succ_cons, List.drop_zero, p4]
  have k4' : w4.heap[g4]? = some (.cells (idA (addN (subN a b) (subN b c))) 23 (0, 0)) := by
    have hL' : L 8 = true := by rw [hL]; rfl
    have kk : w4.heap[g4]? = some (.cells (if L 8 = true then (idA (addN (subN a b) (subN b c))) else (idA 0)) 23 (0, 0)) := k4
    rw [hL'] at kk
    exact kk
  clear k4
  have k4 := k4'
  clear k4'
  have d14 : g1 < g4 := Nat.lt_of_lt_of_le (lt_of_heap k1) c4
  have d24 : g2 < g4 := Nat.lt_of_lt_of_le (lt_of_heap k2) c4
  have d34 : g3 < g4 := Nat.lt_of_lt_of_le (lt_of_heap k3) c4
  have b4 : w.heap.size ≤ g4 := Nat.le_trans GG.size c4
  replace k1 := G4.has k1
  replace k2 := G4.has k2
  replace k3 := G4.has k3
  replace GG := GG.drew.trans G4
  clear G4 c4
  clear hz hL p4 hap ptrs

  clear hap'
  go_wp2_with fail
  try simp only [Act.put, List.setIfInBounds_toArray, List.set_cons_zero, List.set_cons_succ]
  refine wp_region_gro follows (by kernel_rfl) ?_
  refine wq_call rfl _ 7 Try.call7 rfl rfl _ rfl [] rfl _ (fun _ hw => Calls.gro hw (fixed_any _)) ?_; simp only [Act.put, List.setIfInBounds_toArray, List.set_cons_zero, List.set_cons_succ]
  (go_big_quiet_want; go_big_quiet_op; first | go_big_quiet_on | (refine ⟨_, fun _ _ => rfl, ?_⟩; go_big_quiet_on))
  refine wq_load_id rfl _ rfl g4 rfl _ (fun _ hw => Gro.has hw k4) ?_; simp only [Act.put, List.setIfInBounds_toArray, List.set_cons_zero, List.set_cons_succ]
  refine wq_load_id rfl _ rfl g1 rfl _ (fun _ hw => Gro.has hw k1) ?_; simp only [Act.put, List.setIfInBounds_toArray, List.set_cons_zero, List.set_cons_succ]
  refine wq_load_id rfl _ rfl g3 rfl _ (fun _ hw => Gro.has hw k3) ?_; simp only [Act.put, List.setIfInBounds_toArray, List.set_cons_zero, List.set_cons_succ]
  refine wq_call rfl _ 6 Try.call6 rfl rfl _ rfl [.agg (idA a), .agg (idA c)] rfl _ (fun _ hw => Calls.gro hw (sub_any a c ha hc _)) ?_; simp only [Act.put, List.setIfInBounds_toArray, List.set_cons_zero, List.set_cons_succ]
  refine wq_eql_id rfl _ _ _ rfl (addN (subN a b) (subN b c)) (subN a c) rfl rfl a1 s3 _ (around_1 a b c ha hb hc) ?_; simp only [Act.put, List.setIfInBounds_toArray, List.set_cons_zero, List.set_cons_succ]
  (go_big_quiet_want; go_big_quiet_op; first | go_big_quiet_on | (refine ⟨_, fun _ _ => rfl, ?_⟩; go_big_quiet_on))
  (go_big_quiet_want; go_big_quiet_op; first | go_big_quiet_on | (refine ⟨_, fun _ _ => rfl, ?_⟩; go_big_quiet_on))
  refine wq_load_id rfl _ rfl g1 rfl _ (fun _ hw => Gro.has hw k1) ?_; simp only [Act.put, List.setIfInBounds_toArray, List.set_cons_zero, List.set_cons_succ]
  refine wq_load_id rfl _ rfl g2 rfl _ (fun _ hw => Gro.has hw k2) ?_; simp only [Act.put, List.setIfInBounds_toArray, List.set_cons_zero, List.set_cons_succ]
  refine wq_load_id rfl _ rfl g1 rfl _ (fun _ hw => Gro.has hw k1) ?_; simp only [Act.put, List.setIfInBounds_toArray, List.set_cons_zero, List.set_cons_succ]
  refine wq_call rfl _ 6 Try.call6 rfl rfl _ rfl [.agg (idA b), .agg (idA a)] rfl _ (fun _ hw => Calls.gro hw (sub_any b a hb ha _)) ?_; simp only [Act.put, List.setIfInBounds_toArray, List.set_cons_zero, List.set_cons_succ]
  refine wq_call rfl _ 5 Try.call5 rfl rfl _ rfl [.agg (idA a), .agg (idA (subN b a))] rfl _ (fun _ hw => Calls.gro hw (add_any a (subN b a) ha s4 _)) ?_; simp only [Act.put, List.setIfInBounds_toArray, List.set_cons_zero, List.set_cons_succ]
  refine wq_load_id rfl _ rfl g2 rfl _ (fun _ hw => Gro.has hw k2) ?_; simp only [Act.put, List.setIfInBounds_toArray, List.set_cons_zero, List.set_cons_succ]
  refine wq_eql_id rfl _ _ _ rfl (addN a (subN b a)) b rfl rfl a2 hb _ (around_2 a b ha hb) ?_; simp only [Act.put, List.setIfInBounds_toArray, List.set_cons_zero, List.set_cons_succ]
  (go_big_quiet_want; go_big_quiet_op; first | go_big_quiet_on | (refine ⟨_, fun _ _ => rfl, ?_⟩; go_big_quiet_on))
  (go_big_quiet_want; go_big_quiet_op; first | go_big_quiet_on | (refine ⟨_, fun _ _ => rfl, ?_⟩; go_big_quiet_on))
  refine wq_load_id rfl _ rfl g1 rfl _ (fun _ hw => Gro.has hw k1) ?_; simp only [Act.put, List.setIfInBounds_toArray, List.set_cons_zero, List.set_cons_succ]
  refine wq_load_id rfl _ rfl g2 rfl _ (fun _ hw => Gro.has hw k2) ?_; simp only [Act.put, List.setIfInBounds_toArray, List.set_cons_zero, List.set_cons_succ]
  refine wq_call rfl _ 6 Try.call6 rfl rfl _ rfl [.agg (idA a), .agg (idA b)] rfl _ (fun _ hw => Calls.gro hw (sub_any a b ha hb _)) ?_; simp only [Act.put, List.setIfInBounds_toArray, List.set_cons_zero, List.set_cons_succ]
  refine wq_load_id rfl _ rfl g2 rfl _ (fun _ hw => Gro.has hw k2) ?_; simp only [Act.put, List.setIfInBounds_toArray, List.set_cons_zero, List.set_cons_succ]
  refine wq_load_id rfl _ rfl g1 rfl _ (fun _ hw => Gro.has hw k1) ?_; simp only [Act.put, List.setIfInBounds_toArray, List.set_cons_zero, List.set_cons_succ]
  refine wq_call rfl _ 6 Try.call6 rfl rfl _ rfl [.agg (idA b), .agg (idA a)] rfl _ (fun _ hw => Calls.gro hw (sub_any b a hb ha _)) ?_; simp only [Act.put, List.setIfInBounds_toArray, List.set_cons_zero, List.set_cons_succ]
  refine wq_call rfl _ 5 Try.call5 rfl rfl _ rfl [.agg (idA (subN a b)), .agg (idA (subN b a))] rfl _ (fun _ hw => Calls.gro hw (add_any (subN a b) (subN b a) s1 s4 _)) ?_; simp only [Act.put, List.setIfInBounds_toArray, List.set_cons_zero, List.set_cons_succ]
  refine wq_value rfl (.agg (idA 0)) (fun w => run_build_0 rfl w) ?_; simp only [Act.put, List.setIfInBounds_toArray, List.set_cons_zero, List.set_cons_succ]
  refine wq_eql_id rfl _ _ _ rfl (addN (subN a b) (subN b a)) 0 rfl rfl a3 (by decide) _ (around_3 a b ha hb) ?_; simp only [Act.put, List.setIfInBounds_toArray, List.set_cons_zero, List.set_cons_succ]
  (go_big_quiet_want; go_big_quiet_op; first | go_big_quiet_on | (refine ⟨_, fun _ _ => rfl, ?_⟩; go_big_quiet_on))
  (go_big_quiet_want; go_big_quiet_op; first | go_big_quiet_on | (refine ⟨_, fun _ _ => rfl, ?_⟩; go_big_quiet_on))
  refine wq_load_id rfl _ rfl g1 rfl _ (fun _ hw => Gro.has hw k1) ?_; simp only [Act.put, List.setIfInBounds_toArray, List.set_cons_zero, List.set_cons_succ]
  refine wq_load_id rfl _ rfl g2 rfl _ (fun _ hw => Gro.has hw k2) ?_; simp only [Act.put, List.setIfInBounds_toArray, List.set_cons_zero, List.set_cons_succ]
  refine wq_call rfl _ 8 Try.call8 rfl rfl _ rfl [.agg (idA a), .agg (idA b)] rfl _ (fun _ hw => Calls.gro hw (far_any a b ha hb _)) ?_; simp only [Act.put, List.setIfInBounds_toArray, List.set_cons_zero, List.set_cons_succ]
  refine wq_load_id rfl _ rfl g2 rfl _ (fun _ hw => Gro.has hw k2) ?_; simp only [Act.put, List.setIfInBounds_toArray, List.set_cons_zero, List.set_cons_succ]
  refine wq_load_id rfl _ rfl g1 rfl _ (fun _ hw => Gro.has hw k1) ?_; simp only [Act.put, List.setIfInBounds_toArray, List.set_cons_zero, List.set_cons_succ]
  refine wq_call rfl _ 8 Try.call8 rfl rfl _ rfl [.agg (idA b), .agg (idA a)] rfl _ (fun _ hw => Calls.gro hw (far_any b a hb ha _)) ?_; simp only [Act.put, List.setIfInBounds_toArray, List.set_cons_zero, List.set_cons_succ]
  refine wq_eql_id rfl _ _ _ rfl (farN a b) (farN b a) rfl rfl f1 f2 _ (decide_eq_true (far_comm a b)) ?_; simp only [Act.put, List.setIfInBounds_toArray, List.set_cons_zero, List.set_cons_succ]
  (go_big_quiet_want; go_big_quiet_op; first | go_big_quiet_on | (refine ⟨_, fun _ _ => rfl, ?_⟩; go_big_quiet_on))
  (go_big_quiet_want; go_big_quiet_op; first | go_big_quiet_on | (refine ⟨_, fun _ _ => rfl, ?_⟩; go_big_quiet_on))
  refine wpQuiet_nil ?_
  intro wq Gq0
  have Gq : Gro _ wq := Gq0
  clear Gq0
  replace GG := GG.trans Gq
  clear Gq
  go_wp2
  go_ret
  exact ⟨rfl, GG⟩
end Go.Proofs.Ytaeiphdbdmaapab
