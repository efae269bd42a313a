/- Walks. -/
import Derived.Test.YtaeiphdbdmaapaaBase
import Derived.Test.YtaeiphdbdmaapaaW7
namespace Go.Proofs.Ytaeiphdbdmaapaa
open Go.RowKit

set_option maxHeartbeats 400000 in
theorem digit_09 (r : Nat) (h1 : 48 ≤ r) (h2 : r ≤ 57) (w : World) : Calls Try.prog 32 #[.int .i32 (r : Int)] w fun e w' => e = .returned (.tuple #[.int .u8 ((r : Int) - 48), .bool true]) ∧ Gro w w' := by
  have t1 : decide ((48 : Int) ≤ r) = true := by simp; omega
  have t2 : decide ((r : Int) ≤ 57) = true := by simp; omega
  go_enter Try.func32, Try.ntmps32
  go_wp2
  go_ret2
  exact ⟨rfl, Gro.refl w⟩
set_option maxHeartbeats 400000 in
theorem digit_af (r : Nat) (h1 : 97 ≤ r) (h2 : r ≤ 102) (w : World) : Calls Try.prog 32 #[.int .i32 (r : Int)] w fun e w' => e = .returned (.tuple #[.int .u8 ((r : Int) - 97 + 10), .bool true]) ∧ Gro w w' := by
  go_enter Try.func32, Try.ntmps32
  go_wp2
  go_ret2
  exact ⟨rfl, Gro.refl w⟩
set_option maxHeartbeats 400000 in
theorem digit_no (r : Nat) (h : r < 48 ∨ (57 < r ∧ r < 97) ∨ 102 < r) (w : World) : Calls Try.prog 32 #[.int .i32 (r : Int)] w fun e w' => e = .returned (.tuple #[.int .u8 0, .bool false]) ∧ Gro w w' := by
  rcases h with h | ⟨h, h'⟩ | h
  all_goals
    go_enter Try.func32, Try.ntmps32
    go_wp2
    go_ret2
    exact ⟨rfl, Gro.refl w⟩

theorem run_build_0 {o : Oper} {A : Act} (ho : o.op = .build 23 #[]) (w : World) : (execOp A.eval o).run Try.prog w = .ok (.value (.agg (idA 0))) w := by
  have h1 : (Instr.build 23 #[]).run Try.prog w = .ok (.agg (idA 0)) w := by kernel_rfl
  unfold execOp
  simp only [ho, List.map_toArray, List.map_nil, Sem.run_bind, h1, Result.andThen_ok, Sem.run_pure]

set_option maxHeartbeats 400000 in
theorem parse_zz (w : World) : Calls Try.prog 24 #[.string { data := #[122, 122] }] w fun e w' => e = .returned (.tuple #[idV 0, .int .i64 2]) ∧ Gro w w' := by
  have GG : Gro w w := Gro.refl w
  unfold idV
  go_enter Try.func24, Try.ntmps24
  go_wp2_with (first | (with_reducible refine wpList_at ?_; first | (refine wpList_alloc_d 2 rfl rfl 23 rfl _ zero23 ?_; intro w1 g1 G1 e1 k1; have b1 := size_base GG e1; replace GG := GG.trans G1; clear G1 e1; (try simp only [Act.put, List.setIfInBounds_toArray, List.set_cons_zero, List.set_cons_succ])) | (refine wpList_alloc_d 4 rfl rfl 23 rfl _ zero23 ?_; intro w2 g2 G2 e2 k2; have b2 := size_base GG e2; (try have d12 := lt_new k1 e2); (try replace k1 := G2.has k1); replace GG := GG.trans G2; clear G2 e2; (try simp only [Act.put, List.setIfInBounds_toArray, List.set_cons_zero, List.set_cons_succ])) | (refine wpList_range_d 10 rfl rfl 9 _ rfl Try.underlying9 _ rfl ?_; intro w3 g3 G3 e3 k3; have b3 := size_base GG e3; have d13 := lt_new k1 e3; replace k1 := G3.has k1; have d23 := lt_new k2 e3; replace k2 := G3.has k2; replace GG := GG.trans G3; clear G3 e3; (try simp only [Act.put, List.setIfInBounds_toArray, List.set_cons_zero, List.set_cons_succ]))))
  refine wp_loop_rounds 1 ?_
  rw [rounds_succ]
  go_wp2_with (first | (go_at_call 32; refine (digit_no 122 (by omega) _).mono ?_; rintro e wN ⟨rfl, GN⟩; (try replace k1 := GN.has k1); (try replace k2 := GN.has k2); (try replace k3 := GN.has k3); replace GG := GG.trans GN; clear GN) | (with_reducible refine wpList_at ?_; first | (refine wpList_next_d 11 rfl rfl _ rfl g3 rfl _ _ k3 (by decide) 122 1 rfl ?_; intro wN SN; (try replace k1 := SN.has (by omega) k1); (try replace k2 := SN.has (by omega) k2); replace k3 := SN.new; replace GG := GG.store SN b3; clear SN; (try simp only [Act.put, List.setIfInBounds_toArray, List.set_cons_zero, List.set_cons_succ])) | (refine wpList_value_d 22 rfl rfl (.agg (idA 0)) (run_build_0 rfl _) ?_; (try simp only [Act.put, List.setIfInBounds_toArray, List.set_cons_zero, List.set_cons_succ])) | (refine wpList_store_agg rfl rfl 23 _ _ rfl _ rfl _ rfl 23 _ k1 (size23' _) (by simp only [idA_size]) (idA_one _) ?_; intro wN SN; (try replace k2 := SN.has (by omega) k2); (try replace k3 := SN.has (by omega) k3); replace k1 := SN.new; replace GG := GG.store SN b1; clear SN)))
  exact bodyPost_ret (v := .tuple #[.agg (idA 0), .int .i64 2]) (results_cell_tmp Try.results24 _ _ g1 23 _ (0, 0) _ rfl _ rfl k1 Try.underlying23 rfl (size23' _)) rfl ⟨rfl, GG⟩

set_option maxHeartbeats 400000 in
theorem parse_00 (w : World) : Calls Try.prog 24 #[.string { data := #[48, 48] }] w fun e w' => e = .returned (.tuple #[idV 0, .int .i64 3]) ∧ Gro w w' := by
  have GG : Gro w w := Gro.refl w
  have z0 : (idA 0).setIfInBounds 0 (.int .u8 0) = idA 0 := rfl
  unfold idV
  go_enter Try.func24, Try.ntmps24
  go_wp2_with (first | (with_reducible refine wpList_at ?_; first | (refine wpList_alloc_d 2 rfl rfl 23 rfl _ zero23 ?_; intro w1 g1 G1 e1 k1; have b1 := size_base GG e1; replace GG := GG.trans G1; clear G1 e1; (try simp only [Act.put, List.setIfInBounds_toArray, List.set_cons_zero, List.set_cons_succ])) | (refine wpList_alloc_d 4 rfl rfl 23 rfl _ zero23 ?_; intro w2 g2 G2 e2 k2; have b2 := size_base GG e2; (try have d12 := lt_new k1 e2); (try replace k1 := G2.has k1); replace GG := GG.trans G2; clear G2 e2; (try simp only [Act.put, List.setIfInBounds_toArray, List.set_cons_zero, List.set_cons_succ])) | (refine wpList_range_d 10 rfl rfl 9 _ rfl Try.underlying9 _ rfl ?_; intro w3 g3 G3 e3 k3; have b3 := size_base GG e3; have d13 := lt_new k1 e3; replace k1 := G3.has k1; have d23 := lt_new k2 e3; replace k2 := G3.has k2; replace GG := GG.trans G3; clear G3 e3; (try simp only [Act.put, List.setIfInBounds_toArray, List.set_cons_zero, List.set_cons_succ]))))
  have c0 : ∀ w' : World, w'.heap[g2]? = some (.cells (idA 0) 23 (0, 0)) → w'.cell? ⟨g2, 0, none⟩ = some (.int .u8 0) := fun w' h => by rw [cell_of_row w' g2 0 _ 23 _ h]; rfl
  have C0 : Hid (∀ w' : World, w'.heap[g2]? = some (.cells (idA 0) 23 (0, 0)) → w'.cell? ⟨g2, 0, none⟩ = some (.int .u8 0)) := c0
  clear c0
  refine wp_loop_rounds 3 ?_
  rw [rounds_succ]
  have c0 := C0.out _ k2
  have zb : bits BinOp.or IntKind.u8 0 0 = 0 := by decide
  have ZB : Hid (bits BinOp.or IntKind.u8 0 0 = 0) := zb
  have Z0 : Hid ((idA 0).setIfInBounds 0 (.int .u8 0) = idA 0) := z0
  clear zb z0
  go_wp2_with (first | (go_at_call 32; refine (digit_09 48 (by omega) (by omega) _).mono ?_; rintro e wN ⟨rfl, GN⟩; (try replace k1 := GN.has k1); (try replace k2 := GN.has k2); (try replace k3 := GN.has k3); (try replace c0 := C0.out _ k2); replace GG := GG.trans GN; clear GN) | (with_reducible refine wpList_at ?_; first | (refine wpList_next_d 11 rfl rfl _ rfl g3 rfl _ _ k3 (by decide) 48 1 rfl ?_; intro wN SN; (try replace k1 := SN.has (by omega) k1); (try replace k2 := SN.has (by omega) k2); replace k3 := SN.new; replace GG := GG.store SN b3; clear SN; (try replace c0 := C0.out _ k2); (try simp only [Act.put, List.setIfInBounds_toArray, List.set_cons_zero, List.set_cons_succ])) | (refine wpList_value_d 22 rfl rfl (.agg (idA 0)) (run_build_0 rfl _) ?_; (try simp only [Act.put, List.setIfInBounds_toArray, List.set_cons_zero, List.set_cons_succ])) | (refine wpList_value_d 39 rfl rfl (.agg (idA 0)) (run_build_0 rfl _) ?_; (try simp only [Act.put, List.setIfInBounds_toArray, List.set_cons_zero, List.set_cons_succ])) | (refine wpList_next_over_d 11 rfl rfl _ rfl g3 rfl _ _ k3 (by decide) ?_; (try simp only [Act.put, List.setIfInBounds_toArray, List.set_cons_zero, List.set_cons_succ])) | (refine wpList_store_cell rfl rfl 5 _ _ rfl _ _ rfl _ _ rfl 23 _ k2 size5 ?_ _ rfl ?_; (simp only [idA_size]; omega); intro wN SN; (try replace k1 := SN.has (by omega) k1); (try replace k3 := SN.has (by omega) k3); replace k2 := SN.new; replace GG := GG.store SN b2; clear SN) | (refine wpList_store_agg rfl rfl 23 _ _ rfl _ rfl _ rfl 23 _ k1 (size23' _) (by simp only [idA_size]) (idA_one _) ?_; intro wN SN; (try replace k2 := SN.has (by omega) k2); (try replace k3 := SN.has (by omega) k3); replace k1 := SN.new; replace GG := GG.store SN b1; clear SN)))
  rw [ZB.out, Z0.out] at k2
  rw [rounds_succ]
  clear c0
  have c0 := C0.out _ k2
  go_wp2_with (first | (go_at_call 32; refine (digit_09 48 (by omega) (by omega) _).mono ?_; rintro e wN ⟨rfl, GN⟩; (try replace k1 := GN.has k1); (try replace k2 := GN.has k2); (try replace k3 := GN.has k3); (try replace c0 := C0.out _ k2); replace GG := GG.trans GN; clear GN) | (with_reducible refine wpList_at ?_; first | (refine wpList_next_d 11 rfl rfl _ rfl g3 rfl _ _ k3 (by decide) 48 1 rfl ?_; intro wN SN; (try replace k1 := SN.has (by omega) k1); (try replace k2 := SN.has (by omega) k2); replace k3 := SN.new; replace GG := GG.store SN b3; clear SN; (try replace c0 := C0.out _ k2); (try simp only [Act.put, List.setIfInBounds_toArray, List.set_cons_zero, List.set_cons_succ])) | (refine wpList_value_d 22 rfl rfl (.agg (idA 0)) (run_build_0 rfl _) ?_; (try simp only [Act.put, List.setIfInBounds_toArray, List.set_cons_zero, List.set_cons_succ])) | (refine wpList_value_d 39 rfl rfl (.agg (idA 0)) (run_build_0 rfl _) ?_; (try simp only [Act.put, List.setIfInBounds_toArray, List.set_cons_zero, List.set_cons_succ])) | (refine wpList_next_over_d 11 rfl rfl _ rfl g3 rfl _ _ k3 (by decide) ?_; (try simp only [Act.put, List.setIfInBounds_toArray, List.set_cons_zero, List.set_cons_succ])) | (refine wpList_store_cell rfl rfl 5 _ _ rfl _ _ rfl _ _ rfl 23 _ k2 size5 ?_ _ rfl ?_; (simp only [idA_size]; omega); intro wN SN; (try replace k1 := SN.has (by omega) k1); (try replace k3 := SN.has (by omega) k3); replace k2 := SN.new; replace GG := GG.store SN b2; clear SN) | (refine wpList_store_agg rfl rfl 23 _ _ rfl _ rfl _ rfl 23 _ k1 (size23' _) (by simp only [idA_size]) (idA_one _) ?_; intro wN SN; (try replace k2 := SN.has (by omega) k2); (try replace k3 := SN.has (by omega) k3); replace k1 := SN.new; replace GG := GG.store SN b1; clear SN)))
  rw [ZB.out, Z0.out] at k2
  rw [rounds_succ]
  go_wp2_with (first | (go_at_call 32; refine (digit_09 48 (by omega) (by omega) _).mono ?_; rintro e wN ⟨rfl, GN⟩; (try replace k1 := GN.has k1); (try replace k2 := GN.has k2); (try replace k3 := GN.has k3); (try replace c0 := C0.out _ k2); replace GG := GG.trans GN; clear GN) | (with_reducible refine wpList_at ?_; first | (refine wpList_next_d 11 rfl rfl _ rfl g3 rfl _ _ k3 (by decide) 48 1 rfl ?_; intro wN SN; (try replace k1 := SN.has (by omega) k1); (try replace k2 := SN.has (by omega) k2); replace k3 := SN.new; replace GG := GG.store SN b3; clear SN; (try replace c0 := C0.out _ k2); (try simp only [Act.put, List.setIfInBounds_toArray, List.set_cons_zero, List.set_cons_succ])) | (refine wpList_value_d 22 rfl rfl (.agg (idA 0)) (run_build_0 rfl _) ?_; (try simp only [Act.put, List.setIfInBounds_toArray, List.set_cons_zero, List.set_cons_succ])) | (refine wpList_value_d 39 rfl rfl (.agg (idA 0)) (run_build_0 rfl _) ?_; (try simp only [Act.put, List.setIfInBounds_toArray, List.set_cons_zero, List.set_cons_succ])) | (refine wpList_next_over_d 11 rfl rfl _ rfl g3 rfl _ _ k3 (by decide) ?_; (try simp only [Act.put, List.setIfInBounds_toArray, List.set_cons_zero, List.set_cons_succ])) | (refine wpList_store_cell rfl rfl 5 _ _ rfl _ _ rfl _ _ rfl 23 _ k2 size5 ?_ _ rfl ?_; (simp only [idA_size]; omega); intro wN SN; (try replace k1 := SN.has (by omega) k1); (try replace k3 := SN.has (by omega) k3); replace k2 := SN.new; replace GG := GG.store SN b2; clear SN) | (refine wpList_store_agg rfl rfl 23 _ _ rfl _ rfl _ rfl 23 _ k1 (size23' _) (by simp only [idA_size]) (idA_one _) ?_; intro wN SN; (try replace k2 := SN.has (by omega) k2); (try replace k3 := SN.has (by omega) k3); replace k1 := SN.new; replace GG := GG.store SN b1; clear SN)))
  exact bodyPost_ret (v := .tuple #[.agg (idA 0), .int .i64 3]) (results_cell_tmp Try.results24 _ _ g1 23 _ (0, 0) _ rfl _ rfl k1 Try.underlying23 rfl (size23' _)) rfl ⟨rfl, GG⟩
end Go.Proofs.Ytaeiphdbdmaapaa
