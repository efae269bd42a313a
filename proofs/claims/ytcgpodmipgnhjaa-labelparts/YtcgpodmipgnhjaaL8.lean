/- Labels: identities. -/
import Derived.Test.YtcgpodmipgnhjaaL7
import Derived.Test.YtcgpodmipgnhjaaNum2
import Derived.OpenShut
namespace Go.Proofs.Ytcgpodmipgnhjaa
open Go.RowKit

theorem wrap_u64 (n : Nat) (h : n < half) : IntKind.u64.wrap (n : Int) = n := by
  unfold half at h
  simp [IntKind.wrap, IntKind.bits, IntKind.signed]
  omega
theorem run_byteAt {o : Oper} {A : Act} (x y : Operand) (ho : o.op = .indexAddr 32 x y) (g j : Nat) (hj : j < 16) (hx : A.eval x = .pointer (some ⟨g, 0, none⟩)) (hy : A.eval y = .int .i64 (j : Int)) (w : World) : (execOp A.eval o).run Try.prog w = .ok (.value (.pointer (some ⟨g, j, none⟩))) w := by
  have h : (Instr.indexAt 32 (.pointer (some ⟨g, 0, none⟩)) (.int .i64 (j : Int))).run Try.prog w = .ok (.pointer (some ⟨g, j, none⟩)) w := by
    simp only [Instr.indexAt, Sem.run_bind]
    simp [Instr.sureAddr, asIntOf, Addr.add]
    rw [if_pos (by omega)]
    by_cases e : j = 0
    · subst e; rfl
    · rw [if_neg e]
  unfold execOp
  simp only [ho, hx, hy, Sem.run_bind, h, Result.andThen_ok, Sem.run_pure]
theorem run_add8 {o : Oper} {A : Act} (x y : Operand) (t2 : TypeId) (ho : o.op = .binOp .add 3 x y t2) (j : Nat) (hj : j < 8) (hx : A.eval x = .int .i64 (j : Int)) (hy : A.eval y = .int .i64 8) (w : World) : (execOp A.eval o).run Try.prog w = .ok (.value (.int .i64 ((8 + j : Nat) : Int))) w := by
  refine run_binop .add 3 x y t2 ho _ _ _ hx hy (by simp [eqGuard]) ?_
  have h := wrap_in ((j : Int) + 8) (by omega) (by omega)
  have e : (j : Int) + 8 = ((8 + j : Nat) : Int) := by omega
  rw [e] at h
  generalize ((8 + j : Nat) : Int) = q at *
  simp [go_sem, e, h]
theorem wrap_u8 (n : Nat) : IntKind.u8.wrap (n : Int) = ((n % 256 : Nat) : Int) := by
  simp [IntKind.wrap, IntKind.bits, IntKind.signed]
theorem run_low {o : Oper} {A : Act} (x : Operand) (ho : o.op = .convert 41 5 x) (n : Nat) (hx : A.eval x = .int .u64 (n : Int)) (w : World) : (execOp A.eval o).run Try.prog w = .ok (.value (.int .u8 ((n % 256 : Nat) : Int))) w := by
  refine run_conv_op x ho _ hx _ ?_
  have h := wrap_u8 n
  generalize ((n % 256 : Nat) : Int) = q at *
  simp [go_sem, h]
theorem run_shr8 {o : Oper} {A : Act} (x y : Operand) (t2 : TypeId) (ho : o.op = .binOp .shr 41 x y t2) (n : Nat) (hx : A.eval x = .int .u64 (n : Int)) (hy : A.eval y = .int .u64 8) (w : World) : (execOp A.eval o).run Try.prog w = .ok (.value (.int .u64 ((n / 256 : Nat) : Int))) w := by
  refine run_binop .shr 41 x y t2 ho _ _ _ hx hy (by simp [eqGuard]) ?_
  simp [go_sem]

set_option maxHeartbeats 800000 in
theorem joined_any (x y : Nat) (hx : x < half) (hy : y < half) (w : World) : Calls Try.prog 21 #[.int .u64 (x : Int), .int .u64 (y : Int)] w fun e w' => e = .returned (idV (x * half + y)) ∧ Gro w w' := by
  have HX : Hid (x < half) := hx
  have HY : Hid (y < half) := hy
  clear hx hy
  have GG : Gro w w := Gro.refl w
  unfold idV
  go_enter Try.func21, Try.ntmps21
  go_wp2_with (first | (with_reducible refine wpList_at ?_; first | (refine wpList_alloc_d 4 rfl rfl 32 rfl _ zero23 ?_; intro w1 g1 G1 e1 k1; have b1 := size_base GG e1; replace GG := GG.trans G1; clear G1 e1; (try simp only [Act.put, List.setIfInBounds_toArray, List.set_cons_zero, List.set_cons_succ])) | (refine wpList_alloc_d 5 rfl rfl 32 rfl _ zero23 ?_; intro w2 g2 G2 e2 k2; have b2 := size_base GG e2; (try have d12 := lt_new k1 e2); (try replace k1 := G2.has k1); replace GG := GG.trans G2; clear G2 e2; (try simp only [Act.put, List.setIfInBounds_toArray, List.set_cons_zero, List.set_cons_succ]))))
  go_loopw [0, 1, 6] (fun p q i wr => ∃ k : Nat, ((k = 0 ∧ i = .int .i64 (-1)) ∨ (∃ j : Nat, j < 8 ∧ k = j + 1 ∧ i = .int .i64 j)) ∧ p = .int .u64 ((x / 256 ^ (8 - k) : Nat) : Int) ∧ q = .int .u64 ((y / 256 ^ (8 - k) : Nat) : Int) ∧ Gro w wr ∧ wr.heap[g1]? = some (.cells (idA 0) 32 (0, 0)) ∧ wr.heap[g2]? = some (.cells (idA (twoN x y k)) 32 (0, 0))) (fun _ _ i _ => (intOf i + 1).toNat)
  case atStart => exact ⟨8, Or.inr ⟨7, by omega, rfl, rfl⟩, by simp, by simp, GG, k1, by rw [k2, twoN_8]⟩
  case round =>
    rename_i wr
    clear k1 k2 GG
    obtain ⟨k, hk, rfl, rfl, GG, k1, k2⟩ := hrel
    rcases hk with ⟨rfl, rfl⟩ | ⟨j, hj, rfl, rfl⟩
    · rw [twoN_0 x y HX.out HY.out] at k2
      generalize x / 256 ^ (8 - 0) = X at *
      generalize y / 256 ^ (8 - 0) = Y at *
      go_wp2_with (first | (with_reducible refine wpList_at ?_; first | (refine wpList_load_row rfl 32 _ rfl g2 rfl 32 _ (0, 0) _ k2 Try.underlying32 rfl (size23' _) ?_; (try simp only [Act.put, List.setIfInBounds_toArray, List.set_cons_zero, List.set_cons_succ])) | (refine wpList_store_agg rfl rfl 32 _ _ rfl g1 rfl _ rfl 32 _ k1 (size23' _) (by simp only [idA_size]) (idA_one _) ?_; intro wN SN; replace k1 := SN.new; replace GG := GG.store SN b1; clear SN)))
      exact bodyPost_ret (v := .agg (idA (x * half + y))) (results_cell_row Try.results21 _ _ g1 32 _ (0, 0) _ rfl k1 Try.underlying32 rfl (size23' _)) rfl ⟨rfl, GG⟩
    · have HS : Shut (((idA (twoN x y (j + 1))).setIfInBounds j (.int .u8 ((x / 256 ^ (7 - j) % 256 : Nat) : Int))).setIfInBounds (8 + j) (.int .u8 ((y / 256 ^ (7 - j) % 256 : Nat) : Int)) = idA (twoN x y j)) := ⟨set_two x y j hj⟩
      have e1 : 8 - (j + 1) = 7 - j := by omega
      rw [e1]
      have ex : Shut (x / 256 ^ (8 - j) = x / 256 ^ (7 - j) / 256) := by
        constructor
        have : 8 - j = (7 - j) + 1 := by omega
        rw [this, Nat.pow_succ, Nat.div_div_eq_div_mul]
      have ey : Shut (y / 256 ^ (8 - j) = y / 256 ^ (7 - j) / 256) := by
        constructor
        have : 8 - j = (7 - j) + 1 := by omega
        rw [this, Nat.pow_succ, Nat.div_div_eq_div_mul]
      generalize twoN x y (j + 1) = N at *
      generalize x / 256 ^ (7 - j) = X at *
      generalize y / 256 ^ (7 - j) = Y at *
      clear e1
      go_wp2_with (first | (with_reducible refine wpList_at ?_; first | (refine wpList_value_d 13 rfl rfl (.int .i64 ((8 + j : Nat) : Int)) (run_add8 _ _ _ rfl j hj rfl rfl _) ?_; (try simp only [Act.put, List.setIfInBounds_toArray, List.set_cons_zero, List.set_cons_succ])) | (refine wpList_value_d 15 rfl rfl (.int .u8 ((X % 256 : Nat) : Int)) (run_low _ rfl X rfl _) ?_; (try simp only [Act.put, List.setIfInBounds_toArray, List.set_cons_zero, List.set_cons_succ])) | (refine wpList_value_d 17 rfl rfl (.int .u8 ((Y % 256 : Nat) : Int)) (run_low _ rfl Y rfl _) ?_; (try simp only [Act.put, List.setIfInBounds_toArray, List.set_cons_zero, List.set_cons_succ])) | (refine wpList_value_d 18 rfl rfl (.pointer (some ⟨g2, j, none⟩)) (run_byteAt _ _ rfl g2 j (by omega) rfl rfl _) ?_; (try simp only [Act.put, List.setIfInBounds_toArray, List.set_cons_zero, List.set_cons_succ])) | (refine wpList_value_d 19 rfl rfl (.pointer (some ⟨g2, 8 + j, none⟩)) (run_byteAt _ _ rfl g2 (8 + j) (by omega) rfl rfl _) ?_; (try simp only [Act.put, List.setIfInBounds_toArray, List.set_cons_zero, List.set_cons_succ])) | (refine wpList_store_cell rfl rfl 5 _ _ rfl g2 j rfl _ _ rfl 32 _ k2 size5 (by simp only [Array.size_setIfInBounds, idA_size]; omega) _ rfl ?_; intro wN SN; replace k1 := SN.has (by omega) k1; replace k2 := SN.new; replace GG := GG.store SN b2; clear SN) | (refine wpList_store_cell rfl rfl 5 _ _ rfl g2 (8 + j) rfl _ _ rfl 32 _ k2 size5 (by simp only [Array.size_setIfInBounds, idA_size]; omega) _ rfl ?_; intro wN SN; replace k1 := SN.has (by omega) k1; replace k2 := SN.new; replace GG := GG.store SN b2; clear SN) | (refine wpList_value_d 21 rfl rfl (.int .u64 ((X / 256 : Nat) : Int)) (run_shr8 _ _ _ rfl X rfl rfl _) ?_; (try simp only [Act.put, List.setIfInBounds_toArray, List.set_cons_zero, List.set_cons_succ])) | (refine wpList_value_d 23 rfl rfl (.int .u64 ((Y / 256 : Nat) : Int)) (run_shr8 _ _ _ rfl Y rfl rfl _) ?_; (try simp only [Act.put, List.setIfInBounds_toArray, List.set_cons_zero, List.set_cons_succ]))))
      rw [HS.out] at k2
      go_light
      go_roundw
      case rel =>
        refine ⟨j, ?_, by rw [ex.out], by rw [ey.out], GG, k1, k2⟩
        by_cases h0 : j = 0
        · subst h0; exact Or.inl ⟨rfl, rfl⟩
        · exact Or.inr ⟨j - 1, by omega, by omega, by go_num⟩
      case measure => simp [intOf]
end Go.Proofs.Ytcgpodmipgnhjaa
