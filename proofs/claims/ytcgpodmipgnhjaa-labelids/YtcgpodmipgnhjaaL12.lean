/- Labels: the document's identity. -/
import Derived.Test.YtcgpodmipgnhjaaL11
namespace Go.Proofs.Ytcgpodmipgnhjaa
open Go.RowKit

theorem run_quoN {o : Oper} {A : Act} (x y : Operand) (t2 : TypeId) (ho : o.op = .binOp .quo 41 x y t2) (n d : Nat) (hd : 0 < d) (hn : n < half) (hx : A.eval x = .int .u64 (n : Int)) (hy : A.eval y = .int .u64 (d : Int)) (w : World) : (execOp A.eval o).run Try.prog w = .ok (.value (.int .u64 ((n / d : Nat) : Int))) w := by
  refine run_binop .quo 41 x y t2 ho _ _ _ hx hy (by simp [eqGuard]) ?_
  have e : Int.tdiv (n : Int) (d : Int) = ((n / d : Nat) : Int) := by
    rw [Int.tdiv_eq_ediv_of_nonneg (by omega)]; rfl
  have e2 := wrap_u64 (n / d) (Nat.lt_of_le_of_lt (Nat.div_le_self _ _) hn)
  have e3 : ¬ (d : Int) = 0 := by omega
  have e4 : ¬ d = 0 := by omega
  generalize ((n / d : Nat) : Int) = q at *
  simp [go_sem, e, e2, e4]
theorem run_remN {o : Oper} {A : Act} (x y : Operand) (t2 : TypeId) (ho : o.op = .binOp .rem 41 x y t2) (n : Nat) (hx : A.eval x = .int .u64 (n : Int)) (hy : A.eval y = .int .u64 256) (w : World) : (execOp A.eval o).run Try.prog w = .ok (.value (.int .u64 ((n % 256 : Nat) : Int))) w := by
  refine run_binop .rem 41 x y t2 ho _ _ _ hx hy (by simp [eqGuard]) ?_
  have e : Int.tmod (n : Int) 256 = ((n % 256 : Nat) : Int) := by
    rw [Int.tmod_eq_emod_of_nonneg (by omega)]; omega
  generalize ((n % 256 : Nat) : Int) = q at *
  simp [go_sem, e]
theorem run_low2 {o : Oper} {A : Act} (x : Operand) (ho : o.op = .convert 41 5 x) (n : Nat) (hx : A.eval x = .int .u64 ((n % 256 : Nat) : Int)) (w : World) : (execOp A.eval o).run Try.prog w = .ok (.value (.int .u8 ((n % 256 : Nat) : Int))) w := by
  have := run_low x ho (n % 256) hx w
  rw [Nat.mod_mod] at this
  exact this
theorem run_add8b {o : Oper} {A : Act} (x y : Operand) (t2 : TypeId) (ho : o.op = .binOp .add 3 x y t2) (j : Nat) (hj : j < 8) (hx : A.eval x = .int .i64 8) (hy : A.eval y = .int .i64 (j : Int)) (w : World) : (execOp A.eval o).run Try.prog w = .ok (.value (.int .i64 ((8 + j : Nat) : Int))) w := by
  refine run_binop .add 3 x y t2 ho _ _ _ hx hy (by simp [eqGuard]) ?_
  have h := wrap_in (8 + (j : Int)) (by omega) (by omega)
  have e : 8 + (j : Int) = ((8 + j : Nat) : Int) := by omega
  rw [e] at h
  generalize ((8 + j : Nat) : Int) = q at *
  simp [go_sem, e, h]

set_option maxHeartbeats 3200000 in
theorem reflabid_any (s : ByteArray) (w : World) : Calls Try.prog 16 #[.string s] w fun e w' => e = .returned (.tuple #[idV (idN s), .int .i64 (labE s)]) ∧ Gro w w' := by
  have GG : Gro w w := Gro.refl w
  have HI : Shut (idN s = if labE s = 0 then (stirL (labL s)).1 * half + (stirL (labL s)).2 else 0) := ⟨rfl⟩
  have HN : Shut (labE s = 0 → labL s ≠ []) := ⟨labL_ne s⟩
  have HM : Shut (∀ r ∈ labL s, r ≤ 2147483647) := ⟨labL_le s⟩
  unfold idV
  go_enter Try.func16, Try.ntmps16
  go_wp2_with (first | (with_reducible refine wpList_at ?_; first | (refine wpList_alloc_d 2 rfl rfl 32 rfl _ zero23 ?_; intro w1 g1 G1 e1 k1; have b1 := size_base GG e1; replace GG := GG.trans G1; clear G1 e1; (try simp only [Act.put, List.setIfInBounds_toArray, List.set_cons_zero, List.set_cons_succ]))))
  refine (refrunes_any s _).mono ?_
  rintro e wN ⟨v, rfl, hR, GN⟩
  replace k1 := GN.has k1
  replace GG := GG.trans GN
  clear GN
  obtain ⟨f, hf⟩ : ∃ f, labE s = f := ⟨_, rfl⟩
  obtain ⟨l, hl⟩ : ∃ l, labL s = l := ⟨_, rfl⟩
  have hlen := labL_len s
  have HE : Shut (labE s = f) := ⟨hf⟩
  rw [hf, hl] at HI HN
  rw [hl] at HM hR hlen
  try rw [hf]
  clear hf hl
  by_cases h0 : f = 0
  · subst h0
    have hne := HN.out rfl
    have HI2 : Shut (idN s = (stirL l).1 * half + (stirL l).2) := ⟨by rw [HI.out, if_pos rfl]⟩
    clear HI HN
    rcases hR.out with ⟨_, h1⟩ | ⟨g, cap, cs, rfl, k3, hcs⟩
    · exact absurd h1 hne
    · have HC : Shut (∀ j, j < l.length → cs[j]? = some (.int .i32 (l.getD j 0 : Int))) := ⟨hcs⟩
      have dg : g1 ≠ g := fun e => by rw [e, k3] at k1; simp at k1
      clear hcs hR hne
      go_wp2_with (first | (with_reducible refine wpList_at ?_; first | (refine wpList_alloc_d 6 rfl rfl 32 rfl _ zero23 ?_; intro w2 g2 G2 e2 k2; have b2 := size_base GG e2; (try have d12 := lt_new k1 e2); (try replace k1 := G2.has k1); (try have d32 := lt_new k3 e2); (try replace k3 := G2.has k3); replace GG := GG.trans G2; clear G2 e2; (try simp only [Act.put, List.setIfInBounds_toArray, List.set_cons_zero, List.set_cons_succ]))))
      have G0 := GG
      obtain ⟨w0, hw0⟩ : ∃ w0, w0 = w2 := ⟨_, rfl⟩
      clear GG
      go_loopw [7, 8, 9] (fun p q i wr => ∃ k : Nat, k ≤ l.length ∧ i = .int .i64 k ∧ p = .int .u64 ((stirL (l.take k)).1 : Int) ∧ q = .int .u64 ((stirL (l.take k)).2 : Int) ∧ Gro w2 wr) (fun _ _ i _ => l.length - (intOf i).toNat)
      case atStart => exact ⟨0, by omega, rfl, rfl, rfl, Gro.refl _⟩
      case round =>
        rename_i wr
        obtain ⟨k, hk, rfl, rfl, rfl, GG⟩ := hrel
        replace k1 := GG.has k1
        replace k2 := GG.has k2
        replace k3 := GG.has k3
        have GR := GG
        replace GG := G0.trans GG
        cases hlt : decide ((k : Int) < (l.length : Int))
        · have ek : k = l.length := by simp at hlt; omega
          have hb := stirL_lt l l.length (Nat.le_refl _)
          have et : l.take k = l := by rw [ek, List.take_length]
          rw [List.take_length] at hb
          rw [et]
          obtain ⟨x, hx⟩ : ∃ x, (stirL l).1 = x := ⟨_, rfl⟩
          obtain ⟨y, hy⟩ : ∃ y, (stirL l).2 = y := ⟨_, rfl⟩
          rw [hx, hy] at hb HI2 ⊢
          have HX : Shut (x < half) := ⟨hb.1⟩
          have HY : Shut (y < half) := ⟨hb.2⟩
          clear hx hy hb et HM HC
          go_wp2
          go_loopw [7, 8, 10] (fun p q i wr => ∃ k : Nat, ((k = 0 ∧ i = .int .i64 (-1)) ∨ (∃ j : Nat, j < 8 ∧ k = j + 1 ∧ i = .int .i64 j)) ∧ p = .int .u64 ((x / 256 ^ (8 - k) : Nat) : Int) ∧ q = .int .u64 ((y / 256 ^ (8 - k) : Nat) : Int) ∧ Gro w wr ∧ wr.heap[g1]? = some (.cells (idA 0) 32 (0, 0)) ∧ wr.heap[g2]? = some (.cells (idA (twoN x y k)) 32 (0, 0))) (fun _ _ i _ => (intOf i + 1).toNat)
          case atStart => exact ⟨8, Or.inr ⟨7, by omega, rfl, rfl⟩, by simp, by simp, GG, k1, by rw [k2, twoN_8]⟩
          case round =>
            rename_i wr3
            clear k1 k2 GG k3
            obtain ⟨k', hk', rfl, rfl, GG, k1, k2⟩ := hrel
            rcases hk' with ⟨rfl, rfl⟩ | ⟨j, hj, rfl, rfl⟩
            · rw [twoN_0 x y HX.out HY.out, ← HI2.out] at k2
              generalize x / 256 ^ (8 - 0) = X at *
              generalize y / 256 ^ (8 - 0) = Y at *
              go_wp2_with (first | (with_reducible refine wpList_at ?_; first | (refine wpList_load_row rfl 32 _ rfl g2 rfl 32 _ (0, 0) _ k2 Try.underlying32 rfl (size23' _) ?_; (try simp only [Act.put, List.setIfInBounds_toArray, List.set_cons_zero, List.set_cons_succ])) | (refine wpList_store_agg rfl rfl 32 _ _ rfl g1 rfl _ rfl 32 _ k1 (size23' _) (by simp only [idA_size]) (idA_one _) ?_; intro wN SN; replace k1 := SN.new; replace GG := GG.store SN b1; clear SN)))
              exact bodyPost_ret (v := .tuple #[.agg (idA (idN s)), .int .i64 0]) (results_cell_tmp Try.results16 _ _ g1 32 _ (0, 0) _ rfl _ rfl k1 Try.underlying32 rfl (size23' _)) rfl ⟨by rw [HE.out], GG⟩
            · have HS : Shut (((idA (twoN x y (j + 1))).setIfInBounds j (.int .u8 ((x / 256 ^ (7 - j) % 256 : Nat) : Int))).setIfInBounds (8 + j) (.int .u8 ((y / 256 ^ (7 - j) % 256 : Nat) : Int)) = idA (twoN x y j)) := ⟨set_two x y j hj⟩
              have e1 : 8 - (j + 1) = 7 - j := by omega
              rw [e1]
              have ex : Shut (x / 256 ^ (8 - j) = x / 256 ^ (7 - j) / 256) := by
                constructor
                have : 8 - j = (7 - j) + 1 := by omega
                rw [this, Nat.pow_succ, Nat.div_div_eq_div_mul]
              have ey : Shut (y / 256 ^ (8 - j) = y / 256 ^ (7 - j) / 256) := by
                constructor
                have : 8 - j = (7 - j) + 1 := by omega
                rw [this, Nat.pow_succ, Nat.div_div_eq_div_mul]
              have BX : Shut (x / 256 ^ (7 - j) < half) := ⟨Nat.lt_of_le_of_lt (Nat.div_le_self _ _) HX.out⟩
              have BY : Shut (y / 256 ^ (7 - j) < half) := ⟨Nat.lt_of_le_of_lt (Nat.div_le_self _ _) HY.out⟩
              generalize twoN x y (j + 1) = N at *
              generalize x / 256 ^ (7 - j) = X at *
              generalize y / 256 ^ (7 - j) = Y at *
              clear e1
              go_wp2_with (first | (with_reducible refine wpList_at ?_; first | (refine wpList_value_d 48 rfl rfl (.int .i64 ((8 + j : Nat) : Int)) (run_add8b _ _ _ rfl j hj rfl rfl _) ?_; (try simp only [Act.put, List.setIfInBounds_toArray, List.set_cons_zero, List.set_cons_succ])) | (refine wpList_value_d 50 rfl rfl (.int .u64 ((X % 256 : Nat) : Int)) (run_remN _ _ _ rfl X rfl rfl _) ?_; (try simp only [Act.put, List.setIfInBounds_toArray, List.set_cons_zero, List.set_cons_succ])) | (refine wpList_value_d 53 rfl rfl (.int .u64 ((Y % 256 : Nat) : Int)) (run_remN _ _ _ rfl Y rfl rfl _) ?_; (try simp only [Act.put, List.setIfInBounds_toArray, List.set_cons_zero, List.set_cons_succ])) | (refine wpList_value_d 51 rfl rfl (.int .u8 ((X % 256 : Nat) : Int)) (run_low2 _ rfl X rfl _) ?_; (try simp only [Act.put, List.setIfInBounds_toArray, List.set_cons_zero, List.set_cons_succ])) | (refine wpList_value_d 54 rfl rfl (.int .u8 ((Y % 256 : Nat) : Int)) (run_low2 _ rfl Y rfl _) ?_; (try simp only [Act.put, List.setIfInBounds_toArray, List.set_cons_zero, List.set_cons_succ])) | (refine wpList_value_d 55 rfl rfl (.pointer (some ⟨g2, j, none⟩)) (run_byteAt _ _ rfl g2 j (by omega) rfl rfl _) ?_; (try simp only [Act.put, List.setIfInBounds_toArray, List.set_cons_zero, List.set_cons_succ])) | (refine wpList_value_d 56 rfl rfl (.pointer (some ⟨g2, 8 + j, none⟩)) (run_byteAt _ _ rfl g2 (8 + j) (by omega) rfl rfl _) ?_; (try simp only [Act.put, List.setIfInBounds_toArray, List.set_cons_zero, List.set_cons_succ])) | (refine wpList_store_cell rfl rfl 5 _ _ rfl g2 j rfl _ _ rfl 32 _ k2 size5 (by simp only [Array.size_setIfInBounds, idA_size]; omega) _ rfl ?_; intro wN SN; replace k1 := SN.has (by omega) k1; replace k2 := SN.new; replace GG := GG.store SN b2; clear SN) | (refine wpList_store_cell rfl rfl 5 _ _ rfl g2 (8 + j) rfl _ _ rfl 32 _ k2 size5 (by simp only [Array.size_setIfInBounds, idA_size]; omega) _ rfl ?_; intro wN SN; replace k1 := SN.has (by omega) k1; replace k2 := SN.new; replace GG := GG.store SN b2; clear SN) | (refine wpList_value_d 58 rfl rfl (.int .u64 ((X / 256 : Nat) : Int)) (run_quoN _ _ _ rfl X 256 (by omega) BX.out rfl rfl _) ?_; (try simp only [Act.put, List.setIfInBounds_toArray, List.set_cons_zero, List.set_cons_succ])) | (refine wpList_value_d 60 rfl rfl (.int .u64 ((Y / 256 : Nat) : Int)) (run_quoN _ _ _ rfl Y 256 (by omega) BY.out rfl rfl _) ?_; (try simp only [Act.put, List.setIfInBounds_toArray, List.set_cons_zero, List.set_cons_succ]))))
              rw [HS.out] at k2
              go_light
              go_roundw
              case rel =>
                refine ⟨j, ?_, by rw [ex.out], by rw [ey.out], GG, k1, k2⟩
                by_cases h0 : j = 0
                · subst h0; exact Or.inl ⟨rfl, rfl⟩
                · exact Or.inr ⟨j - 1, by omega, by omega, by go_num⟩
              case measure => simp [intOf]
        · have hkl : k < l.length := by simp at hlt; omega
          have hcl := HM.out _ (getD_mem l k hkl)
          have HS : Shut (stirL (l.take (k + 1)) = stir (stirL (l.take k)) (l.getD k 0)) := ⟨stirL_step l k hkl⟩
          have HG : Shut (cs[k]? = some (.int .i32 (l.getD k 0 : Int))) := ⟨HC.out k hkl⟩
          obtain ⟨P, hP⟩ : ∃ P, stirL (l.take k) = P := ⟨_, rfl⟩
          rw [hP] at HS ⊢
          obtain ⟨X, Y⟩ := P
          generalize l.getD k 0 = c at *
          clear hP
          go_wp2_with (first | (with_reducible refine wpList_at ?_; first | (refine wpList_value_d 29 rfl rfl (.pointer (some ⟨g, k, none⟩)) (run_runeAt _ _ rfl g _ _ k hkl rfl rfl _) ?_; (try simp only [Act.put, List.setIfInBounds_toArray, List.set_cons_zero, List.set_cons_succ])) | (refine wpList_value_d 30 rfl rfl (.int .i32 (c : Int)) (run_runeLoad _ rfl g k rfl _ _ 21 _ k3 HG.out) ?_; (try simp only [Act.put, List.setIfInBounds_toArray, List.set_cons_zero, List.set_cons_succ])) | (refine wpList_value_d 31 rfl rfl (.int .u64 (c : Int)) (run_conv64 _ rfl c hcl rfl _) ?_; (try simp only [Act.put, List.setIfInBounds_toArray, List.set_cons_zero, List.set_cons_succ])) | (refine wpList_value_d 32 rfl rfl (.int .u64 (xorN X c : Int)) (run_xor _ _ _ rfl X c rfl rfl _) ?_; (try simp only [Act.put, List.setIfInBounds_toArray, List.set_cons_zero, List.set_cons_succ])) | (refine wpList_value_d 33 rfl rfl (.int .u64 (mulN (xorN X c) 14029467366897019727 : Int)) (run_mulc _ _ _ rfl (xorN X c) 14029467366897019727 rfl rfl _) ?_; (try simp only [Act.put, List.setIfInBounds_toArray, List.set_cons_zero, List.set_cons_succ])) | (refine wpList_value_d 36 rfl rfl (.int .u64 (plusN Y (mulN (xorN X c) 14029467366897019727) : Int)) (run_plus _ _ _ rfl Y (mulN (xorN X c) 14029467366897019727) rfl rfl _) ?_; (try simp only [Act.put, List.setIfInBounds_toArray, List.set_cons_zero, List.set_cons_succ])) | (refine wpList_value_d 37 rfl rfl (.int .u64 (mulN (plusN Y (mulN (xorN X c) 14029467366897019727)) 11400714819323198485 : Int)) (run_mulc _ _ _ rfl (plusN Y (mulN (xorN X c) 14029467366897019727)) 11400714819323198485 rfl rfl _) ?_; (try simp only [Act.put, List.setIfInBounds_toArray, List.set_cons_zero, List.set_cons_succ])) | (refine wpList_value_d 40 rfl rfl (.int .u64 ((mulN (plusN Y (mulN (xorN X c) 14029467366897019727)) 11400714819323198485 / 536870912 : Nat) : Int)) (run_quoN _ _ _ rfl (mulN (plusN Y (mulN (xorN X c) 14029467366897019727)) 11400714819323198485) 536870912 (by omega) (mulN_spec _ _).2 rfl rfl _) ?_; (try simp only [Act.put, List.setIfInBounds_toArray, List.set_cons_zero, List.set_cons_succ])) | (refine wpList_value_d 41 rfl rfl (.int .u64 (xorN (mulN (xorN X c) 14029467366897019727) (mulN (plusN Y (mulN (xorN X c) 14029467366897019727)) 11400714819323198485 / 536870912) : Int)) (run_xor _ _ _ rfl (mulN (xorN X c) 14029467366897019727) (mulN (plusN Y (mulN (xorN X c) 14029467366897019727)) 11400714819323198485 / 536870912) rfl rfl _) ?_; (try simp only [Act.put, List.setIfInBounds_toArray, List.set_cons_zero, List.set_cons_succ]))))
          go_light
          go_roundw
          case rel =>
            exact ⟨k + 1, by omega, by go_num, by rw [HS.out]; rfl, by rw [HS.out]; rfl, GR⟩
          case measure => simp [intOf]; omega
  · have H2 : Shut (idN s = 0) := ⟨by rw [HI.out, if_neg h0]⟩
    clear HI HN
    go_wp2_with (first | (with_reducible refine wpList_at ?_; first | (refine wpList_alloc_d 6 rfl rfl 32 rfl _ zero23 ?_; intro w2 g2 G2 e2 k2; have b2 := size_base GG e2; (try have d12 := lt_new k1 e2); (try replace k1 := G2.has k1); replace GG := GG.trans G2; clear G2 e2; (try simp only [Act.put, List.setIfInBounds_toArray, List.set_cons_zero, List.set_cons_succ])) | (refine wpList_load_row rfl 32 _ rfl g2 rfl 32 _ (0, 0) _ k2 Try.underlying32 rfl (size23' _) ?_; (try simp only [Act.put, List.setIfInBounds_toArray, List.set_cons_zero, List.set_cons_succ])) | (refine wpList_store_agg rfl rfl 32 _ _ rfl g1 rfl _ rfl 32 _ k1 (size23' _) (by simp only [idA_size]) (idA_one _) ?_; intro wN SN; replace k1 := SN.new; replace GG := GG.store SN b1; clear SN)))
    exact bodyPost_ret (v := .tuple #[.agg (idA 0), .int .i64 f]) (results_cell_tmp Try.results16 _ _ g1 32 _ (0, 0) _ rfl _ rfl k1 Try.underlying32 rfl (size23' _)) rfl ⟨by rw [H2.out, HE.out], GG⟩

set_option maxHeartbeats 800000 in
theorem ids_any (s : ByteArray) (w : World) : Calls Try.prog 4 #[.string s] w fun e w' => e = .returned (.bool true) ∧ Gro w w' := by
  have GG : Gro w w := Gro.refl w
  have hid := idN_lt s
  obtain ⟨n, hn⟩ : ∃ n, idN s = n := ⟨_, rfl⟩
  obtain ⟨f, hf⟩ : ∃ f, labE s = f := ⟨_, rfl⟩
  rw [hn] at hid
  have H3 : Shut (∀ w, Calls Try.prog 15 #[.string s] w fun e w' => e = .returned (.tuple #[idV n, .int .i64 f]) ∧ Gro w w') := ⟨fun w => val_of (labid_any s w) (tup2 (congrArg _ hn) (congrArg _ hf))⟩
  have H4 : Shut (∀ w, Calls Try.prog 16 #[.string s] w fun e w' => e = .returned (.tuple #[idV n, .int .i64 f]) ∧ Gro w w') := ⟨fun w => val_of (reflabid_any s w) (tup2 (congrArg _ hn) (congrArg _ hf))⟩
  clear hn hf
  unfold idV at H3 H4
  go_enter Try.func4, Try.ntmps4
  go_wp2_with fail
  refine (H3.out _).mono ?_
  rintro e wN ⟨rfl, GN⟩
  replace GG := GG.trans GN
  clear GN
  go_wp2_with (first | (with_reducible refine wpList_at ?_; first | (refine wpList_alloc_d 3 rfl rfl 32 rfl _ zero23 ?_; intro w1 g1 G1 e1 k1; have b1 := size_base GG e1; replace GG := GG.trans G1; clear G1 e1; (try simp only [Act.put, List.setIfInBounds_toArray, List.set_cons_zero, List.set_cons_succ])) | (refine wpList_store_agg rfl rfl 32 _ _ rfl _ rfl _ rfl 32 _ k1 (size23' _) (by simp only [idA_size]) (idA_one _) ?_; intro wN SN; replace k1 := SN.new; replace GG := GG.store SN b1; clear SN)))
  refine (H4.out _).mono ?_
  rintro e wN ⟨rfl, GN⟩
  replace k1 := GN.has k1
  replace GG := GG.trans GN
  clear GN
  go_wp2_with (first | (with_reducible refine wpList_at ?_; first | (refine wpList_alloc_d 5 rfl rfl 32 rfl _ zero23 ?_; intro w2 g2 G2 e2 k2; have b2 := size_base GG e2; (try have d12 := lt_new k1 e2); (try replace k1 := G2.has k1); replace GG := GG.trans G2; clear G2 e2; (try simp only [Act.put, List.setIfInBounds_toArray, List.set_cons_zero, List.set_cons_succ])) | (refine wpList_store_agg rfl rfl 32 _ _ rfl _ rfl _ rfl 32 _ k2 (size23' _) (by simp only [idA_size]) (idA_one _) ?_; intro wN SN; (try replace k1 := SN.has (by omega) k1); replace k2 := SN.new; replace GG := GG.store SN b2; clear SN)))
  refine (fixed_any _).mono ?_
  rintro e wN ⟨rfl, GN⟩
  replace k1 := GN.has k1
  replace k2 := GN.has k2
  replace GG := GG.trans GN
  clear GN
  go_wp2_with (first | (with_reducible refine wpList_at ?_; first | (first | (refine wl_load_id rfl _ rfl g1 rfl _ k1 ?_; (try simp only [Act.put, List.setIfInBounds_toArray, List.set_cons_zero, List.set_cons_succ])) | (refine wl_load_id rfl _ rfl g2 rfl _ k2 ?_; (try simp only [Act.put, List.setIfInBounds_toArray, List.set_cons_zero, List.set_cons_succ]))) | (refine wl_eql_id rfl _ _ _ rfl n n rfl rfl hid hid true (decide_eq_true rfl) ?_; (try simp only [Act.put, List.setIfInBounds_toArray, List.set_cons_zero, List.set_cons_succ]))))
  go_ret
  exact ⟨rfl, GG⟩
end Go.Proofs.Ytcgpodmipgnhjaa
