/- Walks: Parse at every text. -/
import Derived.Test.YtaeiphdbdmaapaaW15
namespace Go.Proofs.Ytaeiphdbdmaapaa
open Go.RowKit

theorem iterPos_of {w : World} {g p : Nat} {s : ByteArray} (h : w.heap[g]? = some (.stringIter s p)) : w.iterPos g = p := by simp [World.iterPos, h]
set_option maxHeartbeats 1600000 in
theorem parse_any (s : ByteArray) (w : World) : Calls Try.prog 24 #[.string s] w fun e w' => e = .returned (.tuple #[idV (resN s), .int .i64 (resE s)]) ∧ Gro w w' := by
  have GG : Gro w w := Gro.refl w
  unfold idV
  go_enter Try.func24, Try.ntmps24
  go_wp2_with (first | (with_reducible refine wpList_at ?_; first | (refine wpList_alloc_d 2 rfl rfl 23 rfl _ zero23 ?_; intro w1 g1 G1 e1 k1; have b1 := size_base GG e1; replace GG := GG.trans G1; clear G1 e1; (try simp only [Act.put, List.setIfInBounds_toArray, List.set_cons_zero, List.set_cons_succ])) | (refine wpList_alloc_d 4 rfl rfl 23 rfl _ zero23 ?_; intro w2 g2 G2 e2 k2; have b2 := size_base GG e2; (try have d12 := lt_new k1 e2); (try replace k1 := G2.has k1); replace GG := GG.trans G2; clear G2 e2; (try simp only [Act.put, List.setIfInBounds_toArray, List.set_cons_zero, List.set_cons_succ])) | (refine wpList_range_d 10 rfl rfl 9 _ rfl Try.underlying9 _ rfl ?_; intro w3 g3 G3 e3 k3; have b3 := size_base GG e3; have d13 := lt_new k1 e3; replace k1 := G3.has k1; have d23 := lt_new k2 e3; replace k2 := G3.has k2; replace GG := GG.trans G3; clear G3 e3; (try simp only [Act.put, List.setIfInBounds_toArray, List.set_cons_zero, List.set_cons_succ]))))
  go_loopw [] (fun wr => ∃ k : Nat, k ≤ 32 ∧ k ≤ s.size ∧ Hid (∀ i, i < k → isHex (bt s i) = true) ∧ Gro w wr ∧ wr.heap[g1]? = some (.cells (idA 0) 23 (0, 0)) ∧ wr.heap[g2]? = some (.cells (fA (pb s k)) 23 (0, 0)) ∧ wr.heap[g3]? = some (.stringIter s k)) (fun wr => 33 - wr.iterPos g3)
  case atStart => exact ⟨0, by omega, by omega, fun i hi => by omega, GG, k1, by rw [fA_zero]; exact k2, k3⟩
  case round =>
    rename_i wr
    clear k1 k2 k3 GG
    obtain ⟨k, hk, hsz, hall, GG, k1, k2, k3⟩ := hrel
    have P0 : Hid (wr.iterPos g3 = k) := iterPos_of k3
    cases hlt : decide (k < s.size)
    · have hks : ¬ k < s.size := by simpa using hlt
      have ek : k = s.size := by omega
      clear hlt
      cases h32 : decide ((s.size : Int) < 32)
      · have e32 : s.size = 32 := by simp at h32; omega
        obtain ⟨h1, h2⟩ := res_ok s e32 (by rw [← e32, ← ek]; exact hall.out)
        rw [ek, e32, h2] at k2
        have H1 : Hid (resE s = 0) := h1
        clear h1 h2 e32 hall
        go_wp2_with (first | (with_reducible refine wpList_at ?_; first | (refine wpList_next_over_d 11 rfl rfl _ rfl g3 rfl s k k3 hks ?_; (try simp only [Act.put, List.setIfInBounds_toArray, List.set_cons_zero, List.set_cons_succ])) | (refine wpList_load_row rfl 23 _ rfl g2 rfl 23 _ (0, 0) _ k2 Try.underlying23 rfl (size23' _) ?_; (try simp only [Act.put, List.setIfInBounds_toArray, List.set_cons_zero, List.set_cons_succ])) | (refine wpList_store_agg rfl rfl 23 _ _ rfl g1 rfl _ rfl 23 _ k1 (size23' _) (by simp only [idA_size]) (idA_one _) ?_; intro wN SN; replace k1 := SN.new; replace GG := GG.store SN b1; clear SN)))
        exact bodyPost_ret (v := .tuple #[.agg (idA (resN s)), .int .i64 0]) (results_cell_tmp Try.results24 _ _ g1 23 _ (0, 0) _ rfl _ rfl k1 Try.underlying23 rfl (size23' _)) rfl ⟨by rw [H1.out], GG⟩
      · obtain ⟨h1, h2⟩ := res_short s (by simp at h32; omega) (by rw [← ek]; exact hall.out)
        have H1 : Hid (resE s = 3) := h1
        have H2 : Hid (resN s = 0) := h2
        clear h1 h2 hall
        go_wp2_with (first | (with_reducible refine wpList_at ?_; first | (refine wpList_next_over_d 11 rfl rfl _ rfl g3 rfl s k k3 hks ?_; (try simp only [Act.put, List.setIfInBounds_toArray, List.set_cons_zero, List.set_cons_succ])) | (first | (refine wpList_value_d 22 rfl rfl (.agg (idA 0)) (run_build_0 rfl _) ?_; (try simp only [Act.put, List.setIfInBounds_toArray, List.set_cons_zero, List.set_cons_succ])) | (refine wpList_value_d 25 rfl rfl (.agg (idA 0)) (run_build_0 rfl _) ?_; (try simp only [Act.put, List.setIfInBounds_toArray, List.set_cons_zero, List.set_cons_succ])) | (refine wpList_value_d 39 rfl rfl (.agg (idA 0)) (run_build_0 rfl _) ?_; (try simp only [Act.put, List.setIfInBounds_toArray, List.set_cons_zero, List.set_cons_succ]))) | (refine wpList_store_agg rfl rfl 23 _ _ rfl _ rfl _ rfl 23 _ k1 (size23' _) (by simp only [idA_size]) (idA_one _) ?_; intro wN SN; (try replace k2 := SN.has (by omega) k2); (try replace k3 := SN.has (by omega) k3); replace k1 := SN.new; replace GG := GG.store SN b1; clear SN)))
        exact bodyPost_ret (v := .tuple #[.agg (idA 0), .int .i64 3]) (results_cell_tmp Try.results24 _ _ g1 23 _ (0, 0) _ rfl _ rfl k1 Try.underlying23 rfl (size23' _)) rfl ⟨by rw [H1.out, H2.out], GG⟩
    · have hks : k < s.size := by simpa using hlt
      clear hlt
      cases hx : isHex (bt s k)
      · obtain ⟨c, n, hdec, hc⟩ := dec_no s k hks hx
        obtain ⟨h1, h2⟩ := res_form s k hk hks hx
        have H1 : Hid (resE s = 2) := h1
        have H2 : Hid (resN s = 0) := h2
        clear h1 h2 hall hx
        go_wp2_with (first | (go_at_call 32; refine (digit_no c hc _).mono ?_; rintro e wN ⟨rfl, GN⟩; replace k1 := GN.has k1; replace k2 := GN.has k2; replace k3 := GN.has k3; replace GG := GG.trans GN; clear GN) | (with_reducible refine wpList_at ?_; first | (refine wpList_next_d 11 rfl rfl _ rfl g3 rfl s k k3 hks c n hdec ?_; intro wN SN; replace k1 := SN.has (by omega) k1; replace k2 := SN.has (by omega) k2; replace k3 := SN.new; replace GG := GG.store SN b3; clear SN; (try simp only [Act.put, List.setIfInBounds_toArray, List.set_cons_zero, List.set_cons_succ])) | (first | (refine wpList_value_d 22 rfl rfl (.agg (idA 0)) (run_build_0 rfl _) ?_; (try simp only [Act.put, List.setIfInBounds_toArray, List.set_cons_zero, List.set_cons_succ])) | (refine wpList_value_d 25 rfl rfl (.agg (idA 0)) (run_build_0 rfl _) ?_; (try simp only [Act.put, List.setIfInBounds_toArray, List.set_cons_zero, List.set_cons_succ])) | (refine wpList_value_d 39 rfl rfl (.agg (idA 0)) (run_build_0 rfl _) ?_; (try simp only [Act.put, List.setIfInBounds_toArray, List.set_cons_zero, List.set_cons_succ]))) | (refine wpList_store_agg rfl rfl 23 _ _ rfl _ rfl _ rfl 23 _ k1 (size23' _) (by simp only [idA_size]) (idA_one _) ?_; intro wN SN; (try replace k2 := SN.has (by omega) k2); (try replace k3 := SN.has (by omega) k3); replace k1 := SN.new; replace GG := GG.store SN b1; clear SN)))
        exact bodyPost_ret (v := .tuple #[.agg (idA 0), .int .i64 2]) (results_cell_tmp Try.results24 _ _ g1 23 _ (0, 0) _ rfl _ rfl k1 Try.underlying23 rfl (size23' _)) rfl ⟨by rw [H1.out, H2.out], GG⟩
      · obtain ⟨c, hcc⟩ : ∃ c, bt s k = c := ⟨_, rfl⟩
        obtain ⟨n, hnn⟩ : ∃ n, n = 1 := ⟨_, rfl⟩
        have hdec : Utf8.decode s k = (c, n) := by rw [← hcc, hnn]; exact dec_hex s k hks hx
        have hxc : isHex c = true := by rw [← hcc]; exact hx
        by_cases e32 : k = 32
        · subst e32
          obtain ⟨h1, h2⟩ := res_long s hks hall.out hx
          have H1 : Hid (resE s = 4) := h1
          have H2 : Hid (resN s = 0) := h2
          clear h1 h2 hall hx hcc hnn
          go_wp2_with (first | (go_at_call 32; refine (digit_hex c hxc _).mono ?_; rintro e wN ⟨rfl, GN⟩; replace k1 := GN.has k1; replace k2 := GN.has k2; replace k3 := GN.has k3; replace GG := GG.trans GN; clear GN) | (with_reducible refine wpList_at ?_; first | (refine wpList_next_d 11 rfl rfl _ rfl g3 rfl s 32 k3 hks c n hdec ?_; intro wN SN; replace k1 := SN.has (by omega) k1; replace k2 := SN.has (by omega) k2; replace k3 := SN.new; replace GG := GG.store SN b3; clear SN; (try simp only [Act.put, List.setIfInBounds_toArray, List.set_cons_zero, List.set_cons_succ])) | (first | (refine wpList_value_d 22 rfl rfl (.agg (idA 0)) (run_build_0 rfl _) ?_; (try simp only [Act.put, List.setIfInBounds_toArray, List.set_cons_zero, List.set_cons_succ])) | (refine wpList_value_d 25 rfl rfl (.agg (idA 0)) (run_build_0 rfl _) ?_; (try simp only [Act.put, List.setIfInBounds_toArray, List.set_cons_zero, List.set_cons_succ])) | (refine wpList_value_d 39 rfl rfl (.agg (idA 0)) (run_build_0 rfl _) ?_; (try simp only [Act.put, List.setIfInBounds_toArray, List.set_cons_zero, List.set_cons_succ]))) | (refine wpList_store_agg rfl rfl 23 _ _ rfl _ rfl _ rfl 23 _ k1 (size23' _) (by simp only [idA_size]) (idA_one _) ?_; intro wN SN; (try replace k2 := SN.has (by omega) k2); (try replace k3 := SN.has (by omega) k3); replace k1 := SN.new; replace GG := GG.store SN b1; clear SN)))
          exact bodyPost_ret (v := .tuple #[.agg (idA 0), .int .i64 4]) (results_cell_tmp Try.results24 _ _ g1 23 _ (0, 0) _ rfl _ rfl k1 Try.underlying23 rfl (size23' _)) rfl ⟨by rw [H1.out, H2.out], GG⟩
        · have hk32 : k < 32 := by omega
          have HX : Hid (isHex (bt s k) = true) := hx
          have hq := pb_half s k hall.out
          have hd := hexN_lt c hxc
          have HS : Hid ((fA (pb s k)).setIfInBounds (k / 2) (.int .u8 ((16 * pb s k (k / 2) + hexN c : Nat) : Int)) = fA (pb s (k + 1))) := by
            show _ = _
            rw [← hcc]; exact fA_step s k
          have HG : Hid ((fA (pb s k))[k / 2]? = some (.int .u8 (pb s k (k / 2) : Int))) := fA_get _ _ (by omega)
          have HN : Hid (n = 1) := hnn
          have HD : Hid (∀ w, Calls Try.prog 32 #[.int .i32 (c : Int)] w fun e w' => e = .returned (.tuple #[.int .u8 (hexN c : Int), .bool true]) ∧ Gro w w') := fun w => digit_hex c hxc w
          clear hx hcc hnn hxc
          generalize pb s k (k / 2) = X at *
          generalize hexN c = d at *
          go_wp2_with (first | (go_at_call 32; refine (HD.out _).mono ?_; rintro e wN ⟨rfl, GN⟩; replace k1 := GN.has k1; replace k2 := GN.has k2; replace k3 := GN.has k3; replace GG := GG.trans GN; clear GN) | (with_reducible refine wpList_at ?_; first | (refine wpList_next_d 11 rfl rfl _ rfl g3 rfl s k k3 hks c n hdec ?_; intro wN SN; replace k1 := SN.has (by omega) k1; replace k2 := SN.has (by omega) k2; replace k3 := SN.new; replace GG := GG.store SN b3; clear SN; (try simp only [Act.put, List.setIfInBounds_toArray, List.set_cons_zero, List.set_cons_succ])) | (refine wpList_value_d 27 rfl rfl (.int .i64 ((k / 2 : Nat) : Int)) (run_quo2 _ _ _ rfl k (by omega) rfl rfl _) ?_; (try simp only [Act.put, List.setIfInBounds_toArray, List.set_cons_zero, List.set_cons_succ])) | (refine wpList_value_d 29 rfl rfl (.int .i64 ((k / 2 : Nat) : Int)) (run_quo2 _ _ _ rfl k (by omega) rfl rfl _) ?_; (try simp only [Act.put, List.setIfInBounds_toArray, List.set_cons_zero, List.set_cons_succ])) | (refine wpList_value_d 30 rfl rfl (.pointer (some ⟨g2, k / 2, none⟩)) (run_byteAt _ _ rfl g2 (k / 2) (by omega) rfl rfl _) ?_; (try simp only [Act.put, List.setIfInBounds_toArray, List.set_cons_zero, List.set_cons_succ])) | (refine wpList_value_d 35 rfl rfl (.pointer (some ⟨g2, k / 2, none⟩)) (run_byteAt _ _ rfl g2 (k / 2) (by omega) rfl rfl _) ?_; (try simp only [Act.put, List.setIfInBounds_toArray, List.set_cons_zero, List.set_cons_succ])) | (refine wpList_value_d 31 rfl rfl (.int .u8 (X : Int)) (run_byteLoad _ rfl g2 (k / 2) rfl _ _ 23 _ k2 HG.out) ?_; (try simp only [Act.put, List.setIfInBounds_toArray, List.set_cons_zero, List.set_cons_succ])) | (refine wpList_value_d 32 rfl rfl (.int .u8 ((16 * X : Nat) : Int)) (run_shl4 _ _ _ rfl X hq rfl rfl _) ?_; (try simp only [Act.put, List.setIfInBounds_toArray, List.set_cons_zero, List.set_cons_succ])) | (refine wpList_value_d 34 rfl rfl (.int .u8 ((16 * X + d : Nat) : Int)) (run_or16 _ _ _ rfl X d hq hd rfl rfl _) ?_; (try simp only [Act.put, List.setIfInBounds_toArray, List.set_cons_zero, List.set_cons_succ])) | (refine wpList_store_cell rfl rfl 5 _ _ rfl g2 (k / 2) rfl _ _ rfl 23 _ k2 size5 (by rw [fA_size]; omega) _ rfl ?_; intro wN SN; replace k1 := SN.has (by omega) k1; replace k3 := SN.has (by omega) k3; replace k2 := SN.new; replace GG := GG.store SN b2; clear SN)))
          rw [HS.out] at k2
          rw [HN.out] at k3
          go_light
          go_roundw
          case rel => 
            refine ⟨k + 1, by omega, by omega, fun i hi => ?_, GG, k1, k2, k3⟩
            by_cases e : i = k
            · rw [e]; exact HX.out
            · exact hall.out i (by omega)
          case measure =>
            rw [iterPos_of k3, P0.out]
            omega
end Go.Proofs.Ytaeiphdbdmaapaa
