/- Walks: the document's reading at every text. -/
import Derived.Test.YtaeiphdbdmaapaaW18a
namespace Go.Proofs.Ytaeiphdbdmaapaa
open Go.RowKit

set_option maxHeartbeats 12000000 in
theorem refparse_any (s : ByteArray) (hmax : s.size ≤ 9223372036854775807) (w : World) : Calls Try.prog 25 #[.string s] w fun e w' => e = .returned (.tuple #[idV (resN s), .int .i64 (resE s)]) ∧ Gro w w' := by
  have GG : Gro w w := Gro.refl w
  unfold idV
  go_enter Try.func25, Try.ntmps25
  go_wp2_with (first | (with_reducible refine wpList_at ?_; first | (refine wpList_alloc_d 2 rfl rfl 23 rfl _ zero23 ?_; intro w1 g1 G1 e1 k1; have b1 := size_base GG e1; replace GG := GG.trans G1; clear G1 e1; (try simp only [Act.put, List.setIfInBounds_toArray, List.set_cons_zero, List.set_cons_succ])) | (refine wpList_alloc_d 4 rfl rfl 23 rfl _ zero23 ?_; intro w2 g2 G2 e2 k2; have b2 := size_base GG e2; (try have d12 := lt_new k1 e2); (try replace k1 := G2.has k1); replace GG := GG.trans G2; clear G2 e2; (try simp only [Act.put, List.setIfInBounds_toArray, List.set_cons_zero, List.set_cons_succ]))))
  go_loopw [5] (fun i wr => ∃ k : Nat, k ≤ 32 ∧ k ≤ s.size ∧ i = .int .i64 k ∧ Hid (∀ i, i < k → isHex (bt s i) = true) ∧ Gro w wr ∧ wr.heap[g1]? = some (.cells (idA 0) 23 (0, 0)) ∧ wr.heap[g2]? = some (.cells (fA (pb s k)) 23 (0, 0))) (fun i wr => 33 - (intOf i).toNat)
  case atStart => exact ⟨0, by omega, by omega, rfl, fun i hi => by omega, GG, k1, by rw [fA_zero]; exact k2⟩
  case round =>
    rename_i wr
    clear k1 k2 GG
    obtain ⟨k, hk, hsz, rfl, hall, GG, k1, k2⟩ := hrel
    cases hlt : decide ((k : Int) < (s.size : Int))
    · have hks : ¬ k < s.size := by simpa using hlt
      have ek : k = s.size := by omega
      cases h32 : decide ((s.size : Int) < 32)
      · have e32 : s.size = 32 := by simp at h32; omega
        obtain ⟨h1, h2⟩ := res_ok s e32 (by rw [← e32, ← ek]; exact hall.out)
        rw [ek, e32, h2] at k2
        have H1 : Hid (resE s = 0) := h1
        clear h1 h2 e32 hall
        go_wp2_with (first | (with_reducible refine wpList_at ?_; first | (refine wpList_load_row rfl 23 _ rfl g2 rfl 23 _ (0, 0) _ k2 Try.underlying23 rfl (size23' _) ?_; (try simp only [Act.put, List.setIfInBounds_toArray, List.set_cons_zero, List.set_cons_succ])) | (refine wpList_store_agg rfl rfl 23 _ _ rfl g1 rfl _ rfl 23 _ k1 (size23' _) (by simp only [idA_size]) (idA_one _) ?_; intro wN SN; replace k1 := SN.new; replace GG := GG.store SN b1; clear SN)))
        exact bodyPost_ret (v := .tuple #[.agg (idA (resN s)), .int .i64 0]) (results_cell_tmp Try.results25 _ _ g1 23 _ (0, 0) _ rfl _ rfl k1 Try.underlying23 rfl (size23' _)) rfl ⟨by rw [H1.out], GG⟩
      · obtain ⟨h1, h2⟩ := res_short s (by simp at h32; omega) (by rw [← ek]; exact hall.out)
        have H1 : Hid (resE s = 3) := h1
        have H2 : Hid (resN s = 0) := h2
        clear h1 h2 hall
        go_wp2_with (first | (with_reducible refine wpList_at ?_; first | (first | (refine wpList_value_d 18 rfl rfl (.agg (idA 0)) (run_build_0 rfl _) ?_; (try simp only [Act.put, List.setIfInBounds_toArray, List.set_cons_zero, List.set_cons_succ])) | (refine wpList_value_d 39 rfl rfl (.agg (idA 0)) (run_build_0 rfl _) ?_; (try simp only [Act.put, List.setIfInBounds_toArray, List.set_cons_zero, List.set_cons_succ])) | (refine wpList_value_d 54 rfl rfl (.agg (idA 0)) (run_build_0 rfl _) ?_; (try simp only [Act.put, List.setIfInBounds_toArray, List.set_cons_zero, List.set_cons_succ]))) | (refine wpList_store_agg rfl rfl 23 _ _ rfl _ rfl _ rfl 23 _ k1 (size23' _) (by simp only [idA_size]) (idA_one _) ?_; intro wN SN; (try replace k2 := SN.has (by omega) k2); replace k1 := SN.new; replace GG := GG.store SN b1; clear SN)))
        exact bodyPost_ret (v := .tuple #[.agg (idA 0), .int .i64 3]) (results_cell_tmp Try.results25 _ _ g1 23 _ (0, 0) _ rfl _ rfl k1 Try.underlying23 rfl (size23' _)) rfl ⟨by rw [H1.out, H2.out], GG⟩
    · have hks : k < s.size := by simpa using hlt
      obtain ⟨c, hc0⟩ : ∃ c, bt s k = c := ⟨_, rfl⟩
      have hc8 : c < 256 := by rw [← hc0]; exact bt_lt s k
      have hcc : Hid (bt s k = c) := hc0
      cases hx : isHex (bt s k)
      · obtain ⟨h1, h2⟩ := res_form s k hk hks hx
        have H1 : Hid (resE s = 2) := h1
        have H2 : Hid (resN s = 0) := h2
        have hn : c < 48 ∨ (57 < c ∧ c < 97) ∨ 102 < c := by
          rw [hc0] at hx
          have h3 : ¬ ((48 ≤ c ∧ c ≤ 57) ∨ (97 ≤ c ∧ c ≤ 102)) := fun h => by rw [(isHex_iff c).2 h] at hx; cases hx
          omega
        clear h1 h2 hall hx hc0
        rcases hn with hn | ⟨hn, hn'⟩ | hn
        · go_wp2_with (first | (with_reducible refine wpList_at ?_; first | (refine wpList_value_d 16 rfl rfl (.int .u8 (c : Int)) (run_strAt_c _ _ rfl s k c hks hcc rfl rfl _) ?_; (try simp only [Act.put, List.setIfInBounds_toArray, List.set_cons_zero, List.set_cons_succ])) | (refine wpList_value_d 17 rfl rfl (.int .i64 (c : Int)) (run_conv53 _ rfl c hc8 rfl _) ?_; (try simp only [Act.put, List.setIfInBounds_toArray, List.set_cons_zero, List.set_cons_succ])) | (first | (refine wpList_value_d 18 rfl rfl (.agg (idA 0)) (run_build_0 rfl _) ?_; (try simp only [Act.put, List.setIfInBounds_toArray, List.set_cons_zero, List.set_cons_succ])) | (refine wpList_value_d 39 rfl rfl (.agg (idA 0)) (run_build_0 rfl _) ?_; (try simp only [Act.put, List.setIfInBounds_toArray, List.set_cons_zero, List.set_cons_succ])) | (refine wpList_value_d 54 rfl rfl (.agg (idA 0)) (run_build_0 rfl _) ?_; (try simp only [Act.put, List.setIfInBounds_toArray, List.set_cons_zero, List.set_cons_succ]))) | (refine wpList_store_agg rfl rfl 23 _ _ rfl _ rfl _ rfl 23 _ k1 (size23' _) (by simp only [idA_size]) (idA_one _) ?_; intro wN SN; (try replace k2 := SN.has (by omega) k2); replace k1 := SN.new; replace GG := GG.store SN b1; clear SN)))
          exact bodyPost_ret (v := .tuple #[.agg (idA 0), .int .i64 2]) (results_cell_tmp Try.results25 _ _ g1 23 _ (0, 0) _ rfl _ rfl k1 Try.underlying23 rfl (size23' _)) rfl ⟨by rw [H1.out, H2.out], GG⟩
        · go_wp2_with (first | (with_reducible refine wpList_at ?_; first | (refine wpList_value_d 16 rfl rfl (.int .u8 (c : Int)) (run_strAt_c _ _ rfl s k c hks hcc rfl rfl _) ?_; (try simp only [Act.put, List.setIfInBounds_toArray, List.set_cons_zero, List.set_cons_succ])) | (refine wpList_value_d 17 rfl rfl (.int .i64 (c : Int)) (run_conv53 _ rfl c hc8 rfl _) ?_; (try simp only [Act.put, List.setIfInBounds_toArray, List.set_cons_zero, List.set_cons_succ])) | (first | (refine wpList_value_d 18 rfl rfl (.agg (idA 0)) (run_build_0 rfl _) ?_; (try simp only [Act.put, List.setIfInBounds_toArray, List.set_cons_zero, List.set_cons_succ])) | (refine wpList_value_d 39 rfl rfl (.agg (idA 0)) (run_build_0 rfl _) ?_; (try simp only [Act.put, List.setIfInBounds_toArray, List.set_cons_zero, List.set_cons_succ])) | (refine wpList_value_d 54 rfl rfl (.agg (idA 0)) (run_build_0 rfl _) ?_; (try simp only [Act.put, List.setIfInBounds_toArray, List.set_cons_zero, List.set_cons_succ]))) | (refine wpList_store_agg rfl rfl 23 _ _ rfl _ rfl _ rfl 23 _ k1 (size23' _) (by simp only [idA_size]) (idA_one _) ?_; intro wN SN; (try replace k2 := SN.has (by omega) k2); replace k1 := SN.new; replace GG := GG.store SN b1; clear SN)))
          exact bodyPost_ret (v := .tuple #[.agg (idA 0), .int .i64 2]) (results_cell_tmp Try.results25 _ _ g1 23 _ (0, 0) _ rfl _ rfl k1 Try.underlying23 rfl (size23' _)) rfl ⟨by rw [H1.out, H2.out], GG⟩
        · go_wp2_with (first | (with_reducible refine wpList_at ?_; first | (refine wpList_value_d 16 rfl rfl (.int .u8 (c : Int)) (run_strAt_c _ _ rfl s k c hks hcc rfl rfl _) ?_; (try simp only [Act.put, List.setIfInBounds_toArray, List.set_cons_zero, List.set_cons_succ])) | (refine wpList_value_d 17 rfl rfl (.int .i64 (c : Int)) (run_conv53 _ rfl c hc8 rfl _) ?_; (try simp only [Act.put, List.setIfInBounds_toArray, List.set_cons_zero, List.set_cons_succ])) | (first | (refine wpList_value_d 18 rfl rfl (.agg (idA 0)) (run_build_0 rfl _) ?_; (try simp only [Act.put, List.setIfInBounds_toArray, List.set_cons_zero, List.set_cons_succ])) | (refine wpList_value_d 39 rfl rfl (.agg (idA 0)) (run_build_0 rfl _) ?_; (try simp only [Act.put, List.setIfInBounds_toArray, List.set_cons_zero, List.set_cons_succ])) | (refine wpList_value_d 54 rfl rfl (.agg (idA 0)) (run_build_0 rfl _) ?_; (try simp only [Act.put, List.setIfInBounds_toArray, List.set_cons_zero, List.set_cons_succ]))) | (refine wpList_store_agg rfl rfl 23 _ _ rfl _ rfl _ rfl 23 _ k1 (size23' _) (by simp only [idA_size]) (idA_one _) ?_; intro wN SN; (try replace k2 := SN.has (by omega) k2); replace k1 := SN.new; replace GG := GG.store SN b1; clear SN)))
          exact bodyPost_ret (v := .tuple #[.agg (idA 0), .int .i64 2]) (results_cell_tmp Try.results25 _ _ g1 23 _ (0, 0) _ rfl _ rfl k1 Try.underlying23 rfl (size23' _)) rfl ⟨by rw [H1.out, H2.out], GG⟩
      · have hxc : isHex c = true := by rw [← hc0]; exact hx
        by_cases e32 : k = 32
        · subst e32
          obtain ⟨h1, h2⟩ := res_long s hks hall.out hx
          have H1 : Hid (resE s = 4) := h1
          have H2 : Hid (resN s = 0) := h2
          have hcs := (isHex_iff c).1 hxc
          clear h1 h2 hall hx hc0 hxc
          rcases hcs with ⟨hca, hcb⟩ | ⟨hca, hcb⟩
          · obtain ⟨d, hd0, hd1⟩ : ∃ d, d < 256 ∧ Hid (c = 48 + d) := ⟨c - 48, by omega, (by omega : c = 48 + (c - 48))⟩
            go_wp2_with (first | (with_reducible refine wpList_at ?_; first | (refine wpList_value_d 16 rfl rfl (.int .u8 (c : Int)) (run_strAt_c _ _ rfl s 32 c hks hcc rfl rfl _) ?_; (try simp only [Act.put, List.setIfInBounds_toArray, List.set_cons_zero, List.set_cons_succ])) | (refine wpList_value_d 17 rfl rfl (.int .i64 (c : Int)) (run_conv53 _ rfl c hc8 rfl _) ?_; (try simp only [Act.put, List.setIfInBounds_toArray, List.set_cons_zero, List.set_cons_succ])) | (refine wpList_value_d 27 rfl rfl (.int .i64 (d : Int)) (run_subc _ _ _ rfl c 48 d hd1.out (by omega) rfl rfl _) ?_; (try simp only [Act.put, List.setIfInBounds_toArray, List.set_cons_zero, List.set_cons_succ])) | (first | (refine wpList_value_d 18 rfl rfl (.agg (idA 0)) (run_build_0 rfl _) ?_; (try simp only [Act.put, List.setIfInBounds_toArray, List.set_cons_zero, List.set_cons_succ])) | (refine wpList_value_d 39 rfl rfl (.agg (idA 0)) (run_build_0 rfl _) ?_; (try simp only [Act.put, List.setIfInBounds_toArray, List.set_cons_zero, List.set_cons_succ])) | (refine wpList_value_d 54 rfl rfl (.agg (idA 0)) (run_build_0 rfl _) ?_; (try simp only [Act.put, List.setIfInBounds_toArray, List.set_cons_zero, List.set_cons_succ]))) | (refine wpList_store_agg rfl rfl 23 _ _ rfl _ rfl _ rfl 23 _ k1 (size23' _) (by simp only [idA_size]) (idA_one _) ?_; intro wN SN; (try replace k2 := SN.has (by omega) k2); replace k1 := SN.new; replace GG := GG.store SN b1; clear SN)))
            exact bodyPost_ret (v := .tuple #[.agg (idA 0), .int .i64 4]) (results_cell_tmp Try.results25 _ _ g1 23 _ (0, 0) _ rfl _ rfl k1 Try.underlying23 rfl (size23' _)) rfl ⟨by rw [H1.out, H2.out], GG⟩
          · obtain ⟨d, hd0, hd1⟩ : ∃ d, d < 256 ∧ Hid (c = 87 + d) := ⟨c - 87, by omega, (by omega : c = 87 + (c - 87))⟩
            go_wp2_with (first | (with_reducible refine wpList_at ?_; first | (refine wpList_value_d 16 rfl rfl (.int .u8 (c : Int)) (run_strAt_c _ _ rfl s 32 c hks hcc rfl rfl _) ?_; (try simp only [Act.put, List.setIfInBounds_toArray, List.set_cons_zero, List.set_cons_succ])) | (refine wpList_value_d 17 rfl rfl (.int .i64 (c : Int)) (run_conv53 _ rfl c hc8 rfl _) ?_; (try simp only [Act.put, List.setIfInBounds_toArray, List.set_cons_zero, List.set_cons_succ])) | (refine wpList_value_d 36 rfl rfl (.int .i64 (d : Int)) (run_subc _ _ _ rfl c 87 d hd1.out (by omega) rfl rfl _) ?_; (try simp only [Act.put, List.setIfInBounds_toArray, List.set_cons_zero, List.set_cons_succ])) | (first | (refine wpList_value_d 18 rfl rfl (.agg (idA 0)) (run_build_0 rfl _) ?_; (try simp only [Act.put, List.setIfInBounds_toArray, List.set_cons_zero, List.set_cons_succ])) | (refine wpList_value_d 39 rfl rfl (.agg (idA 0)) (run_build_0 rfl _) ?_; (try simp only [Act.put, List.setIfInBounds_toArray, List.set_cons_zero, List.set_cons_succ])) | (refine wpList_value_d 54 rfl rfl (.agg (idA 0)) (run_build_0 rfl _) ?_; (try simp only [Act.put, List.setIfInBounds_toArray, List.set_cons_zero, List.set_cons_succ]))) | (refine wpList_store_agg rfl rfl 23 _ _ rfl _ rfl _ rfl 23 _ k1 (size23' _) (by simp only [idA_size]) (idA_one _) ?_; intro wN SN; (try replace k2 := SN.has (by omega) k2); replace k1 := SN.new; replace GG := GG.store SN b1; clear SN)))
            exact bodyPost_ret (v := .tuple #[.agg (idA 0), .int .i64 4]) (results_cell_tmp Try.results25 _ _ g1 23 _ (0, 0) _ rfl _ rfl k1 Try.underlying23 rfl (size23' _)) rfl ⟨by rw [H1.out, H2.out], GG⟩
        · have hk32 : k < 32 := by omega
          have HX : Hid (isHex (bt s k) = true) := hx
          have hq := pb_half s k hall.out
          have hcs := (isHex_iff c).1 hxc
          clear hx hc0
          rcases hcs with ⟨hca, hcb⟩ | ⟨hca, hcb⟩
          · have hd := hexN_lt c hxc
            have HS : Shut ((fA (pb s k)).setIfInBounds (k / 2) (.int .u8 ((16 * pb s k (k / 2) + hexN c : Nat) : Int)) = fA (pb s (k + 1))) := by
              constructor
              rw [← hcc.out]; exact fA_step s k
            have HG : Shut ((fA (pb s k))[k / 2]? = some (.int .u8 (pb s k (k / 2) : Int))) := ⟨fA_get _ _ (by omega)⟩
            have hd1 : Hid (c = 48 + hexN c) := by
              show _ = _
              unfold hexN; split <;> omega
            clear hxc
            generalize pb s k (k / 2) = X at *
            generalize hexN c = d at *
            go_wp2_with (first | (with_reducible refine wpList_at ?_; first | (refine wpList_value_d 16 rfl rfl (.int .u8 (c : Int)) (run_strAt_c _ _ rfl s k c hks hcc rfl rfl _) ?_; (try simp only [Act.put, List.setIfInBounds_toArray, List.set_cons_zero, List.set_cons_succ])) | (refine wpList_value_d 17 rfl rfl (.int .i64 (c : Int)) (run_conv53 _ rfl c hc8 rfl _) ?_; (try simp only [Act.put, List.setIfInBounds_toArray, List.set_cons_zero, List.set_cons_succ])) | (refine wpList_value_d 27 rfl rfl (.int .i64 (d : Int)) (run_subc _ _ _ rfl c 48 d hd1.out (by omega) rfl rfl _) ?_; (try simp only [Act.put, List.setIfInBounds_toArray, List.set_cons_zero, List.set_cons_succ])) | (refine wpList_value_d 36 rfl rfl (.int .i64 (d : Int)) (run_subc _ _ _ rfl c 87 d hd1.out (by omega) rfl rfl _) ?_; (try simp only [Act.put, List.setIfInBounds_toArray, List.set_cons_zero, List.set_cons_succ])) | (refine wpList_value_d 41 rfl rfl (.int .i64 ((k / 2 : Nat) : Int)) (run_quo2 _ _ _ rfl k (by omega) rfl rfl _) ?_; (try simp only [Act.put, List.setIfInBounds_toArray, List.set_cons_zero, List.set_cons_succ])) | (refine wpList_value_d 43 rfl rfl (.int .i64 ((k / 2 : Nat) : Int)) (run_quo2 _ _ _ rfl k (by omega) rfl rfl _) ?_; (try simp only [Act.put, List.setIfInBounds_toArray, List.set_cons_zero, List.set_cons_succ])) | (refine wpList_value_d 44 rfl rfl (.pointer (some ⟨g2, k / 2, none⟩)) (run_byteAt _ _ rfl g2 (k / 2) (by omega) rfl rfl _) ?_; (try simp only [Act.put, List.setIfInBounds_toArray, List.set_cons_zero, List.set_cons_succ])) | (refine wpList_value_d 50 rfl rfl (.pointer (some ⟨g2, k / 2, none⟩)) (run_byteAt _ _ rfl g2 (k / 2) (by omega) rfl rfl _) ?_; (try simp only [Act.put, List.setIfInBounds_toArray, List.set_cons_zero, List.set_cons_succ])) | (refine wpList_value_d 45 rfl rfl (.int .u8 (X : Int)) (run_byteLoad _ rfl g2 (k / 2) rfl _ _ 23 _ k2 HG.out) ?_; (try simp only [Act.put, List.setIfInBounds_toArray, List.set_cons_zero, List.set_cons_succ])) | (refine wpList_value_d 46 rfl rfl (.int .u8 ((16 * X : Nat) : Int)) (run_mul16 _ _ _ rfl X hq rfl rfl _) ?_; (try simp only [Act.put, List.setIfInBounds_toArray, List.set_cons_zero, List.set_cons_succ])) | (refine wpList_value_d 48 rfl rfl (.int .u8 (d : Int)) (run_conv35 _ rfl d (by omega) rfl _) ?_; (try simp only [Act.put, List.setIfInBounds_toArray, List.set_cons_zero, List.set_cons_succ])) | (refine wpList_value_d 49 rfl rfl (.int .u8 ((16 * X + d : Nat) : Int)) (run_add16 _ _ _ rfl X d hq hd rfl rfl _) ?_; (try simp only [Act.put, List.setIfInBounds_toArray, List.set_cons_zero, List.set_cons_succ])) | (refine wpList_store_cell rfl rfl 5 _ _ rfl g2 (k / 2) rfl _ _ rfl 23 _ k2 size5 (by rw [fA_size]; omega) _ rfl ?_; intro wN SN; replace k1 := SN.has (by omega) k1; replace k2 := SN.new; replace GG := GG.store SN b2; clear SN)))
            rw [HS.out] at k2
            go_light
            go_roundw
            case rel =>
              refine ⟨k + 1, by omega, by omega, by go_num, fun i hi => ?_, GG, k1, k2⟩
              by_cases e : i = k
              · rw [e]; exact HX.out
              · exact hall.out i (by omega)
            case measure => simp [intOf]; omega
          · have hd := hexN_lt c hxc
            have HS : Shut ((fA (pb s k)).setIfInBounds (k / 2) (.int .u8 ((16 * pb s k (k / 2) + hexN c : Nat) : Int)) = fA (pb s (k + 1))) := by
              constructor
              rw [← hcc.out]; exact fA_step s k
            have HG : Shut ((fA (pb s k))[k / 2]? = some (.int .u8 (pb s k (k / 2) : Int))) := ⟨fA_get _ _ (by omega)⟩
            have hd1 : Hid (c = 87 + hexN c) := by
              show _ = _
              unfold hexN; split <;> omega
            clear hxc
            generalize pb s k (k / 2) = X at *
            generalize hexN c = d at *
            go_wp2_with (first | (with_reducible refine wpList_at ?_; first | (refine wpList_value_d 16 rfl rfl (.int .u8 (c : Int)) (run_strAt_c _ _ rfl s k c hks hcc rfl rfl _) ?_; (try simp only [Act.put, List.setIfInBounds_toArray, List.set_cons_zero, List.set_cons_succ])) | (refine wpList_value_d 17 rfl rfl (.int .i64 (c : Int)) (run_conv53 _ rfl c hc8 rfl _) ?_; (try simp only [Act.put, List.setIfInBounds_toArray, List.set_cons_zero, List.set_cons_succ])) | (refine wpList_value_d 27 rfl rfl (.int .i64 (d : Int)) (run_subc _ _ _ rfl c 48 d hd1.out (by omega) rfl rfl _) ?_; (try simp only [Act.put, List.setIfInBounds_toArray, List.set_cons_zero, List.set_cons_succ])) | (refine wpList_value_d 36 rfl rfl (.int .i64 (d : Int)) (run_subc _ _ _ rfl c 87 d hd1.out (by omega) rfl rfl _) ?_; (try simp only [Act.put, List.setIfInBounds_toArray, List.set_cons_zero, List.set_cons_succ])) | (refine wpList_value_d 41 rfl rfl (.int .i64 ((k / 2 : Nat) : Int)) (run_quo2 _ _ _ rfl k (by omega) rfl rfl _) ?_; (try simp only [Act.put, List.setIfInBounds_toArray, List.set_cons_zero, List.set_cons_succ])) | (refine wpList_value_d 43 rfl rfl (.int .i64 ((k / 2 : Nat) : Int)) (run_quo2 _ _ _ rfl k (by omega) rfl rfl _) ?_; (try simp only [Act.put, List.setIfInBounds_toArray, List.set_cons_zero, List.set_cons_succ])) | (refine wpList_value_d 44 rfl rfl (.pointer (some ⟨g2, k / 2, none⟩)) (run_byteAt _ _ rfl g2 (k / 2) (by omega) rfl rfl _) ?_; (try simp only [Act.put, List.setIfInBounds_toArray, List.set_cons_zero, List.set_cons_succ])) | (refine wpList_value_d 50 rfl rfl (.pointer (some ⟨g2, k / 2, none⟩)) (run_byteAt _ _ rfl g2 (k / 2) (by omega) rfl rfl _) ?_; (try simp only [Act.put, List.setIfInBounds_toArray, List.set_cons_zero, List.set_cons_succ])) | (refine wpList_value_d 45 rfl rfl (.int .u8 (X : Int)) (run_byteLoad _ rfl g2 (k / 2) rfl _ _ 23 _ k2 HG.out) ?_; (try simp only [Act.put, List.setIfInBounds_toArray, List.set_cons_zero, List.set_cons_succ])) | (refine wpList_value_d 46 rfl rfl (.int .u8 ((16 * X : Nat) : Int)) (run_mul16 _ _ _ rfl X hq rfl rfl _) ?_; (try simp only [Act.put, List.setIfInBounds_toArray, List.set_cons_zero, List.set_cons_succ])) | (refine wpList_value_d 48 rfl rfl (.int .u8 (d : Int)) (run_conv35 _ rfl d (by omega) rfl _) ?_; (try simp only [Act.put, List.setIfInBounds_toArray, List.set_cons_zero, List.set_cons_succ])) | (refine wpList_value_d 49 rfl rfl (.int .u8 ((16 * X + d : Nat) : Int)) (run_add16 _ _ _ rfl X d hq hd rfl rfl _) ?_; (try simp only [Act.put, List.setIfInBounds_toArray, List.set_cons_zero, List.set_cons_succ])) | (refine wpList_store_cell rfl rfl 5 _ _ rfl g2 (k / 2) rfl _ _ rfl 23 _ k2 size5 (by rw [fA_size]; omega) _ rfl ?_; intro wN SN; replace k1 := SN.has (by omega) k1; replace k2 := SN.new; replace GG := GG.store SN b2; clear SN)))
            rw [HS.out] at k2
            go_light
            go_roundw
            case rel =>
              refine ⟨k + 1, by omega, by omega, by go_num, fun i hi => ?_, GG, k1, k2⟩
              by_cases e : i = k
              · rw [e]; exact HX.out
              · exact hall.out i (by omega)
            case measure => simp [intOf]; omega
end Go.Proofs.Ytaeiphdbdmaapaa
