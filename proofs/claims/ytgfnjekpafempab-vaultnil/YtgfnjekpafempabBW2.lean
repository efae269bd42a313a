/- Walks. -/
import Derived.Test.YtgfnjekpafempabBBase
import Derived.Test.YtgfnjekpafempabBNum
namespace Go.Proofs.Ytgfnjekpafempab
open Go.RowKit
set_option maxHeartbeats 400000 in
theorem cmp_any (a b : Nat) (ha : a < top) (hb : b < top) (w : World) :
    Calls Try.prog 23 #[idV a, idV b] w fun e w' => e = .returned (.int .i64 (cmpN a b)) ∧ Gro w w' := by
  have HA : Hid (a < 256 ^ 16) := by rw [top_eq] at ha; exact ha
  have HB : Hid (b < 256 ^ 16) := by rw [top_eq] at hb; exact hb
  clear ha hb
  have GG : Gro w w := Gro.refl w
  unfold idV
  go_enter Try.func23, Try.ntmps23
  go_wp2_with (first | (refine wpList_box_d 2 rfl rfl 23 _ rfl _ rfl ?_; intro w1 g1 G1 e1 k1; have b1 := size_base GG e1; replace GG := GG.trans G1; clear G1 e1) | (refine wpList_box_d 3 rfl rfl 23 _ rfl _ rfl ?_; intro w2 g2 G2 e2 k2; have b2 := size_base GG e2; have d12 := lt_new k1 e2; replace k1 := G2.has k1; replace GG := GG.trans G2; clear G2 e2) | (refine wpList_load_row rfl 23 _ rfl _ rfl 23 _ (0, 0) _ (by first | exact k1 | exact k2) Try.underlying23 rfl (size23' _) ?_))
  go_loop [8] (fun i => ∃ k : Nat, k ≤ 16 ∧ i = .int .i64 k ∧ Hid (a / 256 ^ (16 - k) = b / 256 ^ (16 - k))) (fun i => 16 - (intOf i).toNat)
  case atStart => exact ⟨0, by omega, rfl, by show _ = _; rw [Nat.div_eq_of_lt HA.out, Nat.div_eq_of_lt HB.out]⟩
  case round =>
    obtain ⟨k, hk, rfl, HE⟩ := hrel
    cases hlt : decide ((k : Int) < 16)
    · have e16 : k = 16 := by simp at hlt; omega
      subst e16
      go_wp2
      go_ret
      exact ⟨ret_int (cmpN_eq (by simpa using HE.out)), GG⟩
    · have hk16 : k < 16 := by simp at hlt; omega
      have hi := run_index_id a k hk16
      have c2 : w2.cell? ⟨g2, k, none⟩ = some (.int .u8 (byt b k)) := by rw [cell_of_row w2 g2 k _ 23 _ k2]; exact idA_get b k hk16
      have HL : Hid (byt a k < byt b k → a < b) := lt_of_bytes hk16 HE.out
      have HG : Hid (byt b k < byt a k → b < a) := lt_of_bytes hk16 HE.out.symm
      have HQ : Hid (byt a k = byt b k → a / 256 ^ (16 - (k + 1)) = b / 256 ^ (16 - (k + 1))) := eq_step hk16 HE.out
      cases h1 : decide (byt a k < byt b k)
      all_goals cases h2 : decide (byt b k < byt a k)
      all_goals
        simp only [decide_eq_true_eq, decide_eq_false_iff_not] at h1 h2
      · go_wp2
        go_light
        go_round
        case rel => exact ⟨k + 1, by omega, by go_num, HQ.out (by omega)⟩
        case measure => simp [intOf]; omega
      · go_wp2
        go_ret
        exact ⟨ret_int (cmpN_gt (HG.out h2)), GG⟩
      · go_wp2
        go_ret
        exact ⟨ret_int (cmpN_lt (HL.out h1)), GG⟩
      · omega
end Go.Proofs.Ytgfnjekpafempab
