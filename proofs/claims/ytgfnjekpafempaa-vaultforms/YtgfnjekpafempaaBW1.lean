/- Walks. -/
import Derived.Test.YtgfnjekpafempaaBBase
import Derived.Test.YtgfnjekpafempaaBNum2
namespace Go.Proofs.Ytgfnjekpafempaa
open Go.RowKit
set_option maxHeartbeats 400000 in
theorem wide_any (a : Nat) (ha : a < top) (w : World) :
    Calls Try.prog 57 #[idV a] w fun e w' => e = .returned (.tuple #[.int .u64 (hiN a 8), .int .u64 (loN a 8)]) ∧ Gro w w' := by
  have HA : Hid (a < top) := ha
  clear ha
  unfold idV
  go_enter Try.func57, Try.ntmps57
  go_wp2_with (refine wpList_box_agg rfl 52 _ rfl _ rfl ?_; intro w1 g1 G1 e1 h1)
  clear e1
  go_loop [4, 5, 6] (fun hi lo i => ∃ k : Nat, k ≤ 8 ∧ i = .int .i64 k ∧ hi = .int .u64 (hiN a k) ∧ lo = .int .u64 (loN a k)) (fun _ _ i => 8 - (intOf i).toNat)
  case atStart => exact ⟨0, by omega, rfl, by rw [hiN_0 a HA.out]; rfl, by rw [loN_0 a]; rfl⟩
  case round =>
    obtain ⟨k, hk, rfl, rfl, rfl⟩ := hrel
    cases hlt : decide ((k : Int) < 8)
    · have e8 : k = 8 := by simp at hlt; omega
      subst e8
      go_wp2
      go_ret2
      exact ⟨rfl, G1⟩
    · have hk8 : k < 8 := by simp at hlt; omega
      have c1 : w1.cell? ⟨g1, k, none⟩ = some (.int .u8 (byt a k)) := by rw [cell_of_row w1 g1 k _ 52 _ h1]; exact idA_get a k (by omega)
      have c2 : w1.cell? ⟨g1, 8 + k, none⟩ = some (.int .u8 (byt a (8 + k))) := by rw [cell_of_row w1 g1 _ _ 52 _ h1]; exact idA_get a _ (by omega)
      have HS : Hid (hiN a (k + 1) = hiN a k * 256 + byt a k) := hiN_step a k hk8
      have HT : Hid (loN a (k + 1) = loN a k * 256 + byt a (8 + k)) := loN_step a k hk8
      have b1 := hiN_lt a k HA.out hk8
      have b2 := loN_lt a k hk8
      have b3 := byt_lt a k
      have b4 := byt_lt a (8 + k)
      generalize hiN a k = H at *
      generalize loN a k = L at *
      generalize byt a k = X at *
      generalize byt a (8 + k) = Y at *
      go_wp2
      go_light
      go_round
      case rel => exact ⟨k + 1, by omega, by go_num, by rw [HS.out]; go_num, by rw [HT.out]; go_num⟩
      case measure => simp [intOf]; omega
end Go.Proofs.Ytgfnjekpafempaa
