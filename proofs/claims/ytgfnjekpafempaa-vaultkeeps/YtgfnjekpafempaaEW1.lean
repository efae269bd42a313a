/- Plain numbers: an identity as two words of 64 bits. -/
import Derived.Test.YtgfnjekpafempaaENum
import Derived.Test.YtgfnjekpafempaaEBase
namespace Go.Proofs.Ytgfnjekpafempaa
open Go.RowKit
/-- 2^64. -/
def half : Nat := 18446744073709551616
theorem half_eq : half = 256 ^ 8 := by decide
theorem div_mod_low (s e p : Nat) : s % 256 ^ e / 256 ^ p % 256 = if p < e then s / 256 ^ p % 256 else 0 := by
  by_cases h : p < e
  · rw [if_pos h]
    have e1 : 256 ^ e = 256 ^ p * 256 ^ (e - p) := by rw [← Nat.pow_add]; congr 1; omega
    rw [e1, Nat.mod_mul_right_div_self]
    have e2 : e - p = (e - p - 1) + 1 := by omega
    rw [e2, Nat.pow_succ, Nat.mod_mod_of_dvd]
    exact Nat.dvd_mul_left _ _
  · rw [if_neg h]
    have h1 : s % 256 ^ e < 256 ^ p := Nat.lt_of_lt_of_le (Nat.mod_lt _ (Nat.pow_pos (by omega))) (Nat.pow_le_pow_right (by omega) (by omega))
    rw [Nat.div_eq_of_lt h1]
/-- The high word and the low word, i bytes of each. -/
def hiN (a i : Nat) : Nat := a / 256 ^ (16 - i)
def loN (a i : Nat) : Nat := a % half / 256 ^ (8 - i)
theorem hiN_0 (a : Nat) (ha : a < top) : hiN a 0 = 0 := Nat.div_eq_of_lt (by rw [top_eq] at ha; exact ha)
theorem loN_0 (a : Nat) : loN a 0 = 0 := Nat.div_eq_of_lt (by rw [half_eq]; exact Nat.mod_lt _ (Nat.pow_pos (by omega)))
theorem hiN_8 (a : Nat) : hiN a 8 = a / half := by rw [half_eq]; rfl
theorem loN_8 (a : Nat) : loN a 8 = a % half := by unfold loN; simp
theorem hiN_step (a i : Nat) (hi : i < 8) : hiN a (i + 1) = hiN a i * 256 + byt a i := by
  unfold hiN
  have e : 16 - (i + 1) = 15 - i := by omega
  rw [e, div_step a i (by omega)]
  omega
theorem loN_step (a i : Nat) (hi : i < 8) : loN a (i + 1) = loN a i * 256 + byt a (8 + i) := by
  unfold loN byt
  have e : 8 - (i + 1) = 7 - i := by omega
  have e2 : 15 - (8 + i) = 7 - i := by omega
  have e3 : 256 ^ (8 - i) = 256 ^ (7 - i) * 256 := by
    have : 8 - i = (7 - i) + 1 := by omega
    rw [this, Nat.pow_succ]
  have e4 := div_mod_low a 8 (7 - i)
  rw [if_pos (by omega), ← half_eq] at e4
  rw [e, e2, e3, ← Nat.div_div_eq_div_mul, ← e4]
  omega
theorem hiN_lt (a i : Nat) (ha : a < top) (hi : i < 8) : hiN a i < 72057594037927936 := by
  unfold hiN
  apply Nat.div_lt_of_lt_mul
  rw [top_eq] at ha
  have e : (72057594037927936 : Nat) = 256 ^ 7 := by decide
  rw [e, ← Nat.pow_add]
  exact Nat.lt_of_lt_of_le ha (Nat.pow_le_pow_right (by omega) (by omega))
theorem loN_lt (a i : Nat) (hi : i < 8) : loN a i < 72057594037927936 := by
  unfold loN
  apply Nat.div_lt_of_lt_mul
  have e : (72057594037927936 : Nat) = 256 ^ 7 := by decide
  rw [e, ← Nat.pow_add]
  exact Nat.lt_of_lt_of_le (Nat.mod_lt a (by decide : 0 < half)) (by rw [half_eq]; exact Nat.pow_le_pow_right (by omega) (by omega))
theorem lo_lt (a : Nat) : a % half < half := Nat.mod_lt _ (by decide)
/-- Two words, compared and taken off. -/
theorem lt_two (a b : Nat) : a < b ↔ a / half < b / half ∨ (a / half = b / half ∧ a % half < b % half) := by
  have h := lex_lt half (a / half) (b / half) (a % half) (b % half) (lo_lt a) (lo_lt b)
  rwa [Nat.div_add_mod, Nat.div_add_mod] at h
end Go.Proofs.Ytgfnjekpafempaa
namespace Go.Proofs.Ytgfnjekpafempaa
open Go.RowKit
set_option maxHeartbeats 400000 in
theorem wide_any (a : Nat) (ha : a < top) (w : World) :
    Calls Try.prog 57 #[idV a] w fun e w' => e = .returned (.tuple #[.int .u64 (hiN a 8), .int .u64 (loN a 8)]) ∧ Gro w w' := by
  have HA : Hid (a < top) := ha
  clear ha
  unfold idV
  go_enter Try.func57, Try.ntmps57
  go_wp2_with (refine wpList_box_agg rfl 52 _ rfl _ rfl ?_; intro w1 g1 G1 e1 h1)
  clear e1
  go_loop [4, 5, 6] (fun hi lo i => ∃ k : Nat, k ≤ 8 ∧ i = .int .i64 k ∧ hi = .int .u64 (hiN a k) ∧ lo = .int .u64 (loN a k)) (fun _ _ i => 8 - (intOf i).toNat)
  case atStart => exact ⟨0, by omega, rfl, by rw [hiN_0 a HA.out]; rfl, by rw [loN_0 a]; rfl⟩
  case round =>
    obtain ⟨k, hk, rfl, rfl, rfl⟩ := hrel
    cases hlt : decide ((k : Int) < 8)
    · have e8 : k = 8 := by simp at hlt; omega
      subst e8
      go_wp2
      go_ret2
      exact ⟨rfl, G1⟩
    · have hk8 : k < 8 := by simp at hlt; omega
      have c1 : w1.cell? ⟨g1, k, none⟩ = some (.int .u8 (byt a k)) := by rw [cell_of_row w1 g1 k _ 52 _ h1]; exact idA_get a k (by omega)
      have c2 : w1.cell? ⟨g1, 8 + k, none⟩ = some (.int .u8 (byt a (8 + k))) := by rw [cell_of_row w1 g1 _ _ 52 _ h1]; exact idA_get a _ (by omega)
      have HS : Hid (hiN a (k + 1) = hiN a k * 256 + byt a k) := hiN_step a k hk8
      have HT : Hid (loN a (k + 1) = loN a k * 256 + byt a (8 + k)) := loN_step a k hk8
      have b1 := hiN_lt a k HA.out hk8
      have b2 := loN_lt a k hk8
      have b3 := byt_lt a k
      have b4 := byt_lt a (8 + k)
      generalize hiN a k = H at *
      generalize loN a k = L at *
      generalize byt a k = X at *
      generalize byt a (8 + k) = Y at *
      go_wp2
      go_light
      go_round
      case rel => exact ⟨k + 1, by omega, by go_num, by rw [HS.out]; go_num, by rw [HT.out]; go_num⟩
      case measure => simp [intOf]; omega
end Go.Proofs.Ytgfnjekpafempaa
