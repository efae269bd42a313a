/- Plain numbers: an identity as two words of 64 bits. -/
import Derived.Test.YtjahegiopigblaaHNum
namespace Go.Proofs.Ytjahegiopigblaa
open Go.RowKit
/-- 2^64. -/
def half : Nat := 18446744073709551616
theorem half_eq : half = 256 ^ 8 := by decide
theorem top_half : top = half * half := by decide
theorem byt_two_hi (x y i : Nat) (hy : y < half) (hi : i < 8) : byt (x * half + y) i = x / 256 ^ (7 - i) % 256 := by
  unfold byt
  have e : 256 ^ (15 - i) = half * 256 ^ (7 - i) := by rw [half_eq, ← Nat.pow_add]; congr 1; omega
  rw [e, ← Nat.div_div_eq_div_mul, Nat.mul_comm x half, Nat.mul_add_div (by decide), Nat.div_eq_of_lt hy, Nat.add_zero]
theorem byt_two_lo (x y i : Nat) (hi : 8 ≤ i) (hi2 : i < 16) : byt (x * half + y) i = y / 256 ^ (15 - i) % 256 := by
  unfold byt
  have e : half = 256 ^ (15 - i) * (256 * 256 ^ (i - 8)) := by
    rw [half_eq, ← Nat.mul_assoc, ← Nat.pow_succ, ← Nat.pow_add]; congr 1; omega
  have e2 : x * half + y = 256 ^ (15 - i) * (256 * (x * 256 ^ (i - 8))) + y := by
    rw [e]
    have : x * (256 ^ (15 - i) * (256 * 256 ^ (i - 8))) = 256 ^ (15 - i) * (256 * (x * 256 ^ (i - 8))) := by
      ac_rfl
    rw [this]
  rw [e2, Nat.mul_add_div (Nat.pow_pos (by omega))]
  omega
/-- The low bytes of two words. -/
def twoN (x y k : Nat) : Nat := (x % 256 ^ (8 - k)) * half + y % 256 ^ (8 - k)
theorem low_lt (y k : Nat) : y % 256 ^ (8 - k) < half := Nat.lt_of_lt_of_le (Nat.mod_lt _ (Nat.pow_pos (by omega))) (by rw [half_eq]; exact Nat.pow_le_pow_right (by omega) (by omega))
theorem div_mod_low (s e p : Nat) : s % 256 ^ e / 256 ^ p % 256 = if p < e then s / 256 ^ p % 256 else 0 := by
  by_cases h : p < e
  · rw [if_pos h]
    have e1 : 256 ^ e = 256 ^ p * 256 ^ (e - p) := by rw [← Nat.pow_add]; congr 1; omega
    rw [e1, Nat.mod_mul_right_div_self]
    have e2 : e - p = (e - p - 1) + 1 := by omega
    rw [e2, Nat.pow_succ, Nat.mod_mod_of_dvd]
    exact Nat.dvd_mul_left _ _
  · rw [if_neg h]
    have h1 : s % 256 ^ e < 256 ^ p := Nat.lt_of_lt_of_le (Nat.mod_lt _ (Nat.pow_pos (by omega))) (Nat.pow_le_pow_right (by omega) (by omega))
    rw [Nat.div_eq_of_lt h1]
theorem set_two (x y j : Nat) (hj : j < 8) : ((idA (twoN x y (j + 1))).setIfInBounds j (.int .u8 ((x / 256 ^ (7 - j) % 256 : Nat) : Int))).setIfInBounds (8 + j) (.int .u8 ((y / 256 ^ (7 - j) % 256 : Nat) : Int)) = idA (twoN x y j) := by
  apply Array.ext_getElem?
  intro i
  by_cases hi : i < 16
  · rw [Array.getElem?_setIfInBounds, Array.size_setIfInBounds, Array.getElem?_setIfInBounds, idA_size, idA_get _ _ hi, idA_get _ _ hi]
    unfold twoN
    by_cases h8 : i < 8
    · rw [byt_two_hi _ _ _ (low_lt _ _) h8, byt_two_hi _ _ _ (low_lt _ _) h8, div_mod_low, div_mod_low]
      rw [if_neg (by omega)]
      by_cases h1 : j = i
      · subst h1; rw [if_pos rfl, if_pos (by omega), if_pos (by omega)]
      · rw [if_neg h1]
        by_cases h2 : i < j
        · rw [if_neg (by omega), if_neg (by omega)]
        · rw [if_pos (by omega), if_pos (by omega)]
    · rw [byt_two_lo _ _ _ (by omega) hi, byt_two_lo _ _ _ (by omega) hi, div_mod_low, div_mod_low]
      by_cases h1 : 8 + j = i
      · subst h1
        have e : 15 - (8 + j) = 7 - j := by omega
        rw [if_pos rfl, if_pos (by omega), if_pos (by omega), e]
      · rw [if_neg h1, if_neg (by omega)]
        by_cases h2 : i < 8 + j
        · rw [if_neg (by omega), if_neg (by omega)]
        · rw [if_pos (by omega), if_pos (by omega)]
  · rw [Array.getElem?_eq_none (by simp [idA_size]; omega), Array.getElem?_eq_none (by simp [idA_size]; omega)]
theorem twoN_8 (x y : Nat) : twoN x y 8 = 0 := by simp [twoN, Nat.mod_one]
theorem twoN_0 (x y : Nat) (hx : x < half) (hy : y < half) : twoN x y 0 = x * half + y := by
  rw [half_eq] at hx hy
  unfold twoN
  rw [Nat.mod_eq_of_lt hx, Nat.mod_eq_of_lt hy]
/-- The high word and the low word, i bytes of each. -/
def hiN (a i : Nat) : Nat := a / 256 ^ (16 - i)
def loN (a i : Nat) : Nat := a % half / 256 ^ (8 - i)
theorem hiN_0 (a : Nat) (ha : a < top) : hiN a 0 = 0 := Nat.div_eq_of_lt (by rw [top_eq] at ha; exact ha)
theorem loN_0 (a : Nat) : loN a 0 = 0 := Nat.div_eq_of_lt (by rw [half_eq]; exact Nat.mod_lt _ (Nat.pow_pos (by omega)))
theorem hiN_8 (a : Nat) : hiN a 8 = a / half := by rw [half_eq]; rfl
theorem loN_8 (a : Nat) : loN a 8 = a % half := by unfold loN; simp
theorem hiN_step (a i : Nat) (hi : i < 8) : hiN a (i + 1) = hiN a i * 256 + byt a i := by
  unfold hiN
  have e : 16 - (i + 1) = 15 - i := by omega
  rw [e, div_step a i (by omega)]
  omega
theorem loN_step (a i : Nat) (hi : i < 8) : loN a (i + 1) = loN a i * 256 + byt a (8 + i) := by
  unfold loN byt
  have e : 8 - (i + 1) = 7 - i := by omega
  have e2 : 15 - (8 + i) = 7 - i := by omega
  have e3 : 256 ^ (8 - i) = 256 ^ (7 - i) * 256 := by
    have : 8 - i = (7 - i) + 1 := by omega
    rw [this, Nat.pow_succ]
  have e4 := div_mod_low a 8 (7 - i)
  rw [if_pos (by omega), ← half_eq] at e4
  rw [e, e2, e3, ← Nat.div_div_eq_div_mul, ← e4]
  omega
theorem hiN_lt (a i : Nat) (ha : a < top) (hi : i < 8) : hiN a i < 72057594037927936 := by
  unfold hiN
  apply Nat.div_lt_of_lt_mul
  rw [top_eq] at ha
  have e : (72057594037927936 : Nat) = 256 ^ 7 := by decide
  rw [e, ← Nat.pow_add]
  exact Nat.lt_of_lt_of_le ha (Nat.pow_le_pow_right (by omega) (by omega))
theorem loN_lt (a i : Nat) (hi : i < 8) : loN a i < 72057594037927936 := by
  unfold loN
  apply Nat.div_lt_of_lt_mul
  have e : (72057594037927936 : Nat) = 256 ^ 7 := by decide
  rw [e, ← Nat.pow_add]
  exact Nat.lt_of_lt_of_le (Nat.mod_lt a (by decide : 0 < half)) (by rw [half_eq]; exact Nat.pow_le_pow_right (by omega) (by omega))
theorem hi_lt (a : Nat) (ha : a < top) : a / half < half := Nat.div_lt_of_lt_mul (by rw [← top_half]; exact ha)
theorem lo_lt (a : Nat) : a % half < half := Nat.mod_lt _ (by decide)
/-- Two words, compared and taken off. -/
theorem lt_two (a b : Nat) : a < b ↔ a / half < b / half ∨ (a / half = b / half ∧ a % half < b % half) := by
  have h := lex_lt half (a / half) (b / half) (a % half) (b % half) (lo_lt a) (lo_lt b)
  rwa [Nat.div_add_mod, Nat.div_add_mod] at h
theorem sub_two (a b : Nat) (ha : a < top) (hb : b < top) :
    ((a / half + half + half - b / half - (if a % half < b % half then 1 else 0)) % half) * half + (a % half + half - b % half) % half = subN a b := by
  have h1 := hi_lt a ha
  have h2 := hi_lt b hb
  have h3 := lo_lt a
  have h4 := lo_lt b
  have h5 := Nat.div_add_mod a half
  have h6 := Nat.div_add_mod b half
  unfold subN
  have ht : top = half * half := top_half
  generalize a / half = x at *
  generalize a % half = y at *
  generalize b / half = u at *
  generalize b % half = v at *
  subst h5
  subst h6
  clear ht
  simp only [show half = 18446744073709551616 from rfl, show top = 340282366920938463463374607431768211456 from rfl] at *
  split <;> omega
end Go.Proofs.Ytjahegiopigblaa
