/- Plain numbers: an identity as a natural number below 2^128 and as an array of sixteen bytes. -/
import Derived.WalkKit
namespace Go.Proofs.Ytjahegiopigblaa
open Go.RowKit
/-- Byte number i (the highest first) of a number. -/
def byt (n i : Nat) : Nat := n / 256 ^ (15 - i) % 256
/-- A number as the array of an identity. -/
def idA (n : Nat) : Array Value := Array.ofFn (n := 16) fun i => Value.int .u8 (byt n i)
def idV (n : Nat) : Value := .agg (idA n)
theorem idA_size (n : Nat) : (idA n).size = 16 := by simp [idA]
theorem idA_get (n k : Nat) (h : k < 16) : (idA n)[k]? = some (.int .u8 (byt n k)) := by simp [idA, h]
theorem byt_lt (n k : Nat) : byt n k < 256 := Nat.mod_lt _ (by omega)
theorem idA_one (n : Nat) : (idA n).all (·.oneCell') = true := by
  rw [Array.all_eq_true]
  intro i hi
  simp [idA, Value.oneCell']
theorem pow_step (k : Nat) (h : k < 16) : 256 ^ (16 - k) = 256 ^ (15 - k) * 256 := by
  have : 16 - k = (15 - k) + 1 := by omega
  rw [this, Nat.pow_succ]
theorem div_step (n k : Nat) (h : k < 16) : n / 256 ^ (15 - k) = 256 * (n / 256 ^ (16 - k)) + byt n k := by
  unfold byt
  rw [pow_step k h, ← Nat.div_div_eq_div_mul]
  omega
/-- Three ways to stand. -/
def cmpN (a b : Nat) : Int := if a < b then -1 else if b < a then 1 else 0
theorem lt_of_bytes {a b k : Nat} (hk : k < 16) (he : a / 256 ^ (16 - k) = b / 256 ^ (16 - k)) (h : byt a k < byt b k) : a < b := by
  have h1 := div_step a k hk
  have h2 := div_step b k hk
  have h3 : a / 256 ^ (15 - k) < b / 256 ^ (15 - k) := by omega
  exact Nat.lt_of_not_le fun hle => by
    have := Nat.div_le_div_right (c := 256 ^ (15 - k)) hle
    omega
theorem eq_step {a b k : Nat} (hk : k < 16) (he : a / 256 ^ (16 - k) = b / 256 ^ (16 - k)) (h : byt a k = byt b k) : a / 256 ^ (16 - (k + 1)) = b / 256 ^ (16 - (k + 1)) := by
  have h1 := div_step a k hk
  have h2 := div_step b k hk
  have e : 16 - (k + 1) = 15 - k := by omega
  rw [e]; omega
theorem ret_int {k : IntKind} {a b : Int} (h : a = b) : Ending.returned (.int k a) = .returned (.int k b) := by rw [h]
theorem ret_bool {a b : Bool} (h : a = b) : Ending.returned (.bool a) = .returned (.bool b) := by rw [h]
theorem cmpN_lt {a b : Nat} (h : a < b) : -1 = cmpN a b := by simp [cmpN, h]
theorem cmpN_gt {a b : Nat} (h : b < a) : 1 = cmpN a b := by simp [cmpN, h, Nat.lt_asymm h]
theorem cmpN_eq {a b : Nat} (h : a = b) : 0 = cmpN a b := by simp [cmpN, h]
/-- The number of all identities. -/
def top : Nat := 340282366920938463463374607431768211456
theorem top_eq : top = 256 ^ 16 := by decide
theorem eq_of_bytes {a b : Nat} (ha : a < top) (hb : b < top) (h : ∀ i, i < 16 → byt a i = byt b i) : a = b := by
  rw [top_eq] at ha hb
  have key : ∀ k, k ≤ 16 → a / 256 ^ (16 - k) = b / 256 ^ (16 - k) := by
    intro k
    induction k with
    | zero => intro _; rw [Nat.div_eq_of_lt ha, Nat.div_eq_of_lt hb]
    | succ k ih => intro hk; exact eq_step (by omega) (ih (by omega)) (h k (by omega))
  simpa using key 16 (Nat.le_refl _)
theorem byt_mod (s e i : Nat) : byt (s % 256 ^ e) i = if 15 - i < e then byt s i else 0 := by
  unfold byt
  by_cases h : 15 - i < e
  · rw [if_pos h]
    have e1 : 256 ^ e = 256 ^ (15 - i) * 256 ^ (e - (15 - i)) := by rw [← Nat.pow_add]; congr 1; omega
    rw [e1, Nat.mod_mul_right_div_self]
    have e2 : e - (15 - i) = (e - (15 - i) - 1) + 1 := by omega
    rw [e2, Nat.pow_succ, Nat.mod_mod_of_dvd]
    exact Nat.dvd_mul_left _ _
  · rw [if_neg h]
    have h1 : s % 256 ^ e < 256 ^ (15 - i) := Nat.lt_of_lt_of_le (Nat.mod_lt _ (Nat.pow_pos (by omega))) (Nat.pow_le_pow_right (by omega) (by omega))
    rw [Nat.div_eq_of_lt h1]
/-- The low bytes of a number, one more. -/
theorem set_low (s j : Nat) (hj : j < 16) : (idA (s % 256 ^ (15 - j))).setIfInBounds j (.int .u8 (byt s j)) = idA (s % 256 ^ (16 - j)) := by
  apply Array.ext_getElem?
  intro i
  by_cases hi : i < 16
  · rw [Array.getElem?_setIfInBounds, idA_size, idA_get _ _ hi, idA_get _ _ hi, byt_mod, byt_mod]
    by_cases h1 : j = i
    · subst h1
      rw [if_pos rfl, if_pos hj, if_pos (by omega)]
    · rw [if_neg h1]
      by_cases h2 : i < j
      · rw [if_neg (by omega), if_neg (by omega)]
      · rw [if_pos (by omega), if_pos (by omega)]
  · rw [Array.getElem?_eq_none (by simp [idA_size]; omega), Array.getElem?_eq_none (by simp [idA_size]; omega)]
/-- How far it is clockwise from b to a. -/
def subN (a b : Nat) : Nat := (a + top - b) % top
theorem subN_lt (a b : Nat) : subN a b < top := Nat.mod_lt _ (by decide)
def borrow (a b k : Nat) : Int := if a % 256 ^ (16 - k) < b % 256 ^ (16 - k) then 1 else 0
theorem borrow_bd (a b k : Nat) : 0 ≤ borrow a b k ∧ borrow a b k ≤ 1 := by unfold borrow; split <;> omega
theorem borrow_16 (a b : Nat) : borrow a b 16 = 0 := by simp [borrow, Nat.mod_one]
theorem mod_step (n j : Nat) (hj : j < 16) : n % 256 ^ (16 - j) = 256 ^ (15 - j) * byt n j + n % 256 ^ (15 - j) := by
  rw [pow_step j hj, Nat.mod_mul]
  unfold byt
  omega
theorem lex_lt (m x y p q : Nat) (hp : p < m) (hq : q < m) : m * x + p < m * y + q ↔ x < y ∨ (x = y ∧ p < q) := by
  constructor
  · intro h
    by_cases h1 : x < y
    · exact Or.inl h1
    · by_cases h2 : x = y
      · subst h2; exact Or.inr ⟨rfl, by omega⟩
      · have h3 : y + 1 ≤ x := by omega
        have := Nat.mul_le_mul_left m h3
        rw [Nat.mul_add] at this
        omega
  · rintro (h | ⟨rfl, h⟩)
    · have := Nat.mul_le_mul_left m (show x + 1 ≤ y from h)
      rw [Nat.mul_add] at this
      omega
    · omega
theorem borrow_step (a b j : Nat) (hj : j < 16) : borrow a b j = if (byt a j : Int) - byt b j - borrow a b (j + 1) < 0 then 1 else 0 := by
  have e : 16 - (j + 1) = 15 - j := by omega
  unfold borrow
  rw [mod_step a j hj, mod_step b j hj, e]
  have hp : 0 < 256 ^ (15 - j) := Nat.pow_pos (by omega)
  have hl := lex_lt (256 ^ (15 - j)) (byt a j) (byt b j) (a % 256 ^ (15 - j)) (b % 256 ^ (15 - j)) (Nat.mod_lt _ hp) (Nat.mod_lt _ hp)
  by_cases h : a % 256 ^ (15 - j) < b % 256 ^ (15 - j)
  · rw [if_pos h]
    by_cases h2 : byt a j < byt b j ∨ (byt a j = byt b j ∧ a % 256 ^ (15 - j) < b % 256 ^ (15 - j))
    · rw [if_pos (hl.2 h2), if_pos (by omega)]
    · rw [if_neg (fun x => h2 (hl.1 x)), if_neg (by omega)]
  · rw [if_neg h]
    by_cases h2 : byt a j < byt b j ∨ (byt a j = byt b j ∧ a % 256 ^ (15 - j) < b % 256 ^ (15 - j))
    · rw [if_pos (hl.2 h2), if_pos (by omega)]
    · rw [if_neg (fun x => h2 (hl.1 x)), if_neg (by omega)]
/-- A byte of the way. -/
theorem sub_byte (a b j : Nat) (ha : a < top) (hb : b < top) (hj : j < 16) : (byt (subN a b) j : Int) = ((byt a j : Int) - byt b j - borrow a b (j + 1)) % 256 := by
  have e : 16 - (j + 1) = 15 - j := by omega
  have hp : 0 < 256 ^ (15 - j) := Nat.pow_pos (by omega)
  have htop : top = 256 ^ (15 - j) * (256 * 256 ^ j) := by
    rw [top_eq, ← Nat.mul_assoc, ← pow_step j hj, ← Nat.pow_add]; congr 1; omega
  unfold subN borrow
  rw [e]
  generalize hR : 256 ^ j = R at htop
  unfold byt
  generalize hm : 256 ^ (15 - j) = m at *
  rw [htop, Nat.mod_mul_right_div_self, Nat.mod_mod_of_dvd _ (Nat.dvd_mul_right 256 R), ← htop]
  have ha1 := Nat.div_add_mod a m
  have hb1 := Nat.div_add_mod b m
  have ha2 := Nat.mod_lt a hp
  have hb2 := Nat.mod_lt b hp
  have hA : a / m < 256 * R := Nat.div_lt_of_lt_mul (by rw [← htop]; exact ha)
  have hBb : b / m < 256 * R := Nat.div_lt_of_lt_mul (by rw [← htop]; exact hb)
  generalize a / m = A at *
  generalize b / m = B at *
  generalize a % m = p at *
  generalize b % m = q at *
  by_cases h : p < q
  · have e1 : a + top - b = m * (A + 256 * R - B - 1) + (m + p - q) := by
      have : m * (A + 256 * R - B - 1) + m * (B + 1) = m * (A + 256 * R) := by rw [← Nat.mul_add]; congr 1; omega
      rw [Nat.mul_add, Nat.mul_add] at this
      rw [Nat.mul_one] at this
      omega
    rw [e1, Nat.mul_add_div hp, Nat.div_eq_of_lt (by omega : m + p - q < m), if_pos h]
    omega
  · have e1 : a + top - b = m * (A + 256 * R - B) + (p - q) := by
      have : m * (A + 256 * R - B) + m * B = m * (A + 256 * R) := by rw [← Nat.mul_add]; congr 1; omega
      rw [Nat.mul_add] at this
      omega
    rw [e1, Nat.mul_add_div hp, Nat.div_eq_of_lt (by omega : p - q < m), if_neg h]
    omega
end Go.Proofs.Ytjahegiopigblaa
