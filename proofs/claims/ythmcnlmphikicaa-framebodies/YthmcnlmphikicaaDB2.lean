/- Numbers and texts as bytes: what the document says of lists of bytes; no program. -/
import Derived.Test.YthmcnlmphikicaaDB1
namespace Go.Proofs.Ythmcnlmphikicaa
def lim : Nat := 18446744073709551616
/-- How many bytes a number has. -/
def nb (x : Nat) : Nat := if x = 0 then 0 else if x < 256 then 1 else if x < 65536 then 2 else if x < 16777216 then 3 else if x < 4294967296 then 4 else if x < 1099511627776 then 5 else if x < 281474976710656 then 6 else if x < 72057594037927936 then 7 else 8
theorem nb_le (x : Nat) : nb x ≤ 8 := by unfold nb; (repeat' split) <;> omega
/-- The n lowest bytes of a number, the highest first. -/
def beL : Nat → Nat → List Nat
  | 0, _ => []
  | n + 1, x => beL n (x / 256) ++ [x % 256]
theorem beL_len : ∀ n x, (beL n x).length = n
  | 0, _ => rfl
  | n + 1, x => by simp [beL, beL_len n]
theorem beL_get : ∀ n x i, i < n → (beL n x).getD i 0 = x / 256 ^ (n - 1 - i) % 256
  | 0, _, i, h => by omega
  | n + 1, x, i, h => by
    have hl := beL_len n (x / 256)
    rw [beL, List.getD_eq_getElem?_getD, List.getElem?_append]
    by_cases hi : i < n
    · rw [if_pos (by omega), ← List.getD_eq_getElem?_getD, beL_get n _ i hi]
      have : n + 1 - 1 - i = (n - 1 - i) + 1 := by omega
      rw [this, Nat.pow_succ, Nat.mul_comm (256 ^ (n - 1 - i)) 256, Nat.div_div_eq_div_mul]
    · have : i = n := by omega
      subst this
      rw [if_neg (by omega)]
      simp [hl]
/-- The number that bytes make. -/
def valL (l : List Nat) : Nat := l.foldl (fun a b => a * 256 + b) 0
theorem valL_snoc (l : List Nat) (b : Nat) : valL (l ++ [b]) = valL l * 256 + b := by unfold valL; rw [List.foldl_append]; rfl
theorem snoc_of {l : List Nat} {n : Nat} (h : l.length = n + 1) : ∃ q b, l = q ++ [b] ∧ q.length = n := by
  have hne : l ≠ [] := by intro e; rw [e] at h; simp at h
  exact ⟨l.dropLast, l.getLast hne, (List.dropLast_concat_getLast hne).symm, by simp [h]⟩
theorem valL_lt : ∀ n (l : List Nat), l.length = n → (∀ x ∈ l, x < 256) → valL l < 256 ^ n
  | 0, l, h, _ => by rw [List.eq_nil_of_length_eq_zero h]; decide
  | n + 1, l, h, hl => by
    obtain ⟨q, b, rfl, hq⟩ := snoc_of h
    have hb := hl b (by simp)
    have := valL_lt n q hq fun x hx => hl x (by simp [hx])
    rw [valL_snoc, Nat.pow_succ]
    omega
/-- A number's form. -/
def numL (x : Nat) : List Nat := nb x :: beL (nb x) x
theorem numL_len (x : Nat) : (numL x).length = nb x + 1 := by simp [numL, beL_len]
/-- What is read at a place: the number, the place behind it, the error. -/
def getR (p : Nat) : List Nat → Nat × Nat × Nat
  | [] => (0, 0, 3)
  | k :: q => if 8 < k then (0, 0, 2) else if q.length < k then (0, 0, 3) else if 0 < k ∧ q.headD 0 = 0 then (0, 0, 2) else (valL (q.take k), p + 1 + k, 0)
def getE (l : List Nat) (i : Int) : Nat × Nat × Nat := if i < 0 ∨ (l.length : Int) < i then (0, 0, 1) else getR i.toNat (l.drop i.toNat)
def putN (l : List Nat) : List Nat := l.flatMap numL
def textL (s : List Nat) : List Nat := numL s.length ++ s
def putT (l : List (List Nat)) : List Nat := l.flatMap textL
end Go.Proofs.Ythmcnlmphikicaa
