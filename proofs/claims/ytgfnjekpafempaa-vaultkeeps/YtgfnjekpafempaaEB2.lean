/- Numbers and texts as bytes: what the document says of lists of bytes; no program. -/
import Derived.Test.YtgfnjekpafempaaEB1
namespace Go.Proofs.Ytgfnjekpafempaa
def lim : Nat := 18446744073709551616
/-- How many bytes a number has. -/
def nb (x : Nat) : Nat := if x = 0 then 0 else if x < 256 then 1 else if x < 65536 then 2 else if x < 16777216 then 3 else if x < 4294967296 then 4 else if x < 1099511627776 then 5 else if x < 281474976710656 then 6 else if x < 72057594037927936 then 7 else 8
theorem nb_le (x : Nat) : nb x ≤ 8 := by unfold nb; (repeat' split) <;> omega
/-- The n lowest bytes of a number, the highest first. -/
def beL : Nat → Nat → List Nat
  | 0, _ => []
  | n + 1, x => beL n (x / 256) ++ [x % 256]
theorem beL_len : ∀ n x, (beL n x).length = n
  | 0, _ => rfl
  | n + 1, x => by simp [beL, beL_len n]
theorem beL_lt : ∀ n x, ∀ y ∈ beL n x, y < 256
  | 0, _, y, h => by cases h
  | n + 1, x, y, h => by
    rcases List.mem_append.1 h with h | h
    · exact beL_lt n _ y h
    · simp at h; omega
theorem beL_get : ∀ n x i, i < n → (beL n x).getD i 0 = x / 256 ^ (n - 1 - i) % 256
  | 0, _, i, h => by omega
  | n + 1, x, i, h => by
    have hl := beL_len n (x / 256)
    rw [beL, List.getD_eq_getElem?_getD, List.getElem?_append]
    by_cases hi : i < n
    · rw [if_pos (by omega), ← List.getD_eq_getElem?_getD, beL_get n _ i hi]
      have : n + 1 - 1 - i = (n - 1 - i) + 1 := by omega
      rw [this, Nat.pow_succ, Nat.mul_comm (256 ^ (n - 1 - i)) 256, Nat.div_div_eq_div_mul]
    · have : i = n := by omega
      subst this
      rw [if_neg (by omega)]
      simp [hl]
/-- The number that bytes make. -/
def valL (l : List Nat) : Nat := l.foldl (fun a b => a * 256 + b) 0
theorem valL_snoc (l : List Nat) (b : Nat) : valL (l ++ [b]) = valL l * 256 + b := by unfold valL; rw [List.foldl_append]; rfl
theorem valL_beL : ∀ n x, x < 256 ^ n → valL (beL n x) = x
  | 0, x, h => by simp at h; subst h; rfl
  | n + 1, x, h => by
    rw [beL, valL_snoc, valL_beL n (x / 256) (by rw [Nat.pow_succ] at h; omega)]
    omega
theorem snoc_of {l : List Nat} {n : Nat} (h : l.length = n + 1) : ∃ q b, l = q ++ [b] ∧ q.length = n := by
  have hne : l ≠ [] := by intro e; rw [e] at h; simp at h
  exact ⟨l.dropLast, l.getLast hne, (List.dropLast_concat_getLast hne).symm, by simp [h]⟩
theorem beL_valL : ∀ n (l : List Nat), l.length = n → (∀ x ∈ l, x < 256) → beL n (valL l) = l
  | 0, l, h, _ => by rw [List.eq_nil_of_length_eq_zero h]; rfl
  | n + 1, l, h, hl => by
    obtain ⟨q, b, rfl, hq⟩ := snoc_of h
    have hb := hl b (by simp)
    rw [valL_snoc, beL]
    have h1 : (valL q * 256 + b) / 256 = valL q := by omega
    have h2 : (valL q * 256 + b) % 256 = b := by omega
    rw [h1, h2, beL_valL n q hq fun x hx => hl x (by simp [hx])]
theorem valL_lt : ∀ n (l : List Nat), l.length = n → (∀ x ∈ l, x < 256) → valL l < 256 ^ n
  | 0, l, h, _ => by rw [List.eq_nil_of_length_eq_zero h]; decide
  | n + 1, l, h, hl => by
    obtain ⟨q, b, rfl, hq⟩ := snoc_of h
    have hb := hl b (by simp)
    have := valL_lt n q hq fun x hx => hl x (by simp [hx])
    rw [valL_snoc, Nat.pow_succ]
    omega
theorem valL_ge : ∀ n (l : List Nat), l.length = n + 1 → l.headD 0 ≠ 0 → 256 ^ n ≤ valL l
  | 0, l, h, hh => by
    match l, h with
    | [b], _ => simp [valL] at hh ⊢; omega
  | n + 1, l, h, hh => by
    obtain ⟨q, b, rfl, hq⟩ := snoc_of h
    have := valL_ge n q hq (by
      match q, hq with
      | c :: r, _ => simpa using hh)
    rw [valL_snoc, Nat.pow_succ]
    omega
theorem lt_nb (x : Nat) (h : x < lim) : x < 256 ^ nb x := by
  unfold lim at h
  unfold nb
  (repeat' split) <;> simp <;> omega
theorem nb_of (x k : Nat) (hk : k ≤ 8) (h1 : x < 256 ^ k) (h2 : 0 < k → 256 ^ (k - 1) ≤ x) : nb x = k := by
  have hk' : k = 0 ∨ k = 1 ∨ k = 2 ∨ k = 3 ∨ k = 4 ∨ k = 5 ∨ k = 6 ∨ k = 7 ∨ k = 8 := by omega
  rcases hk' with rfl | rfl | rfl | rfl | rfl | rfl | rfl | rfl | rfl <;> simp at h1 h2 <;> unfold nb <;> (repeat' split) <;> omega
/-- A number's form. -/
def numL (x : Nat) : List Nat := nb x :: beL (nb x) x
theorem numL_len (x : Nat) : (numL x).length = nb x + 1 := by simp [numL, beL_len]
theorem nb_head (x : Nat) (h : x < lim) (h0 : 0 < nb x) : (beL (nb x) x).headD 0 ≠ 0 := by
  have h1 := beL_get (nb x) x 0 h0
  have h2 : (beL (nb x) x).headD 0 = (beL (nb x) x).getD 0 0 := by cases beL (nb x) x <;> rfl
  rw [h2, h1]
  have h3 : 256 ^ (nb x - 1) ≤ x := by
    revert h0
    unfold nb
    (repeat' split) <;> simp <;> omega
  have h4 := lt_nb x h
  have h5 : 256 ^ nb x = 256 ^ (nb x - 1) * 256 := by rw [← Nat.pow_succ]; congr 1; omega
  have h6 : 0 < 256 ^ (nb x - 1) := Nat.pow_pos (by decide)
  have h7 : 1 ≤ x / 256 ^ (nb x - 1) := (Nat.le_div_iff_mul_le h6).2 (by omega)
  have h8 : x / 256 ^ (nb x - 1) < 256 := (Nat.div_lt_iff_lt_mul h6).2 (by rw [Nat.mul_comm]; omega)
  have h9 : nb x - 1 - 0 = nb x - 1 := by omega
  rw [h9]
  omega
/-- What is read at a place: the number, the place behind it, the error. -/
def getR (p : Nat) : List Nat → Nat × Nat × Nat
  | [] => (0, 0, 3)
  | k :: q => if 8 < k then (0, 0, 2) else if q.length < k then (0, 0, 3) else if 0 < k ∧ q.headD 0 = 0 then (0, 0, 2) else (valL (q.take k), p + 1 + k, 0)
def getE (l : List Nat) (i : Int) : Nat × Nat × Nat := if i < 0 ∨ (l.length : Int) < i then (0, 0, 1) else getR i.toNat (l.drop i.toNat)
theorem getR_num (p x : Nat) (post : List Nat) (h : x < lim) : getR p (numL x ++ post) = (x, p + (numL x).length, 0) := by
  have hk := nb_le x
  have hl := beL_len (nb x) x
  have e : numL x ++ post = nb x :: (beL (nb x) x ++ post) := rfl
  have h0 : ¬ (0 < nb x ∧ (beL (nb x) x ++ post).headD 0 = 0) := by
    rintro ⟨h1, h2⟩
    have h3 := nb_head x h h1
    cases hb : beL (nb x) x with
    | nil => rw [hb] at hl; simp at hl; omega
    | cons c r => rw [hb] at h2 h3; exact h3 h2
  rw [e, getR, if_neg (by omega), if_neg (by simp; omega), if_neg h0, List.take_append_of_le_length (by omega), List.take_of_length_le (by omega), valL_beL _ _ (lt_nb x h), numL_len]
  congr 2
  omega
theorem getE_num (pre post : List Nat) (x : Nat) (h : x < lim) : getE (pre ++ (numL x ++ post)) (pre.length : Int) = (x, pre.length + (numL x).length, 0) := by
  rw [getE, if_neg (by simp; omega)]
  simp only [Int.toNat_natCast, List.drop_left]
  exact getR_num _ x post h
theorem getR_back (p : Nat) (l : List Nat) (hl : ∀ x ∈ l, x < 256) (n q e : Nat) (h : getR p l = (n, q, e)) : (e = 0 → n < lim ∧ q ≤ p + l.length ∧ p ≤ q ∧ l.take (q - p) = numL n) ∧ (e ≠ 0 → n = 0 ∧ q = 0) ∧ e ≤ 3 := by
  cases l with
  | nil => simp only [getR, Prod.mk.injEq] at h; omega
  | cons k r =>
    rw [getR] at h
    split at h
    · simp only [Prod.mk.injEq] at h; omega
    · split at h
      · simp only [Prod.mk.injEq] at h; omega
      · split at h
        · simp only [Prod.mk.injEq] at h; omega
        · rename_i h1 h2 h3
          simp only [Prod.mk.injEq] at h
          obtain ⟨rfl, rfl, rfl⟩ := h
          have hlen : (r.take k).length = k := by rw [List.length_take]; omega
          have hlt : ∀ x ∈ r.take k, x < 256 := fun x hx => hl x (List.mem_cons_of_mem _ (List.mem_of_mem_take hx))
          have hv := valL_lt k _ hlen hlt
          have hge : 0 < k → 256 ^ (k - 1) ≤ valL (r.take k) := fun h0 => valL_ge (k - 1) _ (by omega) (by
            intro h4
            apply h3
            refine ⟨h0, ?_⟩
            cases r with
            | nil => rfl
            | cons c r =>
              obtain ⟨m, rfl⟩ : ∃ m, k = m + 1 := ⟨k - 1, by omega⟩
              simpa using h4)
          have hnb := nb_of _ k (by omega) hv hge
          refine ⟨fun _ => ⟨?_, by simp; omega, by omega, ?_⟩, by omega, by omega⟩
          · have : (256 : Nat) ^ k ≤ 256 ^ 8 := Nat.pow_le_pow_right (by decide) (by omega)
            have e8 : (256 : Nat) ^ 8 = lim := by decide
            omega
          · have e1 : p + 1 + k - p = k + 1 := by omega
            rw [e1, List.take_succ_cons, numL, hnb, beL_valL k _ hlen hlt]
theorem getE_back (l : List Nat) (hl : ∀ x ∈ l, x < 256) (i : Int) (n q e : Nat) (h : getE l i = (n, q, e)) : (e = 0 → n < lim ∧ 0 ≤ i ∧ i ≤ q ∧ q ≤ l.length ∧ (l.drop i.toNat).take (q - i.toNat) = numL n) ∧ (e ≠ 0 → n = 0 ∧ q = 0) ∧ e ≤ 3 := by
  rw [getE] at h
  split at h
  · simp only [Prod.mk.injEq] at h; omega
  · rename_i h1
    have := getR_back i.toNat (l.drop i.toNat) (fun x hx => hl x (List.mem_of_mem_drop hx)) n q e h
    rw [List.length_drop] at this
    refine ⟨fun h0 => ?_, this.2⟩
    obtain ⟨h2, h3, h4, h5⟩ := this.1 h0
    exact ⟨h2, by omega, by omega, by omega, h5⟩
def putN (l : List Nat) : List Nat := l.flatMap numL
def textL (s : List Nat) : List Nat := numL s.length ++ s
def putT (l : List (List Nat)) : List Nat := l.flatMap textL
/-- A text that is read: its bytes, the place behind it, the error. -/
def getT (l : List Nat) (i m : Int) : List Nat × Nat × Nat :=
  if (getE l i).2.2 ≠ 0 then ([], 0, (getE l i).2.2) else if m < 0 ∨ m < ((getE l i).1 : Int) then ([], 0, 4) else if l.length - (getE l i).2.1 < (getE l i).1 then ([], 0, 3) else ((l.drop (getE l i).2.1).take (getE l i).1, (getE l i).2.1 + (getE l i).1, 0)
end Go.Proofs.Ytgfnjekpafempaa
