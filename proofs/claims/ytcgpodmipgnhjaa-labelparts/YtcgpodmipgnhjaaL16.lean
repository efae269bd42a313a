/- Labels: the runes of what is cut. -/
import Derived.Test.YtcgpodmipgnhjaaL15
namespace Go.Proofs.Ytcgpodmipgnhjaa
open Go.RowKit

/-- A rune of four bytes, of which some may not be there. -/
def decB (b0 b1 b2 b3 : Nat) (c1 c2 c3 : Bool) : Nat × Nat :=
  if b0 < 128 then (b0, 1)
  else if (b0 / 32 == 6 && c1) = true then (if b0 % 32 * 64 + b1 % 64 ≥ 128 then (b0 % 32 * 64 + b1 % 64, 2) else (65533, 1))
  else if (b0 / 16 == 14 && c1 && c2) = true then (if (decide (b0 % 16 * 4096 + b1 % 64 * 64 + b2 % 64 ≥ 2048) && Utf8.valid ((b0 % 16 * 4096 + b1 % 64 * 64 + b2 % 64 : Nat) : Int)) = true then (b0 % 16 * 4096 + b1 % 64 * 64 + b2 % 64, 3) else (65533, 1))
  else if (b0 / 8 == 30 && c1 && c2 && c3) = true then (if (decide (b0 % 8 * 262144 + b1 % 64 * 4096 + b2 % 64 * 64 + b3 % 64 ≥ 65536) && Utf8.valid ((b0 % 8 * 262144 + b1 % 64 * 4096 + b2 % 64 * 64 + b3 % 64 : Nat) : Int)) = true then (b0 % 8 * 262144 + b1 % 64 * 4096 + b2 % 64 * 64 + b3 % 64, 4) else (65533, 1))
  else (65533, 1)
def byt' (s : ByteArray) (i : Nat) : Nat := (s.get! i).toNat
theorem dec_B (s : ByteArray) (p : Nat) : Utf8.decode s p = decB (byt' s (p + 0)) (byt' s (p + 1)) (byt' s (p + 2)) (byt' s (p + 3)) (decide (p + 1 < s.size) && byt' s (p + 1) / 64 == 2) (decide (p + 2 < s.size) && byt' s (p + 2) / 64 == 2) (decide (p + 3 < s.size) && byt' s (p + 3) / 64 == 2) := rfl
theorem decB_3 (b0 b1 b2 b3 b3' : Nat) (c1 c2 c3 : Bool) (h : (decB b0 b1 b2 b3 c1 c2 c3).2 ≤ 3) : decB b0 b1 b2 b3' c1 c2 false = decB b0 b1 b2 b3 c1 c2 c3 := by
  unfold decB at *
  by_cases h0 : b0 < 128
  · rw [if_pos h0, if_pos h0]
  · rw [if_neg h0] at h ⊢
    rw [if_neg h0]
    by_cases h1 : (b0 / 32 == 6 && c1) = true
    · rw [if_pos h1, if_pos h1]
    · rw [if_neg h1] at h ⊢
      rw [if_neg h1]
      by_cases h2 : (b0 / 16 == 14 && c1 && c2) = true
      · rw [if_pos h2, if_pos h2]
      · rw [if_neg h2] at h ⊢
        rw [if_neg h2]
        have e : ¬ (b0 / 8 == 30 && c1 && c2 && false) = true := by simp
        rw [if_neg e]
        by_cases h3 : (b0 / 8 == 30 && c1 && c2 && c3) = true
        · rw [if_pos h3] at h ⊢
          split at h
          · simp at h
          · rename_i h4; rw [if_neg h4]
        · rw [if_neg h3]
theorem decB_2 (b0 b1 b2 b3 b2' b3' : Nat) (c1 c2 c3 : Bool) (h : (decB b0 b1 b2 b3 c1 c2 c3).2 ≤ 2) : decB b0 b1 b2' b3' c1 false false = decB b0 b1 b2 b3 c1 c2 c3 := by
  have e9 := decB_3 b0 b1 b2 b3 b3' c1 c2 c3 (by omega)
  rw [← e9] at h ⊢
  unfold decB at *
  by_cases h0 : b0 < 128
  · rw [if_pos h0, if_pos h0]
  · rw [if_neg h0] at h ⊢
    rw [if_neg h0]
    by_cases h1 : (b0 / 32 == 6 && c1) = true
    · rw [if_pos h1, if_pos h1]
    · rw [if_neg h1] at h ⊢
      rw [if_neg h1]
      have e1 : ¬ (b0 / 16 == 14 && c1 && false) = true := by simp
      have e2 : ¬ (b0 / 8 == 30 && c1 && false && false) = true := by simp
      have e3 : ¬ (b0 / 8 == 30 && c1 && c2 && false) = true := by simp
      rw [if_neg e1, if_neg e2]
      rw [if_neg e3] at h ⊢
      by_cases h2 : (b0 / 16 == 14 && c1 && c2) = true
      · rw [if_pos h2] at h ⊢
        split at h
        · simp at h
        · rename_i h4; rw [if_neg h4]
      · rw [if_neg h2]
theorem decB_1 (b0 b1 b2 b3 b1' b2' b3' : Nat) (c1 c2 c3 : Bool) (h : (decB b0 b1 b2 b3 c1 c2 c3).2 ≤ 1) : decB b0 b1' b2' b3' false false false = decB b0 b1 b2 b3 c1 c2 c3 := by
  have e9 := decB_2 b0 b1 b2 b3 b2' b3' c1 c2 c3 (by omega)
  rw [← e9] at h ⊢
  unfold decB at *
  by_cases h0 : b0 < 128
  · rw [if_pos h0, if_pos h0]
  · rw [if_neg h0] at h ⊢
    rw [if_neg h0]
    have e0 : ¬ (b0 / 32 == 6 && false) = true := by simp
    have e1 : ¬ (b0 / 16 == 14 && false && false) = true := by simp
    have e2 : ¬ (b0 / 8 == 30 && false && false && false) = true := by simp
    have e3 : ¬ (b0 / 16 == 14 && c1 && false) = true := by simp
    have e4 : ¬ (b0 / 8 == 30 && c1 && false && false) = true := by simp
    rw [if_neg e0, if_neg e1, if_neg e2]
    rw [if_neg e3, if_neg e4] at h ⊢
    by_cases h1 : (b0 / 32 == 6 && c1) = true
    · rw [if_pos h1] at h ⊢
      split at h
      · simp at h
      · rename_i h4; rw [if_neg h4]
    · rw [if_neg h1]
theorem dec_prefix (s : ByteArray) (p q : Nat) (hq : q ≤ s.size) (hp : p < q) (h : p + (Utf8.decode s p).2 ≤ q) : Utf8.decode (s.extract 0 q) p = Utf8.decode s p := by
  have hz : (s.extract 0 q).size = q := by simp; omega
  have hg : ∀ k, p + k < q → byt' (s.extract 0 q) (p + k) = byt' s (p + k) := fun k hk => by
    unfold byt'
    rw [get_ext s 0 q (p + k) (by omega) hq, Nat.zero_add]
  have hc : ∀ k, p + k < q → (decide (p + k < q) && byt' (s.extract 0 q) (p + k) / 64 == 2) = (decide (p + k < s.size) && byt' s (p + k) / 64 == 2) := fun k hk => by
    rw [hg k hk, decide_eq_true hk, decide_eq_true (by omega : p + k < s.size)]
  have hn : ∀ k, ¬ p + k < q → (decide (p + k < q) && byt' (s.extract 0 q) (p + k) / 64 == 2) = false := fun k hk => by
    rw [decide_eq_false hk]; rfl
  rw [dec_B] at h ⊢
  rw [dec_B s p, hz]
  rw [hg 0 (by omega)]
  by_cases h1 : p + 1 < q
  · rw [hc 1 h1, hg 1 h1]
    by_cases h2 : p + 2 < q
    · rw [hc 2 h2, hg 2 h2]
      by_cases h3 : p + 3 < q
      · rw [hc 3 h3, hg 3 h3]
      · rw [hn 3 h3]
        exact decB_3 _ _ _ _ _ _ _ _ (by omega)
    · rw [hn 2 h2, hn 3 (by omega)]
      exact decB_2 _ _ _ _ _ _ _ _ _ (by omega)
  · rw [hn 1 h1, hn 2 (by omega), hn 3 (by omega)]
    exact decB_1 _ _ _ _ _ _ _ _ _ _ (by omega)
theorem dec_suffix (s : ByteArray) (q i : Nat) (hq : q ≤ s.size) : Utf8.decode (s.extract q s.size) i = Utf8.decode s (q + i) := by
  have hz : (s.extract q s.size).size = s.size - q := by simp
  have hg : ∀ k, byt' (s.extract q s.size) (i + k) = byt' s (q + i + k) := fun k => by
    unfold byt'
    have := get_ext_all s q (i + k) hq
    rw [Nat.zero_add] at this
    rw [this, Nat.add_assoc]
  have hd : ∀ k, decide (i + k < s.size - q) = decide (q + i + k < s.size) := fun k => by
    by_cases h : q + i + k < s.size
    · rw [decide_eq_true h, decide_eq_true (by omega)]
    · rw [decide_eq_false h, decide_eq_false (by omega)]
  rw [dec_B, dec_B, hz]
  simp only [hg, hd]
theorem rl_fuel (s : ByteArray) : ∀ (f f' p : Nat), s.size ≤ p + f → s.size ≤ p + f' → rl s f p = rl s f' p
  | 0, f', p, h, _ => by rw [rl_end s f' p (by omega)]; rfl
  | f + 1, 0, p, _, h => by rw [rl_end s (f + 1) p (by omega)]; rfl
  | f + 1, f' + 1, p, h, h' => by
    by_cases hp : p < s.size
    · rw [rl, rl, if_pos hp, if_pos hp]
      have := width_pos s p hp
      rw [rl_fuel s f f' _ (by omega) (by omega)]
    · rw [rl_end s _ p hp, rl_end s _ p hp]
theorem rl_suffix (s : ByteArray) (q : Nat) (hq : q ≤ s.size) : ∀ f i, rl (s.extract q s.size) f i = rl s f (q + i)
  | 0, _ => rfl
  | f + 1, i => by
    have hz : (s.extract q s.size).size = s.size - q := by simp
    rw [rl, rl, dec_suffix s q i hq, hz]
    by_cases h : q + i < s.size
    · rw [if_pos h, if_pos (by omega), rl_suffix s q hq f, Nat.add_assoc]
    · rw [if_neg h, if_neg (by omega)]
theorem cut_split (s : ByteArray) : ∀ (f p : Nat) (m : Int), p ≤ s.size → s.size ≤ p + f → p ≤ cutAt s f p m ∧ cutAt s f p m ≤ s.size ∧ ∃ pre f', rl s f p = pre ++ rl s f' (cutAt s f p m) ∧ s.size ≤ cutAt s f p m + f' ∧ rl (s.extract 0 (cutAt s f p m)) f p = pre ∧ (pre.length : Int) ≤ max m 0
  | 0, p, m, hp, hf => by
    have e : cutAt s 0 p m = s.size := rfl
    rw [e]
    exact ⟨hp, Nat.le_refl _, [], 0, by rw [rl_end s 0 _ (by omega)]; rfl, by omega, rfl, by simp; omega⟩
  | f + 1, p, m, hp, hf => by
    by_cases h : p < s.size
    · by_cases hm : m < 1
      · have e : cutAt s (f + 1) p m = p := cut_here s (f + 1) p m h hf hm
        rw [e]
        refine ⟨Nat.le_refl _, hp, [], f + 1, rfl, hf, rl_end _ _ _ ?_, by simp; omega⟩
        simp
        omega
      · have e : cutAt s (f + 1) p m = cutAt s f (p + (Utf8.decode s p).2) (m - 1) := by rw [cutAt, if_pos h, if_neg hm]
        have hw := width_pos s p h
        obtain ⟨h1, h2, pre, f', h3, h4, h5, h6⟩ := cut_split s f (p + (Utf8.decode s p).2) (m - 1) (dec_fits s p h) (by omega)
        rw [e]
        refine ⟨by omega, h2, (Utf8.decode s p).1 :: pre, f', ?_, h4, ?_, ?_⟩
        · rw [rl, if_pos h, h3]; rfl
        · have hz : (s.extract 0 (cutAt s f (p + (Utf8.decode s p).2) (m - 1))).size = cutAt s f (p + (Utf8.decode s p).2) (m - 1) := by simp; omega
          rw [rl, if_pos (by rw [hz]; omega), dec_prefix s p _ h2 (by omega) h1, h5]
        · rw [List.length_cons]; omega
    · have e : cutAt s (f + 1) p m = s.size := cut_end s (f + 1) p m h
      rw [e]
      refine ⟨hp, Nat.le_refl _, [], f + 1, ?_, by omega, ?_, by simp; omega⟩
      · rw [rl_end s _ _ (by omega), rl_end s _ _ (by omega)]; rfl
      · apply rl_end; simp; omega
theorem cut_runes (s : ByteArray) (n : Int) : cutN s n ≤ s.size ∧ runeL s = runeL (s.extract 0 (cutN s n)) ++ runeL (s.extract (cutN s n) s.size) ∧ ((runeL (s.extract 0 (cutN s n))).length : Int) ≤ max n 0 := by
  obtain ⟨_, h2, pre, f', h3, h4, h5, h6⟩ := cut_split s s.size 0 n (by omega) (by omega)
  have e : cutAt s s.size 0 n = cutN s n := rfl
  rw [e] at h2 h3 h4 h5
  have ha : runeL (s.extract 0 (cutN s n)) = pre := by
    unfold runeL
    rw [← h5]
    have hz : (s.extract 0 (cutN s n)).size = cutN s n := by simp; omega
    exact rl_fuel _ _ _ _ (by omega) (by omega)
  have hb : runeL (s.extract (cutN s n) s.size) = rl s f' (cutN s n) := by
    unfold runeL
    rw [rl_suffix s _ h2, Nat.add_zero]
    have hz : (s.extract (cutN s n) s.size).size = s.size - cutN s n := by simp
    exact rl_fuel _ _ _ _ (by omega) h4
  refine ⟨h2, ?_, ?_⟩
  · rw [ha, hb, ← h3]; rfl
  · rw [ha]; exact h6
theorem cut_join (s : ByteArray) (q : Nat) (hq : q ≤ s.size) : s.extract 0 q ++ s.extract q s.size = s := by
  have h2 : ∀ a b : ByteArray, a.data = b.data → a = b := fun a b h => by cases a; cases b; simp at h; rw [h]
  apply h2
  rw [ByteArray.data_append, ByteArray.data_extract, ByteArray.data_extract]
  have hs : s.data.size = s.size := rfl
  rw [Array.extract_append_extract]
  rw [Nat.min_eq_left (by omega), Nat.max_eq_right hq, ← hs, Array.extract_size]
theorem part_lab (t a : ByteArray) (h : labE t = 0) (hs : ∀ r ∈ runeL a, r ∈ runeL t) (hl : (runeL a).length ≤ (runeL t).length) : a.size = 0 ∨ labE a = 0 := by
  by_cases h0 : a.size = 0
  · exact .inl h0
  · obtain ⟨_, h2, h3⟩ := lab_ok t h
    exact .inr (lab_done a h0 (runeL a) rfl (by omega) fun r hr => h3 r (hs r hr)).1
end Go.Proofs.Ytcgpodmipgnhjaa
