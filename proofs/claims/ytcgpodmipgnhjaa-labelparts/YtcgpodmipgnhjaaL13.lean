/- Labels: how wide a rune is. -/
import Derived.Test.YtcgpodmipgnhjaaL11
namespace Go.Proofs.Ytcgpodmipgnhjaa
open Go.RowKit

theorem enc_size (r : Nat) (hv : Utf8.valid (r : Int) = true) : (Utf8.encode (r : Int)).size = if r < 128 then 1 else if r < 2048 then 2 else if r < 65536 then 3 else 4 := by
  unfold Utf8.encode
  simp only [hv, if_true, Int.toNat_natCast]
  by_cases h1 : r < 128
  · rw [if_pos h1, if_pos h1]; rfl
  · rw [if_neg h1, if_neg h1]
    by_cases h2 : r < 2048
    · rw [if_pos h2, if_pos h2]; rfl
    · rw [if_neg h2, if_neg h2]
      by_cases h3 : r < 65536
      · rw [if_pos h3, if_pos h3]; rfl
      · rw [if_neg h3, if_neg h3]; rfl
/-- The ways in which a rune is read. -/
theorem dec_ways (s : ByteArray) (p : Nat) :
    ((Utf8.decode s p).1 < 128 ∧ (Utf8.decode s p).2 = 1) ∨
    (128 ≤ (Utf8.decode s p).1 ∧ (Utf8.decode s p).1 < 2048 ∧ (Utf8.decode s p).2 = 2 ∧ p + 1 < s.size) ∨
    (2048 ≤ (Utf8.decode s p).1 ∧ (Utf8.decode s p).1 < 65536 ∧ (Utf8.decode s p).2 = 3 ∧ p + 2 < s.size ∧ ((Utf8.decode s p).1 = 65533 → (s.get! (p + 0)).toNat = 239 ∧ (s.get! (p + 1)).toNat = 191 ∧ (s.get! (p + 2)).toNat = 189)) ∨
    (65536 ≤ (Utf8.decode s p).1 ∧ (Utf8.decode s p).2 = 4 ∧ p + 3 < s.size) ∨
    ((Utf8.decode s p).1 = 65533 ∧ (Utf8.decode s p).2 = 1 ∧ ¬ (p + 2 < s.size ∧ (s.get! (p + 0)).toNat = 239 ∧ (s.get! (p + 1)).toNat = 191 ∧ (s.get! (p + 2)).toNat = 189)) := by
  by_cases hE : p + 2 < s.size ∧ (s.get! (p + 0)).toNat = 239 ∧ (s.get! (p + 1)).toNat = 191 ∧ (s.get! (p + 2)).toNat = 189
  · have hd := dec_three s p 65533 hE.2.1 hE.2.2.1 hE.2.2.2 hE.1 (by decide) (by decide) (by decide)
    rw [hd]
    exact Or.inr (Or.inr (Or.inl ⟨by decide, by decide, rfl, hE.1, fun _ => hE.2⟩))
  · have hb : ∀ k, (s.get! (p + k)).toNat < 256 := fun k => (s.get! (p + k)).toNat_lt
    have h0 := hb 0
    have h1 := hb 1
    have h2 := hb 2
    have h3 := hb 3
    generalize hb0 : (s.get! (p + 0)).toNat = b0 at *
    generalize hb1 : (s.get! (p + 1)).toNat = b1 at *
    generalize hb2 : (s.get! (p + 2)).toNat = b2 at *
    generalize hb3 : (s.get! (p + 3)).toNat = b3 at *
    unfold Utf8.decode
    simp only [hb0, hb1, hb2, hb3]
    by_cases c1 : b0 < 128
    · rw [if_pos c1]; exact Or.inl ⟨c1, rfl⟩
    · rw [if_neg c1]
      by_cases c2 : (b0 / 32 == 6 && (decide (p + 1 < s.size) && b1 / 64 == 2)) = true
      · rw [if_pos c2]
        simp at c2
        by_cases c3 : b0 % 32 * 64 + b1 % 64 ≥ 128
        · rw [if_pos c3]; exact Or.inr (Or.inl ⟨c3, by show b0 % 32 * 64 + b1 % 64 < 2048; omega, rfl, c2.2.1⟩)
        · rw [if_neg c3]; exact Or.inr (Or.inr (Or.inr (Or.inr ⟨rfl, rfl, hE⟩)))
      · rw [if_neg c2]
        by_cases c4 : (b0 / 16 == 14 && (decide (p + 1 < s.size) && b1 / 64 == 2) && (decide (p + 2 < s.size) && b2 / 64 == 2)) = true
        · rw [if_pos c4]
          simp at c4
          by_cases c5 : (decide (b0 % 16 * 4096 + b1 % 64 * 64 + b2 % 64 ≥ 2048) && Utf8.valid ((b0 % 16 * 4096 + b1 % 64 * 64 + b2 % 64 : Nat) : Int)) = true
          · rw [if_pos c5]
            simp only [Bool.and_eq_true, decide_eq_true_eq] at c5
            refine Or.inr (Or.inr (Or.inl ⟨c5.1, by show b0 % 16 * 4096 + b1 % 64 * 64 + b2 % 64 < 65536; omega, rfl, c4.2.1, fun he => ?_⟩))
            have he' : b0 % 16 * 4096 + b1 % 64 * 64 + b2 % 64 = 65533 := he
            omega
          · rw [if_neg c5]; exact Or.inr (Or.inr (Or.inr (Or.inr ⟨rfl, rfl, hE⟩)))
        · rw [if_neg c4]
          by_cases c6 : (b0 / 8 == 30 && (decide (p + 1 < s.size) && b1 / 64 == 2) && (decide (p + 2 < s.size) && b2 / 64 == 2) && (decide (p + 3 < s.size) && b3 / 64 == 2)) = true
          · rw [if_pos c6]
            simp at c6
            by_cases c7 : (decide (b0 % 8 * 262144 + b1 % 64 * 4096 + b2 % 64 * 64 + b3 % 64 ≥ 65536) && Utf8.valid ((b0 % 8 * 262144 + b1 % 64 * 4096 + b2 % 64 * 64 + b3 % 64 : Nat) : Int)) = true
            · rw [if_pos c7]
              simp only [Bool.and_eq_true, decide_eq_true_eq] at c7
              exact Or.inr (Or.inr (Or.inr (Or.inl ⟨c7.1, rfl, c6.2.1⟩)))
            · rw [if_neg c7]; exact Or.inr (Or.inr (Or.inr (Or.inr ⟨rfl, rfl, hE⟩)))
          · rw [if_neg c6]; exact Or.inr (Or.inr (Or.inr (Or.inr ⟨rfl, rfl, hE⟩)))
theorem dec_fits (s : ByteArray) (p : Nat) (h : p < s.size) : p + (Utf8.decode s p).2 ≤ s.size := by
  rcases dec_ways s p with h1 | h1 | h1 | h1 | h1 <;> omega
theorem dec_size (s : ByteArray) (p : Nat) (h : (Utf8.decode s p).1 ≠ 65533) : (Utf8.encode ((Utf8.decode s p).1 : Int)).size = (Utf8.decode s p).2 := by
  have hv := dec_valid s p
  rw [enc_size _ hv]
  rcases dec_ways s p with h1 | h1 | h1 | h1 | h1
  · rw [if_pos h1.1, h1.2]
  · rw [if_neg (by omega), if_pos h1.2.1, h1.2.2.1]
  · rw [if_neg (by omega), if_neg (by omega), if_pos h1.2.1, h1.2.2.1]
  · rw [if_neg (by omega), if_neg (by omega), if_neg (by omega), h1.2.1]
  · exact absurd h1.1 h
/-- The bytes of the sign for what can't be read. -/
def isErr (s : ByteArray) (p : Nat) : Prop := p + 2 < s.size ∧ (s.get! (p + 0)).toNat = 239 ∧ (s.get! (p + 1)).toNat = 191 ∧ (s.get! (p + 2)).toNat = 189
theorem dec_err3 (s : ByteArray) (p : Nat) (h : isErr s p) : Utf8.decode s p = (65533, 3) :=
  dec_three s p 65533 h.2.1 h.2.2.1 h.2.2.2 h.1 (by decide) (by decide) (by decide)
theorem dec_err1 (s : ByteArray) (p : Nat) (h : ¬ isErr s p) (hr : (Utf8.decode s p).1 = 65533) : (Utf8.decode s p).2 = 1 := by
  rcases dec_ways s p with h1 | h1 | h1 | h1 | h1
  · omega
  · omega
  · exact absurd ⟨h1.2.2.2.1, h1.2.2.2.2 hr⟩ h
  · omega
  · exact h1.2.1
theorem get_ext (s : ByteArray) (p q k : Nat) (h : k < q - p) (hq : q ≤ s.size) : (s.extract p q).get! k = s.get! (p + k) := by
  show (s.extract p q).data[k]! = s.data[p + k]!
  rw [ByteArray.data_extract, getElem!_def, getElem!_def, Array.getElem?_extract]
  have hs : s.data.size = s.size := rfl
  rw [if_pos (by omega)]
theorem ext3 (s : ByteArray) (h : 3 ≤ s.size) : s.extract 0 3 = { data := #[239, 191, 189] } ↔ isErr s 0 := by
  have hg : ∀ k, k < 3 → (s.extract 0 3).get! k = s.get! (0 + k) := fun k hk => get_ext s 0 3 k (by omega) h
  constructor
  · intro e
    rw [e] at hg
    refine ⟨by omega, ?_, ?_, ?_⟩
    · rw [← hg 0 (by omega)]; rfl
    · rw [← hg 1 (by omega)]; rfl
    · rw [← hg 2 (by omega)]; rfl
  · rintro ⟨_, h0, h1, h2⟩
    rw [← hg 0 (by omega)] at h0
    rw [← hg 1 (by omega)] at h1
    rw [← hg 2 (by omega)] at h2
    have hsz : (s.extract 0 3).size = 3 := by simp; omega
    generalize s.extract 0 3 = t at *
    cases t with
    | mk d =>
      have hd : d.size = 3 := hsz
      have e : d = #[239, 191, 189] := by
        apply Array.ext
        · rw [hd]; rfl
        · intro i hi _
          have hh : ∀ k (hk : k < d.size), ({ data := d : ByteArray }.get! k) = d[k] := fun k hk => by
            show d[k]! = d[k]
            exact getElem!_pos d k hk
          have hi3 : i < 3 := by omega
          match i, hi3 with
          | 0, _ => rw [hh 0 (by omega)] at h0; exact UInt8.toNat_inj.1 h0
          | 1, _ => rw [hh 1 (by omega)] at h1; exact UInt8.toNat_inj.1 h1
          | 2, _ => rw [hh 2 (by omega)] at h2; exact UInt8.toNat_inj.1 h2
      rw [e]
end Go.Proofs.Ytcgpodmipgnhjaa
