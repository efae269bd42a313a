/- Labels: what is written as text is read again. -/
import Derived.Test.YtcgpodmipgnhjaaL9
namespace Go.Proofs.Ytcgpodmipgnhjaa
open Go.RowKit

theorem dec_one (s : ByteArray) (i c : Nat) (h0 : (s.get! (i + 0)).toNat = c) (hc : c < 128) : Utf8.decode s i = (c, 1) := by
  unfold Utf8.decode
  simp only [h0]
  rw [if_pos hc]
theorem dec_two (s : ByteArray) (i c : Nat) (h0 : (s.get! (i + 0)).toNat = 192 + c / 64) (h1 : (s.get! (i + 1)).toNat = 128 + c % 64) (hs : i + 1 < s.size) (hc : 128 ≤ c) (hc2 : c < 2048) : Utf8.decode s i = (c, 2) := by
  unfold Utf8.decode
  simp only [h0, h1]
  have n0 : ¬ 192 + c / 64 < 128 := by omega
  have n1 : (192 + c / 64) / 32 = 6 := by omega
  have n2 : (128 + c % 64) / 64 = 2 := by omega
  have n3 : (192 + c / 64) % 32 * 64 + (128 + c % 64) % 64 = c := by omega
  rw [if_neg n0, n1, n2, n3]
  simp [hs, hc]
theorem dec_three (s : ByteArray) (i c : Nat) (h0 : (s.get! (i + 0)).toNat = 224 + c / 4096) (h1 : (s.get! (i + 1)).toNat = 128 + c / 64 % 64) (h2 : (s.get! (i + 2)).toNat = 128 + c % 64) (hs : i + 2 < s.size) (hc : 2048 ≤ c) (hc2 : c < 65536) (hv : Utf8.valid (c : Int) = true) : Utf8.decode s i = (c, 3) := by
  unfold Utf8.decode
  simp only [h0, h1, h2]
  have n0 : ¬ 224 + c / 4096 < 128 := by omega
  have n1 : ¬ (224 + c / 4096) / 32 = 6 := by omega
  have n2 : (128 + c / 64 % 64) / 64 = 2 := by omega
  have n3 : (128 + c % 64) / 64 = 2 := by omega
  have n4 : (224 + c / 4096) / 16 = 14 := by omega
  have n5 : (224 + c / 4096) % 16 * 4096 + (128 + c / 64 % 64) % 64 * 64 + (128 + c % 64) % 64 = c := by omega
  have hs1 : i + 1 < s.size := by omega
  have e1 : ((224 + c / 4096) / 32 == 6) = false := beq_eq_false_iff_ne.2 n1
  rw [if_neg n0, e1, n2, n3, n4, n5]
  simp [hs, hs1, hc, hv]
theorem dec_four (s : ByteArray) (i c : Nat) (h0 : (s.get! (i + 0)).toNat = 240 + c / 262144) (h1 : (s.get! (i + 1)).toNat = 128 + c / 4096 % 64) (h2 : (s.get! (i + 2)).toNat = 128 + c / 64 % 64) (h3 : (s.get! (i + 3)).toNat = 128 + c % 64) (hs : i + 3 < s.size) (hc : 65536 ≤ c) (hc2 : c ≤ 1114111) (hv : Utf8.valid (c : Int) = true) : Utf8.decode s i = (c, 4) := by
  unfold Utf8.decode
  simp only [h0, h1, h2, h3]
  have n0 : ¬ 240 + c / 262144 < 128 := by omega
  have n1 : ¬ (240 + c / 262144) / 32 = 6 := by omega
  have n2 : (128 + c / 4096 % 64) / 64 = 2 := by omega
  have n3 : (128 + c / 64 % 64) / 64 = 2 := by omega
  have n4 : (128 + c % 64) / 64 = 2 := by omega
  have n5 : ¬ (240 + c / 262144) / 16 = 14 := by omega
  have n6 : (240 + c / 262144) / 8 = 30 := by omega
  have n7 : (240 + c / 262144) % 8 * 262144 + (128 + c / 4096 % 64) % 64 * 4096 + (128 + c / 64 % 64) % 64 * 64 + (128 + c % 64) % 64 = c := by omega
  have hs1 : i + 1 < s.size := by omega
  have hs2 : i + 2 < s.size := by omega
  have e1 : ((240 + c / 262144) / 32 == 6) = false := beq_eq_false_iff_ne.2 n1
  have e2 : ((240 + c / 262144) / 16 == 14) = false := beq_eq_false_iff_ne.2 n5
  rw [if_neg n0, e1, e2, n2, n3, n4, n6, n7]
  simp [hs, hs1, hs2, hc, hv]
theorem get_app (A E B : ByteArray) (k : Nat) (h : k < E.size) : (A ++ (E ++ B)).get! (A.size + k) = E.get! k := by
  have h1 : k < E.data.size := h
  show (A ++ (E ++ B)).data[A.size + k]! = E.data[k]!
  rw [ByteArray.data_append, ByteArray.data_append]
  rw [getElem!_def, getElem!_def]
  have e : (A.data ++ (E.data ++ B.data))[A.size + k]? = E.data[k]? := by
    rw [Array.getElem?_append_right (by show A.data.size ≤ _; exact Nat.le_add_right _ _), Array.getElem?_append_left (by show A.size + k - A.data.size < _; have : A.data.size = A.size := rfl; omega)]
    congr 1
    have : A.data.size = A.size := rfl
    omega
  rw [e]
theorem u8_of (n : Nat) (h : n < 256) : (UInt8.ofNat n).toNat = n := by simp; omega
theorem dec_enc (A B : ByteArray) (r : Nat) (hv : Utf8.valid (r : Int) = true) : Utf8.decode (A ++ (Utf8.encode (r : Int) ++ B)) A.size = (r, (Utf8.encode (r : Int)).size) := by
  have hv' : r < 55296 ∨ (57344 ≤ r ∧ r ≤ 1114111) := by
    simp [Utf8.valid] at hv; omega
  have ht : ((r : Int)).toNat = r := by omega
  by_cases h1 : r < 128
  · have he : Utf8.encode (r : Int) = ⟨#[UInt8.ofNat r]⟩ := by simp [Utf8.encode, hv, h1]
    rw [he]
    refine dec_one _ _ r ?_ h1
    rw [get_app A _ B 0 (by show 0 < 1; omega)]
    exact u8_of r (by omega)
  · by_cases h2 : r < 2048
    · have he : Utf8.encode (r : Int) = ⟨#[UInt8.ofNat (192 + r / 64), UInt8.ofNat (128 + r % 64)]⟩ := by simp [Utf8.encode, hv, h1, h2]
      rw [he]
      refine dec_two _ _ r ?_ ?_ ?_ (by omega) h2
      · rw [get_app A _ B 0 (by show 0 < 2; omega)]; exact u8_of _ (by omega)
      · rw [get_app A _ B 1 (by show 1 < 2; omega)]; exact u8_of _ (by omega)
      · rw [ByteArray.size_append, ByteArray.size_append]; show _ < A.size + (2 + _); omega
    · by_cases h3 : r < 65536
      · have he : Utf8.encode (r : Int) = ⟨#[UInt8.ofNat (224 + r / 4096), UInt8.ofNat (128 + r / 64 % 64), UInt8.ofNat (128 + r % 64)]⟩ := by simp [Utf8.encode, hv, h1, h2, h3]
        rw [he]
        refine dec_three _ _ r ?_ ?_ ?_ ?_ (by omega) h3 hv
        · rw [get_app A _ B 0 (by show 0 < 3; omega)]; exact u8_of _ (by omega)
        · rw [get_app A _ B 1 (by show 1 < 3; omega)]; exact u8_of _ (by omega)
        · rw [get_app A _ B 2 (by show 2 < 3; omega)]; exact u8_of _ (by omega)
        · rw [ByteArray.size_append, ByteArray.size_append]; show _ < A.size + (3 + _); omega
      · have he : Utf8.encode (r : Int) = ⟨#[UInt8.ofNat (240 + r / 262144), UInt8.ofNat (128 + r / 4096 % 64), UInt8.ofNat (128 + r / 64 % 64), UInt8.ofNat (128 + r % 64)]⟩ := by simp [Utf8.encode, hv, h1, h2, h3]
        rw [he]
        refine dec_four _ _ r ?_ ?_ ?_ ?_ ?_ (by omega) (by omega) hv
        · rw [get_app A _ B 0 (by show 0 < 4; omega)]; exact u8_of _ (by omega)
        · rw [get_app A _ B 1 (by show 1 < 4; omega)]; exact u8_of _ (by omega)
        · rw [get_app A _ B 2 (by show 2 < 4; omega)]; exact u8_of _ (by omega)
        · rw [get_app A _ B 3 (by show 3 < 4; omega)]; exact u8_of _ (by omega)
        · rw [ByteArray.size_append, ByteArray.size_append]; show _ < A.size + (4 + _); omega
theorem valid_of (c : Nat) (h : c < 55296 ∨ (57344 ≤ c ∧ c ≤ 1114111)) : Utf8.valid (c : Int) = true := by
  simp [Utf8.valid]; omega
theorem dec_valid (s : ByteArray) (p : Nat) : Utf8.valid ((Utf8.decode s p).1 : Int) = true := by
  have hb : ∀ k, (s.get! (p + k)).toNat < 256 := fun k => (s.get! (p + k)).toNat_lt
  have h0 := hb 0; have h1 := hb 1; have h2 := hb 2; have h3 := hb 3
  unfold Utf8.decode
  simp only
  repeat' split
  all_goals first | (exact valid_of _ (by simp only [Utf8.runeError]; omega)) | (simp_all; done)
end Go.Proofs.Ytcgpodmipgnhjaa
