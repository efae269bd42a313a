/- Small facts that were told in other texts of stage 12 and 1. -/
import Derived.Test.YtmpnepbmpmkmkaaDP12
namespace Go.Proofs.Ytmpnepbmpmkmkaa
open Classical
open Go.RowKit Go.Maps
theorem maxL : maxLen = 9223372036854775807 := rfl
theorem le_maxL {n : Nat} (h : n ≤ 128) : n ≤ maxLen := by rw [maxL]; omega
theorem getD_in {L : List En} {j : Nat} (hj : j < L.length) : L.getD j zE ∈ L := by
  have hg : L.getD j zE = L[j] := by simp [List.getD_eq_getElem?_getD, hj]
  rw [hg]
  exact List.getElem_mem hj
theorem lst_no {l : List En} {p : Pa} {i : Nat} (hi : i = l.length) (h1 : ∀ k, k < i → (l.getD k zE).p ≠ p) : hasL l p = false := by
  rw [Bool.eq_false_iff]
  intro h
  obtain ⟨x, hx, e⟩ := hasL_iff.1 h
  obtain ⟨k, hk, rfl⟩ := List.getElem_of_mem hx
  have := h1 k (by omega)
  exact this (by simpa [List.getD_eq_getElem?_getD, hk] using e)
end Go.Proofs.Ytmpnepbmpmkmkaa
