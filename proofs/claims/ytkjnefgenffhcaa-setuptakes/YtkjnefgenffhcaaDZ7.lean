/- The laws of beginning and of taking: the document's answers. -/
import Derived.Test.YtkjnefgenffhcaaDZ6
import Derived.Test.YtkjnefgenffhcaaDT7
namespace Go.Proofs.Ytkjnefgenffhcaa
open Classical
open Go.RowKit Go.Maps
theorem OI.rtw {w w' : World} {B r : Nat} {ao : Option Addr} {cap : Nat} {l : List Int} {cs : Array Value} {t : TypeId} (h : OI w B ao cap l) (kr : w.heap[r]? = some (.cells cs t (0, 0))) (ht : t ≠ 3) (G : GroS [r] w w') : OI w' B ao cap l := h.gros G fun ad ha hm => by
  rw [List.mem_singleton] at hm
  obtain ⟨c, hc⟩ := h.own.ty ha
  rw [hm, kr] at hc
  injection hc with hc
  injection hc with _ hc
  exact ht hc
section
variable {room : Nat} {L : List En} {N fr : Int} {ID b : Nat} {p : Pa} {way : List Int} {o : List Bool} {M : Msg}
theorem getD_i64 {l : List Int} (h : ∀ x ∈ l, I64t x) (j : Nat) : I64 (l.getD j 0) := by
  by_cases hj : j < l.length
  · exact h _ (getD_memZ hj)
  · rw [List.getD_eq_getElem?_getD, List.getElem?_eq_none (by omega)]
    exact ⟨by decide, by decide⟩
theorem tkL_or : tkL room L N ID fr M o = L ∨ ∃ nx, (nx = -1 ∨ nx = nxt N M) ∧ tkL room L N ID fr M o = addL room L (xT fr M nx) := by
  unfold tkL psL enL'
  split
  · split
    · split
      · exact .inr ⟨_, .inr rfl, rfl⟩
      · exact .inl rfl
    · split
      · exact .inr ⟨_, .inl rfl, rfl⟩
      · exact .inl rfl
  · exact .inl rfl
theorem nxt_i64 (h : ∀ x ∈ M.l, I64t x) : I64 (nxt N M) := getD_i64 h _
theorem xTn_ok (hM : M.ok) (hf : I64 fr) (h : ∀ x ∈ M.l, I64t x) {nx : Int} (hn : nx = -1 ∨ nx = nxt N M) : (xT fr M nx).ok := xT_ok hM hf (by
  rcases hn with rfl | rfl
  · exact m1i
  · exact nxt_i64 h)
theorem tkL_ris (ha : AllE L) (h : Ris L) (hM : M.ok) (hf : I64 fr) (hI : ∀ x ∈ M.l, I64t x) : Ris (tkL room L N ID fr M o) := by
  rcases tkL_or (room := room) (L := L) (N := N) (ID := ID) (fr := fr) (M := M) (o := o) with e | ⟨nx, hn, e⟩ <;> rw [e]
  · exact h
  · exact addL_ris ha h (xTn_ok hM hf hI hn)
theorem tkL_le (hr : room ≤ 128) (h : L.length ≤ 128) : (tkL room L N ID fr M o).length ≤ 128 := by
  rcases tkL_or (room := room) (L := L) (N := N) (ID := ID) (fr := fr) (M := M) (o := o) with e | ⟨nx, hn, e⟩ <;> rw [e]
  · exact h
  · exact addL_le hr h
theorem tkE_len {n : Nat} (h : M.l.length ≤ n) : ∀ k m, (tkE room L N ID fr M o).out = some (k, m) → m.l.length ≤ n := fun k m e => by
  unfold tkE psE enE edNo mDrop at e
  split at e
  · split at e
    · split at e
      · split at e
        · cases e; exact h
        · cases e; exact Nat.zero_le _
      · cases e; exact Nat.zero_le _
    · split at e
      · split at e
        · cases e
        · cases e; exact Nat.zero_le _
      · cases e; exact Nat.zero_le _
  · cases e
end
end Go.Proofs.Ytkjnefgenffhcaa
