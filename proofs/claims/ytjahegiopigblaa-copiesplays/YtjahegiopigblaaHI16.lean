/- Rows of identities as lists of the first stage; a number as a word of 64 bits. -/
import Derived.Test.YtjahegiopigblaaHI4
import Derived.Test.YtjahegiopigblaaHW20
import Derived.Test.YtjahegiopigblaaHA1
namespace Go.Proofs.Ytjahegiopigblaa
open Go.RowKit
theorem fl_getw (l : List Nat) (t : Nat) (ht : t < l.length * 16) : (fl l)[t]? = (idA (l.getD (t / 16) 0)).toList[t % 16]? := by
  have h := fl_el l (t / 16) (by omega)
  rw [← h, List.getElem?_take, if_pos (by omega), List.getElem?_drop]
  congr 1
  omega
theorem part_of_get (l : List Nat) (off : Nat) (cs : Array Value) (hs : off + l.length * 16 ≤ cs.size) (h : ∀ j, j < l.length * 16 → cs[off + j]? = some (.int .u8 (byt (l.getD (j / 16) 0) (j % 16) : Int))) :
    ∀ i, i < l.length → off + i * 16 + 16 ≤ cs.size ∧ cs.extract (off + i * 16) (off + i * 16 + 16) = idA (l.getD i 0) := by
  intro i hi
  have hle : off + i * 16 + 16 ≤ cs.size := by omega
  refine ⟨hle, ?_⟩
  apply Array.ext_getElem?
  intro r
  rw [Array.getElem?_extract]
  by_cases hr : r < 16
  · rw [idA_get _ _ hr, if_pos (by omega)]
    have := h (i * 16 + r) (by omega)
    have e1 : (i * 16 + r) / 16 = i := by omega
    have e2 : (i * 16 + r) % 16 = r := by omega
    rw [e1, e2] at this
    rw [show off + i * 16 + r = off + (i * 16 + r) by omega]
    exact this
  · rw [if_neg (by omega), Array.getElem?_eq_none (by rw [idA_size]; omega)]
theorem heap_of_cell {w : World} {a : Addr} {v : Value} (h : w.cell? a = some v) : ∃ cs t fr, w.heap[a.block]? = some (.cells cs t fr) := by
  unfold World.cell? at h
  split at h
  · rename_i c t fr hh
    exact ⟨c, t, fr, hh⟩
  · cases h
theorem RC.sl {w : World} {ao : Option Addr} {cap : Nat} {l : List Nat} (h : RC w ao cap l) : SL w (.slice ao l.length cap) l := by
  refine ⟨fun i hi => h.at hi, ?_⟩
  by_cases h0 : l.length = 0
  · have e := List.eq_nil_of_length_eq_zero h0
    exact .inl ⟨e, ao, cap, by rw [h0], h.xc.bare⟩
  · right
    obtain ⟨ad, hao⟩ := h.xc.some (by omega)
    have hc : ∀ j, j < l.length * 16 → w.cell? (ad.add j) = some (.int .u8 (byt (l.getD (j / 16) 0) (j % 16) : Int)) := fun j hj => by
      refine h.xc.cell ad hao j _ ?_
      rw [fl_getw l j hj, Array.getElem?_toList]
      exact idA_get _ _ (by omega)
    have h00 := hc 0 (by omega)
    obtain ⟨b, off, spot⟩ := ad
    have hsp : spot = none := by simpa [Addr.add] using World.cell?_spot h00
    subst hsp
    obtain ⟨cs, t, fr, hh⟩ := heap_of_cell h00
    rw [add_at] at hh
    have hcs : ∀ j, j < l.length * 16 → cs[off + j]? = some (.int .u8 (byt (l.getD (j / 16) 0) (j % 16) : Int)) := fun j hj => by
      have h1 := hc j hj
      rw [add_at, cell_of_row w b _ cs t fr hh] at h1
      exact h1
    refine ⟨b, off, cap, cs, t, fr, by rw [hao], hh, part_of_get l off cs ?_ hcs⟩
    have h1 := hcs (l.length * 16 - 1) (by omega)
    have := (Array.getElem?_eq_some_iff.1 h1).1
    omega
end Go.Proofs.Ytjahegiopigblaa
