/- The examples; a nil table; what is asked of keys and entries. -/
import Derived.Test.YtmpnepbmpmkmkabBP11
namespace Go.Proofs.Ytmpnepbmpmkmkab
open Go.RowKit Go.Maps
section
variable {w w' : World} {ao : Option Addr} {cap : Nat} {l L : List En} {B b : Nat}
theorem TM.cell (h : TM w b L) {ad : Addr} {v : Value} (hc : w.cell? ad = some v) : ad.block ≠ b := fun e => by
  obtain ⟨Y, c, h⟩ := h
  have := h.at_
  rw [← e] at this
  simp [World.cell?, this] at hc
theorem RE.mapw (h : RE w ao cap l) (HT : TM w b L) (G : GroS [b] w w') : RE w' ao cap l := h.gros G fun ad ha h0 => by
  have := h.xc.cell ad ha 0 (flE l)[0] (List.getElem?_eq_getElem h0)
  have h1 := HT.cell this
  rw [add_block] at h1
  simpa using h1
theorem RQ.gros {S : List Nat} {l : List Oq} (h : RQ w ao cap l) (G : GroS S w w') (hs : ∀ ad, ao = some ad → 0 < (flO l).length → ad.block ∉ S) : RQ w' ao cap l :=
  ⟨⟨h.xc.len, h.xc.fit, h.xc.bare, fun ad ha j v hv => by
    have h0 : 0 < (flO l).length := by have := (List.getElem?_eq_some_iff.1 hv).1; omega
    exact (World.cell?_of_block (by rw [add_block]; exact G.old _ (h.lt ad ha h0) (hs ad ha h0))).trans (h.xc.cell ad ha j v hv), h.xc.one⟩, h.all⟩
theorem RQ.mapw {l : List Oq} (h : RQ w ao cap l) (HT : TM w b L) (G : GroS [b] w w') : RQ w' ao cap l := h.gros G fun ad ha h0 => by
  have := h.xc.cell ad ha 0 (flO l)[0] (List.getElem?_eq_getElem h0)
  have h1 := HT.cell this
  rw [add_block] at h1
  simpa using h1
theorem OE.mapw (h : OE w B ao cap l) (HT : TM w b L) (G : GroS [b] w w') : OE w' B ao cap l := h.gros G fun k hk hm => by
  obtain ⟨_, cur, hc⟩ := h.own.at k hk
  exact HT.nec hc (by simpa using hm)
end
/-- The chapter's example. -/
def x1 : En := ⟨⟨0, 1⟩, 0, 1329227995784915872903807060280344576, -1, 2⟩
def y1 : En := ⟨⟨0, 2⟩, 0, 1329227995784915872903807060280344576, -1, 2⟩
end Go.Proofs.Ytmpnepbmpmkmkab
