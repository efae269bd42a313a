/- The document's book: Mark, Retain. -/
import Derived.Test.YtjahegiopigblaaEC6
namespace Go.Proofs.Ytjahegiopigblaa
open Go.RowKit
/-- The document's book. -/
def RBk (w : World) (C g : Nat) (N : List NM) : Prop := ∃ ao cap, w.heap[g]? = some (.cells (rbA ao N.length cap) 37 (0, 0)) ∧ OW knt 79 w C ao cap N
theorem RBk.gro {w w' : World} {C g : Nat} {N : List NM} (h : RBk w C g N) (G : Gro w w') : RBk w' C g N := by
  obtain ⟨ao, cap, h1, h2⟩ := h
  exact ⟨ao, cap, G.has h1, h2.gro G⟩
theorem RBk.map {w w' : World} {C g mb : Nat} {N : List NM} {L : List ((Nat × Nat) × VM)} (h : RBk w C g N) (HM : TB w mb L) (G : GroS [mb] w w') : RBk w' C g N := by
  obtain ⟨ao, cap, h1, h2⟩ := h
  exact ⟨ao, cap, G.has h1 (fun hm => HM.nec h1 (List.mem_singleton.1 hm)), h2.gros G fun k hk hm => by
    obtain ⟨cur, hc⟩ := (h2.own.at _ hk).2
    exact HM.nec hc (List.mem_singleton.1 hm)⟩
end Go.Proofs.Ytjahegiopigblaa
