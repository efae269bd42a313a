/- A walk over a map in which what has come may be taken away. -/
import Derived.Test.YtjahegiopigblaaGM1
namespace Go.Proofs.Ytjahegiopigblaa
open Go.RowKit Go.Maps
section
variable {κ ε : Type} {t k v : TypeId} {kv : κ → Value} {ok : κ → Prop} {ev : ε → Value} {zv : Value}
variable {w w' : World} {b r g : Nat} {L R : List (κ × ε)} {Y : List ((κ × ε) × Nat)} {c : Nat}
/-- A walk over the map is under way: these are still to come. -/
def RgDM (kv : κ → Value) (ok : κ → Prop) (ev : ε → Value) (w : World) (b r : Nat) (L R : List (κ × ε)) : Prop :=
  ∃ (Y : List ((κ × ε) × Nat)) (c : Nat) (seen : Array Nat), MQM kv ok ev b L w Y c ∧ w.heap[r]? = some (.mapIter (some b) c seen c) ∧ (∀ y ∈ Y, seen.contains y.2 = false ↔ y.1 ∈ R) ∧ ∀ x ∈ R, x ∈ L
theorem RgDM.tm (h : RgDM kv ok ev w b r L R) : TMM kv ok ev w b L := by
  obtain ⟨Y, c, seen, h1, _⟩ := h
  exact ⟨Y, c, h1⟩
theorem RgDM.sub (h : RgDM kv ok ev w b r L R) : ∀ x ∈ R, x ∈ L := by
  obtain ⟨Y, c, seen, _, _, _, h4⟩ := h
  exact h4
theorem RgDM.lt (h : RgDM kv ok ev w b r L R) : r < w.heap.size := by
  obtain ⟨Y, c, seen, h1, h2, _⟩ := h
  exact lt_of_heap h2
theorem RgDM.gros {S : List Nat} (h : RgDM kv ok ev w b r L R) (G : GroS S w w') (hb : b ∉ S) (hr : r ∉ S) : RgDM kv ok ev w' b r L R := by
  obtain ⟨Y, c, seen, h1, h2, h3⟩ := h
  exact ⟨Y, c, seen, ⟨G.has h1.at_ hb, h1.perm, h1.lt, h1.nd, h1.all, h1.kn⟩, G.has h2 hr, h3⟩
theorem RgDM.gro (h : RgDM kv ok ev w b r L R) (G : Gro w w') : RgDM kv ok ev w' b r L R := h.gros (S := []) (.of G) (by simp) (by simp)
theorem RgDM.ne (h : RgDM kv ok ev w b r L R) (e : w.heap.size = g) : b ≠ g ∧ r ≠ g := by
  have h1 := h.tm.lt
  have h2 := h.lt
  omega
theorem RgDM.st {x : Obj} (h : RgDM kv ok ev w b r L R) (St : Stored w w' g x) (hn : b ≠ g ∧ r ≠ g) : RgDM kv ok ev w' b r L R := h.gros St.gros (by simpa using hn.1) (by simpa using hn.2)
end
/-! ### Operations -/
end Go.Proofs.Ytjahegiopigblaa
