/- Steps, and whether each step of a trail is another one's: the program's and the document's. -/
import Derived.Test.YtkjnefgenffhcaaGT4
namespace Go.Proofs.Ytkjnefgenffhcaa
open Go.RowKit Go.Maps
section
variable {w w' : World} {ao : Option Addr} {cap : Nat} {l : List (Int × Int)} {g : Nat}
/-- A row is no part of a block. -/
def NEt (ao : Option Addr) (l : List (Int × Int)) (g : Nat) : Prop := ∀ ad, ao = some ad → 0 < (cp l).length → ad.block ≠ g
theorem RP.ne (h : RP w ao cap l) (e : w.heap.size = g) : NEt ao l g := fun ad ha h0 => by
  have := h.xc.lt ad ha h0
  omega
theorem RP.st {x : Obj} (h : RP w ao cap l) (S : Stored w w' g x) (hn : NEt ao l g) : RP w' ao cap l :=
  ⟨⟨h.xc.len, h.xc.fit, h.xc.bare, fun ad ha j v hv => (World.cell?_of_block (S.old _ (by rw [add_block]; exact hn ad ha (by have := (List.getElem?_eq_some_iff.1 hv).1; omega)))).trans (h.xc.cell ad ha j v hv), h.xc.one⟩, h.all⟩
end
/-- A map at b, of steps. -/
structure MP (w : World) (b n : Nat) (f : Int × Int → Int) : Prop where
  out : ∃ S, MX 36 pv P64 w b n f S
section
variable {w w' : World} {b n : Nat} {f : Int × Int → Int} {g : Nat}
theorem MP.gro (h : MP w b n f) (G : Gro w w') : MP w' b n f := let ⟨S, h⟩ := h.out; ⟨S, h.gro G⟩
theorem MP.ne (h : MP w b n f) (e : w.heap.size = g) : b ≠ g := let ⟨_, h⟩ := h.out; by have := h.lt; omega
theorem MP.st {x : Obj} (h : MP w b n f) (St : Stored w w' g x) (hn : b ≠ g) : MP w' b n f := by
  obtain ⟨S, D, ⟨es, c, h1, h2⟩, h3⟩ := h
  exact ⟨S, D, ⟨es, c, by rw [St.old b hn]; exact h1, h2⟩, h3⟩
end
end Go.Proofs.Ytkjnefgenffhcaa
