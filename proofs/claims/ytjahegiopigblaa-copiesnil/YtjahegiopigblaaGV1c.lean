/- Growth that is carried, boxes made in whatever order; Clone of bytes, apart. -/
import Derived.Test.YtjahegiopigblaaGA1
namespace Go.Proofs.Ytjahegiopigblaa
open Go.RowKit
theorem bT : NumT Try.prog 44 5 .u8 1 := ⟨Try.underlying44, Try.underlying5, by
  have h : (Try.prog.info? 5).map (fun i => (i.zero, i.size, i.bytes)) = some (some (.int .u8 0), 1, 1) := by kernel_rfl
  cases hi : Try.prog.info? 5 with
  | none => rw [hi] at h; cases h
  | some i =>
    rw [hi] at h
    simp only [Option.map_some, Option.some.injEq, Prod.mk.injEq] at h
    exact ⟨i, rfl, h.1, h.2.1, h.2.2⟩⟩
theorem Gro.gro {a b c : World} (h : Gro a b) (k : Gro b c) : Gro a c := h.trans k
theorem Gro.ne {a b : World} {g : Nat} (h : Gro a b) (e : b.heap.size = g) : a.heap.size ≤ g := e ▸ h.size
theorem Gro.st {a b c : World} {g : Nat} {x : Obj} (h : Gro a b) (S : Stored b c g x) (hn : a.heap.size ≤ g) : Gro a c := h.store S hn
def NEo (ao : Option Addr) (g : Nat) : Prop := ∀ ad, ao = some ad → ad.block ≠ g
section
variable {w w' : World} {e : TypeId} {k : IntKind} {B g : Nat} {ao : Option Addr} {cap : Nat} {l : List Nat} {x : Obj}
theorem NC.ne (h : NC w k ao cap l) (e : w.heap.size = g) : NE ao l.length g := fun ad ha h0 => by
  have := h.lt ad ha h0
  omega
theorem NC.st (h : NC w k ao cap l) (S : Stored w w' g x) (hn : NE ao l.length g) : NC w' k ao cap l := GroS.nc S.gros h (fun ad ha h0 => by simpa using hn ad ha h0)
theorem OB.ne (h : OB w e k B ao cap l) (hs : w.heap.size = g) : NEo ao g := fun ad ha => by
  have := (h.ge ad ha).2
  omega
theorem OB.st (h : OB w e k B ao cap l) (S : Stored w w' g x) (hn : NEo ao g) : OB w' e k B ao cap l := h.apart S hn
end
end Go.Proofs.Ytjahegiopigblaa
