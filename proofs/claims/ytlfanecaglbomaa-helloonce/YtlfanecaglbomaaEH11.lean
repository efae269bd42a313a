/- The document's end: Hear. -/
import Derived.Test.YtlfanecaglbomaaEH9
namespace Go.Proofs.Ytlfanecaglbomaa
open Go.RowKit
def DX (w : World) (r : Nat) (id : Nat → Nat) (x : ES) (mu tb : List Nat) : Prop := ∃ (B : Nat) (so : Option Addr) (sc : Nat) (u : List RV), WX 34 (c34 id x.up x.op x.mi x.mn x.pi x.pn x.oth ⟨so, u.length, sc⟩ ((x.k : Nat) : Int) ((x.c : Nat) : Int)) w r B so sc u ∧ x.k ≤ u.length ∧ (u.drop x.k).map (·.l) = x.q ∧ mu = r :: blk so ∧ tb = txb u
end Go.Proofs.Ytlfanecaglbomaa
