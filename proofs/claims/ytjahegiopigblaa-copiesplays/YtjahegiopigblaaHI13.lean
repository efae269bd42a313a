/- The document's calls: who is wanted, who is next. -/
import Derived.Test.YtjahegiopigblaaHI12
import Derived.Test.YtjahegiopigblaaHW2
namespace Go.Proofs.Ytjahegiopigblaa
open Go.RowKit
/-- So many blocks are there. -/
def SZi (B : Nat) (w : World) : Prop := B ≤ w.heap.size
theorem SZi.gro {B : Nat} {w w' : World} (h : SZi B w) (G : Gro w w') : SZi B w' := Nat.le_trans h G.size
end Go.Proofs.Ytjahegiopigblaa
