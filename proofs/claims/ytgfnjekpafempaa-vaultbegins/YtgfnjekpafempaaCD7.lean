/- A disk of any bytes (DiskOf). -/
import Derived.Test.YtgfnjekpafempaaCD5
namespace Go.Proofs.Ytgfnjekpafempaa
open Go.RowKit
theorem DK.st {w w' : World} {p sg n : Nat} {L : List Nat} {pw dn : Int} {g : Nat} {x : Obj} (h : DK w p sg n L pw dn) (S : Stored w w' g x) (h1 : g ≠ p) (h2 : g ≠ sg) : DK w' p sg n L pw dn := ⟨S.has (Ne.symm h1) h.box, S.has (Ne.symm h2) h.sec, h.len, h.le, h.byte, h.ne⟩
theorem RDk.st {w w' : World} {p sg n : Nat} {L : List Nat} {pw dn : Int} {g : Nat} {x : Obj} (h : RDk w p sg n L pw dn) (S : Stored w w' g x) (h1 : g ≠ p) (h2 : g ≠ sg) : RDk w' p sg n L pw dn := ⟨S.has (Ne.symm h1) h.box, S.has (Ne.symm h2) h.sec, h.len, h.le, h.byte, h.ne⟩
end Go.Proofs.Ytgfnjekpafempaa
