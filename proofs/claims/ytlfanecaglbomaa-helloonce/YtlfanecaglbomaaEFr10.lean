/- Arguments: an identity, a call of a script with its frame, a script. -/
import Derived.Test.YtlfanecaglbomaaEH1
import Derived.Test.YtlfanecaglbomaaEFr5
namespace Go.Proofs.Ytlfanecaglbomaa
open Go.ChangeShapes Go.WideShapes Go.ChangeAt Go.RowKit
structure OpH where
  kd : Int
  ni : Int
  nn : Int
  ao : Option Addr
  cap : Nat
  l : List Nat
  f : Fr
  d : FD
structure OpW (w : World) (o : OpH) : Prop where
  nc : NC w .u8 o.ao o.cap o.l
  fw : FrW w o.f o.d
  fr : FrR o.f
end Go.Proofs.Ytlfanecaglbomaa
