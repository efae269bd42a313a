/- Each body that was laid is read as it was; cut off, it ends too early. -/
import Derived.Test.YthmcnlmphikicaaGG4
import Derived.Test.YthmcnlmphikicaaGH3
namespace Go.Proofs.Ythmcnlmphikicaa
open Go.RowKit
structure EqF (f g : Fr) : Prop where
  pw : idL f.pw = idL g.pw
  pn : f.pn = g.pn
  toA : f.toA = g.toA
  a : idL f.a = idL g.a
  b : idL f.b = idL g.b
  n : f.n = g.n
  fi : f.fi = g.fi
  fn : f.fn = g.fn
  ti : f.ti = g.ti
  tn : f.tn = g.tn
  key : idL f.key = idL g.key
  vn : f.vn = g.vn
  vw : idL f.vw = idL g.vw
  op : f.op = g.op
  ttl : f.ttl = g.ttl
end Go.Proofs.Ythmcnlmphikicaa
