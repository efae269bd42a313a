/- Each body that was laid is read as it was; cut off, it ends too early. -/
import Derived.Test.YthmcnlmphikicaaEG4
import Derived.Test.YthmcnlmphikicaaEG6
namespace Go.Proofs.Ythmcnlmphikicaa
open Go.RowKit
/-- What is asked of a frame that is laid. -/
structure LayOK (k : Nat) (f : Fr) (d : FD) : Prop where
  n_pn : okN f.pn
  n_n : okN f.n
  n_fi : okN f.fi
  n_fn : okN f.fn
  n_ti : okN f.ti
  n_tn : okN f.tn
  n_vn : okN f.vn
  tr : d.tr.length ≤ 64
  tok : ∀ x ∈ d.tr, 0 ≤ x ∧ x ≤ 5
  ids : d.ids.length ≤ 16
  i16 : ∀ x ∈ d.ids, x.length = 16
  val : d.val.length ≤ 64
  own : match k with
    | 2 => d.tx.length ≤ 4096
    | 8 => 0 ≤ f.op ∧ f.op ≤ 3
    | 10 => 1 ≤ f.op ∧ f.op ≤ 4 ∧ 0 ≤ f.ttl ∧ f.ttl ≤ 64 ∧ d.tx.length ≤ 64
    | _ => True
/-- Two frames that are one, their rows apart. -/
structure EqF (f g : Fr) : Prop where
  pw : idL f.pw = idL g.pw
  pn : f.pn = g.pn
  toA : f.toA = g.toA
  a : idL f.a = idL g.a
  b : idL f.b = idL g.b
  n : f.n = g.n
  fi : f.fi = g.fi
  fn : f.fn = g.fn
  ti : f.ti = g.ti
  tn : f.tn = g.tn
  key : idL f.key = idL g.key
  vn : f.vn = g.vn
  vw : idL f.vw = idL g.vw
  op : f.op = g.op
  ttl : f.ttl = g.ttl
end Go.Proofs.Ythmcnlmphikicaa
