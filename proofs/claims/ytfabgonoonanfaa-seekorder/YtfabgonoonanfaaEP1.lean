/- Keys of paths, in order. No program. -/
import Derived.Test.YtfabgonoonanfaaENum
namespace Go.Proofs.Ytfabgonoonanfaa
open Go.RowKit
theorem top_0 : 0 < top := by decide
def I64 (x : Int) : Prop := -9223372036854775808 ≤ x ∧ x < 9223372036854775808
theorem I64.z : I64 0 := ⟨by decide, by decide⟩
/-- A path's key. -/
structure Pa where
  who : Nat
  n : Int
structure Pa.ok (p : Pa) : Prop where
  who : p.who < top
  n : I64 p.n
def zP : Pa := ⟨0, 0⟩
theorem zP_ok : zP.ok := ⟨top_0, I64.z⟩
/-- Keys in order, as numbers. -/
def ky (p : Pa) : Int := (p.who : Int) * 18446744073709551616 + p.n
theorem ky_lt {p q : Pa} (hp : p.ok) (hq : q.ok) : ky p < ky q ↔ p.who < q.who ∨ (p.who = q.who ∧ p.n < q.n) := by
  have h1 := hp.n
  have h2 := hq.n
  unfold I64 at h1 h2
  unfold ky
  omega
end Go.Proofs.Ytfabgonoonanfaa
