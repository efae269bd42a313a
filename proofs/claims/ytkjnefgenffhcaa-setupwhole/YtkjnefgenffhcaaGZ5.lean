/- Entries laid into tables of either side; two endings held together. -/
import Derived.Test.YtkjnefgenffhcaaGZ4
import Derived.Test.YtkjnefgenffhcaaGP12
namespace Go.Proofs.Ytkjnefgenffhcaa
open Go.RowKit Go.Maps
theorem FrQ.n0 {w : World} {B : Nat} {M : Msg} {ao : Option Addr} {cap : Nat} {g : Fr} (h : FrQ w B (frY M ao cap g) (dM M)) : g.ids.n = 0 ∧ g.val.n = 0 ∧ g.tx.n = 0 := by
  have hw := h.w
  exact ⟨hw.idn, xc_len1 (l := ([] : List Nat)) hw.val, xc_len1 (l := ([] : List Nat)) hw.tx⟩
theorem FrQ.s {w : World} {B : Nat} {M : Msg} {ao : Option Addr} {cap : Nat} {g : Fr} (h : FrQ w B (frY M ao cap g) (dM M)) (hl : M.l.length ≤ 17592186044416) : FrS (frY M ao cap g) := by
  obtain ⟨h1, h2, h3⟩ := h.n0
  exact ⟨⟨by show M.l.length * 8 ≤ _; omega⟩, ⟨by show g.ids.n * 16 ≤ _; omega⟩, ⟨by show g.val.n * 1 ≤ _; omega⟩, ⟨by show g.tx.n * 1 ≤ _; omega⟩⟩
end Go.Proofs.Ytkjnefgenffhcaa
