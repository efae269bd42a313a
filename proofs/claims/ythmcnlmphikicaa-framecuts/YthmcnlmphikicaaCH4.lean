/- A frame that was read is laid in the bytes that it was read from; FrameOne. -/
import Derived.Test.YthmcnlmphikicaaCH1
import Derived.Test.YthmcnlmphikicaaCR8
import Derived.Test.YthmcnlmphikicaaCG6
namespace Go.Proofs.Ythmcnlmphikicaa
open Go.RowKit
/-! ### No error is nought -/
structure NZ {β : Type} (r : Except Nat β) : Prop where
  out : ∀ x, r = .error x → x ≠ 0
theorem NZ.ok {β : Type} (b : β) : NZ (.ok b : Except Nat β) := ⟨fun _ h => by cases h⟩
theorem NZ.bind {α β : Type} {r : Except Nat (α × Nat)} {f : α → Nat → Except Nat (β × Nat)} (h : NZ r) (hf : ∀ a q, NZ (f a q)) : NZ (thenR r f) := by
  cases r with
  | error e => exact ⟨fun x hx => by cases hx; exact h.out _ rfl⟩
  | ok p => exact hf p.1 p.2
theorem bodyL_len (k : Nat) (h1 : 1 ≤ k) (h2 : k ≤ 12) (f : Fr) (d : FD) (ht : d.tr.length ≤ 64) (hi : d.ids.length ≤ 16) (ho : ok16 d.ids) (hv : d.val.length ≤ 64) (hx : d.tx.length ≤ 4096) : (bodyL k f d).length ≤ 1000000 := by
  rcases is12 h1 h2 with rfl | rfl | rfl | rfl | rfl | rfl | rfl | rfl | rfl | rfl | rfl | rfl
  · have z0 := sessL_len f.fi f.fn
    have z1 := sessL_len f.ti f.tn
    have z2 := idL_len f.a
    simp only [bodyL, List.flatten_cons, List.flatten_nil, List.length_append, List.length_nil]
    omega
  · have z0 := sessL_len f.fi f.fn
    have z1 := sessL_len f.ti f.tn
    have z2 := n1_len f.n
    have z3 := t1_len d.tx
    simp only [bodyL, List.flatten_cons, List.flatten_nil, List.length_append, List.length_nil]
    omega
  · have z0 := sessL_len f.fi f.fn
    have z1 := sessL_len f.ti f.tn
    have z2 := n1_len f.n
    simp only [bodyL, List.flatten_cons, List.flatten_nil, List.length_append, List.length_nil]
    omega
  · have z0 := pathL_len f.pw f.pn
    have z1 := idL_len f.a
    have z2 := idL_len f.b
    have z3 := trailL_len d.tr
    simp only [bodyL, List.flatten_cons, List.flatten_nil, List.length_append, List.length_nil]
    omega
  · have z0 := pathL_len f.pw f.pn
    simp only [bodyL]
    omega
  · have z0 := pathL_len f.pw f.pn
    have z1 := flagL_len f.toA
    simp only [bodyL, List.flatten_cons, List.flatten_nil, List.length_append, List.length_nil]
    omega
  · have z0 := pathL_len f.pw f.pn
    have z1 := flagL_len f.toA
    have z2 := idsL_len d.ids ho
    simp only [bodyL, List.flatten_cons, List.flatten_nil, List.length_append, List.length_nil]
    omega
  · have z0 := idL_len f.a
    have z1 := idL_len f.b
    have z2 := n1_len f.op
    have z3 := pathL_len f.pw f.pn
    have z4 := flagL_len f.toA
    have z5 := trailL_len d.tr
    simp only [bodyL, List.flatten_cons, List.flatten_nil, List.length_append, List.length_nil]
    omega
  · have z0 := idL_len f.a
    have z1 := n1_len f.n
    simp only [bodyL, List.flatten_cons, List.flatten_nil, List.length_append, List.length_nil]
    omega
  · have z0 := idL_len f.a
    have z1 := idL_len f.b
    have z2 := n3_len f.n f.op f.ttl
    have z3 := itemL_len f.key f.vn f.vw d.val
    have z4 := t1_len d.tx
    simp only [bodyL, List.flatten_cons, List.flatten_nil, List.length_append, List.length_nil]
    omega
  · have z0 := pathL_len f.pw f.pn
    have z1 := flagL_len f.toA
    have z2 := itemL_len f.key f.vn f.vw d.val
    simp only [bodyL, List.flatten_cons, List.flatten_nil, List.length_append, List.length_nil]
    omega
  · have z0 := pathL_len f.pw f.pn
    have z1 := flagL_len f.toA
    have z2 := idL_len f.key
    have z3 := verL_len f.vn f.vw
    simp only [bodyL, List.flatten_cons, List.flatten_nil, List.length_append, List.length_nil]
    omega
end Go.Proofs.Ythmcnlmphikicaa
