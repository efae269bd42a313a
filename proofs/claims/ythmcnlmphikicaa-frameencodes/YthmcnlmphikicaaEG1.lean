/- Plain, Of. -/
import Derived.Test.YthmcnlmphikicaaEF9
namespace Go.Proofs.Ythmcnlmphikicaa
open Go.RowKit
theorem FrW.kind {w : World} {f : Fr} {d : FD} (h : FrW w f d) (k : Int) : FrW w { f with kind := k } d := ⟨h.tr, h.ids, h.val, h.tx, h.oids, h.oval, h.otx⟩
def bareD (k : Nat) (d : FD) : FD :=
  ⟨if k = 4 ∨ k = 8 then d.tr else [], if k = 7 then d.ids else [], if k = 10 ∨ k = 11 then d.val else [], if k = 2 ∨ k = 10 then d.tx else []⟩
theorem xc_nil (w : World) (sz : Nat) : XC w sz Sl.nil.ao Sl.nil.cap Sl.nil.n [] := XC.nil w sz
theorem FrW.bare {w : World} {f : Fr} {d : FD} (h : FrW w f d) (k : Nat) (h1 : 1 ≤ k) (h2 : k ≤ 12) : FrW w (bare k f) (bareD k d) := by
  rcases is12 h1 h2 with rfl | rfl | rfl | rfl | rfl | rfl | rfl | rfl | rfl | rfl | rfl | rfl <;>
    refine ⟨?_, ?_, ?_, ?_, ?_, ?_, ?_⟩ <;>
    first
    | exact h.tr | exact h.ids | exact h.val | exact h.tx | exact h.oids | exact h.oval | exact h.otx
    | exact xc_nil w _ | (intro x hx; cases hx)
structure Small (n b : Nat) : Prop where
  out : n * b ≤ 140737488355328
theorem small_nil (b : Nat) : Small Sl.nil.n b := ⟨by show 0 * b ≤ _; omega⟩
/-- Rows that may be copied. -/
structure FrS (f : Fr) : Prop where
  tr : Small f.tr.n 8
  ids : Small f.ids.n 16
  val : Small f.val.n 1
  tx : Small f.tx.n 1
theorem FrS.bare {f : Fr} (h : FrS f) (k : Nat) (h1 : 1 ≤ k) (h2 : k ≤ 12) : FrS (bare k f) := by
  rcases is12 h1 h2 with rfl | rfl | rfl | rfl | rfl | rfl | rfl | rfl | rfl | rfl | rfl | rfl <;>
    refine ⟨?_, ?_, ?_, ?_⟩ <;>
    first
    | exact h.tr | exact h.ids | exact h.val | exact h.tx | exact small_nil _
def AP (w : World) (g : Fr) (d : FD) (v : Fr → Value) (e : Ending) (w' : World) : Prop := ∃ s1 s2 s3 s4 : Sl, e = .returned (v { g with tr := s1, ids := s2, val := s3, tx := s4 }) ∧ FrO w' w.heap.size { g with tr := s1, ids := s2, val := s3, tx := s4 } d ∧ Gro w w'
theorem FrO.apart {w w' : World} {B g : Nat} {f : Fr} {d : FD} {x : Obj} (h : FrO w B f d) (S : Stored w w' g x) (hg : g < B) : FrO w' B f d :=
  ⟨h.tr.apart S (fun ad ha => by have := h.tr.ge ad ha; omega), h.ids.apart S (fun ad ha => by have := h.ids.ge ad ha; omega), h.val.apart S (fun ad ha => by have := h.val.ge ad ha; omega), h.tx.apart S (fun ad ha => by have := h.tx.ge ad ha; omega), h.oids, h.oval, h.otx⟩
end Go.Proofs.Ythmcnlmphikicaa
