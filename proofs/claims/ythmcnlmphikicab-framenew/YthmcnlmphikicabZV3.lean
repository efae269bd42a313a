/- Frames' rows apart from blocks that are written over. -/
import Derived.Test.YthmcnlmphikicabZV2
import Derived.Test.YthmcnlmphikicabZK4
namespace Go.Proofs.Ythmcnlmphikicab
open Go.RowKit
structure Lower (n : Nat) (f : Fr) : Prop where
  tr : ∀ ad, f.tr.ao = some ad → ad.block < n
  ids : ∀ ad, f.ids.ao = some ad → ad.block < n
  val : ∀ ad, f.val.ao = some ad → ad.block < n
  tx : ∀ ad, f.tx.ao = some ad → ad.block < n
theorem FrO.lower {w : World} {B : Nat} {f : Fr} {d : FD} (h : FrO w B f d) : Lower w.heap.size f := ⟨fun ad ha => (h.tr.ge ad ha).2, fun ad ha => (h.ids.ge ad ha).2, fun ad ha => (h.val.ge ad ha).2, fun ad ha => (h.tx.ge ad ha).2⟩
theorem Lower.sp {n : Nat} {f : Fr} (h : Lower n f) : ∀ x ∈ spB f, x < n := fun x hx => by
  simp only [spB, List.mem_append, mem_blk] at hx
  rcases hx with ⟨ad, h1, rfl⟩ | ⟨ad, h1, rfl⟩ | ⟨ad, h1, rfl⟩ | ⟨ad, h1, rfl⟩
  · exact h.tr ad h1
  · exact h.ids ad h1
  · exact h.tx ad h1
  · exact h.val ad h1
theorem FrO.sp {w : World} {B : Nat} {f : Fr} {d : FD} (h : FrO w B f d) : ∀ x ∈ spB f, B ≤ x := fun x hx => by
  simp only [spB, List.mem_append, mem_blk] at hx
  rcases hx with ⟨ad, h1, rfl⟩ | ⟨ad, h1, rfl⟩ | ⟨ad, h1, rfl⟩ | ⟨ad, h1, rfl⟩
  · exact (h.tr.ge ad h1).1
  · exact (h.ids.ge ad h1).1
  · exact (h.tx.ge ad h1).1
  · exact (h.val.ge ad h1).1
theorem FrO.above {w w' : World} {B : Nat} {f : Fr} {d : FD} {S : List Nat} (h : FrO w B f d) (G : GroS S w w') (hS : ∀ x ∈ S, x < B) : FrO w' B f d :=
  ⟨h.tr.gros G (fun ad ha hm => by have := hS _ hm; have := (h.tr.ge ad ha).1; omega), h.ids.gros G (fun ad ha hm => by have := hS _ hm; have := (h.ids.ge ad ha).1; omega), h.val.gros G (fun ad ha hm => by have := hS _ hm; have := (h.val.ge ad ha).1; omega), h.tx.gros G (fun ad ha hm => by have := hS _ hm; have := (h.tx.ge ad ha).1; omega), h.oids, h.oval, h.otx⟩
theorem FrO.under {w w' : World} {B n : Nat} {f : Fr} {d : FD} {S : List Nat} (h : FrO w B f d) (L : Lower n f) (G : GroS S w w') (hS : ∀ x ∈ S, n ≤ x) : FrO w' B f d :=
  ⟨h.tr.gros G (fun ad ha hm => by have := hS _ hm; have := L.tr ad ha; omega), h.ids.gros G (fun ad ha hm => by have := hS _ hm; have := L.ids ad ha; omega), h.val.gros G (fun ad ha hm => by have := hS _ hm; have := L.val ad ha; omega), h.tx.gros G (fun ad ha hm => by have := hS _ hm; have := L.tx ad ha; omega), h.oids, h.oval, h.otx⟩
theorem FrO.apartB {w : World} {B g : Nat} {f : Fr} {d : FD} {c : Array Value} (h : FrO w B f d) (hg : w.heap[g]? = some (.cells c 40 (0, 0))) : g ∉ spB f := fun hx => by
  simp only [spB, List.mem_append, mem_blk] at hx
  rcases hx with ⟨ad, h1, rfl⟩ | ⟨ad, h1, rfl⟩ | ⟨ad, h1, rfl⟩ | ⟨ad, h1, rfl⟩
  · obtain ⟨c, hc⟩ := h.tr.ty h1; exact neT hc hg (by decide) rfl
  · obtain ⟨c, hc⟩ := h.ids.ty h1; exact neT hc hg (by decide) rfl
  · obtain ⟨c, hc⟩ := h.tx.ty h1; exact neT hc hg (by decide) rfl
  · obtain ⟨c, hc⟩ := h.val.ty h1; exact neT hc hg (by decide) rfl
theorem int_map (l : List Int) : ∀ v ∈ l.map (Value.int .i64 ·), ∃ x, v = .int .i64 x := fun v hv => by
  obtain ⟨x, _, rfl⟩ := List.mem_map.1 hv
  exact ⟨x, rfl⟩
theorem int_bL (l : List Nat) : ∀ v ∈ bL l, ∃ x, v = .int .u8 x := fun v hv => by
  obtain ⟨x, _, rfl⟩ := List.mem_map.1 hv
  exact ⟨_, rfl⟩
theorem int_cells (l : List (List Nat)) : ∀ v ∈ cellsI l, ∃ x, v = .int .u8 x := fun v hv => by
  obtain ⟨x, _, hx⟩ := List.mem_flatMap.1 hv
  exact int_bL x v hx
theorem spoil_own (f : Fr) (d : FD) (w : World) (B : Nat) (H : FrO w B f d) (hN : f.tr.n ≤ 140737488355328 ∧ f.ids.n ≤ 140737488355328 ∧ f.tx.n ≤ 140737488355328 ∧ f.val.n ≤ 140737488355328) : Calls Try.prog 13 #[.agg (frA f)] w fun e w' => e = .returned (.tuple #[]) ∧ GroS (spB f) w w' :=
  spoil_any f w (RI.of H.tr (int_map d.tr)) (RI.of H.ids (int_cells d.ids)) (RI.of H.tx (int_bL d.tx)) (RI.of H.val (int_bL d.val)) hN
end Go.Proofs.Ythmcnlmphikicab
