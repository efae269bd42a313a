/- What holds of who is wanted: both or neither, greedy, enough, all around, whoever comes. No program. -/
import Derived.Test.YtjahegiopigblaaHI1
namespace Go.Proofs.Ytjahegiopigblaa
open Go.RowKit
/-! ### Greedy -/
/-- Nearness told by places on the way clockwise from some place. -/
def fr (T D X : Nat) : Nat := if D ≤ X then X - D else X + T - D
def br (T D X : Nat) : Nat := if X ≤ D then D - X else D + T - X
def far (T D X : Nat) : Nat := if br T D X < fr T D X then br T D X else fr T D X
end Go.Proofs.Ytjahegiopigblaa
namespace Go.Proofs.Ytjahegiopigblaa
open Go.RowKit
/-- None of a list is nearer. -/
def rtC (s : Nat) (l : List Nat) (k : Nat) : Bool := l.all fun x => !nearN k x s
theorem rtC_iff {s : Nat} {l : List Nat} {k : Nat} : rtC s l k = true ↔ ∀ x ∈ l, nearN k x s = false := by
  unfold rtC
  rw [List.all_eq_true]
  exact ⟨fun h x hx => by simpa using h x hx, fun h x hx => by simpa using h x hx⟩
theorem rtC_no {s : Nat} {l : List Nat} {k : Nat} : rtC s l k = false ↔ ∃ x ∈ l, nearN k x s = true := by
  constructor
  · intro h
    cases Classical.em (∃ x ∈ l, nearN k x s = true) with
    | inl h1 => exact h1
    | inr h1 =>
      have : rtC s l k = true := rtC_iff.2 fun x hx => by
        cases e : nearN k x s with
        | false => rfl
        | true => exact absurd ⟨x, hx, e⟩ h1
      rw [this] at h
      cases h
  · intro ⟨x, hx, e⟩
    cases h : rtC s l k with
    | false => rfl
    | true => rw [rtC_iff.1 h x hx] at e; cases e
/-- Root asks for the set alone, without the one that asks. -/
theorem rtC_lin {s : Nat} {l : List Nat} (hl : All l) (k : Nat) : rtC s (lin (kc 0) s l) k = rtC s l k := by
  cases h : rtC s l k with
  | true => exact rtC_iff.2 fun x hx => rtC_iff.1 h x ((lin_mem (kc_inj top_0i) hl x).1 hx).1
  | false =>
    obtain ⟨x, hx, e⟩ := rtC_no.1 h
    exact rtC_no.2 ⟨x, (lin_mem (kc_inj top_0i) hl x).2 ⟨hx, fun h0 => by rw [h0, near_irr] at e; cases e⟩, e⟩
/-- The nearest one. -/
def nsC (k : Nat) : List Nat → Option Nat
  | [] => none
  | x :: l => match nsC k l with
    | none => some x
    | some y => some (if nearN k y x = true then y else x)
theorem nsC_none {k : Nat} : ∀ {l : List Nat}, nsC k l = none → l = []
  | [], _ => rfl
  | x :: l, h => by
    unfold nsC at h
    cases e : nsC k l with
    | none => rw [e] at h; cases h
    | some y => rw [e] at h; cases h
theorem nsC_spec {k : Nat} (hk : k < top) : ∀ {l : List Nat} {m : Nat}, All l → nsC k l = some m → m ∈ l ∧ ∀ z ∈ l, nearN k z m = false
  | [], _, _, h => by cases h
  | x :: l, m, hl, h => by
    unfold nsC at h
    cases e : nsC k l with
    | none =>
      rw [e] at h
      cases h
      rw [nsC_none e]
      exact ⟨List.mem_cons_self, fun z hz => by rw [List.mem_singleton.1 hz]; exact near_irr _ _⟩
    | some y =>
      rw [e] at h
      replace h : some (if nearN k y x = true then y else x) = some m := h
      obtain ⟨h1, h2⟩ := nsC_spec hk (fun z hz => hl z (List.mem_cons_of_mem _ hz)) e
      have hx := hl x List.mem_cons_self
      have hy := hl y (List.mem_cons_of_mem _ h1)
      by_cases c : nearN k y x = true
      · rw [if_pos c] at h
        cases h
        refine ⟨List.mem_cons_of_mem _ h1, fun z hz => ?_⟩
        rcases List.mem_cons.1 hz with rfl | hz
        · have hne : z ≠ m := fun e0 => by rw [e0, near_irr] at c; cases c
          rw [near_not k m z hy hx hk (Ne.symm hne), c]
          rfl
        · exact h2 z hz
      · rw [if_neg c] at h
        cases h
        refine ⟨List.mem_cons_self, fun z hz => ?_⟩
        rcases List.mem_cons.1 hz with rfl | hz
        · exact near_irr _ _
        · cases e2 : nearN k z x with
          | false => rfl
          | true =>
            have hz2 := h2 z hz
            by_cases e3 : z = y
            · rw [e3] at e2
              exact absurd e2 c
            · have h3 : nearN k y z = true := by rw [near_not k z y (hl z (List.mem_cons_of_mem _ hz)) hy hk e3, hz2]; rfl
              exact absurd (near_trans k y z x h3 e2) c
theorem nsC_uniq {k : Nat} (hk : k < top) {l : List Nat} (hl : All l) {a b : Nat} (ha : a ∈ l) (hb : b ∈ l) (h1 : ∀ z ∈ l, nearN k z a = false) (h2 : ∀ z ∈ l, nearN k z b = false) : a = b := by
  cases Classical.em (a = b) with
  | inl e => exact e
  | inr e =>
    have := near_not k a b (hl a ha) (hl b hb) hk e
    rw [h1 b hb, h2 a ha] at this
    cases this
/-- To whom an item is owed. -/
def owC (s : Nat) (l : List Nat) (k : Nat) : List Nat := if rtC s (lin (kc 0) s l) k = true then lin (kc 0) s l else (nsC k (lin (kc 0) s l)).toList
theorem lin_of_ris {s : Nat} {l : List Nat} (hl : All l) (h : Risi (kc 0) l) (hs : s ∉ l) : lin (kc 0) s l = l :=
  (lin_eq (kc_inj top_0i) hl h (fun x => ⟨fun hx => ⟨hx, fun e => hs (by rw [← e]; exact hx)⟩, fun hx => hx.1⟩)).symm
end Go.Proofs.Ytjahegiopigblaa
