/- A frame that was read is laid in the bytes that it was read from; FrameOne. -/
import Derived.Test.YthmcnlmphikicaaGH2
import Derived.Test.YthmcnlmphikicaaGH3
import Derived.Test.YthmcnlmphikicaaGFr2
import Derived.Test.YthmcnlmphikicaaGG6
namespace Go.Proofs.Ythmcnlmphikicaa
open Go.RowKit
theorem decE_ok {l : List Nat} {a : Nat × Fr × FD} (h : decE l = .ok a) : ∃ q, rdB l 0 = .ok (a, q) ∧ l.length ≤ q := by
  unfold decE at h
  cases h1 : rdB l 0 with
  | error e => rw [h1] at h; cases h
  | ok p =>
    obtain ⟨b, q⟩ := p
    rw [h1] at h
    dsimp only at h
    cases c : decide (((q : Nat) : Int) < ((l.length : Nat) : Int)) with
    | true => rw [c] at h; cases h
    | false =>
      rw [c] at h
      cases h
      exact ⟨q, rfl, by simp at c; omega⟩
theorem dec_frameL {l : List Nat} (hl : ∀ y ∈ l, y < 256) {a : Nat × Fr × FD} (h : decE l = .ok a) : 1 ≤ a.1 ∧ a.1 ≤ 12 ∧ ∃ i q, Inv l i a.1 a.2.1 a.2.2 q ∧ l = frameL a.1 a.2.1 a.2.2 := by
  obtain ⟨q, h1, h2⟩ := decE_ok h
  obtain ⟨h3, h4, i, h5, h6⟩ := rdB_inv hl h1
  refine ⟨h3, h4, i, q, h6, ?_⟩
  have h7 := h6.eq
  rw [List.drop_of_length_le h2, List.append_nil] at h7
  rw [h7] at h5
  unfold frameL
  simpa using h5
/-! ### No error is nought -/
structure NZ {β : Type} (r : Except Nat β) : Prop where
  out : ∀ x, r = .error x → x ≠ 0
theorem NZ.ok {β : Type} (b : β) : NZ (.ok b : Except Nat β) := ⟨fun _ h => by cases h⟩
theorem NZ.err {β : Type} {n : Nat} (h : n ≠ 0) : NZ (.error n : Except Nat β) := ⟨fun _ e => by cases e; exact h⟩
theorem NZ.bind {α β : Type} {r : Except Nat (α × Nat)} {f : α → Nat → Except Nat (β × Nat)} (h : NZ r) (hf : ∀ a q, NZ (f a q)) : NZ (thenR r f) := by
  cases r with
  | error e => exact ⟨fun x hx => by cases hx; exact h.out _ rfl⟩
  | ok p => exact hf p.1 p.2
theorem NZ.cond {β : Type} {b : Bool} {x y : Except Nat β} (hx : NZ x) (hy : NZ y) : NZ (bif b then x else y) := by cases b; exact hy; exact hx
theorem nzN (l : List Nat) (i : Nat) : NZ (rdN l i) := by
  unfold rdN
  split
  · split
    · exact .err (by omega)
    · exact .ok _
  · exact .err (by omega)
theorem nzI (l : List Nat) (i : Nat) : NZ (rdI l i) := by unfold rdI; split; exact .ok _; exact .err (by omega)
theorem nzT (l : List Nat) (i m : Nat) : NZ (rdT l i m) := by unfold rdT; split; exact .ok _; exact .err (by omega)
theorem nzS (l : List Nat) (i : Nat) : NZ (rdS l i) := (nzN l i).bind fun _ q => (nzN l q).bind fun _ _ => .ok _
theorem nzPa (l : List Nat) (i : Nat) : NZ (rdPa l i) := (nzI l i).bind fun _ q => (nzN l q).bind fun _ _ => .ok _
theorem nzVe (l : List Nat) (i : Nat) : NZ (rdVe l i) := (nzN l i).bind fun _ q => (nzI l q).bind fun _ _ => .ok _
theorem nzIt (l : List Nat) (i : Nat) : NZ (rdIt l i) := (nzI l i).bind fun _ q => (nzVe l q).bind fun _ q => (nzT l q 64).bind fun _ _ => .ok _
theorem nzW (l : List Nat) (i lo hi : Nat) : NZ (rdW l i lo hi) := (nzN l i).bind fun _ _ => .cond (.err (by omega)) (.cond (.err (by omega)) (.ok _))
theorem nzC (l : List Nat) (i m : Nat) : NZ (rdC l i m) := (nzN l i).bind fun _ _ => .cond (.err (by omega)) (.ok _)
theorem nzF (l : List Nat) (i : Nat) : NZ (rdF l i) := (nzW l i 0 1).bind fun _ _ => .ok _
theorem nzRep {α : Type} {rd : Nat → Except Nat (α × Nat)} (h : ∀ i, NZ (rd i)) : ∀ n i, NZ (rdRep rd n i)
  | 0, _ => .ok _
  | n + 1, i => (h i).bind fun _ q => (nzRep h n q).bind fun _ _ => .ok _
theorem nzTr (l : List Nat) (i : Nat) : NZ (rdTr l i) := (nzC l i 64).bind fun n q => nzRep (fun i => (nzW l i 0 5).bind fun _ _ => .ok _) n q
theorem nzIs (l : List Nat) (i : Nat) : NZ (rdIs l i) := (nzC l i 16).bind fun n q => nzRep (fun i => nzI l i) n q
theorem nzB1 (l : List Nat) (i : Nat) : NZ (rdB1 l i) := NZ.bind (nzS l i) fun _ q => NZ.bind (nzS l q) fun _ q => NZ.bind (nzI l q) fun _ _q => .ok _
theorem nzB2 (l : List Nat) (i : Nat) : NZ (rdB2 l i) := NZ.bind (nzS l i) fun _ q => NZ.bind (nzS l q) fun _ q => NZ.bind (nzN l q) fun _ q => NZ.bind (nzT l q 4096) fun _ _q => .ok _
theorem nzB3 (l : List Nat) (i : Nat) : NZ (rdB3 l i) := NZ.bind (nzS l i) fun _ q => NZ.bind (nzS l q) fun _ q => NZ.bind (nzN l q) fun _ _q => .ok _
theorem nzB4 (l : List Nat) (i : Nat) : NZ (rdB4 l i) := NZ.bind (nzPa l i) fun _ q => NZ.bind (nzI l q) fun _ q => NZ.bind (nzI l q) fun _ q => NZ.bind (nzTr l q) fun _ _q => .ok _
theorem nzB5 (l : List Nat) (i : Nat) : NZ (rdB5 l i) := NZ.bind (nzPa l i) fun _ _q => .ok _
theorem nzB6 (l : List Nat) (i : Nat) : NZ (rdB6 l i) := NZ.bind (nzPa l i) fun _ q => NZ.bind (nzF l q) fun _ _q => .ok _
theorem nzB7 (l : List Nat) (i : Nat) : NZ (rdB7 l i) := NZ.bind (nzPa l i) fun _ q => NZ.bind (nzF l q) fun _ q => NZ.bind (nzIs l q) fun _ _q => .ok _
theorem nzB8 (l : List Nat) (i : Nat) : NZ (rdB8 l i) := NZ.bind (nzI l i) fun _ q => NZ.bind (nzI l q) fun _ q => NZ.bind (nzW l q 0 3) fun _ q => NZ.bind (nzPa l q) fun _ q => NZ.bind (nzF l q) fun _ q => NZ.bind (nzTr l q) fun _ _q => .ok _
theorem nzB9 (l : List Nat) (i : Nat) : NZ (rdB9 l i) := NZ.bind (nzI l i) fun _ q => NZ.bind (nzN l q) fun _ _q => .ok _
theorem nzB10 (l : List Nat) (i : Nat) : NZ (rdB10 l i) := NZ.bind (nzI l i) fun _ q => NZ.bind (nzI l q) fun _ q => NZ.bind (nzN l q) fun _ q => NZ.bind (nzW l q 1 4) fun _ q => NZ.bind (nzW l q 0 64) fun _ q => NZ.bind (nzIt l q) fun _ q => NZ.bind (nzT l q 64) fun _ _q => .ok _
theorem nzB11 (l : List Nat) (i : Nat) : NZ (rdB11 l i) := NZ.bind (nzPa l i) fun _ q => NZ.bind (nzF l q) fun _ q => NZ.bind (nzIt l q) fun _ _q => .ok _
theorem nzB12 (l : List Nat) (i : Nat) : NZ (rdB12 l i) := NZ.bind (nzPa l i) fun _ q => NZ.bind (nzF l q) fun _ q => NZ.bind (nzI l q) fun _ q => NZ.bind (nzVe l q) fun _ _q => .ok _
theorem nzB (l : List Nat) (i : Nat) : NZ (rdB l i) := (nzN l i).bind fun k q => by
  split
  · exact nzB1 l q
  · exact nzB2 l q
  · exact nzB3 l q
  · exact nzB4 l q
  · exact nzB5 l q
  · exact nzB6 l q
  · exact nzB7 l q
  · exact nzB8 l q
  · exact nzB9 l q
  · exact nzB10 l q
  · exact nzB11 l q
  · exact nzB12 l q
  · exact .err (by omega)
theorem nzD {l : List Nat} {x : Nat} (h : decE l = .error x) : x ≠ 0 := by
  unfold decE at h
  cases h1 : rdB l 0 with
  | error e => rw [h1] at h; cases h; exact (nzB l 0).out _ h1
  | ok p =>
    rw [h1] at h
    dsimp only at h
    cases c : decide (((p.2 : Nat) : Int) < ((l.length : Nat) : Int)) with
    | true => rw [c] at h; cases h; omega
    | false => rw [c] at h; cases h
end Go.Proofs.Ythmcnlmphikicaa
namespace Go.Proofs.Ythmcnlmphikicaa
open Go.ChangeShapes Go.WideShapes Go.ChangeAt Go.RowKit
theorem cellsI_len : ∀ {l : List (List Nat)}, ok16 l → (cellsI l).length = l.length * 16
  | [], _ => rfl
  | x :: l, h => by
    have h1 := (h x List.mem_cons_self).1
    have h2 := cellsI_len (l := l) fun y hy => h y (List.mem_cons_of_mem _ hy)
    unfold cellsI at *
    rw [List.flatMap_cons, List.length_append, h2, List.length_cons, bL, List.length_map, h1]
    omega
end Go.Proofs.Ythmcnlmphikicaa
