/- What holds of who is wanted: both or neither, greedy, enough, all around, whoever comes. No program. -/
import Derived.Test.YtjahegiopigblaaDI1
namespace Go.Proofs.Ytjahegiopigblaa
open Go.RowKit
/-! ### Greedy -/
/-- The first one clockwise and the first one the other way are wanted. -/
theorem first_want {s y : Nat} {l : List Nat} (_hs : s < top) (hl : All l) {half : Int} (hh : 1 ≤ half) (hy : y ∈ l) (hys : y ≠ s) (h : ∀ z ∈ l, z ≠ s → kc s y ≤ kc s z) : y ∈ want s l half := by
  refine (want_mem hl half y).2 ⟨⟨hy, hys⟩, ?_⟩
  have : cR s (lin (kc 0) s l) y = 0 := List.countP_eq_zero.2 fun z hz => by
    have hz' := (lin_mem (kc_inj top_0i) hl z).1 hz
    have := h z hz'.1 hz'.2
    simp only [decide_eq_true_eq]
    omega
  unfold isW
  rw [this, Bool.or_eq_true]
  exact .inl (decide_eq_true (by omega))
theorem last_want {s y : Nat} {l : List Nat} (hs : s < top) (hl : All l) {half : Int} (hh : 1 ≤ half) (hy : y ∈ l) (hys : y ≠ s) (h : ∀ z ∈ l, z ≠ s → kc s z ≤ kc s y) : y ∈ want s l half := by
  refine (want_mem hl half y).2 ⟨⟨hy, hys⟩, ?_⟩
  have : cL s (lin (kc 0) s l) y = 0 := List.countP_eq_zero.2 fun z hz => by
    have hz' := (lin_mem (kc_inj top_0i) hl z).1 hz
    have := h z hz'.1 hz'.2
    simp only [decide_eq_true_eq]
    intro hlt
    have := (kl_iff hs (hl y hy) (hl z hz'.1) hys hz'.2).1 hlt
    omega
  unfold isW
  rw [this, Bool.or_eq_true]
  exact .inr (decide_eq_true (by omega))
/-- Nearness told by places on the way clockwise from some place. -/
def fr (T D X : Nat) : Nat := if D ≤ X then X - D else X + T - D
def br (T D X : Nat) : Nat := if X ≤ D then D - X else D + T - X
def far (T D X : Nat) : Nat := if br T D X < fr T D X then br T D X else fr T D X
def nea (T D X Y : Nat) : Prop := far T D X < far T D Y ∨ (far T D X = far T D Y ∧ fr T D X < fr T D Y)
theorem fr_kc {a x d : Nat} (ha : a < top) (hx : x < top) (hd : d < top) : subN x d = fr top (kc a d) (kc a x) := by
  unfold fr
  rw [kc_if ha hd, kc_if ha hx, subN_if hx hd]
  split <;> split <;> split <;> split <;> omega
theorem br_kc {a x d : Nat} (ha : a < top) (hx : x < top) (hd : d < top) : subN d x = br top (kc a d) (kc a x) := by
  unfold br
  rw [kc_if ha hd, kc_if ha hx, subN_if hd hx]
  split <;> split <;> split <;> split <;> omega
theorem near_kc {a x y d : Nat} (ha : a < top) (hx : x < top) (hy : y < top) (hd : d < top) : nearN d x y = true ↔ nea top (kc a d) (kc a x) (kc a y) := by
  rw [near_iff]
  unfold nea far farN
  rw [fr_kc ha hx hd, fr_kc ha hy hd, br_kc ha hx hd, br_kc ha hy hd]
theorem fr_fact (T D X : Nat) : (D ≤ X ∧ fr T D X = X - D) ∨ (X < D ∧ fr T D X = X + T - D) := by
  unfold fr
  split
  · exact .inl ⟨by omega, rfl⟩
  · exact .inr ⟨by omega, rfl⟩
theorem br_fact (T D X : Nat) : (X ≤ D ∧ br T D X = D - X) ∨ (D < X ∧ br T D X = D + T - X) := by
  unfold br
  split
  · exact .inl ⟨by omega, rfl⟩
  · exact .inr ⟨by omega, rfl⟩
theorem far_fact (T D X : Nat) : (br T D X < fr T D X ∧ far T D X = br T D X) ∨ (fr T D X ≤ br T D X ∧ far T D X = fr T D X) := by
  unfold far
  split
  · exact .inl ⟨by omega, rfl⟩
  · exact .inr ⟨by omega, rfl⟩
theorem greedy_num (T D S M P : Nat) (h1 : 0 < S) (h2 : S ≤ M) (h3 : M ≤ P) (h4 : P < T) (h5 : D < T) (h : nea T D M 0) : nea T D S 0 ∨ nea T D P 0 := by
  have a1 := fr_fact T D S
  have a2 := br_fact T D S
  have a3 := far_fact T D S
  have b1 := fr_fact T D M
  have b2 := br_fact T D M
  have b3 := far_fact T D M
  have c1 := fr_fact T D P
  have c2 := br_fact T D P
  have c3 := far_fact T D P
  have d1 := fr_fact T D 0
  have d2 := br_fact T D 0
  have d3 := far_fact T D 0
  unfold nea at *
  generalize fr T D S = x1 at *
  generalize br T D S = x2 at *
  generalize far T D S = x3 at *
  generalize fr T D M = y1 at *
  generalize br T D M = y2 at *
  generalize far T D M = y3 at *
  generalize fr T D P = z1 at *
  generalize br T D P = z2 at *
  generalize far T D P = z3 at *
  generalize fr T D 0 = u1 at *
  generalize br T D 0 = u2 at *
  generalize far T D 0 = u3 at *
  by_cases c : D ≤ T - D
  · left
    clear c1 c2 c3
    omega
  · right
    clear a1 a2 a3
    omega
theorem max_ex (k : Nat → Nat) : ∀ l : List Nat, l ≠ [] → ∃ y ∈ l, ∀ z ∈ l, k z ≤ k y
  | [], h => absurd rfl h
  | [x], _ => ⟨x, List.mem_cons_self, fun z hz => by rw [List.mem_singleton.1 hz]; exact Nat.le_refl _⟩
  | x :: y :: r, _ => by
    obtain ⟨m, hm, h⟩ := max_ex k (y :: r) (by simp)
    by_cases c : k x ≤ k m
    · exact ⟨m, List.mem_cons_of_mem _ hm, fun z hz => (List.mem_cons.1 hz).elim (fun e => by rw [e]; exact c) (h z)⟩
    · exact ⟨x, List.mem_cons_self, fun z hz => (List.mem_cons.1 hz).elim (fun e => by rw [e]; exact Nat.le_refl _) (fun hz => by have := h z hz; omega)⟩
/-- Whoever isn't the nearest one wants one that is nearer. -/
theorem greedy {a d m : Nat} {l : List Nat} (hl : All l) (ha : a ∈ l) (hd : d < top) (hm : m ∈ l) (ham : a ≠ m) (h : ∀ z ∈ l, nearN d z m = false) {half : Int} (hh : 1 ≤ half) : ∃ b ∈ want a l half, nearN d b a = true := by
  have hta := hl a ha
  have htm := hl m hm
  have hma : nearN d m a = true := by rw [near_not d a m hta htm hd ham, h a ha]; rfl
  have hi := kc_inj hta
  have hmL := (lin_mem (wo := a) hi hl m).2 ⟨hm, fun e => ham e.symm⟩
  have hne : lin (kc a) a l ≠ [] := fun e => by rw [e] at hmL; cases hmL
  obtain ⟨p, hp, hpm⟩ := max_ex (kc a) _ hne
  obtain ⟨s, hs⟩ : ∃ s, nxt a l = some s := by
    cases hn : nxt a l with
    | none => exact absurd (List.head?_eq_none_iff.1 hn) hne
    | some s => exact ⟨s, rfl⟩
  obtain ⟨⟨s1, s2⟩, s3⟩ := nxt_spec hta hl hs
  have hp' := (lin_mem hi hl p).1 hp
  have hpall : ∀ z ∈ l, z ≠ a → kc a z ≤ kc a p := fun z hz hza => hpm z ((lin_mem hi hl z).2 ⟨hz, hza⟩)
  have k0 : kc a a = 0 := by rw [kc_if hta hta]; simp
  have hsp : 0 < kc a s := by
    apply Nat.pos_of_ne_zero
    intro e
    exact s2 (hi s a (hl s s1) hta (by omega))
  have hlt : ∀ x, kc a x < top := fun x => subN_lt _ _
  have := greedy_num top (kc a d) (kc a s) (kc a m) (kc a p) hsp (s3 m hm (fun e => ham e.symm)) (hpall m hm (fun e => ham e.symm)) (hlt p) (hlt d) (by have := (near_kc hta htm hta hd).1 hma; rwa [k0] at this)
  rcases this with h1 | h1
  · exact ⟨s, first_want hta hl hh s1 s2 s3, (near_kc hta (hl s s1) hta hd).2 (by rw [k0]; exact h1)⟩
  · exact ⟨p, last_want hta hl hh hp'.1 hp'.2 hpall, (near_kc hta (hl p hp'.1) hta hd).2 (by rw [k0]; exact h1)⟩
end Go.Proofs.Ytjahegiopigblaa
