/- For whom a node asks, and by whom: candidates, the first one of each identity, what is asked for. No program. -/
import Derived.Test.YtfabgonoonanfaaEI1
import Derived.Test.YtfabgonoonanfaaEP1
namespace Go.Proofs.Ytfabgonoonanfaa
/-- A candidate. -/
structure Cd where
  id : Nat
  leg : Int
  n : Int
  p : Pa
structure Cd.ok (x : Cd) : Prop where
  id : x.id < top
  leg : I64 x.leg
  n : I64 x.n
  p : x.p.ok
def zC : Cd := ⟨0, 0, 0, zP⟩
theorem zC_ok : zC.ok := ⟨top_0, I64.z, I64.z, zP_ok⟩
/-- Of two of one identity. -/
def ahd (a b : Cd) : Bool := if a.leg = b.leg then (if a.leg = 1 then decide (ky a.p < ky b.p) else decide (a.n < b.n)) else decide (a.leg < b.leg)
theorem ahd_irr (a : Cd) : ahd a a = false := by
  unfold ahd
  rw [if_pos rfl]
  split <;> exact decide_eq_false (by omega)
theorem ahd_iff {a b : Cd} : ahd a b = true ↔ a.leg < b.leg ∨ (a.leg = b.leg ∧ ((a.leg = 1 ∧ ky a.p < ky b.p) ∨ (a.leg ≠ 1 ∧ a.n < b.n))) := by
  unfold ahd
  by_cases h : a.leg = b.leg
  · rw [if_pos h]
    by_cases k : a.leg = 1
    · rw [if_pos k, decide_eq_true_eq]; omega
    · rw [if_neg k, decide_eq_true_eq]; omega
  · rw [if_neg h, decide_eq_true_eq]; omega
theorem ahd_le {a b c : Cd} (h : ahd a b = false) (k : ahd c b = true) : ahd a c = false := by
  rw [Bool.eq_false_iff] at *
  rw [ahd_iff] at k
  rw [ne_eq, ahd_iff] at *
  omega
theorem ahd_leg {a b : Cd} (h : ahd a b = false) (k : ahd b a = false) : a.leg = b.leg := by
  rw [Bool.eq_false_iff, ne_eq, ahd_iff] at h k
  omega
/-- The first one of an identity. -/
def bstS (x : Nat) (o : Option Cd) (c : Cd) : Option Cd := if c.id = x then (match o with | none => some c | some b => if ahd c b = true then some c else some b) else o
def bstC (x : Nat) (l : List Cd) : Option Cd := l.foldl (bstS x) none
/-- What it is to be that one, of those that were looked at. -/
def IsC (x : Nat) (l : List Cd) : Option Cd → Prop
  | none => ∀ y ∈ l, y.id ≠ x
  | some c => c ∈ l ∧ c.id = x ∧ ∀ y ∈ l, y.id = x → ahd y c = false
theorem IsC.snoc {x : Nat} {l : List Cd} {o : Option Cd} (h : IsC x l o) (c : Cd) : IsC x (l ++ [c]) (bstS x o c) := by
  unfold bstS
  by_cases e : c.id = x
  · rw [if_pos e]
    cases o with
    | none =>
      refine ⟨by simp, e, fun y hy hyx => ?_⟩
      rcases List.mem_append.1 hy with hy | hy
      · exact absurd hyx (h y hy)
      · rw [List.mem_singleton.1 hy]; exact ahd_irr c
    | some b =>
      obtain ⟨h1, h2, h3⟩ := h
      simp only
      cases k : ahd c b
      · rw [if_neg (by decide)]
        refine ⟨List.mem_append_left _ h1, h2, fun y hy hyx => ?_⟩
        rcases List.mem_append.1 hy with hy | hy
        · exact h3 y hy hyx
        · rw [List.mem_singleton.1 hy]; exact k
      · rw [if_pos rfl]
        refine ⟨by simp, e, fun y hy hyx => ?_⟩
        rcases List.mem_append.1 hy with hy | hy
        · exact ahd_le (h3 y hy hyx) k
        · rw [List.mem_singleton.1 hy]; exact ahd_irr c
  · rw [if_neg e]
    cases o with
    | none =>
      intro y hy
      rcases List.mem_append.1 hy with hy | hy
      · exact h y hy
      · rw [List.mem_singleton.1 hy]; exact e
    | some b =>
      refine ⟨List.mem_append_left _ h.1, h.2.1, fun y hy hyx => ?_⟩
      rcases List.mem_append.1 hy with hy | hy
      · exact h.2.2 y hy hyx
      · rw [List.mem_singleton.1 hy] at hyx; exact absurd hyx e
theorem bstC_fold (x : Nat) (l : List Cd) : ∀ (m : List Cd) (o : Option Cd), IsC x m o → IsC x (m ++ l) (l.foldl (bstS x) o) := by
  induction l with
  | nil => intro m o h; simpa using h
  | cons c l ih =>
    intro m o h
    have := ih (m ++ [c]) _ (h.snoc c)
    simpa using this
theorem bstC_is (x : Nat) (l : List Cd) : IsC x l (bstC x l) := bstC_fold x l [] none (fun _ h => by cases h)
theorem bstC_step {x : Nat} {l : List Cd} (c : Cd) : bstC x (l ++ [c]) = bstS x (bstC x l) c := by
  unfold bstC
  rw [List.foldl_append]
  rfl
theorem bstC_some {x : Nat} {l : List Cd} (h : ∃ c ∈ l, c.id = x) : ∃ c, bstC x l = some c ∧ c ∈ l ∧ c.id = x ∧ ∀ y ∈ l, y.id = x → ahd y c = false := by
  have k := bstC_is x l
  cases e : bstC x l with
  | none =>
    rw [e] at k
    obtain ⟨c, hc, hx⟩ := h
    exact absurd hx (k c hc)
  | some c =>
    rw [e] at k
    exact ⟨c, rfl, k⟩
/-! ### Who is asked for -/
def ids (l : List Cd) : List Nat := l.map (·.id)
def allC (fr : List Nat) (l : List Cd) : List Nat := fr ++ ids l
def askI (s : Nat) (fr : List Nat) (l : List Cd) (half : Int) : List Nat := (want s (allC fr l) half).filter fun x => !fr.contains x
def askC (s : Nat) (fr : List Nat) (l : List Cd) (half : Int) : List Cd := (askI s fr l half).map fun x => (bstC x l).getD zC
theorem all_all {fr : List Nat} {l : List Cd} (hf : All fr) (hl : ∀ c ∈ l, c.ok) : All (allC fr l) := fun x hx => by
  rcases List.mem_append.1 hx with h | h
  · exact hf x h
  · obtain ⟨c, hc, rfl⟩ := List.mem_map.1 h
    exact (hl c hc).id
theorem want_same {s : Nat} {l m : List Nat} (hl : All l) (hm : All m) (h : ∀ x, x ∈ l ↔ x ∈ m) (half : Int) : want s l half = want s m half := by
  have e : lin (kc 0) s l = lin (kc 0) s m := lin_eq (kc_inj top_0i) hm (lin_ris (kc_inj top_0i) hl) fun x => by rw [lin_mem (kc_inj top_0i) hl, h x]
  unfold want
  rw [e]
section
variable {s : Nat} {fr : List Nat} {l : List Cd} {half : Int}
theorem askI_mem (hf : All fr) (hl : ∀ c ∈ l, c.ok) {x : Nat} (h : x ∈ askI s fr l half) : x ∈ want s (allC fr l) half ∧ x ∉ fr ∧ x ≠ s ∧ ∃ c ∈ l, c.id = x := by
  obtain ⟨h1, h2⟩ := List.mem_filter.1 h
  have h3 : x ∉ fr := by simpa using h2
  have h4 := (want_mem (all_all hf hl) half x).1 h1
  refine ⟨h1, h3, h4.1.2, ?_⟩
  rcases List.mem_append.1 h4.1.1 with h5 | h5
  · exact absurd h5 h3
  · obtain ⟨c, hc, e⟩ := List.mem_map.1 h5
    exact ⟨c, hc, e⟩
theorem askI_ris (hf : All fr) (hl : ∀ c ∈ l, c.ok) : Risi (kc 0) (askI s fr l half) := List.Pairwise.filter _ (want_ris (all_all hf hl) half)
/-- P17.1: in whichever order they come. -/
theorem askI_perm (hf : All fr) (hl : ∀ c ∈ l, c.ok) {m : List Cd} (hm : ∀ c, c ∈ l ↔ c ∈ m) : askI s fr m half = askI s fr l half := by
  have hk : ∀ c ∈ m, c.ok := fun c hc => hl c ((hm c).2 hc)
  unfold askI
  rw [want_same (all_all hf hk) (all_all hf hl) (fun x => ?_) half]
  unfold allC ids
  rw [List.mem_append, List.mem_append, List.mem_map, List.mem_map]
  simp only [hm]
theorem bstC_perm {m : List Cd} (hm : ∀ c, c ∈ l ↔ c ∈ m) {x : Nat} (h : ∃ c ∈ l, c.id = x) : ((bstC x m).getD zC).id = ((bstC x l).getD zC).id ∧ ((bstC x m).getD zC).leg = ((bstC x l).getD zC).leg := by
  obtain ⟨c, e1, h1, h2, h3⟩ := bstC_some h
  obtain ⟨d, e2, k1, k2, k3⟩ := bstC_some (l := m) (x := x) (by obtain ⟨c, hc, e⟩ := h; exact ⟨c, (hm c).1 hc, e⟩)
  rw [e1, e2]
  simp only [Option.getD_some]
  exact ⟨k2.trans h2.symm, ahd_leg (h3 d ((hm d).2 k1) k2) (k3 c ((hm c).1 h1) h2)⟩
end
end Go.Proofs.Ytfabgonoonanfaa
