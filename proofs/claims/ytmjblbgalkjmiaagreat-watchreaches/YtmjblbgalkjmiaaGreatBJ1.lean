/- Who reaches whom, over places that run and are linked: by breadth, and as it should be (pure). -/
namespace Go.Proofs.YtmjblbgalkjmiaaGreat
section
variable (n : Nat) (up : Nat → Bool) (L : Nat → Nat → Bool)
/-- A set of places that nothing leads out of. -/
def Clo (S : Nat → Prop) : Prop := ∀ x y, S x → x < n → up x = true → y < n → up y = true → L x y = true → S y
/-- What lies in every such set that has a place. -/
def Cn (a b : Nat) : Prop := ∀ S : Nat → Prop, Clo n up L S → S a → S b
theorem Cn.refl (a : Nat) : Cn n up L a a := fun _ _ h => h
theorem Cn.trans {a b c : Nat} (h : Cn n up L a b) (k : Cn n up L b c) : Cn n up L a c := fun S hS ha => k S hS (h S hS ha)
theorem Cn.step {a b : Nat} (ha : a < n) (ua : up a = true) (hb : b < n) (ub : up b = true) (h : L a b = true) : Cn n up L a b := fun _ hS k => hS a b k ha ua hb ub h
theorem Cn.symm (sy : ∀ x y, x < n → y < n → L x y = true → L y x = true) {a b : Nat} (ha : a < n) (ua : up a = true) (h : Cn n up L a b) : Cn n up L b a := by
  have := h (fun z => Cn n up L z a ∧ z < n ∧ up z = true) (fun x y hx hn hu hy uy hl => ⟨(Cn.step n up L hy uy hn hu (sy x y hn hy hl)).trans n up L hx.1, hy, uy⟩) ⟨Cn.refl n up L a, ha, ua⟩
  exact this.1
open Classical in
/-- The places that a place reaches, rising. -/
noncomputable def rch (a : Nat) : List Nat := if a < n ∧ up a = true then (List.range n).filter (fun b => decide (up b = true ∧ Cn n up L a b)) else []
theorem mem_rch {a b : Nat} : b ∈ rch n up L a ↔ a < n ∧ up a = true ∧ b < n ∧ up b = true ∧ Cn n up L a b := by
  unfold rch
  split
  · rename_i h
    simp [List.mem_filter, List.mem_range, h.1, h.2]
  · rename_i h
    constructor
    · intro k; cases k
    · intro k; exact (h ⟨k.1, k.2.1⟩).elim
theorem rch_no {a : Nat} (h : ¬ (a < n ∧ up a = true)) : rch n up L a = [] := by
  unfold rch
  rw [if_neg h]
theorem rch_self {a : Nat} (ha : a < n) (ua : up a = true) : a ∈ rch n up L a := (mem_rch n up L).2 ⟨ha, ua, ha, ua, Cn.refl n up L a⟩
theorem rch_lt {a b : Nat} (h : b ∈ rch n up L a) : b < n := ((mem_rch n up L).1 h).2.2.1
theorem rch_pos {a : Nat} (ha : a < n) : (0 < (rch n up L a).length) ↔ up a = true := by
  constructor
  · intro h
    refine Classical.byContradiction fun k => ?_
    rw [rch_no n up L (fun e => k e.2)] at h
    exact absurd h (by simp)
  · intro h
    exact List.length_pos_of_mem (rch_self n up L ha h)
theorem rch_len (a : Nat) : (rch n up L a).length ≤ n := by
  unfold rch
  split
  · exact Nat.le_trans (List.length_filter_le _ _) (by simp)
  · exact Nat.zero_le _
theorem rch_same (sy : ∀ x y, x < n → y < n → L x y = true → L y x = true) {a b : Nat} (h : b ∈ rch n up L a) : rch n up L b = rch n up L a := by
  obtain ⟨ha, ua, hb, ub, hc⟩ := (mem_rch n up L).1 h
  have e1 : rch n up L a = _ := if_pos (⟨ha, ua⟩ : a < n ∧ up a = true)
  have e2 : rch n up L b = _ := if_pos (⟨hb, ub⟩ : b < n ∧ up b = true)
  rw [e1, e2]
  congr 1
  funext c
  have : (up c = true ∧ Cn n up L b c) ↔ (up c = true ∧ Cn n up L a c) :=
    ⟨fun k => ⟨k.1, hc.trans n up L k.2⟩, fun k => ⟨k.1, (Cn.symm n up L sy ha ua hc).trans n up L k.2⟩⟩
  exact decide_eq_decide.2 this
/-- Who is met next: not met yet, running, linked. -/
def nxt (M : Nat → Bool) (q : Nat) : List Nat := (List.range n).filter (fun b => (!M b && up b) && L q b)
/-- Some more are met. -/
def also (M : Nat → Bool) (l : List Nat) : Nat → Bool := fun b => M b || l.contains b
/-- How many aren't met. -/
def unm (M : Nat → Bool) : Nat := ((List.range n).filter (fun b => !M b)).length
/-- What holds while all are met by breadth. -/
structure Met (a : Nat) (M : Nat → Bool) (Q : List Nat) : Prop where
  run : ∀ b, M b = true → b < n ∧ up b = true ∧ Cn n up L a b
  old : ∀ x, M x = true → ¬ x ∈ Q → ∀ y, y < n → up y = true → L x y = true → M y = true
  one : M a = true
  sub : ∀ x, x ∈ Q → M x = true
theorem Met.first {a : Nat} (ha : a < n) (ua : up a = true) : Met n up L a (fun b => b == a) [a] := by
  refine ⟨fun b h => ?_, fun x h k => ?_, by simp, fun x h => ?_⟩
  · have : b = a := by simpa using h
    subst this
    exact ⟨ha, ua, Cn.refl n up L b⟩
  · have : x = a := by simpa using h
    subst this
    exact (k (by simp)).elim
  · have : x = a := by simpa using h
    simp [this]
theorem Met.step {a q : Nat} {M : Nat → Bool} {Q : List Nat} (h : Met n up L a M (q :: Q)) : Met n up L a (also M (nxt n up L M q)) (Q ++ nxt n up L M q) := by
  have hq := h.run q (h.sub q (by simp))
  refine ⟨fun b k => ?_, fun x k kn y hy uy hl => ?_, by simp [also, h.one], fun x k => ?_⟩
  · unfold also at k
    rw [Bool.or_eq_true] at k
    rcases k with k | k
    · exact h.run b k
    · have k2 : b ∈ nxt n up L M q := by simpa using k
      unfold nxt at k2
      rw [List.mem_filter, List.mem_range] at k2
      simp only [Bool.and_eq_true, Bool.not_eq_true'] at k2
      exact ⟨k2.1, k2.2.1.2, hq.2.2.trans n up L (Cn.step n up L hq.1 hq.2.1 k2.1 k2.2.1.2 k2.2.2)⟩
  · unfold also at k ⊢
    rw [Bool.or_eq_true] at k ⊢
    have kq : ¬ x ∈ Q := fun e => kn (List.mem_append.2 (.inl e))
    have kx : ¬ x ∈ nxt n up L M q := fun e => kn (List.mem_append.2 (.inr e))
    have km : M x = true := k.resolve_right (fun e => kx (by simpa using e))
    by_cases e : x = q
    · subst e
      by_cases m : M y = true
      · exact .inl m
      · refine .inr ?_
        have : y ∈ nxt n up L M x := by
          unfold nxt
          rw [List.mem_filter, List.mem_range]
          simp [hy, uy, hl, m]
        simpa using this
    · exact .inl (h.old x km (fun k2 => (List.mem_cons.1 k2).elim e kq) y hy uy hl)
  · unfold also
    rw [Bool.or_eq_true]
    rcases List.mem_append.1 k with k | k
    · exact .inl (h.sub x (by simp [k]))
    · exact .inr (by simpa using k)
open Classical in
theorem Met.done {a : Nat} {M : Nat → Bool} (ha : a < n) (ua : up a = true) (h : Met n up L a M []) : (List.range n).filter M = rch n up L a := by
  unfold rch
  rw [if_pos ⟨ha, ua⟩]
  refine List.filter_congr fun b hb => ?_
  have hb := List.mem_range.1 hb
  have : M b = true ↔ (up b = true ∧ Cn n up L a b) := by
    constructor
    · intro k
      exact (h.run b k).2
    · intro k
      exact k.2 (fun z => M z = true) (fun x y hx hn hu hy uy hl => h.old x hx (by simp) y hy uy hl) h.one
  by_cases m : M b = true
  · rw [m]
    exact (decide_eq_true (this.1 m)).symm
  · have mf : M b = false := by simpa using m
    rw [mf]
    exact (decide_eq_false (fun k => m (this.2 k))).symm
theorem unm_also (M : Nat → Bool) (q : Nat) : unm n (also M (nxt n up L M q)) + (nxt n up L M q).length ≤ unm n M := by
  unfold unm nxt
  generalize hl : (fun b => (!M b && up b) && L q b) = f
  have key : ∀ l : List Nat, (∀ b, b ∈ l → b ∈ List.range n) → (l.filter (fun b => !also M ((List.range n).filter f) b)).length + (l.filter f).length ≤ (l.filter (fun b => !M b)).length := by
    intro l
    induction l with
    | nil => intro _; simp
    | cons x l ih =>
      intro hm
      have := ih (fun b hb => hm b (List.mem_cons_of_mem _ hb))
      have hx := hm x (by simp)
      simp only [List.filter_cons]
      cases e : M x with
      | true =>
        have e1 : also M ((List.range n).filter f) x = true := by simp [also, e]
        have e2 : f x = false := by rw [← hl]; simp [e]
        simp [e1, e2]
        simpa using this
      | false =>
        cases e2 : f x with
        | true =>
          have e1 : also M ((List.range n).filter f) x = true := by
            have : x ∈ (List.range n).filter f := List.mem_filter.2 ⟨hx, e2⟩
            simp [also]
            exact .inr ⟨by simpa using hx, e2⟩
          have h3 := this
          simp only [e1, Bool.not_false, Bool.not_true, if_true, if_false, Bool.false_eq_true, List.length_cons]
          omega
        | false =>
          have h3 := this
          cases e3 : also M ((List.range n).filter f) x with
          | true => simp only [Bool.not_false, Bool.not_true, if_true, if_false, Bool.false_eq_true, List.length_cons]; omega
          | false => simp only [Bool.not_false, if_true, if_false, Bool.false_eq_true, List.length_cons]; omega
  exact key _ (fun _ h => h)
end
end Go.Proofs.YtmjblbgalkjmiaaGreat
