/- Laws over any program: an array of bytes compared with another; operations that are quiet in a class of worlds. -/
import Derived.WalkKit
import Derived.WalkSpells
import Derived.WalkLawsBesides
import Derived.Deep.WholeRow
import Derived.BigQuiet
namespace Go.Proofs.YtmjblbgalkjmiaaGreat
open Go.RowKit
section
variable {P : Program}
/-! ### Worlds that only grow -/
/-- All that was there is as it was; there may be more. -/
def Gro (w w' : World) : Prop := Below w.heap.size w w'
theorem Gro.refl (w : World) : Gro w w := Below.refl _ _
theorem Gro.trans {a b c : World} (h : Gro a b) (k : Gro b c) : Gro a c := Below.trans h (Below.mono k h.size)
theorem Gro.drew {a b : World} (h : Gro a b) : Gro a b.drew := Below.drew h
theorem Gro.alloc {a b : World} (h : Gro a b) (o : Obj) : Gro a (b.alloc o) := Below.alloc h h.size o
theorem lt_of_heap {w : World} {g : Nat} {o : Obj} (h : w.heap[g]? = some o) : g < w.heap.size := (Array.getElem?_eq_some_iff.1 h).1
theorem Gro.has {w w' : World} (h : Gro w w') {g : Nat} {o : Obj} (hg : w.heap[g]? = some o) : w'.heap[g]? = some o := by
  rw [h.block g (lt_of_heap hg)]; exact hg
/-- What is known of a value that an operation has laid: it is this one; or it points to a new block. -/
structure PostK where
  isNew : Bool
  value : Value
  type : TypeId
  cells : Array Value
def PostK.val (v : Value) : PostK := ⟨false, v, 0, #[]⟩
def PostK.new (t : TypeId) (cs : Array Value) : PostK := ⟨true, undef, t, cs⟩
def PostK.gives (k : PostK) (v : Value) (w w' : World) : Prop :=
  match k.isNew with
  | false => v = k.value
  | true => ∃ g, v = .pointer (some ⟨g, 0, none⟩) ∧ w'.heap[g]? = some (.cells k.cells k.type (0, 0)) ∧ w.heap.size ≤ g
def PostK.upon (P : Program) (k : PostK) (w : World) : Result Next → Prop
  | .ok (.value v) w' => Gro w w' ∧ k.gives v w w'
  | .ok .skip w' => Gro w w' ∧ k.gives undef w w'
  | .ok (.enter f args) w' => Calls P f args w' fun e w'' => ∃ v, e = .returned v ∧ Gro w w'' ∧ k.gives v w w''
  | _ => False
/-! ### A region in whatever order, told operation by operation -/
def edges (o : Oper) : List Nat := (o.after.toList.filter (Region.binds .any)).map (·.on)
def reach (ops : Array Oper) : Nat → Nat → Nat → Bool
  | 0, _, _ => false
  | f + 1, k, i => match ops[k]? with
    | some o => (edges o).any fun j => j == i || reach ops f j i
    | none => false
def chainB (ops : Array Oper) : Nat → Nat → Array Bool → Bool
  | 0, _, listed => (Region.ready .any ops listed).isEmpty
  | m + 1, k, listed => (Region.ready .any ops listed == [k]) && chainB ops m (k + 1) (listed.setIfInBounds k true)
def firstN (size n : Nat) : Array Bool := Array.ofFn (n := size) fun i => decide (i.val < n)
def growB (ops : Array Oper) (n : Nat) (D : List (Nat × Nat)) : Bool :=
  Region.noSelect ops && decide (n ≤ ops.size) &&
  ((List.range n).all fun i => match ops[i]? with
    | some o => ((edges o).all fun j => decide (j < i)) && (match o.dst with | some d => D.contains (i, d) | none => true) &&
        ((o.looksAt ops).all fun t => (D.all fun p => p.2 != t) || (edges o).any fun j => D.contains (j, t))
    | none => false) &&
  (D.all fun p => decide (p.1 < n) && ((ops[p.1]?).bind (·.dst) == some p.2)) &&
  decide ((D.map (·.2)).Nodup) &&
  ((List.range' n (ops.size - n)).all fun k => (List.range n).all fun i => reach ops ops.size k i) &&
  chainB ops (ops.size - n) n (firstN ops.size n)
def foldSlots (vals : Nat → Value) (D : List (Nat × Nat)) (T : List Value) : List Value := D.foldl (fun t p => t.set p.2 (vals p.1)) T
def full (a0 : Act) (D : List (Nat × Nat)) (vals : Nat → Value) : Act := { a0 with tmps := (foldSlots vals D a0.tmps.toList).toArray }
theorem fold_out' (vals : Nat → Value) (s : Nat) : ∀ (D : List (Nat × Nat)) (T : List Value), (∀ p ∈ D, p.2 ≠ s) → (foldSlots vals D T)[s]? = T[s]?
  | [], _, _ => rfl
  | p :: D, T, h => by
    unfold foldSlots
    rw [List.foldl_cons]
    have := fold_out' vals s D (T.set p.2 (vals p.1)) fun q hq => h q (List.mem_cons_of_mem _ hq)
    unfold foldSlots at this
    rw [this]
    exact List.getElem?_set_ne (h p List.mem_cons_self)
theorem fold_in' (vals : Nat → Value) (i s : Nat) : ∀ (D : List (Nat × Nat)) (T : List Value), (i, s) ∈ D → (D.map (·.2)).Nodup → s < T.length → (foldSlots vals D T)[s]? = some (vals i)
  | [], _, h, _, _ => by cases h
  | p :: D, T, h, hn, hs => by
    rw [List.map_cons, List.nodup_cons] at hn
    rcases List.mem_cons.1 h with e | h'
    · subst e
      have := fold_out' vals s D (T.set s (vals i)) fun q hq e => hn.1 (e ▸ List.mem_map.2 ⟨q, hq, rfl⟩)
      unfold foldSlots at *
      rw [List.foldl_cons]
      rw [this]
      simp [hs]
    · have := fold_in' vals i s D (T.set p.2 (vals p.1)) h' hn.2 (by simpa using hs)
      unfold foldSlots at *
      rw [List.foldl_cons]
      exact this
theorem fold_out (vals : Nat → Value) (s : Nat) (D : List (Nat × Nat)) (T : Array Value) (h : ∀ p ∈ D, p.2 ≠ s) : (foldSlots vals D T.toList).toArray[s]? = T[s]? := by
  rw [List.getElem?_toArray, fold_out' vals s D _ h, Array.getElem?_toList]
theorem fold_in (vals : Nat → Value) (i s : Nat) (D : List (Nat × Nat)) (T : Array Value) (h : (i, s) ∈ D) (hn : (D.map (·.2)).Nodup) (hs : s < T.size) : (foldSlots vals D T.toList).toArray[s]? = some (vals i) := by
  rw [List.getElem?_toArray, fold_in' vals i s D _ h hn (by simpa using hs)]
theorem reach_listed {ops : Array Oper} {listed : Array Bool} (hcl : ∀ j o, ops[j]? = some o → listed.getD j false = true → ∀ e ∈ edges o, listed.getD e false = true) (i : Nat) :
    ∀ (f k : Nat) (o : Oper), ops[k]? = some o → (∀ e ∈ edges o, listed.getD e false = true) → reach ops f k i = true → listed.getD i false = true
  | 0, _, _, _, _, h => by simp [reach] at h
  | f + 1, k, o, ho, he, h => by
    simp only [reach, ho, List.any_eq_true, Bool.or_eq_true, beq_iff_eq] at h
    obtain ⟨j, hj, h1⟩ := h
    rcases h1 with rfl | h1
    · exact he _ hj
    · cases hoj : ops[j]? with
      | none => cases f <;> simp [reach, hoj] at h1
      | some oj => exact reach_listed hcl i f j oj hoj (fun e he' => hcl j oj hoj (he j hj) e he') h1
theorem getD_set_self {listed : Array Bool} {i : Nat} (h : i < listed.size) : (listed.setIfInBounds i true).getD i false = true := by simp [h]
theorem getD_eq {listed : Array Bool} {i : Nat} (h : i < listed.size) (d d' : Bool) : listed.getD i d = listed.getD i d' := by simp [h]
/-- How many of the first n have not come up. -/
def left (listed : Array Bool) (n : Nat) : Nat := ((List.range n).filter fun i => !listed.getD i false).length
theorem left_succ (listed : Array Bool) (n : Nat) : left listed (n + 1) = left listed n + if listed.getD n false = true then 0 else 1 := by
  unfold left
  rw [List.range_succ, List.filter_append]
  cases h : listed.getD n false with
  | false =>
    have h' : listed[n]?.getD false = false := by simpa using h
    simp [h']
  | true =>
    have h' : listed[n]?.getD false = true := by simpa using h
    simp [h']
theorem left_zero {listed : Array Bool} : ∀ {n : Nat}, left listed n = 0 → ∀ i, i < n → listed.getD i false = true
  | 0, _, i, hi => by omega
  | n + 1, h, i, hi => by
    rw [left_succ] at h
    by_cases hn : listed.getD n false = true
    · by_cases e : i = n
      · subst e; exact hn
      · exact left_zero (n := n) (by omega) i (by omega)
    · rw [if_neg hn] at h; omega
theorem left_pos {listed : Array Bool} : ∀ {n : Nat}, 0 < left listed n → ∃ i, i < n ∧ listed.getD i false = false ∧ ∀ j, j < i → listed.getD j false = true
  | 0, h => by simp [left] at h
  | n + 1, h => by
    by_cases h0 : 0 < left listed n
    · obtain ⟨i, h1, h2, h3⟩ := left_pos h0
      exact ⟨i, by omega, h2, h3⟩
    · have h1 := left_zero (n := n) (listed := listed) (by omega)
      rw [left_succ] at h
      refine ⟨n, by omega, ?_, h1⟩
      cases hn : listed.getD n false with
      | false => rfl
      | true => rw [if_pos hn] at h; omega
theorem left_set {listed : Array Bool} {i : Nat} (hs : i < listed.size) (hi : listed.getD i false = false) : ∀ n, left (listed.setIfInBounds i true) n + (if i < n then 1 else 0) = left listed n
  | 0 => by simp [left]
  | n + 1 => by
    have ih := left_set hs hi n
    rw [left_succ, left_succ]
    by_cases e : i = n
    · subst e
      have h1 := getD_set_self hs
      rw [h1, hi]
      simp at ih ⊢
      omega
    · rw [getD_set_ne false e]
      by_cases e2 : i < n
      · have e3 : i < n + 1 := by omega
        rw [if_pos e2] at ih
        rw [if_pos e3]
        omega
      · have e3 : ¬ i < n + 1 := by omega
        rw [if_neg e2] at ih
        rw [if_neg e3]
        omega
theorem eval_congr {a b : Act} {x : Operand} (h : ∀ t, x = .tmp t → a.tmps[t]? = b.tmps[t]?) : a.eval x = b.eval x := by
  cases x with
  | tmp t => simp [Act.eval, h t rfl]
  | _ => rfl
theorem wanted_congr {ops : Array Oper} {o : Oper} {a b : Act} (h : ∀ t ∈ o.looksAt ops, a.tmps[t]? = b.tmps[t]?) : Region.wanted o (yielded ops a.tmps) = Region.wanted o (yielded ops b.tmps) := by
  unfold Region.wanted
  cases hg : o.guard with
  | none => rfl
  | some p =>
    obtain ⟨j, want⟩ := p
    have : yielded ops a.tmps j = yielded ops b.tmps j := by
      unfold yielded
      cases hd : (ops[j]?).bind (·.dst) with
      | none => simp
      | some d =>
        have := h d (by unfold Oper.looksAt; rw [hg]; simp [hd])
        simp [this]
    simp [this]
theorem wpAny_chain {ops : Array Oper} {Q : Exit → Act → World → Prop} : ∀ (l : List Oper) (k : Nat) (listed : Array Bool) (a : Act) (w : World), (∀ j, l[j]? = ops[k + j]?) →
    chainB ops l.length k listed = true → wpList P ops Q l a w → wpAny P .any ops Q l.length listed a w
  | [], _, _, _, _, _, hB, h => ⟨by simpa [chainB] using hB, h⟩
  | o :: l, k, listed, a, w, hl, hB, h => by
    simp only [List.length_cons, chainB, Bool.and_eq_true, beq_iff_eq] at hB
    have h0 : ops[k]? = some o := by simpa using (hl 0).symm
    refine ⟨fun hr => (by rw [hB.1] at hr; cases hr), fun i hi => ?_⟩
    rw [hB.1, List.mem_singleton] at hi
    subst hi
    have ih := fun a w => wpAny_chain (Q := Q) l (i + 1) (listed.setIfInBounds i true) a w (fun j => by have := hl (j + 1); simpa [Nat.add_assoc, Nat.add_comm 1 j] using this) hB.2
    unfold wpOp
    rw [h0]
    simp only [wpList] at h
    show if _ then _ else _
    split
    · rename_i hw
      rw [if_pos hw] at h
      rcases h with h | h
      · exact Or.inl (Oper.wp_mono ih h)
      · exact Or.inr h
    · rename_i hw
      rw [if_neg hw] at h
      exact ih _ _ h
/-! ### The same, for a region that is written out -/
def PostK.fill (k : PostK) (v : Value) : Value :=
  match k.isNew with
  | false => k.value
  | true => v
theorem full_congr {a0 : Act} {D : List (Nat × Nat)} {vals vals' : Nat → Value} (h : ∀ p ∈ D, vals p.1 = vals' p.1) : full a0 D vals = full a0 D vals' := by
  unfold full
  have : ∀ (D : List (Nat × Nat)) (T : List Value), (∀ p ∈ D, vals p.1 = vals' p.1) → foldSlots vals D T = foldSlots vals' D T := by
    unfold foldSlots
    intro D
    induction D with
    | nil => intro T _; rfl
    | cons p D ih => intro T h; rw [List.foldl_cons, List.foldl_cons, h p List.mem_cons_self]; exact ih _ fun q hq => h q (List.mem_cons_of_mem _ hq)
  rw [this D a0.tmps.toList h]
end
end Go.Proofs.YtmjblbgalkjmiaaGreat
