/- Laws over any program: an array of bytes compared with another; operations that are quiet in a class of worlds. -/
import Derived.WalkKit
import Derived.WalkSpells
import Derived.WalkLawsBesides
import Derived.Deep.WholeRow
import Derived.BigQuiet
namespace Go.Proofs.Ytjahegiopigblaa
open Go.RowKit
section
variable {P : Program}
/-- Two arrays, compared element by element. -/
theorem run_equalIn_row (d : Nat) (t e n : Nat) (ht : P.underlying t = some (.array n e)) (w : World) (hs : (sizeOf e).run P w = .ok 1 w)
    (xs ys : Array Value) (fx fy : Nat → Value) (eq : Nat → Bool) (hx : ∀ i, i < n → (part e xs i).run P w = .ok (fx i) w) (hy : ∀ i, i < n → (part e ys i).run P w = .ok (fy i) w)
    (he : ∀ i, i < n → (Op.equalIn d e (fx i) (fy i)).run P w = .ok (eq i) w) (r : Bool) (hr : r = true ↔ ∀ i, i < n → eq i = true) :
    (Op.equalIn (d + 1) t (.agg xs) (.agg ys)).run P w = .ok r w := by
  have key : ∀ (m k : Nat), k + m = n → ∃ q : Option Bool × Unit, (forIn (m := Sem) (List.range' k m 1) ((none, ()) : Option Bool × Unit) (fun i _ => do
      let a ← part e xs (i * 1)
      let b ← part e ys (i * 1)
      let q ← Op.equalIn d e a b
      if (!q) = true then pure (ForInStep.done (some false, ())) else pure (ForInStep.yield (none, ())))).run P w = .ok q w ∧
        ((q = (none, ()) ∧ ∀ i, k ≤ i → i < n → eq i = true) ∨ (q = (some false, ()) ∧ ∃ i, k ≤ i ∧ i < n ∧ eq i = false)) := by
    intro m
    induction m with
    | zero =>
      intro k hk
      exact ⟨(none, ()), by simp, Or.inl ⟨rfl, fun i h1 h2 => by omega⟩⟩
    | succ m ih =>
      intro k hk
      have h1 := hx k (by omega)
      have h2 := hy k (by omega)
      have h4 := he k (by omega)
      obtain ⟨q, h3, h5⟩ := ih (k + 1) (by omega)
      simp only [Nat.mul_one] at h3 ⊢
      simp only [List.range'_succ, List.forIn_cons, Sem.run_bind, h1, h2, h4, Result.andThen_ok]
      cases hq : eq k with
      | true =>
        simp only [Bool.not_true, Bool.false_eq_true, if_false, Sem.run_pure, Result.andThen_ok]
        refine ⟨q, h3, ?_⟩
        rcases h5 with ⟨h6, h7⟩ | ⟨h6, i, h7, h8, h9⟩
        · refine Or.inl ⟨h6, fun i hi hn => ?_⟩
          by_cases hik : i = k
          · subst hik; exact hq
          · exact h7 i (by omega) hn
        · exact Or.inr ⟨h6, i, by omega, h8, h9⟩
      | false =>
        simp only [Bool.not_false, if_true, Sem.run_pure, Result.andThen_ok]
        exact ⟨_, rfl, Or.inr ⟨rfl, k, Nat.le_refl _, by omega, hq⟩⟩
  obtain ⟨q, h0, h1⟩ := key n 0 (by omega)
  simp only [Op.equalIn, Sem.run_bind, run_underlying ht, Result.andThen_ok, hs]
  simp only [Std.Legacy.Range.forIn_eq_forIn_range', Std.Legacy.Range.size]
  simp only [Nat.sub_zero, Nat.add_sub_cancel, Nat.div_one]
  rw [h0]
  rcases h1 with ⟨rfl, h2⟩ | ⟨rfl, i, _, h3, h4⟩
  · have : r = true := hr.2 fun i hi => h2 i (Nat.zero_le _) hi
    simp [this]
  · have : r = false := by
      cases hrr : r with
      | false => rfl
      | true => have := hr.1 hrr i h3; rw [h4] at this; cases this
    simp [this]
/-! ### Worlds that only grow -/
/-- All that was there is as it was; there may be more. -/
def Gro (w w' : World) : Prop := Below w.heap.size w w'
theorem Gro.refl (w : World) : Gro w w := Below.refl _ _
theorem Gro.trans {a b c : World} (h : Gro a b) (k : Gro b c) : Gro a c := Below.trans h (Below.mono k h.size)
theorem Gro.drew {a b : World} (h : Gro a b) : Gro a b.drew := Below.drew h
theorem Gro.alloc {a b : World} (h : Gro a b) (o : Obj) : Gro a (b.alloc o) := Below.alloc h h.size o
theorem lt_of_heap {w : World} {g : Nat} {o : Obj} (h : w.heap[g]? = some o) : g < w.heap.size := (Array.getElem?_eq_some_iff.1 h).1
theorem Gro.has {w w' : World} (h : Gro w w') {g : Nat} {o : Obj} (hg : w.heap[g]? = some o) : w'.heap[g]? = some o := by
  rw [h.block g (lt_of_heap hg)]; exact hg
/-- What is known of a value that an operation has laid: it is this one; or it points to a new block. -/
structure PostK where
  isNew : Bool
  value : Value
  type : TypeId
  cells : Array Value
def PostK.val (v : Value) : PostK := ⟨false, v, 0, #[]⟩
def PostK.new (t : TypeId) (cs : Array Value) : PostK := ⟨true, undef, t, cs⟩
def PostK.holds (B : Nat) (k : PostK) (v : Value) (w : World) : Prop :=
  match k.isNew with
  | false => v = k.value
  | true => ∃ g, v = .pointer (some ⟨g, 0, none⟩) ∧ w.heap[g]? = some (.cells k.cells k.type (0, 0)) ∧ B ≤ g
def PostK.gives (k : PostK) (v : Value) (w w' : World) : Prop :=
  match k.isNew with
  | false => v = k.value
  | true => ∃ g, v = .pointer (some ⟨g, 0, none⟩) ∧ w'.heap[g]? = some (.cells k.cells k.type (0, 0)) ∧ w.heap.size ≤ g
theorem PostK.holds_of_gives {B : Nat} {k : PostK} {v : Value} {w w' : World} (hB : B ≤ w.heap.size) (h : k.gives v w w') : k.holds B v w' := by
  obtain ⟨n, u, t, cs⟩ := k
  cases n with
  | false => exact h
  | true => obtain ⟨g, h1, h2, h3⟩ := h; exact ⟨g, h1, h2, Nat.le_trans hB h3⟩
theorem PostK.stable {B : Nat} {k : PostK} {v : Value} {w w' : World} (hg : Gro w w') (h : k.holds B v w) : k.holds B v w' := by
  obtain ⟨n, u, t, cs⟩ := k
  cases n with
  | false => exact h
  | true => obtain ⟨g, h1, h2, h3⟩ := h; exact ⟨g, h1, hg.has h2, h3⟩
theorem PostK.unlike {B : Nat} {k k' : PostK} {v v' : Value} {w w' : World} (hk : k.isNew = true) (hk' : k'.isNew = true) (h : k.holds B v w) (h' : k'.gives v' w w') : v ≠ v' := by
  obtain ⟨n, u, t, cs⟩ := k
  obtain ⟨n', u', t', cs'⟩ := k'
  cases hk
  cases hk'
  obtain ⟨g, h1, h2, _⟩ := h
  obtain ⟨g', h3, _, h4⟩ := h'
  have := lt_of_heap h2
  intro e
  rw [h1, h3] at e
  have e2 : g = g' := by injection e with e; injection e with e; injection e
  omega
def PostK.upon (P : Program) (k : PostK) (w : World) : Result Next → Prop
  | .ok (.value v) w' => Gro w w' ∧ k.gives v w w'
  | .ok .skip w' => Gro w w' ∧ k.gives undef w w'
  | .ok (.enter f args) w' => Calls P f args w' fun e w'' => ∃ v, e = .returned v ∧ Gro w w'' ∧ k.gives v w w''
  | _ => False
/-! ### A region in whatever order, told operation by operation -/
def edges (o : Oper) : List Nat := (o.after.toList.filter (Region.binds .any)).map (·.on)
def reach (ops : Array Oper) : Nat → Nat → Nat → Bool
  | 0, _, _ => false
  | f + 1, k, i => match ops[k]? with
    | some o => (edges o).any fun j => j == i || reach ops f j i
    | none => false
def chainB (ops : Array Oper) : Nat → Nat → Array Bool → Bool
  | 0, _, listed => (Region.ready .any ops listed).isEmpty
  | m + 1, k, listed => (Region.ready .any ops listed == [k]) && chainB ops m (k + 1) (listed.setIfInBounds k true)
def firstN (size n : Nat) : Array Bool := Array.ofFn (n := size) fun i => decide (i.val < n)
def growB (ops : Array Oper) (n : Nat) (D : List (Nat × Nat)) : Bool :=
  Region.noSelect ops && decide (n ≤ ops.size) &&
  ((List.range n).all fun i => match ops[i]? with
    | some o => ((edges o).all fun j => decide (j < i)) && (match o.dst with | some d => D.contains (i, d) | none => true) &&
        ((o.looksAt ops).all fun t => (D.all fun p => p.2 != t) || (edges o).any fun j => D.contains (j, t))
    | none => false) &&
  (D.all fun p => decide (p.1 < n) && ((ops[p.1]?).bind (·.dst) == some p.2)) &&
  decide ((D.map (·.2)).Nodup) &&
  ((List.range' n (ops.size - n)).all fun k => (List.range n).all fun i => reach ops ops.size k i) &&
  chainB ops (ops.size - n) n (firstN ops.size n)
def foldSlots (vals : Nat → Value) (D : List (Nat × Nat)) (T : List Value) : List Value := D.foldl (fun t p => t.set p.2 (vals p.1)) T
def full (a0 : Act) (D : List (Nat × Nat)) (vals : Nat → Value) : Act := { a0 with tmps := (foldSlots vals D a0.tmps.toList).toArray }
theorem fold_out' (vals : Nat → Value) (s : Nat) : ∀ (D : List (Nat × Nat)) (T : List Value), (∀ p ∈ D, p.2 ≠ s) → (foldSlots vals D T)[s]? = T[s]?
  | [], _, _ => rfl
  | p :: D, T, h => by
    unfold foldSlots
    rw [List.foldl_cons]
    have := fold_out' vals s D (T.set p.2 (vals p.1)) fun q hq => h q (List.mem_cons_of_mem _ hq)
    unfold foldSlots at this
    rw [this]
    exact List.getElem?_set_ne (h p List.mem_cons_self)
theorem fold_in' (vals : Nat → Value) (i s : Nat) : ∀ (D : List (Nat × Nat)) (T : List Value), (i, s) ∈ D → (D.map (·.2)).Nodup → s < T.length → (foldSlots vals D T)[s]? = some (vals i)
  | [], _, h, _, _ => by cases h
  | p :: D, T, h, hn, hs => by
    rw [List.map_cons, List.nodup_cons] at hn
    rcases List.mem_cons.1 h with e | h'
    · subst e
      have := fold_out' vals s D (T.set s (vals i)) fun q hq e => hn.1 (e ▸ List.mem_map.2 ⟨q, hq, rfl⟩)
      unfold foldSlots at *
      rw [List.foldl_cons]
      rw [this]
      simp [hs]
    · have := fold_in' vals i s D (T.set p.2 (vals p.1)) h' hn.2 (by simpa using hs)
      unfold foldSlots at *
      rw [List.foldl_cons]
      exact this
theorem fold_out (vals : Nat → Value) (s : Nat) (D : List (Nat × Nat)) (T : Array Value) (h : ∀ p ∈ D, p.2 ≠ s) : (foldSlots vals D T.toList).toArray[s]? = T[s]? := by
  rw [List.getElem?_toArray, fold_out' vals s D _ h, Array.getElem?_toList]
theorem fold_in (vals : Nat → Value) (i s : Nat) (D : List (Nat × Nat)) (T : Array Value) (h : (i, s) ∈ D) (hn : (D.map (·.2)).Nodup) (hs : s < T.size) : (foldSlots vals D T.toList).toArray[s]? = some (vals i) := by
  rw [List.getElem?_toArray, fold_in' vals i s D _ h hn (by simpa using hs)]
theorem reach_listed {ops : Array Oper} {listed : Array Bool} (hcl : ∀ j o, ops[j]? = some o → listed.getD j false = true → ∀ e ∈ edges o, listed.getD e false = true) (i : Nat) :
    ∀ (f k : Nat) (o : Oper), ops[k]? = some o → (∀ e ∈ edges o, listed.getD e false = true) → reach ops f k i = true → listed.getD i false = true
  | 0, _, _, _, _, h => by simp [reach] at h
  | f + 1, k, o, ho, he, h => by
    simp only [reach, ho, List.any_eq_true, Bool.or_eq_true, beq_iff_eq] at h
    obtain ⟨j, hj, h1⟩ := h
    rcases h1 with rfl | h1
    · exact he _ hj
    · cases hoj : ops[j]? with
      | none => cases f <;> simp [reach, hoj] at h1
      | some oj => exact reach_listed hcl i f j oj hoj (fun e he' => hcl j oj hoj (he j hj) e he') h1
/-- Where a walk over a region in whatever order stands. -/
structure GrowInv (ops : Array Oper) (n : Nat) (D : List (Nat × Nat)) (posts : Nat → PostK) (a0 : Act) (w0 : World) (listed : Array Bool) (vals : Nat → Value) (a : Act) (w : World) : Prop where
  size : listed.size = ops.size
  late : ∀ i, n ≤ i → listed.getD i false = false
  closed : ∀ j o, ops[j]? = some o → listed.getD j false = true → ∀ e ∈ edges o, listed.getD e false = true
  defers : a.defers = a0.defers
  tsize : a.tmps.size = a0.tmps.size
  slot : ∀ i d, (i, d) ∈ D → listed.getD i false = true → a.tmps[d]? = some (vals i)
  other : ∀ s, (∀ p ∈ D, p.2 ≠ s) → a.tmps[s]? = a0.tmps[s]?
  world : Gro w0 w
  post : ∀ i, i < n → listed.getD i false = true → (posts i).holds w0.heap.size (vals i) w
  apart : ∀ i j, i ≠ j → listed.getD i false = true → listed.getD j false = true → (posts i).isNew = true → (posts j).isNew = true → vals i ≠ vals j
theorem getD_set_self {listed : Array Bool} {i : Nat} (h : i < listed.size) : (listed.setIfInBounds i true).getD i false = true := by simp [h]
theorem getD_eq {listed : Array Bool} {i : Nat} (h : i < listed.size) (d d' : Bool) : listed.getD i d = listed.getD i d' := by simp [h]
/-- How many of the first n have not come up. -/
def left (listed : Array Bool) (n : Nat) : Nat := ((List.range n).filter fun i => !listed.getD i false).length
theorem left_succ (listed : Array Bool) (n : Nat) : left listed (n + 1) = left listed n + if listed.getD n false = true then 0 else 1 := by
  unfold left
  rw [List.range_succ, List.filter_append]
  cases h : listed.getD n false with
  | false =>
    have h' : listed[n]?.getD false = false := by simpa using h
    simp [h']
  | true =>
    have h' : listed[n]?.getD false = true := by simpa using h
    simp [h']
theorem left_zero {listed : Array Bool} : ∀ {n : Nat}, left listed n = 0 → ∀ i, i < n → listed.getD i false = true
  | 0, _, i, hi => by omega
  | n + 1, h, i, hi => by
    rw [left_succ] at h
    by_cases hn : listed.getD n false = true
    · by_cases e : i = n
      · subst e; exact hn
      · exact left_zero (n := n) (by omega) i (by omega)
    · rw [if_neg hn] at h; omega
theorem left_pos {listed : Array Bool} : ∀ {n : Nat}, 0 < left listed n → ∃ i, i < n ∧ listed.getD i false = false ∧ ∀ j, j < i → listed.getD j false = true
  | 0, h => by simp [left] at h
  | n + 1, h => by
    by_cases h0 : 0 < left listed n
    · obtain ⟨i, h1, h2, h3⟩ := left_pos h0
      exact ⟨i, by omega, h2, h3⟩
    · have h1 := left_zero (n := n) (listed := listed) (by omega)
      rw [left_succ] at h
      refine ⟨n, by omega, ?_, h1⟩
      cases hn : listed.getD n false with
      | false => rfl
      | true => rw [if_pos hn] at h; omega
theorem left_set {listed : Array Bool} {i : Nat} (hs : i < listed.size) (hi : listed.getD i false = false) : ∀ n, left (listed.setIfInBounds i true) n + (if i < n then 1 else 0) = left listed n
  | 0 => by simp [left]
  | n + 1 => by
    have ih := left_set hs hi n
    rw [left_succ, left_succ]
    by_cases e : i = n
    · subst e
      have h1 := getD_set_self hs
      rw [h1, hi]
      simp at ih ⊢
      omega
    · rw [getD_set_ne false e]
      by_cases e2 : i < n
      · have e3 : i < n + 1 := by omega
        rw [if_pos e2] at ih
        rw [if_pos e3]
        omega
      · have e3 : ¬ i < n + 1 := by omega
        rw [if_neg e2] at ih
        rw [if_neg e3]
        omega
theorem eval_congr {a b : Act} {x : Operand} (h : ∀ t, x = .tmp t → a.tmps[t]? = b.tmps[t]?) : a.eval x = b.eval x := by
  cases x with
  | tmp t => simp [Act.eval, h t rfl]
  | _ => rfl
theorem wanted_congr {ops : Array Oper} {o : Oper} {a b : Act} (h : ∀ t ∈ o.looksAt ops, a.tmps[t]? = b.tmps[t]?) : Region.wanted o (yielded ops a.tmps) = Region.wanted o (yielded ops b.tmps) := by
  unfold Region.wanted
  cases hg : o.guard with
  | none => rfl
  | some p =>
    obtain ⟨j, want⟩ := p
    have : yielded ops a.tmps j = yielded ops b.tmps j := by
      unfold yielded
      cases hd : (ops[j]?).bind (·.dst) with
      | none => simp
      | some d =>
        have := h d (by unfold Oper.looksAt; rw [hg]; simp [hd])
        simp [this]
    simp [this]
theorem Oper.wp_of_upon {o : Oper} {k : PostK} {a : Act} {w : World} {K : Act → World → Prop} {Q : Exit → Act → World → Prop} {r : Result Next} (he : (execOp a.eval o).run P w = r) (h : k.upon P w r)
    (hK : ∀ v w', Gro w w' → k.gives v w w' → K (a.put o.dst v) w') : o.wp P a w K Q := by
  unfold Oper.wp
  rw [he]
  cases r with
  | ok n w' =>
    cases n <;> simp only [PostK.upon] at h <;> simp only [Oper.upon]
    case value v => exact hK _ _ h.1 h.2
    case skip => exact hK _ _ h.1 h.2
    case enter f args => exact Calls.mono h fun e w'' ⟨v, he, hg, hv⟩ => by subst he; exact hK _ _ hg hv
  | halt x w' => simp only [PostK.upon] at h
theorem wpAny_chain {ops : Array Oper} {Q : Exit → Act → World → Prop} : ∀ (l : List Oper) (k : Nat) (listed : Array Bool) (a : Act) (w : World), (∀ j, l[j]? = ops[k + j]?) →
    chainB ops l.length k listed = true → wpList P ops Q l a w → wpAny P .any ops Q l.length listed a w
  | [], _, _, _, _, _, hB, h => ⟨by simpa [chainB] using hB, h⟩
  | o :: l, k, listed, a, w, hl, hB, h => by
    simp only [List.length_cons, chainB, Bool.and_eq_true, beq_iff_eq] at hB
    have h0 : ops[k]? = some o := by simpa using (hl 0).symm
    refine ⟨fun hr => (by rw [hB.1] at hr; cases hr), fun i hi => ?_⟩
    rw [hB.1, List.mem_singleton] at hi
    subst hi
    have ih := fun a w => wpAny_chain (Q := Q) l (i + 1) (listed.setIfInBounds i true) a w (fun j => by have := hl (j + 1); simpa [Nat.add_assoc, Nat.add_comm 1 j] using this) hB.2
    unfold wpOp
    rw [h0]
    simp only [wpList] at h
    show if _ then _ else _
    split
    · rename_i hw
      rw [if_pos hw] at h
      rcases h with h | h
      · exact Or.inl (Oper.wp_mono ih h)
      · exact Or.inr h
    · rename_i hw
      rw [if_neg hw] at h
      exact ih _ _ h
theorem wpAny_grow {ops : Array Oper} {n : Nat} {D : List (Nat × Nat)} {posts : Nat → PostK} {a0 : Act} {w0 : World} {Q : Exit → Act → World → Prop} (hB : growB ops n D = true) (hsz : ∀ p ∈ D, p.2 < a0.tmps.size)
    (hop : ∀ i, i < n → ∀ o, ops[i]? = some o → ∀ vals w, Gro w0 w → (∀ j ∈ edges o, (posts j).holds w0.heap.size (vals j) w) →
      if Region.wanted o (yielded ops (full a0 D vals).tmps) = true then (posts i).upon P w ((execOp (full a0 D vals).eval o).run P w) else (posts i).gives undef w w)
    (hrest : ∀ vals w, Gro w0 w → (∀ i, i < n → (posts i).holds w0.heap.size (vals i) w) → (∀ i j, i ≠ j → i < n → j < n → (posts i).isNew = true → (posts j).isNew = true → vals i ≠ vals j) →
      wpList P ops Q (ops.toList.drop n) (full a0 D vals) w) :
    ∀ (m : Nat) (listed : Array Bool) (vals : Nat → Value) (a : Act) (w : World), GrowInv ops n D posts a0 w0 listed vals a w → left listed n = m → wpAny P .any ops Q (m + (ops.size - n)) listed a w := by
  simp only [growB, Bool.and_eq_true, decide_eq_true_eq] at hB
  obtain ⟨⟨⟨⟨⟨⟨hsel, hn⟩, hfirst⟩, hD⟩, hnd⟩, hph⟩, hch⟩ := hB
  rw [List.all_eq_true] at hfirst hD hph
  intro m
  induction m with
  | zero =>
    intro listed vals a w I hl
    have hall := left_zero hl
    have hlist : listed = firstN ops.size n := by
      apply Array.ext
      · simp [firstN, I.size]
      · intro i h1 h2
        by_cases h : i < n
        · have := hall i h
          simp [h1] at this
          simp [firstN, h, this]
        · have := I.late i (by omega)
          simp [h1] at this
          simp [firstN, h, this]
    have hact : a = full a0 D vals := by
      have ht : a.tmps = (full a0 D vals).tmps := by
        apply Array.ext_getElem?
        intro s
        unfold full
        by_cases h : ∃ p ∈ D, p.2 = s
        · obtain ⟨⟨i, d⟩, hp, rfl⟩ := h
          have hi : i < n := by have := hD _ hp; simp at this; exact this.1
          rw [I.slot i d hp (hall i hi)]
          exact (fold_in vals i d D a0.tmps hp hnd (hsz _ hp)).symm
        · have h' : ∀ p ∈ D, p.2 ≠ s := fun p hp e => h ⟨p, hp, e⟩
          rw [I.other s h']
          exact (fold_out vals s D a0.tmps h').symm
      have hd := I.defers
      cases a
      simp only [full] at ht hd ⊢
      simp only [ht, hd]
    subst hact
    subst hlist
    have hc := wpAny_chain (P := P) (Q := Q) (ops.toList.drop n) n (firstN ops.size n) (full a0 D vals) w (fun j => by simp) (by simpa using hch) (hrest vals w I.world (fun i hi => I.post i hi (hall i hi)) (fun i j hij hi hj => I.apart i j hij (hall i hi) (hall j hj)))
    simpa using hc
  | succ m ih =>
    intro listed vals a w I hl
    have e1 : m + 1 + (ops.size - n) = m + (ops.size - n) + 1 := by omega
    rw [e1]
    refine ⟨fun hr => ?_, fun i hi => ?_⟩
    · exfalso
      obtain ⟨i, h1, h2, h3⟩ := left_pos (listed := listed) (n := n) (by omega)
      have hio := hfirst i (List.mem_range.2 h1)
      cases hoi : ops[i]? with
      | none => rw [hoi] at hio; cases hio
      | some o =>
        rw [hoi] at hio
        simp only [Bool.and_eq_true] at hio
        have hm : i ∈ Region.ready .any ops listed := mem_ready.2 ⟨by rw [getD_eq (by rw [I.size]; omega) true false]; exact h2, o, hoi, fun e he hb => h3 _ (by
          have := List.all_eq_true.1 hio.1.1 e.on (by unfold edges; exact List.mem_map.2 ⟨e, List.mem_filter.2 ⟨by simpa using he, hb⟩, rfl⟩)
          simpa using this)⟩
        rw [hr] at hm
        cases hm
    · obtain ⟨hun, o, hoi, hdeps⟩ := mem_ready.1 hi
      have hed : ∀ e ∈ edges o, listed.getD e false = true := fun e he => by
        unfold edges at he
        obtain ⟨x, hx, rfl⟩ := List.mem_map.1 he
        obtain ⟨hx1, hx2⟩ := List.mem_filter.1 hx
        exact hdeps x (by simpa using hx1) hx2
      have his : i < ops.size := (Array.getElem?_eq_some_iff.1 hoi).1
      have hin : i < n := by
        apply Classical.byContradiction
        intro hge
        obtain ⟨j, h1, h2, _⟩ := left_pos (listed := listed) (n := n) (by omega)
        have hrch := hph i (List.mem_range'.2 ⟨i - n, by omega, by omega⟩)
        have hrj := List.all_eq_true.1 hrch j (List.mem_range.2 h1)
        have := reach_listed I.closed j ops.size i o hoi hed hrj
        rw [h2] at this
        cases this
      have hio := hfirst i (List.mem_range.2 hin)
      rw [hoi] at hio
      simp only [Bool.and_eq_true] at hio
      obtain ⟨⟨hlt, hdst⟩, hlook⟩ := hio
      have hjn : ∀ j ∈ edges o, j < n := fun j hj => by
        have := List.all_eq_true.1 hlt j hj
        simp at this
        omega
      have hagree : ∀ t ∈ o.looksAt ops, a.tmps[t]? = (full a0 D vals).tmps[t]? := fun t ht => by
        have := List.all_eq_true.1 hlook t ht
        simp only [Bool.or_eq_true] at this
        rcases this with h | h
        · have h' : ∀ p ∈ D, p.2 ≠ t := fun p hp => by
            have := List.all_eq_true.1 h p hp
            simpa using this
          rw [I.other t h']
          exact (fold_out vals t D a0.tmps h').symm
        · obtain ⟨j, hj, hc⟩ := List.any_eq_true.1 h
          have hp : (j, t) ∈ D := by simpa using hc
          rw [I.slot j t hp (hed j hj)]
          exact (fold_in vals j t D a0.tmps hp hnd (hsz _ hp)).symm
      have hex : execOp a.eval o = execOp (full a0 D vals).eval o := execOp_congr o (fun cs b => Region.noSelect_spec hsel i o cs b hoi) fun x hx => eval_congr fun t ht => hagree t (by
        subst ht
        exact List.mem_append_left _ (List.mem_filterMap.2 ⟨.tmp t, by simpa using hx, rfl⟩))
      have hwa := wanted_congr (ops := ops) (o := o) hagree
      have H := hop i hin o hoi vals w I.world fun j hj => I.post j (hjn j hj) (hed j hj)
      have hls : i < listed.size := by rw [I.size]; exact his
      have hun' : listed.getD i false = false := by rw [getD_eq hls false true]; exact hun
      have next : ∀ v w', Gro w w' → (posts i).gives v w w' → wpAny P .any ops Q (m + (ops.size - n)) (listed.setIfInBounds i true) (a.put o.dst v) w' := fun v w' hg hv => by
        refine ih (listed.setIfInBounds i true) (fun j => if j = i then v else vals j) _ _ ?_ ?_
        · have hgetj : ∀ j, j ≠ i → (listed.setIfInBounds i true).getD j false = listed.getD j false := fun j hj => getD_set_ne false (Ne.symm hj)
          refine ⟨by simpa using I.size, fun j hj => ?_, fun j oj hoj hjl e he => ?_, ?_, ?_, fun j d hp hjl => ?_, fun s hs => ?_, I.world.trans hg, fun j hj hjl => ?_, fun j k hjk hjl hkl hj hk => ?_⟩
          · rw [hgetj j (by omega)]; exact I.late j hj
          · apply getD_set_true
            by_cases hji : j = i
            · subst hji; rw [hoi] at hoj; cases hoj; exact hed e he
            · rw [hgetj j hji] at hjl; exact I.closed j oj hoj hjl e he
          · cases hd : o.dst <;> simp [Act.put, I.defers]
          · cases hd : o.dst <;> simp [Act.put, I.tsize]
          · by_cases hji : j = i
            · subst hji
              have hd : o.dst = some d := by have := hD _ hp; simp [hoi] at this; exact this.2
              have := hsz _ hp
              simp only [hd, Act.put, if_true]
              simp [I.tsize, this]
            · rw [hgetj j hji] at hjl
              have hne : ∀ d', o.dst = some d' → d' ≠ d := fun d' hd' e => by
                rw [hd'] at hdst
                have hp' : (i, d') ∈ D := by simpa using hdst
                subst e
                have h1 := fold_in (fun k => .int .i64 k) i d' D (Array.replicate (d' + 1) undef) hp' hnd (by simp)
                have h2 := fold_in (fun k => .int .i64 k) j d' D (Array.replicate (d' + 1) undef) hp hnd (by simp)
                rw [h1] at h2
                simp at h2
                exact hji (by omega)
              rw [if_neg hji, ← I.slot j d hp hjl]
              cases hd : o.dst with
              | none => rfl
              | some d' => simp only [Act.put]; exact Array.getElem?_setIfInBounds_ne (hne d' hd)
          · rw [← I.other s hs]
            cases hd : o.dst with
            | none => rfl
            | some d' =>
              rw [hd] at hdst
              have hp' : (i, d') ∈ D := by simpa using hdst
              simp only [Act.put]; exact Array.getElem?_setIfInBounds_ne (hs _ hp')
          · by_cases hji : j = i
            · subst hji; simp only [if_true]; exact PostK.holds_of_gives I.world.size hv
            · rw [hgetj j hji] at hjl
              simp only [if_neg hji]; exact PostK.stable hg (I.post j hj hjl)
          · by_cases hji : j = i
            · have hki : k ≠ i := fun e => hjk (by omega)
              rw [hgetj k hki] at hkl
              simp only [if_pos hji, if_neg hki]
              subst hji
              have hkn : k < n := by
                apply Classical.byContradiction
                intro h
                have := I.late k (by omega)
                rw [hkl] at this
                cases this
              exact (PostK.unlike hk hj (I.post k hkn hkl) hv).symm
            · rw [hgetj j hji] at hjl
              have hjn' : j < n := by
                apply Classical.byContradiction
                intro h
                have := I.late j (by omega)
                rw [hjl] at this
                cases this
              by_cases hki : k = i
              · simp only [if_pos hki, if_neg hji]
                subst hki
                exact PostK.unlike hj hk (I.post j hjn' hjl) hv
              · rw [hgetj k hki] at hkl
                simp only [if_neg hki, if_neg hji]
                exact I.apart j k hjk hjl hkl hj hk
        · have := left_set hls hun' n
          rw [if_pos hin] at this
          omega
      unfold wpOp
      rw [hoi]
      show if _ then _ else _
      rw [hwa]
      split
      · rename_i hw
        rw [if_pos hw] at H
        exact Or.inl (Oper.wp_of_upon (by rw [hex]) H next)
      · rename_i hw
        rw [if_neg hw] at H
        exact next _ _ (Gro.refl _) H
/-! ### The same, for a region that is written out -/
def PostK.fill (k : PostK) (v : Value) : Value :=
  match k.isNew with
  | false => k.value
  | true => v
theorem PostK.fill_of_holds {B : Nat} {k : PostK} {v : Value} {w : World} (h : k.holds B v w) : k.fill v = v := by
  obtain ⟨n, u, t, cs⟩ := k
  cases n with
  | false => exact (show v = u from h).symm
  | true => rfl
def postAt (posts : List PostK) (i : Nat) : PostK := posts.getD i (.val undef)
def filled (posts : List PostK) (ptrs : Nat → Value) (i : Nat) : Value := (postAt posts i).fill (ptrs i)
structure OpOK (P : Program) (ops : Array Oper) (k : PostK) (o : Oper) (A : Act) (w : World) : Prop where
  out : if Region.wanted o (yielded ops A.tmps) = true then k.upon P w ((execOp A.eval o).run P w) else k.gives undef w w
/-- Of these operations those that lay a new block have laid it. -/
def newsHold (B : Nat) (posts : List PostK) (ptrs : Nat → Value) (w : World) : List Nat → Prop
  | [] => True
  | j :: r => match (postAt posts j).isNew with
    | false => newsHold B posts ptrs w r
    | true => (∃ g, ptrs j = .pointer (some ⟨g, 0, none⟩) ∧ w.heap[g]? = some (.cells (postAt posts j).cells (postAt posts j).type (0, 0)) ∧ B ≤ g) ∧ newsHold B posts ptrs w r
theorem newsHold_of {B : Nat} (posts : List PostK) (ptrs : Nat → Value) (w : World) : ∀ (l : List Nat), (∀ j ∈ l, (postAt posts j).holds B (ptrs j) w) → newsHold B posts ptrs w l
  | [], _ => trivial
  | j :: r, h => by
    have h1 := h j List.mem_cons_self
    have h2 := newsHold_of posts ptrs w r fun k hk => h k (List.mem_cons_of_mem _ hk)
    unfold newsHold
    unfold PostK.holds at h1
    cases hp : (postAt posts j).isNew with
    | false => exact h2
    | true => rw [hp] at h1; exact ⟨h1, h2⟩
def opsOK (P : Program) (ops : Array Oper) (posts : List PostK) (a0 : Act) (D : List (Nat × Nat)) (w0 : World) : Nat → List Oper → Prop
  | _, [] => True
  | i, o :: r => (∀ ptrs w, Gro w0 w → newsHold w0.heap.size posts ptrs w (edges o) → OpOK P ops (postAt posts i) o (full a0 D (filled posts ptrs)) w) ∧ opsOK P ops posts a0 D w0 (i + 1) r
theorem opsOK_at {ops : Array Oper} {posts : List PostK} {a0 : Act} {D : List (Nat × Nat)} {w0 : World} : ∀ (l : List Oper) (k : Nat), opsOK P ops posts a0 D w0 k l → ∀ i o, l[i]? = some o →
    ∀ ptrs w, Gro w0 w → newsHold w0.heap.size posts ptrs w (edges o) → OpOK P ops (postAt posts (k + i)) o (full a0 D (filled posts ptrs)) w
  | [], _, _, _, _, h => by simp at h
  | o :: r, k, h, i, o', ho => by
    cases i with
    | zero => simp at ho; subst ho; exact h.1
    | succ i =>
      have := opsOK_at r (k + 1) h.2 i o' (by simpa using ho)
      have e : k + 1 + i = k + (i + 1) := by omega
      rw [e] at this
      exact this
theorem opsOK_nil {ops : Array Oper} {posts : List PostK} {a0 : Act} {D : List (Nat × Nat)} {w0 : World} {i : Nat} : opsOK P ops posts a0 D w0 i [] := trivial
theorem opsOK_cons {ops : Array Oper} {posts : List PostK} {a0 : Act} {D : List (Nat × Nat)} {w0 : World} {i : Nat} {o : Oper} {r : List Oper}
    (h : ∀ ptrs w, Gro w0 w → newsHold w0.heap.size posts ptrs w (edges o) → OpOK P ops (postAt posts i) o (full a0 D (filled posts ptrs)) w) (hr : opsOK P ops posts a0 D w0 (i + 1) r) : opsOK P ops posts a0 D w0 i (o :: r) := ⟨h, hr⟩
/-- The values of those that lay new blocks are unlike. -/
def newsApart (posts : List PostK) (ptrs : Nat → Value) (n : Nat) : Prop := ((List.range n).filter fun i => (postAt posts i).isNew).Pairwise fun i j => ptrs i ≠ ptrs j
theorem full_congr {a0 : Act} {D : List (Nat × Nat)} {vals vals' : Nat → Value} (h : ∀ p ∈ D, vals p.1 = vals' p.1) : full a0 D vals = full a0 D vals' := by
  unfold full
  have : ∀ (D : List (Nat × Nat)) (T : List Value), (∀ p ∈ D, vals p.1 = vals' p.1) → foldSlots vals D T = foldSlots vals' D T := by
    unfold foldSlots
    intro D
    induction D with
    | nil => intro T _; rfl
    | cons p D ih => intro T h; rw [List.foldl_cons, List.foldl_cons, h p List.mem_cons_self]; exact ih _ fun q hq => h q (List.mem_cons_of_mem _ hq)
  rw [this D a0.tmps.toList h]
/-- **A region in whatever order**: its first n operations lay what 'posts' says, whatever has come up ahead of them; the others come up behind them, one behind the other. -/
theorem wp_region_grow {id : Nat} {l : List Oper} {Q : Exit → Act → World → Prop} {a0 : Act} {w : World} (n : Nat) (D : List (Nat × Nat)) (posts : List PostK) (hm : P.follows .mixedOrders = true)
    (hB : growB l.toArray n D = true) (hsz : (D.all fun p => decide (p.2 < a0.tmps.size)) = true)
    (hop : opsOK P l.toArray posts a0 D w.drew 0 (l.take n))
    (hrest : ∀ ptrs w', Gro w.drew w' → newsHold w.heap.size posts ptrs w' (List.range n) → newsApart posts ptrs n → wpList P l.toArray Q (l.drop n) (full a0 D (filled posts ptrs)) w') :
    (Code.region id l.toArray true).wp P Q a0 w := by
  have hB' := hB
  simp only [growB, Bool.and_eq_true, decide_eq_true_eq] at hB'
  obtain ⟨⟨⟨⟨⟨⟨hsel, hn⟩, hfirst⟩, hD⟩, hnd⟩, hph⟩, hch⟩ := hB'
  have hn' : n ≤ l.length := by simpa using hn
  have hsz' : ∀ p ∈ D, p.2 < a0.tmps.size := fun p hp => by
    have := List.all_eq_true.1 hsz p hp
    simpa using this
  refine wp_region_any hm ?_
  have hDn : ∀ p ∈ D, p.1 < n := fun p hp => by have := List.all_eq_true.1 hD p hp; simp at this; exact this.1
  have main := wpAny_grow (P := P) (ops := l.toArray) (n := n) (D := D) (posts := postAt posts) (a0 := a0) (w0 := w.drew) (Q := Q) hB hsz' (fun i hi o ho vals w' hg hdeps => by
      have hoi : (l.take n)[i]? = some o := by rw [List.getElem?_take_of_lt hi]; simpa using ho
      have H := opsOK_at (l.take n) 0 hop i o hoi vals w' hg (newsHold_of posts vals w' _ hdeps)
      rw [Nat.zero_add] at H
      have hio := List.all_eq_true.1 hfirst i (List.mem_range.2 hi)
      rw [ho] at hio
      simp only [Bool.and_eq_true] at hio
      obtain ⟨_, hlook⟩ := hio
      have hagree : ∀ t ∈ o.looksAt l.toArray, (full a0 D vals).tmps[t]? = (full a0 D (filled posts vals)).tmps[t]? := fun t ht => by
        have := List.all_eq_true.1 hlook t ht
        simp only [Bool.or_eq_true] at this
        rcases this with h | h
        · have h' : ∀ p ∈ D, p.2 ≠ t := fun p hp => by
            have := List.all_eq_true.1 h p hp
            simpa using this
          unfold full
          rw [fold_out vals t D a0.tmps h', fold_out _ t D a0.tmps h']
        · obtain ⟨j, hj, hc⟩ := List.any_eq_true.1 h
          have hp : (j, t) ∈ D := by simpa using hc
          unfold full
          rw [fold_in vals j t D a0.tmps hp hnd (hsz' _ hp), fold_in _ j t D a0.tmps hp hnd (hsz' _ hp)]
          unfold filled
          rw [PostK.fill_of_holds (hdeps j hj)]
      have hex : execOp (full a0 D vals).eval o = execOp (full a0 D (filled posts vals)).eval o := execOp_congr o (fun cs b => Region.noSelect_spec hsel i o cs b ho) fun x hx => eval_congr fun t ht => hagree t (by
        subst ht
        exact List.mem_append_left _ (List.mem_filterMap.2 ⟨.tmp t, by simpa using hx, rfl⟩))
      have hwa := wanted_congr (ops := l.toArray) (o := o) hagree
      rw [hwa, hex]
      exact H.out)
    (fun vals w' hg hall hap => by
      have e : full a0 D vals = full a0 D (filled posts vals) := full_congr fun p hp => (PostK.fill_of_holds (hall p.1 (hDn p hp))).symm
      rw [e]
      have := hrest vals w' hg (newsHold_of posts vals w' _ fun j hj => hall j (List.mem_range.1 hj)) (by
        unfold newsApart
        have hnr : ((List.range n).filter fun i => (postAt posts i).isNew).Nodup := List.nodup_range.filter _
        refine List.Pairwise.imp_of_mem ?_ hnr
        intro x y hx hy hxy
        obtain ⟨hx1, hx2⟩ := List.mem_filter.1 hx
        obtain ⟨hy1, hy2⟩ := List.mem_filter.1 hy
        exact hap x y hxy (List.mem_range.1 hx1) (List.mem_range.1 hy1) hx2 hy2)
      simpa using this)
    n (Array.replicate l.length false) (fun _ => undef) a0 w.drew
    ⟨by simp, fun i _ => by by_cases h : i < l.length <;> simp [h], fun j o _ hj => by by_cases h : j < l.length <;> simp [h] at hj, rfl, rfl,
      fun i d _ hi => by by_cases h : i < l.length <;> simp [h] at hi, fun _ _ => rfl, Gro.refl _, fun i _ hi => by by_cases h : i < l.length <;> simp [h] at hi, fun i j _ hi => by by_cases h : i < l.length <;> simp [h] at hi⟩
    (by
      have hz : ∀ m, m ≤ l.length → left (Array.replicate l.length false) m = m := by
        intro m
        induction m with
        | zero => intro _; simp [left]
        | succ m ih => intro hm; rw [left_succ, ih (by omega)]; simp [show m < l.length by omega]
      exact hz n hn')
  have e1 : n + (l.toArray.size - n) = l.toArray.size := by simp; omega
  rw [e1] at main
  simpa using main
end
end Go.Proofs.Ytjahegiopigblaa
