import Derived.WalkKit
import Derived.WalkSpells
import Derived.WalkLawsBesides
import Derived.Deep.WholeRow
import Derived.BigQuiet
import Derived.Laws.CopyRow
import Derived.Deep.Light
namespace Go.Proofs.YtgfnjekpafempaaGreat
open Go.RowKit
section
variable {P : Program}
theorem vY (d : Nat) (t e n : Nat) (ht : P.underlying t = some (.array n e)) (w : World) (hs : (sizeOf e).run P w = .ok 1 w)
    (xs ys : Array Value) (fx fy : Nat → Value) (eq : Nat → Bool) (hx : ∀ i, i < n → (part e xs i).run P w = .ok (fx i) w) (hy : ∀ i, i < n → (part e ys i).run P w = .ok (fy i) w)
    (he : ∀ i, i < n → (Op.equalIn d e (fx i) (fy i)).run P w = .ok (eq i) w) (r : Bool) (hr : r = true ↔ ∀ i, i < n → eq i = true) :
    (Op.equalIn (d + 1) t (.agg xs) (.agg ys)).run P w = .ok r w := by
  have key : ∀ (m k : Nat), k + m = n → ∃ q : Option Bool × Unit, (forIn (m := Sem) (List.range' k m 1) ((none, ()) : Option Bool × Unit) (fun i _ => do
      let a ← part e xs (i * 1)
      let b ← part e ys (i * 1)
      let q ← Op.equalIn d e a b
      if (!q) = true then pure (ForInStep.done (some false, ())) else pure (ForInStep.yield (none, ())))).run P w = .ok q w ∧
        ((q = (none, ()) ∧ ∀ i, k ≤ i → i < n → eq i = true) ∨ (q = (some false, ()) ∧ ∃ i, k ≤ i ∧ i < n ∧ eq i = false)) := by
    intro m
    induction m with
    | zero =>
      intro k hk
      exact ⟨(none, ()), by simp, Or.inl ⟨rfl, fun i h1 h2 => by omega⟩⟩
    | succ m ih =>
      intro k hk
      have h1 := hx k (by omega)
      have h2 := hy k (by omega)
      have h4 := he k (by omega)
      obtain ⟨q, h3, h5⟩ := ih (k + 1) (by omega)
      simp only [Nat.mul_one] at h3 ⊢
      simp only [List.range'_succ, List.forIn_cons, Sem.run_bind, h1, h2, h4, Result.andThen_ok]
      cases hq : eq k with
      | true =>
        simp only [Bool.not_true, Bool.false_eq_true, if_false, Sem.run_pure, Result.andThen_ok]
        refine ⟨q, h3, ?_⟩
        rcases h5 with ⟨h6, h7⟩ | ⟨h6, i, h7, h8, h9⟩
        · refine Or.inl ⟨h6, fun i hi hn => ?_⟩
          by_cases hik : i = k
          · subst hik; exact hq
          · exact h7 i (by omega) hn
        · exact Or.inr ⟨h6, i, by omega, h8, h9⟩
      | false =>
        simp only [Bool.not_false, if_true, Sem.run_pure, Result.andThen_ok]
        exact ⟨_, rfl, Or.inr ⟨rfl, k, Nat.le_refl _, by omega, hq⟩⟩
  obtain ⟨q, h0, h1⟩ := key n 0 (by omega)
  simp only [Op.equalIn, Sem.run_bind, run_underlying ht, Result.andThen_ok, hs]
  simp only [Std.Legacy.Range.forIn_eq_forIn_range', Std.Legacy.Range.size]
  simp only [Nat.sub_zero, Nat.add_sub_cancel, Nat.div_one]
  rw [h0]
  rcases h1 with ⟨rfl, h2⟩ | ⟨rfl, i, _, h3, h4⟩
  · have : r = true := hr.2 fun i hi => h2 i (Nat.zero_le _) hi
    simp [this]
  · have : r = false := by
      cases hrr : r with
      | false => rfl
      | true => have := hr.1 hrr i h3; rw [h4] at this; cases this
    simp [this]
/-! ### Worlds that only grow -/
def Gro (w w' : World) : Prop := Below w.heap.size w w'
theorem Gro.refl (w : World) : Gro w w := Below.refl _ _
theorem Gro.trans {a b c : World} (h : Gro a b) (k : Gro b c) : Gro a c := Below.trans h (Below.mono k h.size)
theorem Gro.drew {a b : World} (h : Gro a b) : Gro a b.drew := Below.drew h
theorem Gro.alloc {a b : World} (h : Gro a b) (o : Obj) : Gro a (b.alloc o) := Below.alloc h h.size o
theorem ji {w : World} {g : Nat} {o : Obj} (h : w.heap[g]? = some o) : g < w.heap.size := (Array.getElem?_eq_some_iff.1 h).1
theorem Gro.has {w w' : World} (h : Gro w w') {g : Nat} {o : Obj} (hg : w.heap[g]? = some o) : w'.heap[g]? = some o := by
  rw [h.block g (ji hg)]; exact hg
structure PostK where
  isNew : Bool
  value : Value
  type : TypeId
  cells : Array Value
def PostK.val (v : Value) : PostK := ⟨false, v, 0, #[]⟩
def PostK.new (t : TypeId) (cs : Array Value) : PostK := ⟨true, undef, t, cs⟩
def PostK.holds (B : Nat) (k : PostK) (v : Value) (w : World) : Prop :=
  match k.isNew with
  | false => v = k.value
  | true => ∃ g, v = .pointer (some ⟨g, 0, none⟩) ∧ w.heap[g]? = some (.cells k.cells k.type (0, 0)) ∧ B ≤ g
def PostK.gives (k : PostK) (v : Value) (w w' : World) : Prop :=
  match k.isNew with
  | false => v = k.value
  | true => ∃ g, v = .pointer (some ⟨g, 0, none⟩) ∧ w'.heap[g]? = some (.cells k.cells k.type (0, 0)) ∧ w.heap.size ≤ g
def PostK.upon (P : Program) (k : PostK) (w : World) : Result Next → Prop
  | .ok (.value v) w' => Gro w w' ∧ k.gives v w w'
  | .ok .skip w' => Gro w w' ∧ k.gives undef w w'
  | .ok (.enter f args) w' => Calls P f args w' fun e w'' => ∃ v, e = .returned v ∧ Gro w w'' ∧ k.gives v w w''
  | _ => False
/-! ### A region in whatever order, told operation by operation -/
def edges (o : Oper) : List Nat := (o.after.toList.filter (Region.binds .any)).map (·.on)
def reach (ops : Array Oper) : Nat → Nat → Nat → Bool
  | 0, _, _ => false
  | f + 1, k, i => match ops[k]? with
    | some o => (edges o).any fun j => j == i || reach ops f j i
    | none => false
def chainB (ops : Array Oper) : Nat → Nat → Array Bool → Bool
  | 0, _, listed => (Region.ready .any ops listed).isEmpty
  | m + 1, k, listed => (Region.ready .any ops listed == [k]) && chainB ops m (k + 1) (listed.setIfInBounds k true)
def firstN (size n : Nat) : Array Bool := Array.ofFn (n := size) fun i => decide (i.val < n)
def growB (ops : Array Oper) (n : Nat) (D : List (Nat × Nat)) : Bool :=
  Region.noSelect ops && decide (n ≤ ops.size) &&
  ((List.range n).all fun i => match ops[i]? with
    | some o => ((edges o).all fun j => decide (j < i)) && (match o.dst with | some d => D.contains (i, d) | none => true) &&
        ((o.looksAt ops).all fun t => (D.all fun p => p.2 != t) || (edges o).any fun j => D.contains (j, t))
    | none => false) &&
  (D.all fun p => decide (p.1 < n) && ((ops[p.1]?).bind (·.dst) == some p.2)) &&
  decide ((D.map (·.2)).Nodup) &&
  ((List.range' n (ops.size - n)).all fun k => (List.range n).all fun i => reach ops ops.size k i) &&
  chainB ops (ops.size - n) n (firstN ops.size n)
def foldSlots (vals : Nat → Value) (D : List (Nat × Nat)) (T : List Value) : List Value := D.foldl (fun t p => t.set p.2 (vals p.1)) T
def full (a0 : Act) (D : List (Nat × Nat)) (vals : Nat → Value) : Act := { a0 with tmps := (foldSlots vals D a0.tmps.toList).toArray }
theorem fold_out' (vals : Nat → Value) (s : Nat) : ∀ (D : List (Nat × Nat)) (T : List Value), (∀ p ∈ D, p.2 ≠ s) → (foldSlots vals D T)[s]? = T[s]?
  | [], _, _ => rfl
  | p :: D, T, h => by
    unfold foldSlots
    rw [List.foldl_cons]
    have := fold_out' vals s D (T.set p.2 (vals p.1)) fun q hq => h q (List.mem_cons_of_mem _ hq)
    unfold foldSlots at this
    rw [this]
    exact List.getElem?_set_ne (h p List.mem_cons_self)
theorem fold_in' (vals : Nat → Value) (i s : Nat) : ∀ (D : List (Nat × Nat)) (T : List Value), (i, s) ∈ D → (D.map (·.2)).Nodup → s < T.length → (foldSlots vals D T)[s]? = some (vals i)
  | [], _, h, _, _ => by cases h
  | p :: D, T, h, hn, hs => by
    rw [List.map_cons, List.nodup_cons] at hn
    rcases List.mem_cons.1 h with e | h'
    · subst e
      have := fold_out' vals s D (T.set s (vals i)) fun q hq e => hn.1 (e ▸ List.mem_map.2 ⟨q, hq, rfl⟩)
      unfold foldSlots at *
      rw [List.foldl_cons]
      rw [this]
      simp [hs]
    · have := fold_in' vals i s D (T.set p.2 (vals p.1)) h' hn.2 (by simpa using hs)
      unfold foldSlots at *
      rw [List.foldl_cons]
      exact this
theorem zN (vals : Nat → Value) (s : Nat) (D : List (Nat × Nat)) (T : Array Value) (h : ∀ p ∈ D, p.2 ≠ s) : (foldSlots vals D T.toList).toArray[s]? = T[s]? := by
  rw [List.getElem?_toArray, fold_out' vals s D _ h, Array.getElem?_toList]
theorem zy (vals : Nat → Value) (i s : Nat) (D : List (Nat × Nat)) (T : Array Value) (h : (i, s) ∈ D) (hn : (D.map (·.2)).Nodup) (hs : s < T.size) : (foldSlots vals D T.toList).toArray[s]? = some (vals i) := by
  rw [List.getElem?_toArray, fold_in' vals i s D _ h hn (by simpa using hs)]
theorem yK {ops : Array Oper} {listed : Array Bool} (hcl : ∀ j o, ops[j]? = some o → listed.getD j false = true → ∀ e ∈ edges o, listed.getD e false = true) (i : Nat) :
    ∀ (f k : Nat) (o : Oper), ops[k]? = some o → (∀ e ∈ edges o, listed.getD e false = true) → reach ops f k i = true → listed.getD i false = true
  | 0, _, _, _, _, h => by simp [reach] at h
  | f + 1, k, o, ho, he, h => by
    simp only [reach, ho, List.any_eq_true, Bool.or_eq_true, beq_iff_eq] at h
    obtain ⟨j, hj, h1⟩ := h
    rcases h1 with rfl | h1
    · exact he _ hj
    · cases hoj : ops[j]? with
      | none => cases f <;> simp [reach, hoj] at h1
      | some oj => exact yK hcl i f j oj hoj (fun e he' => hcl j oj hoj (he j hj) e he') h1
theorem uS {listed : Array Bool} {i : Nat} (h : i < listed.size) : (listed.setIfInBounds i true).getD i false = true := by simp [h]
theorem uK {listed : Array Bool} {i : Nat} (h : i < listed.size) (d d' : Bool) : listed.getD i d = listed.getD i d' := by simp [h]
def left (listed : Array Bool) (n : Nat) : Nat := ((List.range n).filter fun i => !listed.getD i false).length
theorem yq (listed : Array Bool) (n : Nat) : left listed (n + 1) = left listed n + if listed.getD n false = true then 0 else 1 := by
  unfold left
  rw [List.range_succ, List.filter_append]
  cases h : listed.getD n false with
  | false =>
    have h' : listed[n]?.getD false = false := by simpa using h
    simp [h']
  | true =>
    have h' : listed[n]?.getD false = true := by simpa using h
    simp [h']
theorem vC {listed : Array Bool} : ∀ {n : Nat}, left listed n = 0 → ∀ i, i < n → listed.getD i false = true
  | 0, _, i, hi => by omega
  | n + 1, h, i, hi => by
    rw [yq] at h
    by_cases hn : listed.getD n false = true
    · by_cases e : i = n
      · subst e; exact hn
      · exact vC (n := n) (by omega) i (by omega)
    · rw [if_neg hn] at h; omega
theorem yZ {listed : Array Bool} : ∀ {n : Nat}, 0 < left listed n → ∃ i, i < n ∧ listed.getD i false = false ∧ ∀ j, j < i → listed.getD j false = true
  | 0, h => by simp [left] at h
  | n + 1, h => by
    by_cases h0 : 0 < left listed n
    · obtain ⟨i, h1, h2, h3⟩ := yZ h0
      exact ⟨i, by omega, h2, h3⟩
    · have h1 := vC (n := n) (listed := listed) (by omega)
      rw [yq] at h
      refine ⟨n, by omega, ?_, h1⟩
      cases hn : listed.getD n false with
      | false => rfl
      | true => rw [if_pos hn] at h; omega
theorem JB {listed : Array Bool} {i : Nat} (hs : i < listed.size) (hi : listed.getD i false = false) : ∀ n, left (listed.setIfInBounds i true) n + (if i < n then 1 else 0) = left listed n
  | 0 => by simp [left]
  | n + 1 => by
    have ih := JB hs hi n
    rw [yq, yq]
    by_cases e : i = n
    · subst e
      have h1 := uS hs
      rw [h1, hi]
      simp at ih ⊢
      omega
    · rw [getD_set_ne false e]
      by_cases e2 : i < n
      · have e3 : i < n + 1 := by omega
        rw [if_pos e2] at ih
        rw [if_pos e3]
        omega
      · have e3 : ¬ i < n + 1 := by omega
        rw [if_neg e2] at ih
        rw [if_neg e3]
        omega
theorem yw {a b : Act} {x : Operand} (h : ∀ t, x = .tmp t → a.tmps[t]? = b.tmps[t]?) : a.eval x = b.eval x := by
  cases x with
  | tmp t => simp [Act.eval, h t rfl]
  | _ => rfl
theorem zT {ops : Array Oper} {o : Oper} {a b : Act} (h : ∀ t ∈ o.looksAt ops, a.tmps[t]? = b.tmps[t]?) : Region.wanted o (yielded ops a.tmps) = Region.wanted o (yielded ops b.tmps) := by
  unfold Region.wanted
  cases hg : o.guard with
  | none => rfl
  | some p =>
    obtain ⟨j, want⟩ := p
    have : yielded ops a.tmps j = yielded ops b.tmps j := by
      unfold yielded
      cases hd : (ops[j]?).bind (·.dst) with
      | none => simp
      | some d =>
        have := h d (by unfold Oper.looksAt; rw [hg]; simp [hd])
        simp [this]
    simp [this]
theorem vf {ops : Array Oper} {Q : Exit → Act → World → Prop} : ∀ (l : List Oper) (k : Nat) (listed : Array Bool) (a : Act) (w : World), (∀ j, l[j]? = ops[k + j]?) →
    chainB ops l.length k listed = true → wpList P ops Q l a w → wpAny P .any ops Q l.length listed a w
  | [], _, _, _, _, _, hB, h => ⟨by simpa [chainB] using hB, h⟩
  | o :: l, k, listed, a, w, hl, hB, h => by
    simp only [List.length_cons, chainB, Bool.and_eq_true, beq_iff_eq] at hB
    have h0 : ops[k]? = some o := by simpa using (hl 0).symm
    refine ⟨fun hr => (by rw [hB.1] at hr; cases hr), fun i hi => ?_⟩
    rw [hB.1, List.mem_singleton] at hi
    subst hi
    have ih := fun a w => vf (Q := Q) l (i + 1) (listed.setIfInBounds i true) a w (fun j => by have := hl (j + 1); simpa [Nat.add_assoc, Nat.add_comm 1 j] using this) hB.2
    unfold wpOp
    rw [h0]
    simp only [wpList] at h
    show if _ then _ else _
    split
    · rename_i hw
      rw [if_pos hw] at h
      rcases h with h | h
      · exact Or.inl (Oper.wp_mono ih h)
      · exact Or.inr h
    · rename_i hw
      rw [if_neg hw] at h
      exact ih _ _ h
/-! ### The same, for a region that is written out -/
def PostK.fill (k : PostK) (v : Value) : Value :=
  match k.isNew with
  | false => k.value
  | true => v
theorem PostK.fill_of_holds {B : Nat} {k : PostK} {v : Value} {w : World} (h : k.holds B v w) : k.fill v = v := by
  obtain ⟨n, u, t, cs⟩ := k
  cases n with
  | false => exact (show v = u from h).symm
  | true => rfl
def postAt (posts : List PostK) (i : Nat) : PostK := posts.getD i (.val undef)
def filled (posts : List PostK) (ptrs : Nat → Value) (i : Nat) : Value := (postAt posts i).fill (ptrs i)
structure OpOK (P : Program) (ops : Array Oper) (k : PostK) (o : Oper) (A : Act) (w : World) : Prop where
  out : if Region.wanted o (yielded ops A.tmps) = true then k.upon P w ((execOp A.eval o).run P w) else k.gives undef w w
theorem Jc {a0 : Act} {D : List (Nat × Nat)} {vals vals' : Nat → Value} (h : ∀ p ∈ D, vals p.1 = vals' p.1) : full a0 D vals = full a0 D vals' := by
  unfold full
  have : ∀ (D : List (Nat × Nat)) (T : List Value), (∀ p ∈ D, vals p.1 = vals' p.1) → foldSlots vals D T = foldSlots vals' D T := by
    unfold foldSlots
    intro D
    induction D with
    | nil => intro T _; rfl
    | cons p D ih => intro T h; rw [List.foldl_cons, List.foldl_cons, h p List.mem_cons_self]; exact ih _ fun q hq => h q (List.mem_cons_of_mem _ hq)
  rw [this D a0.tmps.toList h]
end
section
variable {P : Program}
structure Stored (w w' : World) (g : Nat) (o : Obj) : Prop where
  os : w'.os = w.os
  tape : w'.tape = w.tape
  output : w'.output = w.output
  size : w'.heap.size = w.heap.size
  new : w'.heap[g]? = some o
  old : ∀ k, k ≠ g → w'.heap[k]? = w.heap[k]?
theorem Stored.has {w w' : World} {g k : Nat} {o x : Obj} (h : Stored w w' g o) (hk : k ≠ g) (hx : w.heap[k]? = some x) : w'.heap[k]? = some x := by rw [h.old k hk]; exact hx
theorem Stored.below {w w' : World} {g B : Nat} {o : Obj} (h : Stored w w' g o) (hB : B ≤ g) : Below B w w' :=
  ⟨h.os, h.tape, h.output, Nat.le_of_eq h.size.symm, fun k hk => h.old k (by omega)⟩
theorem stored_setRow {w : World} {g : Nat} {old : Array Value} {t : TypeId} {fr : Nat × Nat} (cs : Array Value) (hg : w.heap[g]? = some (.cells old t fr)) : Stored w (w.setRow g cs) g (.cells cs t fr) :=
  ⟨rfl, rfl, rfl, by simp [World.setRow], setRow_heap w g old cs t fr hg, fun k hk => by simp only [World.setRow, Array.getElem?_modify]; rw [if_neg (Ne.symm hk)]⟩
theorem ZK (w : World) (g off n : Nat) (t ty : TypeId) (cs : Array Value) (fr : Nat × Nat) (d : TypeDesc) (hg : w.heap[g]? = some (.cells cs t fr))
    (hu : P.underlying ty = some d) (hd : (match d with | .struct _ | .array _ _ => true | _ => false) = true) (hi : (P.info? ty).map (·.size) = some n) (hle : off + n ≤ cs.size) :
    (loadVar ty ⟨g, off, none⟩).run P w = .ok (.agg (cs.extract off (off + n))) w := by
  have hlen : (cs.extract off (off + n)).toList.length = n := by simp; omega
  have hl : (loadCells ⟨g, off, none⟩ n).run P w = .ok (cs.extract off (off + n)) w := by
    have := run_loadCells_list (P := P) w ⟨g, off, none⟩ (cs.extract off (off + n)).toList (fun j v hv => by
      have hadd : (⟨g, off, none⟩ : Addr).add j = ⟨g, off + j, none⟩ := by unfold Addr.add; split <;> simp_all
      rw [hadd, cell_of_row w g _ cs t fr hg]
      simp only [Array.getElem?_toList, Array.getElem?_extract] at hv
      split at hv
      · exact hv
      · cases hv)
    rw [hlen, Array.toArray_toList] at this
    exact this
  cases hq : P.info? ty with
  | none => simp [hq] at hi
  | some i =>
    have hs : i.size = n := by simpa [hq] using hi
    have hagg : (isAgg ty).run P w = .ok true w := by
      unfold isAgg
      rw [Sem.run_bind, run_underlying hu w]
      cases d <;> simp_all
    simp [loadVar, Sem.run_bind, hagg, sizeOf, typeInfo, hq, hs, hl]
def splice (cs : Array Value) (off : Nat) (vs : Array Value) : Array Value := (cs.toList.take off ++ vs.toList ++ cs.toList.drop (off + vs.size)).toArray
theorem VJ (cs : Array Value) (off : Nat) (vs : Array Value) (h : off + vs.size ≤ cs.size) : (splice cs off vs).size = cs.size := by
  simp [splice]; omega
theorem jS (cs vs : Array Value) (h : cs.size = vs.size) : splice cs 0 vs = vs := by
  have : cs.toList.drop vs.size = [] := List.drop_of_length_le (by simp; omega)
  simp [splice, this]
theorem yS (cs : Array Value) (off : Nat) (v : Value) (h : off < cs.size) : splice cs off #[v] = cs.setIfInBounds off v := by
  apply Array.ext_getElem?
  intro k
  simp only [splice, List.getElem?_toArray, Array.getElem?_setIfInBounds]
  rw [List.append_assoc, List.getElem?_append]
  simp only [List.length_take, Array.length_toList]
  have hm : min off cs.size = off := by omega
  rw [hm]
  by_cases h1 : k < off
  · rw [if_pos h1, if_neg (by omega)]
    simp [h1]
  · rw [if_neg h1]
    by_cases h2 : off = k
    · subst h2
      simp [h]
    · rw [if_neg h2]
      have : k - off = (k - off - 1) + 1 := by omega
      rw [this]
      simp
      congr 1
      omega
theorem yG (w : World) (g off : Nat) (t ty : TypeId) (old : Array Value) (v : Value) (hg : w.heap[g]? = some (.cells old t (0, 0))) (hi : (P.info? ty).map (·.size) = some v.cells.size)
    (ho : off + v.cells.size ≤ old.size) (h1 : v.cells.all (·.oneCell') = true) :
    (storeVar ty ⟨g, off, none⟩ v).run P w = .ok () (w.setRow g (splice old off v.cells)) := by
  have := run_storeCells_at P g off t v.cells.toList 0 old w hg (by simpa using ho) (fun x hx => (Array.all_eq_true_iff_forall_mem.1 h1) x (by simpa using hx))
  cases hq : P.info? ty with
  | none => simp [hq] at hi
  | some i =>
    have hs : v.cells.size = i.size := by simp [hq] at hi; omega
    simp [storeVar, sizeOf, typeInfo, hq, hs]
    simpa [splice, hs] using this
section
variable {ops : Array Oper} {rest : List Oper} {o : Oper} {a : Act} {w : World} {Q : Exit → Act → World → Prop}
theorem zl (w : World) (x : Obj) : Gro w (w.alloc x) := (Gro.refl w).alloc x
theorem yP (hgd : o.guard = none) (ty : TypeId) (x : Operand) (ho : o.op = .box ty x) (v : Value) (hx : a.eval x = v)
    (h : ∀ w' g, Gro w w' → w.heap.size = g → w'.heap[g]? = some (.cells v.cells ty (0, 0)) → wpList P ops Q rest (a.put o.dst (.pointer (some ⟨g, 0, none⟩))) w') : wpList P ops Q (o :: rest) a w :=
  wpList_plain hgd fun _ hK => by
    have := hK _ _ (h (w.alloc (.cells v.cells ty)) _ (zl _ _) rfl (heap_alloc_new _ _))
    have he : (execOp a.eval o).run P w = .ok (.value (.pointer (some ⟨w.heap.size, 0, none⟩))) (w.alloc (.cells v.cells ty)) := by
      unfold execOp
      simp only [ho, hx, Instr.box, newVar, newRow]
      generalize v.cells = cs
      simp [go_sem]
    unfold Oper.wp
    rw [he]
    exact this
theorem yk (ty : TypeId) (ho : o.op = .alloc ty) (v : Value) (hz : ∀ w, (zeroValue ty).run P w = .ok v w) :
    (execOp a.eval o).run P w = .ok (.value (.pointer (some ⟨w.heap.size, 0, none⟩))) (w.alloc (.cells v.cells ty)) := by
  unfold execOp
  simp only [ho, Instr.alloc, newVar, newRow, Sem.run_bind, hz, Result.andThen_ok]
  generalize v.cells = cs
  simp [go_sem]
theorem yJ (hgd : o.guard = none) (ty : TypeId) (ho : o.op = .alloc ty) (v : Value) (hz : ∀ w, (zeroValue ty).run P w = .ok v w)
    (h : ∀ w' g, Gro w w' → w.heap.size = g → w'.heap[g]? = some (.cells v.cells ty (0, 0)) → wpList P ops Q rest (a.put o.dst (.pointer (some ⟨g, 0, none⟩))) w') : wpList P ops Q (o :: rest) a w :=
  wpList_plain hgd fun _ hK => by
    have := hK _ _ (h (w.alloc (.cells v.cells ty)) _ (zl _ _) rfl (heap_alloc_new _ _))
    unfold Oper.wp
    rw [yk ty ho v hz]
    exact this
theorem zz (hgd : o.guard = none) (hdst : o.dst = none) (ty : TypeId) (x y : Operand) (ho : o.op = .store ty x y)
    (g off : Nat) (hx : a.eval x = .pointer (some ⟨g, off, none⟩)) (v : Value) (hy : a.eval y = v) (t : TypeId) (old : Array Value) (hg : w.heap[g]? = some (.cells old t (0, 0)))
    (hi : (P.info? ty).map (·.size) = some v.cells.size) (hle : off + v.cells.size ≤ old.size) (h1 : v.cells.all (·.oneCell') = true) (new : Array Value) (hn : splice old off v.cells = new)
    (h : ∀ w', Stored w w' g (.cells new t (0, 0)) → wpList P ops Q rest a w') : wpList P ops Q (o :: rest) a w :=
  wpList_plain hgd fun _ hK => by
    have := hK _ _ (h _ (stored_setRow _ hg))
    subst hn
    unfold Oper.wp execOp
    simp only [ho, hx, hy, Instr.storeAt, Instr.sureAddr, Sem.run_bind, Sem.run_pure, Result.andThen_ok, yG w g off t ty old v hg hi hle h1]
    rw [Oper.upon_skip, hdst]
    exact this
end
section
variable {ops : Array Oper} {rest : List Oper} {o : Oper} {a : Act} {w : World} {Q : Exit → Act → World → Prop}
theorem yj (hgd : o.guard = none) (ty : TypeId) (x : Operand) (ho : o.op = .box ty x) (cs : Array Value) (hx : a.eval x = .agg cs)
    (h : ∀ w' g, Gro w w' → w.heap.size = g → w'.heap[g]? = some (.cells cs ty (0, 0)) → wpList P ops Q rest (a.put o.dst (.pointer (some ⟨g, 0, none⟩))) w') : wpList P ops Q (o :: rest) a w :=
  yP hgd ty x ho _ hx h
theorem vt (hgd : o.guard = none) (ty : TypeId) (ho : o.op = .alloc ty) (cs : Array Value) (hz : ∀ w, (zeroValue ty).run P w = .ok (.agg cs) w)
    (h : ∀ w' g, Gro w w' → w.heap.size = g → w'.heap[g]? = some (.cells cs ty (0, 0)) → wpList P ops Q rest (a.put o.dst (.pointer (some ⟨g, 0, none⟩))) w') : wpList P ops Q (o :: rest) a w :=
  yJ hgd ty ho _ hz h
theorem zJ (dst : Nat) (hd : o.dst = some dst) (hgd : o.guard = none) (ty : TypeId) (x : Operand) (ho : o.op = .box ty x) (cs : Array Value) (hx : a.eval x = .agg cs)
    (h : ∀ w' g, Gro w w' → w.heap.size = g → w'.heap[g]? = some (.cells cs ty (0, 0)) → wpList P ops Q rest (a.put (some dst) (.pointer (some ⟨g, 0, none⟩))) w') : wpList P ops Q (o :: rest) a w :=
  yj hgd ty x ho cs hx (by rw [hd]; exact h)
theorem jU (dst : Nat) (hd : o.dst = some dst) (hgd : o.guard = none) (ty : TypeId) (ho : o.op = .alloc ty) (cs : Array Value) (hz : ∀ w, (zeroValue ty).run P w = .ok (.agg cs) w)
    (h : ∀ w' g, Gro w w' → w.heap.size = g → w'.heap[g]? = some (.cells cs ty (0, 0)) → wpList P ops Q rest (a.put (some dst) (.pointer (some ⟨g, 0, none⟩))) w') : wpList P ops Q (o :: rest) a w :=
  vt hgd ty ho cs hz (by rw [hd]; exact h)
theorem jh {w cur : World} {g : Nat} (h : Gro w cur) (e : cur.heap.size = g) : w.heap.size ≤ g := e ▸ h.size
theorem jn {cur : World} {g i : Nat} {x : Obj} (k : cur.heap[i]? = some x) (e : cur.heap.size = g) : i < g := e ▸ ji k
theorem Gro.store {w cur cur' : World} {g : Nat} {x : Obj} (h : Gro w cur) (s : Stored cur cur' g x) (b : w.heap.size ≤ g) : Gro w cur' := Below.trans h (s.below b)
theorem jx (h : wpList P ops Q (o :: rest) a w) : wpList P ops Q (o :: rest) a w := h
theorem jc (dst : Nat) (hd : o.dst = some dst) (hgd : o.guard = none) (v : Value) (he : (execOp a.eval o).run P w = .ok (.value v) w)
    (h : wpList P ops Q rest (a.put (some dst) v) w) : wpList P ops Q (o :: rest) a w :=
  wpList_plain hgd fun _ hK => by
    unfold Oper.wp
    rw [he, Oper.upon_value, hd]
    exact hK _ _ h
theorem zm (hgd : o.guard = none) (hdst : o.dst = none) (ty : TypeId) (x y : Operand) (ho : o.op = .store ty x y)
    (g : Nat) (hx : a.eval x = .pointer (some ⟨g, 0, none⟩)) (cs : Array Value) (hy : a.eval y = .agg cs) (t : TypeId) (old : Array Value) (hg : w.heap[g]? = some (.cells old t (0, 0)))
    (hi : (P.info? ty).map (·.size) = some cs.size) (hle : old.size = cs.size) (h1 : cs.all (·.oneCell') = true)
    (h : ∀ w', Stored w w' g (.cells cs t (0, 0)) → wpList P ops Q rest a w') : wpList P ops Q (o :: rest) a w :=
  zz hgd hdst ty x y ho g 0 hx (.agg cs) hy t old hg hi (by show 0 + cs.size ≤ _; omega) h1 cs (jS old cs hle) h
theorem ve (hgd : o.guard = none) (hdst : o.dst = none) (ty : TypeId) (x y : Operand) (ho : o.op = .store ty x y)
    (g off : Nat) (hx : a.eval x = .pointer (some ⟨g, off, none⟩)) (k : IntKind) (n : Int) (hy : a.eval y = .int k n) (t : TypeId) (old : Array Value) (hg : w.heap[g]? = some (.cells old t (0, 0)))
    (hi : (P.info? ty).map (·.size) = some 1) (hle : off < old.size) (new : Array Value) (hn : old.setIfInBounds off (.int k n) = new)
    (h : ∀ w', Stored w w' g (.cells new t (0, 0)) → wpList P ops Q rest a w') : wpList P ops Q (o :: rest) a w :=
  zz hgd hdst ty x y ho g off hx (.int k n) hy t old hg hi (by show off + 1 ≤ _; omega) (by simp [Value.cells, Value.oneCell']) new (by rw [← hn]; exact yS old off _ hle) h
end
theorem jJ {fn : Func} {p q : Tmp} {ty : TypeId} (h : fn.results = #[.cell p ty, .tmp q]) (tmps : Array Value) (w : World) (g : Nat) (t : TypeId) (cs : Array Value) (fr : Nat × Nat) (d : TypeDesc)
    (hp : tmps.getD p undef = .pointer (some ⟨g, 0, none⟩)) (v : Value) (hq : tmps.getD q undef = v) (hg : w.heap[g]? = some (.cells cs t fr))
    (hu : P.underlying ty = some d) (hd : (match d with | .struct _ | .array _ _ => true | _ => false) = true) (hi : (P.info? ty).map (·.size) = some cs.size) :
    (results fn tmps).run P w = .ok (.tuple #[.agg cs, v]) w := by
  have hp' : tmps[p]?.getD undef = .pointer (some ⟨g, 0, none⟩) := by simpa using hp
  have hq' : tmps[q]?.getD undef = v := by simpa using hq
  simp [results, h, hp', hq', asAddr, run_loadVar_row w g t ty cs fr d hg hu hd hi]
/-! ### Operations of a region in whatever order -/
section
variable {ops : Array Oper} {o : Oper} {A : Act} {w : World}
theorem Jo (c : Call) (f : FuncId) (hen : ∀ args w, (callFunc f args).run P w = .ok (.enter f args) w) (ho : o.op = .call c) (hc : c.callee = .value (.func f)) :
    (execOp A.eval o).run P w = .ok (.enter f (c.args.map A.eval)) w := by
  unfold execOp
  simp [ho, resolve, hc, go_sem, hen]
theorem vZ (h : o.guard = none) (y : Nat → Option Bool) : Region.wanted o y = true := by simp [Region.wanted, h]
theorem Jz (hgd : o.guard = none) (ty : TypeId) (ho : o.op = .alloc ty) (v : Value) (hz : ∀ w, (zeroValue ty).run P w = .ok v w) : OpOK P ops (.new ty v.cells) o A w := by
  constructor
  rw [if_pos (vZ hgd _)]
  rw [yk ty ho v hz]
  exact ⟨zl _ _, _, rfl, heap_alloc_new _ _, Nat.le_refl _⟩
theorem jM {v : Value} (hgd : o.guard = none) (h : (execOp A.eval o).run P w = .ok (.value v) w) : OpOK P ops (.val v) o A w := by
  constructor
  rw [if_pos (vZ hgd _), h]
  exact ⟨Gro.refl _, rfl⟩
end
/-! ### Operations that are quiet in a class of worlds -/
theorem US {o : Oper} {A : Act} (t : TypeId) (x y : Operand) (t2 : TypeId) (ho : o.op = .binOp .lss t x y t2) (k : IntKind) (n m : Int) (hx : A.eval x = .int k n) (hy : A.eval y = .int k m) (w : World) :
    (execOp A.eval o).run P w = .ok (.value (.bool (decide (n < m)))) w := by
  unfold execOp
  simp only [ho, hx, hy]
  simp [go_sem]
theorem Calls.gro {f : FuncId} {args : Array Value} {w0 w : World} {v : Value} (hw : Gro w0 w) (h : Calls P f args w fun e w' => e = .returned v ∧ Gro w w') : Calls P f args w fun e w' => e = .returned v ∧ Gro w0 w' :=
  h.mono fun _ _ ⟨he, hg⟩ => ⟨he, hw.trans hg⟩
end
end Go.Proofs.YtgfnjekpafempaaGreat
