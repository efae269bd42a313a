/- Laws over any program: operations that make, read and write memory, told by blocks of cells; the worlds are variables. -/
import Derived.Test.YtjahegiopigblaaHLaw
import Derived.Laws.CopyRow
import Derived.Deep.Light
namespace Go.Proofs.Ytjahegiopigblaa
open Go.RowKit
section
variable {P : Program}
/-- One block has been written; all else is as it was. -/
structure Stored (w w' : World) (g : Nat) (o : Obj) : Prop where
  os : w'.os = w.os
  tape : w'.tape = w.tape
  output : w'.output = w.output
  size : w'.heap.size = w.heap.size
  new : w'.heap[g]? = some o
  old : ∀ k, k ≠ g → w'.heap[k]? = w.heap[k]?
theorem Stored.has {w w' : World} {g k : Nat} {o x : Obj} (h : Stored w w' g o) (hk : k ≠ g) (hx : w.heap[k]? = some x) : w'.heap[k]? = some x := by rw [h.old k hk]; exact hx
theorem Stored.below {w w' : World} {g B : Nat} {o : Obj} (h : Stored w w' g o) (hB : B ≤ g) : Below B w w' :=
  ⟨h.os, h.tape, h.output, Nat.le_of_eq h.size.symm, fun k hk => h.old k (by omega)⟩
theorem stored_setRow {w : World} {g : Nat} {old : Array Value} {t : TypeId} {fr : Nat × Nat} (cs : Array Value) (hg : w.heap[g]? = some (.cells old t fr)) : Stored w (w.setRow g cs) g (.cells cs t fr) :=
  ⟨rfl, rfl, rfl, by simp [World.setRow], setRow_heap w g old cs t fr hg, fun k hk => by simp only [World.setRow, Array.getElem?_modify]; rw [if_neg (Ne.symm hk)]⟩
/-- A part of a block, read. -/
theorem run_loadVar_at (w : World) (g off n : Nat) (t ty : TypeId) (cs : Array Value) (fr : Nat × Nat) (d : TypeDesc) (hg : w.heap[g]? = some (.cells cs t fr))
    (hu : P.underlying ty = some d) (hd : (match d with | .struct _ | .array _ _ => true | _ => false) = true) (hi : (P.info? ty).map (·.size) = some n) (hle : off + n ≤ cs.size) :
    (loadVar ty ⟨g, off, none⟩).run P w = .ok (.agg (cs.extract off (off + n))) w := by
  have hlen : (cs.extract off (off + n)).toList.length = n := by simp; omega
  have hl : (loadCells ⟨g, off, none⟩ n).run P w = .ok (cs.extract off (off + n)) w := by
    have := run_loadCells_list (P := P) w ⟨g, off, none⟩ (cs.extract off (off + n)).toList (fun j v hv => by
      have hadd : (⟨g, off, none⟩ : Addr).add j = ⟨g, off + j, none⟩ := by unfold Addr.add; split <;> simp_all
      rw [hadd, cell_of_row w g _ cs t fr hg]
      simp only [Array.getElem?_toList, Array.getElem?_extract] at hv
      split at hv
      · exact hv
      · cases hv)
    rw [hlen, Array.toArray_toList] at this
    exact this
  cases hq : P.info? ty with
  | none => simp [hq] at hi
  | some i =>
    have hs : i.size = n := by simpa [hq] using hi
    have hagg : (isAgg ty).run P w = .ok true w := by
      unfold isAgg
      rw [Sem.run_bind, run_underlying hu w]
      cases d <;> simp_all
    simp [loadVar, Sem.run_bind, hagg, sizeOf, typeInfo, hq, hs, hl]
/-- A block with some of its cells written. -/
def splice (cs : Array Value) (off : Nat) (vs : Array Value) : Array Value := (cs.toList.take off ++ vs.toList ++ cs.toList.drop (off + vs.size)).toArray
theorem splice_size (cs : Array Value) (off : Nat) (vs : Array Value) (h : off + vs.size ≤ cs.size) : (splice cs off vs).size = cs.size := by
  simp [splice]; omega
theorem splice_whole (cs vs : Array Value) (h : cs.size = vs.size) : splice cs 0 vs = vs := by
  have : cs.toList.drop vs.size = [] := List.drop_of_length_le (by simp; omega)
  simp [splice, this]
theorem splice_one (cs : Array Value) (off : Nat) (v : Value) (h : off < cs.size) : splice cs off #[v] = cs.setIfInBounds off v := by
  apply Array.ext_getElem?
  intro k
  simp only [splice, List.getElem?_toArray, Array.getElem?_setIfInBounds]
  rw [List.append_assoc, List.getElem?_append]
  simp only [List.length_take, Array.length_toList]
  have hm : min off cs.size = off := by omega
  rw [hm]
  by_cases h1 : k < off
  · rw [if_pos h1, if_neg (by omega)]
    simp [h1]
  · rw [if_neg h1]
    by_cases h2 : off = k
    · subst h2
      simp [h]
    · rw [if_neg h2]
      have : k - off = (k - off - 1) + 1 := by omega
      rw [this]
      simp
      congr 1
      omega
theorem run_storeVar_at (w : World) (g off : Nat) (t ty : TypeId) (old : Array Value) (v : Value) (hg : w.heap[g]? = some (.cells old t (0, 0))) (hi : (P.info? ty).map (·.size) = some v.cells.size)
    (ho : off + v.cells.size ≤ old.size) (h1 : v.cells.all (·.oneCell') = true) :
    (storeVar ty ⟨g, off, none⟩ v).run P w = .ok () (w.setRow g (splice old off v.cells)) := by
  have := run_storeCells_at P g off t v.cells.toList 0 old w hg (by simpa using ho) (fun x hx => (Array.all_eq_true_iff_forall_mem.1 h1) x (by simpa using hx))
  cases hq : P.info? ty with
  | none => simp [hq] at hi
  | some i =>
    have hs : v.cells.size = i.size := by simp [hq] at hi; omega
    simp [storeVar, sizeOf, typeInfo, hq, hs]
    simpa [splice, hs] using this
section
variable {ops : Array Oper} {rest : List Oper} {o : Oper} {a : Act} {w : World} {Q : Exit → Act → World → Prop}
theorem gro_alloc (w : World) (x : Obj) : Gro w (w.alloc x) := (Gro.refl w).alloc x
theorem wpList_box (hgd : o.guard = none) (ty : TypeId) (x : Operand) (ho : o.op = .box ty x) (v : Value) (hx : a.eval x = v)
    (h : ∀ w' g, Gro w w' → w.heap.size = g → w'.heap[g]? = some (.cells v.cells ty (0, 0)) → wpList P ops Q rest (a.put o.dst (.pointer (some ⟨g, 0, none⟩))) w') : wpList P ops Q (o :: rest) a w :=
  wpList_plain hgd fun _ hK => by
    have := hK _ _ (h (w.alloc (.cells v.cells ty)) _ (gro_alloc _ _) rfl (heap_alloc_new _ _))
    have he : (execOp a.eval o).run P w = .ok (.value (.pointer (some ⟨w.heap.size, 0, none⟩))) (w.alloc (.cells v.cells ty)) := by
      unfold execOp
      simp only [ho, hx, Instr.box, newVar, newRow]
      generalize v.cells = cs
      simp [go_sem]
    unfold Oper.wp
    rw [he]
    exact this
theorem run_alloc_op (ty : TypeId) (ho : o.op = .alloc ty) (v : Value) (hz : ∀ w, (zeroValue ty).run P w = .ok v w) :
    (execOp a.eval o).run P w = .ok (.value (.pointer (some ⟨w.heap.size, 0, none⟩))) (w.alloc (.cells v.cells ty)) := by
  unfold execOp
  simp only [ho, Instr.alloc, newVar, newRow, Sem.run_bind, hz, Result.andThen_ok]
  generalize v.cells = cs
  simp [go_sem]
theorem wpList_alloc (hgd : o.guard = none) (ty : TypeId) (ho : o.op = .alloc ty) (v : Value) (hz : ∀ w, (zeroValue ty).run P w = .ok v w)
    (h : ∀ w' g, Gro w w' → w.heap.size = g → w'.heap[g]? = some (.cells v.cells ty (0, 0)) → wpList P ops Q rest (a.put o.dst (.pointer (some ⟨g, 0, none⟩))) w') : wpList P ops Q (o :: rest) a w :=
  wpList_plain hgd fun _ hK => by
    have := hK _ _ (h (w.alloc (.cells v.cells ty)) _ (gro_alloc _ _) rfl (heap_alloc_new _ _))
    unfold Oper.wp
    rw [run_alloc_op ty ho v hz]
    exact this
theorem wpList_load_at (hgd : o.guard = none) (ty : TypeId) (x : Operand) (ho : o.op = .load ty x)
    (g off n : Nat) (hx : a.eval x = .pointer (some ⟨g, off, none⟩)) (t : TypeId) (cs : Array Value) (fr : Nat × Nat) (d : TypeDesc) (hg : w.heap[g]? = some (.cells cs t fr))
    (hu : P.underlying ty = some d) (hd : (match d with | .struct _ | .array _ _ => true | _ => false) = true) (hi : (P.info? ty).map (·.size) = some n) (hle : off + n ≤ cs.size) (vs : Array Value) (hv : cs.extract off (off + n) = vs)
    (h : wpList P ops Q rest (a.put o.dst (.agg vs)) w) : wpList P ops Q (o :: rest) a w :=
  wpList_plain hgd fun _ hK => by
    have := hK _ _ h
    subst hv
    unfold Oper.wp execOp
    simp only [ho, hx, Instr.loadAt, Instr.sureAddr, Sem.run_bind, Sem.run_pure, Result.andThen_ok, run_loadVar_at w g off n t ty cs fr d hg hu hd hi hle]
    exact this
theorem wpList_store_at (hgd : o.guard = none) (hdst : o.dst = none) (ty : TypeId) (x y : Operand) (ho : o.op = .store ty x y)
    (g off : Nat) (hx : a.eval x = .pointer (some ⟨g, off, none⟩)) (v : Value) (hy : a.eval y = v) (t : TypeId) (old : Array Value) (hg : w.heap[g]? = some (.cells old t (0, 0)))
    (hi : (P.info? ty).map (·.size) = some v.cells.size) (hle : off + v.cells.size ≤ old.size) (h1 : v.cells.all (·.oneCell') = true) (new : Array Value) (hn : splice old off v.cells = new)
    (h : ∀ w', Stored w w' g (.cells new t (0, 0)) → wpList P ops Q rest a w') : wpList P ops Q (o :: rest) a w :=
  wpList_plain hgd fun _ hK => by
    have := hK _ _ (h _ (stored_setRow _ hg))
    subst hn
    unfold Oper.wp execOp
    simp only [ho, hx, hy, Instr.storeAt, Instr.sureAddr, Sem.run_bind, Sem.run_pure, Result.andThen_ok, run_storeVar_at w g off t ty old v hg hi hle h1]
    rw [Oper.upon_skip, hdst]
    exact this
end
section
variable {ops : Array Oper} {rest : List Oper} {o : Oper} {a : Act} {w : World} {Q : Exit → Act → World → Prop}
theorem wpList_box_agg (hgd : o.guard = none) (ty : TypeId) (x : Operand) (ho : o.op = .box ty x) (cs : Array Value) (hx : a.eval x = .agg cs)
    (h : ∀ w' g, Gro w w' → w.heap.size = g → w'.heap[g]? = some (.cells cs ty (0, 0)) → wpList P ops Q rest (a.put o.dst (.pointer (some ⟨g, 0, none⟩))) w') : wpList P ops Q (o :: rest) a w :=
  wpList_box hgd ty x ho _ hx h
theorem wpList_alloc_agg (hgd : o.guard = none) (ty : TypeId) (ho : o.op = .alloc ty) (cs : Array Value) (hz : ∀ w, (zeroValue ty).run P w = .ok (.agg cs) w)
    (h : ∀ w' g, Gro w w' → w.heap.size = g → w'.heap[g]? = some (.cells cs ty (0, 0)) → wpList P ops Q rest (a.put o.dst (.pointer (some ⟨g, 0, none⟩))) w') : wpList P ops Q (o :: rest) a w :=
  wpList_alloc hgd ty ho _ hz h
theorem drewN_below (B : Nat) (w : World) (n : Nat) : Below B w (w.drewN n) := by
  induction n with
  | zero => exact Below.refl _ _
  | succ n ih => exact ih.drew
/-- The same, the slot named. -/
theorem wpList_box_d (dst : Nat) (hd : o.dst = some dst) (hgd : o.guard = none) (ty : TypeId) (x : Operand) (ho : o.op = .box ty x) (cs : Array Value) (hx : a.eval x = .agg cs)
    (h : ∀ w' g, Gro w w' → w.heap.size = g → w'.heap[g]? = some (.cells cs ty (0, 0)) → wpList P ops Q rest (a.put (some dst) (.pointer (some ⟨g, 0, none⟩))) w') : wpList P ops Q (o :: rest) a w :=
  wpList_box_agg hgd ty x ho cs hx (by rw [hd]; exact h)
theorem wpList_alloc_d (dst : Nat) (hd : o.dst = some dst) (hgd : o.guard = none) (ty : TypeId) (ho : o.op = .alloc ty) (cs : Array Value) (hz : ∀ w, (zeroValue ty).run P w = .ok (.agg cs) w)
    (h : ∀ w' g, Gro w w' → w.heap.size = g → w'.heap[g]? = some (.cells cs ty (0, 0)) → wpList P ops Q rest (a.put (some dst) (.pointer (some ⟨g, 0, none⟩))) w') : wpList P ops Q (o :: rest) a w :=
  wpList_alloc_agg hgd ty ho cs hz (by rw [hd]; exact h)
theorem size_base {w cur : World} {g : Nat} (h : Gro w cur) (e : cur.heap.size = g) : w.heap.size ≤ g := e ▸ h.size
theorem lt_new {cur : World} {g i : Nat} {x : Obj} (k : cur.heap[i]? = some x) (e : cur.heap.size = g) : i < g := e ▸ lt_of_heap k
theorem Gro.store {w cur cur' : World} {g : Nat} {x : Obj} (h : Gro w cur) (s : Stored cur cur' g x) (b : w.heap.size ≤ g) : Gro w cur' := Below.trans h (s.below b)
/-- A guard: the goal is a list of operations that is not at its end. -/
theorem wpList_at (h : wpList P ops Q (o :: rest) a w) : wpList P ops Q (o :: rest) a w := h
/-- Whatever operation yields a value and leaves the world alone, the slot named. -/
theorem wpList_value_d (dst : Nat) (hd : o.dst = some dst) (hgd : o.guard = none) (v : Value) (he : (execOp a.eval o).run P w = .ok (.value v) w)
    (h : wpList P ops Q rest (a.put (some dst) v) w) : wpList P ops Q (o :: rest) a w :=
  wpList_plain hgd fun _ hK => by
    unfold Oper.wp
    rw [he, Oper.upon_value, hd]
    exact hK _ _ h
/-- A whole array into a block. -/
theorem wpList_store_agg (hgd : o.guard = none) (hdst : o.dst = none) (ty : TypeId) (x y : Operand) (ho : o.op = .store ty x y)
    (g : Nat) (hx : a.eval x = .pointer (some ⟨g, 0, none⟩)) (cs : Array Value) (hy : a.eval y = .agg cs) (t : TypeId) (old : Array Value) (hg : w.heap[g]? = some (.cells old t (0, 0)))
    (hi : (P.info? ty).map (·.size) = some cs.size) (hle : old.size = cs.size) (h1 : cs.all (·.oneCell') = true)
    (h : ∀ w', Stored w w' g (.cells cs t (0, 0)) → wpList P ops Q rest a w') : wpList P ops Q (o :: rest) a w :=
  wpList_store_at hgd hdst ty x y ho g 0 hx (.agg cs) hy t old hg hi (by show 0 + cs.size ≤ _; omega) h1 cs (splice_whole old cs hle) h
/-- One cell of a block. -/
theorem wpList_store_cell (hgd : o.guard = none) (hdst : o.dst = none) (ty : TypeId) (x y : Operand) (ho : o.op = .store ty x y)
    (g off : Nat) (hx : a.eval x = .pointer (some ⟨g, off, none⟩)) (k : IntKind) (n : Int) (hy : a.eval y = .int k n) (t : TypeId) (old : Array Value) (hg : w.heap[g]? = some (.cells old t (0, 0)))
    (hi : (P.info? ty).map (·.size) = some 1) (hle : off < old.size) (new : Array Value) (hn : old.setIfInBounds off (.int k n) = new)
    (h : ∀ w', Stored w w' g (.cells new t (0, 0)) → wpList P ops Q rest a w') : wpList P ops Q (o :: rest) a w :=
  wpList_store_at hgd hdst ty x y ho g off hx (.int k n) hy t old hg hi (by show off + 1 ≤ _; omega) (by simp [Value.cells, Value.oneCell']) new (by rw [← hn]; exact splice_one old off _ hle) h
end
/-! ### Operations of a region in whatever order -/
section
variable {ops : Array Oper} {o : Oper} {A : Act} {w : World}
theorem run_call (c : Call) (f : FuncId) (hen : ∀ args w, (callFunc f args).run P w = .ok (.enter f args) w) (ho : o.op = .call c) (hc : c.callee = .value (.func f)) :
    (execOp A.eval o).run P w = .ok (.enter f (c.args.map A.eval)) w := by
  unfold execOp
  simp [ho, resolve, hc, go_sem, hen]
theorem wanted_none (h : o.guard = none) (y : Nat → Option Bool) : Region.wanted o y = true := by simp [Region.wanted, h]
theorem ok_load (hgd : o.guard = none) (ty : TypeId) (x : Operand) (ho : o.op = .load ty x)
    (g off n : Nat) (hx : A.eval x = .pointer (some ⟨g, off, none⟩)) (t : TypeId) (cs : Array Value) (fr : Nat × Nat) (d : TypeDesc) (hg : w.heap[g]? = some (.cells cs t fr))
    (hu : P.underlying ty = some d) (hd : (match d with | .struct _ | .array _ _ => true | _ => false) = true) (hi : (P.info? ty).map (·.size) = some n) (hle : off + n ≤ cs.size) (vs : Array Value) (hv : cs.extract off (off + n) = vs) :
    OpOK P ops (.val (.agg vs)) o A w := by
  constructor
  rw [if_pos (wanted_none hgd _)]
  subst hv
  unfold execOp
  simp only [ho, hx, Instr.loadAt, Instr.sureAddr, Sem.run_bind, Sem.run_pure, Result.andThen_ok, run_loadVar_at w g off n t ty cs fr d hg hu hd hi hle]
  exact ⟨Gro.refl _, rfl⟩
theorem ok_call (hgd : o.guard = none) (c : Call) (f : FuncId) (hen : ∀ args w, (callFunc f args).run P w = .ok (.enter f args) w) (ho : o.op = .call c) (hc : c.callee = .value (.func f)) (xs : List Operand) (hxs : c.args = xs.toArray) (vs : List Value) (hvs : xs.map A.eval = vs) (v : Value)
    (H : Calls P f vs.toArray w fun e w' => e = .returned v ∧ Gro w w') : OpOK P ops (.val v) o A w := by
  constructor
  rw [if_pos (wanted_none hgd _), run_call c f hen ho hc, hxs, List.map_toArray, hvs]
  exact H.mono fun e w' ⟨he, hg⟩ => ⟨v, he, hg, rfl⟩
theorem ok_alloc (hgd : o.guard = none) (ty : TypeId) (ho : o.op = .alloc ty) (v : Value) (hz : ∀ w, (zeroValue ty).run P w = .ok v w) : OpOK P ops (.new ty v.cells) o A w := by
  constructor
  rw [if_pos (wanted_none hgd _)]
  rw [run_alloc_op ty ho v hz]
  exact ⟨gro_alloc _ _, _, rfl, heap_alloc_new _ _, Nat.le_refl _⟩
end
/-! ### Operations that are quiet in a class of worlds -/
section
variable {o : Oper} {a : Act} {C : World → Prop} {K : Act → Prop}
theorem quiet_load (ty : TypeId) (x : Operand) (ho : o.op = .load ty x)
    (g off n : Nat) (hx : a.eval x = .pointer (some ⟨g, off, none⟩)) (t : TypeId) (cs : Array Value) (fr : Nat × Nat) (d : TypeDesc) (hg : ∀ w, C w → w.heap[g]? = some (.cells cs t fr))
    (hu : P.underlying ty = some d) (hd : (match d with | .struct _ | .array _ _ => true | _ => false) = true) (hi : (P.info? ty).map (·.size) = some n) (hle : off + n ≤ cs.size) (vs : Array Value) (hv : cs.extract off (off + n) = vs)
    (h : K (a.put o.dst (.agg vs))) : o.quiet P a C K :=
  ⟨_, fun w hw => by
    subst hv
    unfold Oper.quietAt execOp
    simp only [ho, hx, Instr.loadAt, Instr.sureAddr, Sem.run_bind, Sem.run_pure, Result.andThen_ok, run_loadVar_at w g off n t ty cs fr d (hg w hw) hu hd hi hle]
    exact ⟨rfl, rfl⟩, h⟩
theorem quiet_call (c : Call) (f : FuncId) (hen : ∀ args w, (callFunc f args).run P w = .ok (.enter f args) w) (ho : o.op = .call c) (hc : c.callee = .value (.func f)) (xs : List Operand) (hxs : c.args = xs.toArray) (vs : List Value) (hvs : xs.map a.eval = vs) (v : Value)
    (H : ∀ w, C w → Calls P f vs.toArray w fun e w' => e = .returned v ∧ C w') (h : K (a.put o.dst v)) : o.quiet P a C K :=
  ⟨v, fun w hw => by
    unfold Oper.quietAt
    rw [run_call c f hen ho hc, hxs, List.map_toArray, hvs]
    exact ⟨rfl, H w hw⟩, h⟩
theorem quiet_value (v : Value) (he : ∀ w, (execOp a.eval o).run P w = .ok (.value v) w) (h : K (a.put o.dst v)) : o.quiet P a C K :=
  ⟨v, fun w hw => by unfold Oper.quietAt; rw [he]; exact ⟨rfl, rfl⟩, h⟩
end
section
variable {ops : Array Oper} {o : Oper} {rest : List Oper} {a : Act} {C : World → Prop} {Q : Act → Prop}
theorem wq_call (hw : Region.wanted o (yielded ops a.tmps) = true) (c : Call) (f : FuncId) (hen : ∀ args w, (callFunc f args).run P w = .ok (.enter f args) w) (ho : o.op = .call c) (hc : c.callee = .value (.func f)) (xs : List Operand) (hxs : c.args = xs.toArray) (vs : List Value) (hvs : xs.map a.eval = vs) (v : Value)
    (H : ∀ w, C w → Calls P f vs.toArray w fun e w' => e = .returned v ∧ C w') (h : wpQuiet P ops C Q rest (a.put o.dst v)) : wpQuiet P ops C Q (o :: rest) a :=
  BigFrame.wpQuiet_want hw fun _ hK => quiet_call c f hen ho hc xs hxs vs hvs v H (hK _ h)
theorem wq_value (hw : Region.wanted o (yielded ops a.tmps) = true) (v : Value) (he : ∀ w, (execOp a.eval o).run P w = .ok (.value v) w) (h : wpQuiet P ops C Q rest (a.put o.dst v)) : wpQuiet P ops C Q (o :: rest) a :=
  BigFrame.wpQuiet_want hw fun _ hK => quiet_value v he (hK _ h)
theorem wq_load (hw : Region.wanted o (yielded ops a.tmps) = true) (ty : TypeId) (x : Operand) (ho : o.op = .load ty x)
    (g off n : Nat) (hx : a.eval x = .pointer (some ⟨g, off, none⟩)) (t : TypeId) (cs : Array Value) (fr : Nat × Nat) (d : TypeDesc) (hg : ∀ w, C w → w.heap[g]? = some (.cells cs t fr))
    (hu : P.underlying ty = some d) (hd : (match d with | .struct _ | .array _ _ => true | _ => false) = true) (hi : (P.info? ty).map (·.size) = some n) (hle : off + n ≤ cs.size) (vs : Array Value) (hv : cs.extract off (off + n) = vs)
    (h : wpQuiet P ops C Q rest (a.put o.dst (.agg vs))) : wpQuiet P ops C Q (o :: rest) a :=
  BigFrame.wpQuiet_want hw fun _ hK => quiet_load ty x ho g off n hx t cs fr d hg hu hd hi hle vs hv (hK _ h)
end
theorem run_lss_op {o : Oper} {A : Act} (t : TypeId) (x y : Operand) (t2 : TypeId) (ho : o.op = .binOp .lss t x y t2) (k : IntKind) (n m : Int) (hx : A.eval x = .int k n) (hy : A.eval y = .int k m) (w : World) :
    (execOp A.eval o).run P w = .ok (.value (.bool (decide (n < m)))) w := by
  unfold execOp
  simp only [ho, hx, hy]
  simp [go_sem]
theorem wq_lss {ops : Array Oper} {o : Oper} {rest : List Oper} {a : Act} {C : World → Prop} {Q : Act → Prop} (hw : Region.wanted o (yielded ops a.tmps) = true) (t : TypeId) (x y : Operand) (t2 : TypeId) (ho : o.op = .binOp .lss t x y t2) (k : IntKind) (n m : Int) (hx : a.eval x = .int k n) (hy : a.eval y = .int k m)
    (h : wpQuiet P ops C Q rest (a.put o.dst (.bool (decide (n < m))))) : wpQuiet P ops C Q (o :: rest) a :=
  wq_value hw _ (run_lss_op t x y t2 ho k n m hx hy) h
theorem wq_lss_p {ops : Array Oper} {o : Oper} {rest : List Oper} {a : Act} {C : World → Prop} {Q : Act → Prop} (hw : Region.wanted o (yielded ops a.tmps) = true) (t : TypeId) (x y : Operand) (t2 : TypeId) (ho : o.op = .binOp .lss t x y t2) (k : IntKind) (n m : Int) (hx : a.eval x = .int k n) (hy : a.eval y = .int k m) (p : Bool) (hp : decide (n < m) = p)
    (h : wpQuiet P ops C Q rest (a.put o.dst (.bool p))) : wpQuiet P ops C Q (o :: rest) a :=
  wq_value hw _ (fun w => by rw [run_lss_op t x y t2 ho k n m hx hy w, hp]) h
/-- A region in whatever order all of whose operations are quiet while the world only grows. -/
theorem wp_region_gro {id : Nat} {Q : Exit → Act → World → Prop} {a : Act} {w : World} {l : List Oper} (hm : P.follows .mixedOrders = true) (hB : Region.lexB .any l.toArray = true)
    (h : wpQuiet P l.toArray (fun w' => Gro w w') (fun a' => ∀ w', Gro w w' → Q .normal a' w') l a) : (Code.region id l.toArray true).wp P Q a w :=
  wp_region_quiet (C := fun w' => Gro w w') hm hB (Gro.refl w).drew (by simpa using h)
theorem Calls.gro {f : FuncId} {args : Array Value} {w0 w : World} {v : Value} (hw : Gro w0 w) (h : Calls P f args w fun e w' => e = .returned v ∧ Gro w w') : Calls P f args w fun e w' => e = .returned v ∧ Gro w0 w' :=
  h.mono fun _ _ ⟨he, hg⟩ => ⟨he, hw.trans hg⟩
end
end Go.Proofs.Ytjahegiopigblaa
