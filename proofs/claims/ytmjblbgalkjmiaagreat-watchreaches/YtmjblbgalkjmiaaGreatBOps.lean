/- Laws over any program: operations that make, read and write memory, told by blocks of cells; the worlds are variables. -/
import Derived.Test.YtmjblbgalkjmiaaGreatBLaw
import Derived.Laws.CopyRow
import Derived.Deep.Light
namespace Go.Proofs.YtmjblbgalkjmiaaGreat
open Go.RowKit
section
variable {P : Program}
/-- One block has been written; all else is as it was. -/
structure Stored (w w' : World) (g : Nat) (o : Obj) : Prop where
  os : w'.os = w.os
  tape : w'.tape = w.tape
  output : w'.output = w.output
  size : w'.heap.size = w.heap.size
  new : w'.heap[g]? = some o
  old : ∀ k, k ≠ g → w'.heap[k]? = w.heap[k]?
theorem Stored.has {w w' : World} {g k : Nat} {o x : Obj} (h : Stored w w' g o) (hk : k ≠ g) (hx : w.heap[k]? = some x) : w'.heap[k]? = some x := by rw [h.old k hk]; exact hx
theorem Stored.below {w w' : World} {g B : Nat} {o : Obj} (h : Stored w w' g o) (hB : B ≤ g) : Below B w w' :=
  ⟨h.os, h.tape, h.output, Nat.le_of_eq h.size.symm, fun k hk => h.old k (by omega)⟩
theorem stored_setRow {w : World} {g : Nat} {old : Array Value} {t : TypeId} {fr : Nat × Nat} (cs : Array Value) (hg : w.heap[g]? = some (.cells old t fr)) : Stored w (w.setRow g cs) g (.cells cs t fr) :=
  ⟨rfl, rfl, rfl, by simp [World.setRow], setRow_heap w g old cs t fr hg, fun k hk => by simp only [World.setRow, Array.getElem?_modify]; rw [if_neg (Ne.symm hk)]⟩
/-- A part of a block, read. -/
theorem run_loadVar_at (w : World) (g off n : Nat) (t ty : TypeId) (cs : Array Value) (fr : Nat × Nat) (d : TypeDesc) (hg : w.heap[g]? = some (.cells cs t fr))
    (hu : P.underlying ty = some d) (hd : (match d with | .struct _ | .array _ _ => true | _ => false) = true) (hi : (P.info? ty).map (·.size) = some n) (hle : off + n ≤ cs.size) :
    (loadVar ty ⟨g, off, none⟩).run P w = .ok (.agg (cs.extract off (off + n))) w := by
  have hlen : (cs.extract off (off + n)).toList.length = n := by simp; omega
  have hl : (loadCells ⟨g, off, none⟩ n).run P w = .ok (cs.extract off (off + n)) w := by
    have := run_loadCells_list (P := P) w ⟨g, off, none⟩ (cs.extract off (off + n)).toList (fun j v hv => by
      have hadd : (⟨g, off, none⟩ : Addr).add j = ⟨g, off + j, none⟩ := by unfold Addr.add; split <;> simp_all
      rw [hadd, cell_of_row w g _ cs t fr hg]
      simp only [Array.getElem?_toList, Array.getElem?_extract] at hv
      split at hv
      · exact hv
      · cases hv)
    rw [hlen, Array.toArray_toList] at this
    exact this
  cases hq : P.info? ty with
  | none => simp [hq] at hi
  | some i =>
    have hs : i.size = n := by simpa [hq] using hi
    have hagg : (isAgg ty).run P w = .ok true w := by
      unfold isAgg
      rw [Sem.run_bind, run_underlying hu w]
      cases d <;> simp_all
    simp [loadVar, Sem.run_bind, hagg, sizeOf, typeInfo, hq, hs, hl]
/-- A block with some of its cells written. -/
def splice (cs : Array Value) (off : Nat) (vs : Array Value) : Array Value := (cs.toList.take off ++ vs.toList ++ cs.toList.drop (off + vs.size)).toArray
theorem splice_size (cs : Array Value) (off : Nat) (vs : Array Value) (h : off + vs.size ≤ cs.size) : (splice cs off vs).size = cs.size := by
  simp [splice]; omega
theorem splice_whole (cs vs : Array Value) (h : cs.size = vs.size) : splice cs 0 vs = vs := by
  have : cs.toList.drop vs.size = [] := List.drop_of_length_le (by simp; omega)
  simp [splice, this]
theorem splice_one (cs : Array Value) (off : Nat) (v : Value) (h : off < cs.size) : splice cs off #[v] = cs.setIfInBounds off v := by
  apply Array.ext_getElem?
  intro k
  simp only [splice, List.getElem?_toArray, Array.getElem?_setIfInBounds]
  rw [List.append_assoc, List.getElem?_append]
  simp only [List.length_take, Array.length_toList]
  have hm : min off cs.size = off := by omega
  rw [hm]
  by_cases h1 : k < off
  · rw [if_pos h1, if_neg (by omega)]
    simp [h1]
  · rw [if_neg h1]
    by_cases h2 : off = k
    · subst h2
      simp [h]
    · rw [if_neg h2]
      have : k - off = (k - off - 1) + 1 := by omega
      rw [this]
      simp
      congr 1
      omega
theorem run_storeVar_at (w : World) (g off : Nat) (t ty : TypeId) (old : Array Value) (v : Value) (hg : w.heap[g]? = some (.cells old t (0, 0))) (hi : (P.info? ty).map (·.size) = some v.cells.size)
    (ho : off + v.cells.size ≤ old.size) (h1 : v.cells.all (·.oneCell') = true) :
    (storeVar ty ⟨g, off, none⟩ v).run P w = .ok () (w.setRow g (splice old off v.cells)) := by
  have := run_storeCells_at P g off t v.cells.toList 0 old w hg (by simpa using ho) (fun x hx => (Array.all_eq_true_iff_forall_mem.1 h1) x (by simpa using hx))
  cases hq : P.info? ty with
  | none => simp [hq] at hi
  | some i =>
    have hs : v.cells.size = i.size := by simp [hq] at hi; omega
    simp [storeVar, sizeOf, typeInfo, hq, hs]
    simpa [splice, hs] using this
section
variable {ops : Array Oper} {rest : List Oper} {o : Oper} {a : Act} {w : World} {Q : Exit → Act → World → Prop}
theorem gro_alloc (w : World) (x : Obj) : Gro w (w.alloc x) := (Gro.refl w).alloc x
theorem wpList_box (hgd : o.guard = none) (ty : TypeId) (x : Operand) (ho : o.op = .box ty x) (v : Value) (hx : a.eval x = v)
    (h : ∀ w' g, Gro w w' → w.heap.size = g → w'.heap[g]? = some (.cells v.cells ty (0, 0)) → wpList P ops Q rest (a.put o.dst (.pointer (some ⟨g, 0, none⟩))) w') : wpList P ops Q (o :: rest) a w :=
  wpList_plain hgd fun _ hK => by
    have := hK _ _ (h (w.alloc (.cells v.cells ty)) _ (gro_alloc _ _) rfl (heap_alloc_new _ _))
    have he : (execOp a.eval o).run P w = .ok (.value (.pointer (some ⟨w.heap.size, 0, none⟩))) (w.alloc (.cells v.cells ty)) := by
      unfold execOp
      simp only [ho, hx, Instr.box, newVar, newRow]
      generalize v.cells = cs
      simp [go_sem]
    unfold Oper.wp
    rw [he]
    exact this
theorem run_alloc_op (ty : TypeId) (ho : o.op = .alloc ty) (v : Value) (hz : ∀ w, (zeroValue ty).run P w = .ok v w) :
    (execOp a.eval o).run P w = .ok (.value (.pointer (some ⟨w.heap.size, 0, none⟩))) (w.alloc (.cells v.cells ty)) := by
  unfold execOp
  simp only [ho, Instr.alloc, newVar, newRow, Sem.run_bind, hz, Result.andThen_ok]
  generalize v.cells = cs
  simp [go_sem]
theorem wpList_alloc (hgd : o.guard = none) (ty : TypeId) (ho : o.op = .alloc ty) (v : Value) (hz : ∀ w, (zeroValue ty).run P w = .ok v w)
    (h : ∀ w' g, Gro w w' → w.heap.size = g → w'.heap[g]? = some (.cells v.cells ty (0, 0)) → wpList P ops Q rest (a.put o.dst (.pointer (some ⟨g, 0, none⟩))) w') : wpList P ops Q (o :: rest) a w :=
  wpList_plain hgd fun _ hK => by
    have := hK _ _ (h (w.alloc (.cells v.cells ty)) _ (gro_alloc _ _) rfl (heap_alloc_new _ _))
    unfold Oper.wp
    rw [run_alloc_op ty ho v hz]
    exact this
theorem wpList_store_at (hgd : o.guard = none) (hdst : o.dst = none) (ty : TypeId) (x y : Operand) (ho : o.op = .store ty x y)
    (g off : Nat) (hx : a.eval x = .pointer (some ⟨g, off, none⟩)) (v : Value) (hy : a.eval y = v) (t : TypeId) (old : Array Value) (hg : w.heap[g]? = some (.cells old t (0, 0)))
    (hi : (P.info? ty).map (·.size) = some v.cells.size) (hle : off + v.cells.size ≤ old.size) (h1 : v.cells.all (·.oneCell') = true) (new : Array Value) (hn : splice old off v.cells = new)
    (h : ∀ w', Stored w w' g (.cells new t (0, 0)) → wpList P ops Q rest a w') : wpList P ops Q (o :: rest) a w :=
  wpList_plain hgd fun _ hK => by
    have := hK _ _ (h _ (stored_setRow _ hg))
    subst hn
    unfold Oper.wp execOp
    simp only [ho, hx, hy, Instr.storeAt, Instr.sureAddr, Sem.run_bind, Sem.run_pure, Result.andThen_ok, run_storeVar_at w g off t ty old v hg hi hle h1]
    rw [Oper.upon_skip, hdst]
    exact this
end
section
variable {ops : Array Oper} {rest : List Oper} {o : Oper} {a : Act} {w : World} {Q : Exit → Act → World → Prop}
theorem size_base {w cur : World} {g : Nat} (h : Gro w cur) (e : cur.heap.size = g) : w.heap.size ≤ g := e ▸ h.size
theorem lt_new {cur : World} {g i : Nat} {x : Obj} (k : cur.heap[i]? = some x) (e : cur.heap.size = g) : i < g := e ▸ lt_of_heap k
theorem Gro.store {w cur cur' : World} {g : Nat} {x : Obj} (h : Gro w cur) (s : Stored cur cur' g x) (b : w.heap.size ≤ g) : Gro w cur' := Below.trans h (s.below b)
/-- Whatever operation yields a value and leaves the world alone, the slot named. -/
theorem wpList_value_d (dst : Nat) (hd : o.dst = some dst) (hgd : o.guard = none) (v : Value) (he : (execOp a.eval o).run P w = .ok (.value v) w)
    (h : wpList P ops Q rest (a.put (some dst) v) w) : wpList P ops Q (o :: rest) a w :=
  wpList_plain hgd fun _ hK => by
    unfold Oper.wp
    rw [he, Oper.upon_value, hd]
    exact hK _ _ h
end
/-! ### Operations of a region in whatever order -/
section
variable {ops : Array Oper} {o : Oper} {A : Act} {w : World}
theorem run_call (c : Call) (f : FuncId) (hen : ∀ args w, (callFunc f args).run P w = .ok (.enter f args) w) (ho : o.op = .call c) (hc : c.callee = .value (.func f)) :
    (execOp A.eval o).run P w = .ok (.enter f (c.args.map A.eval)) w := by
  unfold execOp
  simp [ho, resolve, hc, go_sem, hen]
end
/-! ### Operations that are quiet in a class of worlds -/
theorem Calls.gro {f : FuncId} {args : Array Value} {w0 w : World} {v : Value} (hw : Gro w0 w) (h : Calls P f args w fun e w' => e = .returned v ∧ Gro w w') : Calls P f args w fun e w' => e = .returned v ∧ Gro w0 w' :=
  h.mono fun _ _ ⟨he, hg⟩ => ⟨he, hw.trans hg⟩
end
end Go.Proofs.YtmjblbgalkjmiaaGreat
