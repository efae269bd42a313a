/- Rows of whatever elements in memory, over any program: read, cut, appended to; elements of many cells. -/
import Derived.Test.YtmjblbgalkjmiaaGreatBB1
namespace Go.Proofs.YtmjblbgalkjmiaaGreat
open Go.RowKit
section
variable {P : Program}
/-- A slice type t of elements of sz cells and b bytes each. -/
structure RowT (P : Program) (t e : TypeId) (sz b : Nat) (z : Value) : Prop where
  und : P.underlying t = some (.slice e)
  info : ∃ i, P.info? e = some i ∧ i.zero = some z ∧ i.size = sz ∧ i.bytes = b
  zs : z.cells.size = sz
  pos : 0 < sz
/-- A row of n elements in memory, as it is read: its cells. -/
structure XC (w : World) (sz : Nat) (ao : Option Addr) (cap n : Nat) (cs : List Value) : Prop where
  len : cs.length = n * sz
  fit : n ≤ cap
  bare : ao = none → cap = 0
  cell : ∀ ad, ao = some ad → ∀ j v, cs[j]? = some v → w.cell? (ad.add j) = some v
  one : ∀ v ∈ cs, v.oneCell' = true
section
variable {w w' : World} {sz : Nat} {ao : Option Addr} {cap n : Nat} {cs : List Value}
theorem XC.below (h : XC w sz ao cap n cs) {B : Nat} (G : Below B w w') (hb : ∀ ad, ao = some ad → 0 < cs.length → ad.block < B) : XC w' sz ao cap n cs :=
  ⟨h.len, h.fit, h.bare, fun ad ha j v hv => (World.cell?_of_block (G.block _ (by rw [add_block]; exact hb ad ha (by have := (List.getElem?_eq_some_iff.1 hv).1; omega)))).trans (h.cell ad ha j v hv), h.one⟩
theorem XC.lt (h : XC w sz ao cap n cs) : ∀ ad, ao = some ad → 0 < cs.length → ad.block < w.heap.size := fun ad ha h0 => by
  have := World.block_lt_of_cell? w _ (h.cell ad ha 0 cs[0] (List.getElem?_eq_getElem h0))
  rwa [add_block] at this
theorem XC.gro (h : XC w sz ao cap n cs) (G : Gro w w') : XC w' sz ao cap n cs := h.below G h.lt
theorem XC.nil (w : World) (sz : Nat) : XC w sz none 0 0 [] := ⟨by simp, Nat.le_refl _, fun _ => rfl, fun _ h => by (cases h), fun _ h => by (cases h)⟩
theorem XC.some (h : XC w sz ao cap n cs) (h0 : 0 < n) : ∃ ad, ao = .some ad := by
  cases hao : ao with
  | none => have := h.bare hao; have := h.fit; omega
  | some ad => exact ⟨ad, rfl⟩
theorem XC.drop (h : XC w sz ao cap n cs) (i : Nat) (hi : i ≤ n) : XC w sz (if cap = i then ao else ao.map (·.add (i * sz))) (cap - i) (n - i) (cs.drop (i * sz)) := by
  have hf := h.fit
  have hl := h.len
  refine ⟨by rw [List.length_drop, hl, Nat.sub_mul], by omega, fun hn => ?_, fun ad ha j v hv => ?_, fun x hx => h.one x (List.mem_of_mem_drop hx)⟩
  · split at hn
    · have := h.bare hn; omega
    · cases hao : ao with
      | none => have := h.bare hao; omega
      | some a => rw [hao] at hn; cases hn
  · have hj := (List.getElem?_eq_some_iff.1 hv).1
    rw [List.length_drop, hl] at hj
    have hne : cap ≠ i := fun e => by
      have : n = i := by omega
      rw [this] at hj
      omega
    rw [if_neg hne] at ha
    rw [List.getElem?_drop] at hv
    cases hao : ao with
    | none => rw [hao] at ha; cases ha
    | some a =>
      rw [hao] at ha
      cases ha
      rw [add_add]
      exact h.cell a hao _ v hv
theorem XC.take (h : XC w sz ao cap n cs) (i : Nat) (hi : i ≤ n) : XC w sz ao cap i (cs.take (i * sz)) := by
  have hf := h.fit
  have hl := h.len
  have hm : i * sz ≤ n * sz := Nat.mul_le_mul_right _ hi
  refine ⟨by rw [List.length_take, hl]; omega, by omega, h.bare, fun ad ha j v hv => ?_, fun x hx => h.one x (List.mem_of_mem_take hx)⟩
  rw [List.getElem?_take] at hv
  split at hv
  · exact h.cell ad ha j v hv
  · cases hv
/-- Of numbers: the same as 'NC'. -/
theorem NC.xc {k : IntKind} {l : List Nat} (h : NC w k ao cap l) : XC w 1 ao cap l.length (l.map fun r : Nat => Value.int k (r : Int)) :=
  ⟨by simp, h.fit, h.bare, fun ad ha j v hv => by
    rw [List.getElem?_map] at hv
    by_cases hj : j < l.length
    · rw [List.getElem?_eq_getElem hj] at hv
      have hc := h.cell ad ha j hj
      rw [List.getD_eq_getElem?_getD, List.getElem?_eq_getElem hj] at hc
      rw [hc]
      simpa using hv
    · rw [List.getElem?_eq_none (by omega)] at hv
      (cases hv), fun v hv => by (obtain ⟨r, _, rfl⟩ := List.mem_map.1 hv; rfl)⟩
end
/-- The call's own row. -/
structure OX (w : World) (e : TypeId) (sz B : Nat) (ao : Option Addr) (cap n : Nat) (cs : List Value) : Prop where
  own : w.ownsRow B e sz (.slice ao n cap) n cs
  one : ∀ v ∈ cs, v.oneCell' = true
section
variable {w w' : World} {e : TypeId} {sz B : Nat} {ao : Option Addr} {cap n : Nat} {cs : List Value}
theorem OX.nil (w : World) (e : TypeId) (sz B : Nat) : OX w e sz B none 0 0 [] := ⟨World.ownsRow_nil _ _ _ _, fun _ h => by (cases h)⟩
theorem OX.xc (h : OX w e sz B ao cap n cs) : XC w sz ao cap n cs := by
  have hl := h.own.1
  rcases h.own.2 with ⟨h1, h2⟩ | ⟨g, c, cur, h1, _, h2, h3, _, h4, h5⟩
  · injection h1 with e1 e2 e3
    subst e1 e3
    exact ⟨hl, by omega, fun _ => rfl, fun _ h => by (cases h), h.one⟩
  · injection h1 with e1 e2 e3
    subst e1 e3
    refine ⟨hl, h3, fun h => by (cases h), fun ad ha j v hv => ?_, h.one⟩
    cases ha
    rw [add_at, Nat.zero_add, cell_of_row w g j _ e _ h2]
    have hj := (List.getElem?_eq_some_iff.1 hv).1
    rw [← h5, List.getElem?_take, if_pos (by omega)] at hv
    simpa using hv
theorem OX.ge (h : OX w e sz B ao cap n cs) : ∀ ad, ao = some ad → B ≤ ad.block ∧ ad.block < w.heap.size := fun ad ha => by
  subst ha
  exact h.own.lt _ rfl
theorem OX.gro (h : OX w e sz B ao cap n cs) (G : Gro w w') : OX w' e sz B ao cap n cs :=
  ⟨h.own.kept (grown_of_below G) (by cases hv : (Value.slice ao n cap).ownBlock <;> simp), h.one⟩
theorem OX.mono (h : OX w e sz B ao cap n cs) {B' : Nat} (hB : B' ≤ B) : OX w e sz B' ao cap n cs := by
  refine ⟨⟨h.own.1, ?_⟩, h.one⟩
  rcases h.own.2 with h1 | ⟨g, c, cur, h1, h2, h3⟩
  · exact .inl h1
  · exact .inr ⟨g, c, cur, h1, by omega, h3⟩
theorem OX.made {g : Nat} {cur : Array Value} (hg : w.heap[g]? = some (.cells cur e (0, 0))) (hB : B ≤ g) (hn : n ≤ cap) (hm : cap ≤ maxLen) (hc : cur.size = cap * sz) (hl : cs.length = n * sz) (ht : cur.toList.take (n * sz) = cs) (h1 : ∀ v ∈ cs, v.oneCell' = true) : OX w e sz B (some ⟨g, 0, none⟩) cap n cs :=
  ⟨⟨hl, .inr ⟨g, cap, cur, rfl, hB, hg, hn, hm, hc, ht⟩⟩, h1⟩
end
section
variable {o : Oper} {A : Act} {t e : TypeId} {sz b : Nat} {z : Value}
theorem run_sizeX (T : RowT P t e sz b z) (w : World) : (sizeOf e).run P w = .ok sz w := by
  obtain ⟨i, hi, _, hs, _⟩ := T.info
  simp [sizeOf, typeInfo, hi, hs]
/-- An element's place. -/
theorem run_idxX (T : RowT P t e sz b z) (x y : Operand) (ho : o.op = .indexAddr t x y) (ad : Addr) (n cap j : Nat) (hx : A.eval x = .slice (some ad) n cap) (hy : A.eval y = .int .i64 (j : Int)) (hj : j < n) (w : World) :
    (execOp A.eval o).run P w = .ok (.value (.pointer (some (ad.add (j * sz))))) w := by
  have h : (Instr.indexAt t (.slice (some ad) n cap) (.int .i64 (j : Int))).run P w = .ok (.pointer (some (ad.add (j * sz)))) w := by
    simp only [Instr.indexAt, Sem.run_bind, run_underlying T.und, Result.andThen_ok]
    simp [asIntOf, hj, run_sizeX T]
  unfold execOp
  simp only [ho, hx, hy, Sem.run_bind, h, Result.andThen_ok, Sem.run_pure]
end
end
end Go.Proofs.YtmjblbgalkjmiaaGreat
