/- Rows of numbers in memory, over any program: read, cut, turned to text, appended to, compared. -/
import Derived.Test.YtmjblbgalkjmiaaGreatBOps
import Derived.Laws.AppendOwnNone
import Derived.Laws.BytesString
import Derived.Laws.CopyOwn
import Derived.Lib.BufferRead
namespace Go.Proofs.YtmjblbgalkjmiaaGreat
open Go.RowKit
section
variable {P : Program}
/-- A row of numbers in memory, as it is read. -/
structure NC (w : World) (k : IntKind) (ao : Option Addr) (cap : Nat) (l : List Nat) : Prop where
  fit : l.length ≤ cap
  bare : ao = none → cap = 0
  cell : ∀ ad, ao = some ad → ∀ j, j < l.length → w.cell? (ad.add j) = some (.int k (l.getD j 0 : Int))
  wf : ∀ x ∈ l, (x : Int) ≤ k.max
theorem add_add (a : Addr) (i j : Nat) : (a.add i).add j = a.add (i + j) := by
  unfold Addr.add
  by_cases hi : i = 0
  · subst hi; simp
  · by_cases hj : j = 0
    · subst hj; simp [hi]
    · have : i + j ≠ 0 := by omega
      simp only [hi, hj, this, if_false]
      simp
theorem add_zero (a : Addr) : a.add 0 = a := by simp [Addr.add]
theorem add_block (a : Addr) (j : Nat) : (a.add j).block = a.block := by unfold Addr.add; split <;> rfl
theorem add_at (g i j : Nat) : (⟨g, i, none⟩ : Addr).add j = ⟨g, i + j, none⟩ := by unfold Addr.add; split <;> simp_all
section
variable {w w' : World} {k : IntKind} {ao : Option Addr} {cap : Nat} {l : List Nat}
theorem NC.at (h : NC w k ao cap l) {j : Nat} (hj : j < l.length) : ∃ ad, ao = some ad ∧ w.cell? (ad.add j) = some (.int k (l.getD j 0 : Int)) := by
  cases hao : ao with
  | none => have := h.bare hao; have := h.fit; omega
  | some ad => exact ⟨ad, rfl, h.cell ad hao j hj⟩
theorem NC.below (h : NC w k ao cap l) {B : Nat} (G : Below B w w') (hb : ∀ ad, ao = some ad → 0 < l.length → ad.block < B) : NC w' k ao cap l :=
  ⟨h.fit, h.bare, fun ad ha j hj => (World.cell?_of_block (G.block _ (by rw [add_block]; exact hb ad ha (by omega)))).trans (h.cell ad ha j hj), h.wf⟩
theorem NC.lt (h : NC w k ao cap l) : ∀ ad, ao = some ad → 0 < l.length → ad.block < w.heap.size := fun ad ha h0 => by
  have := World.block_lt_of_cell? w _ (h.cell ad ha 0 h0)
  rwa [add_block] at this
theorem NC.gro (h : NC w k ao cap l) (G : Gro w w') : NC w' k ao cap l := h.below G h.lt
theorem NC.nil (w : World) (k : IntKind) : NC w k none 0 [] := ⟨Nat.le_refl _, fun _ => rfl, fun _ h => by (cases h), fun _ h => by (cases h)⟩
theorem NC.drop (h : NC w k ao cap l) (i : Nat) (hi : i ≤ l.length) : NC w k (if cap = i then ao else ao.map (·.add i)) (cap - i) (l.drop i) := by
  have hf := h.fit
  refine ⟨by rw [List.length_drop]; omega, fun hn => ?_, fun ad ha j hj => ?_, fun x hx => h.wf x (List.mem_of_mem_drop hx)⟩
  · split at hn
    · have := h.bare hn; omega
    · cases hao : ao with
      | none => have := h.bare hao; omega
      | some a => rw [hao] at hn; cases hn
  · rw [List.length_drop] at hj
    rw [if_neg (by omega)] at ha
    cases hao : ao with
    | none => rw [hao] at ha; cases ha
    | some a =>
      rw [hao] at ha
      cases ha
      rw [add_add, h.cell a hao (i + j) (by omega)]
      simp
theorem NC.take (h : NC w k ao cap l) (i : Nat) (hi : i ≤ l.length) : NC w k ao cap (l.take i) := by
  have hf := h.fit
  have hl : (l.take i).length = i := by rw [List.length_take]; omega
  refine ⟨by omega, h.bare, fun ad ha j hj => ?_, fun x hx => h.wf x (List.mem_of_mem_take hx)⟩
  rw [h.cell ad ha j (by omega), List.getD_eq_getElem?_getD, List.getD_eq_getElem?_getD, List.getElem?_take, if_pos (by omega)]
end
/-! ### Operations on rows -/
/-! ### Texts of bytes -/
theorem run_binop {o : Oper} {A : Act} {w : World} (op : BinOp) (t : TypeId) (x y : Operand) (t2 : TypeId) (ho : o.op = .binOp op t x y t2) (u v r : Value) (hx : A.eval x = u) (hy : A.eval y = v) (hg : (eqGuard op t x y u v).run P w = .ok () w) (h : (binOp op t u v).run P w = .ok r w) :
    (execOp A.eval o).run P w = .ok (.value r) w := by
  unfold execOp
  simp only [ho, hx, hy, Sem.run_bind, hg, h, Result.andThen_ok, Sem.run_pure]
/-! ### The call's own rows -/
structure OB (w : World) (e : TypeId) (k : IntKind) (B : Nat) (ao : Option Addr) (cap : Nat) (l : List Nat) : Prop where
  own : w.ownsRow B e 1 (.slice ao l.length cap) l.length (l.map fun r : Nat => Value.int k (r : Int))
  wf : ∀ x ∈ l, (x : Int) ≤ k.max
section
variable {w w' : World} {e : TypeId} {k : IntKind} {B : Nat} {ao : Option Addr} {cap : Nat} {l : List Nat}
theorem OB.nil (w : World) (e : TypeId) (k : IntKind) (B : Nat) : OB w e k B none 0 [] := ⟨World.ownsRow_nil _ _ _ _, fun _ h => by (cases h)⟩
theorem OB.nc (h : OB w e k B ao cap l) : NC w k ao cap l := by
  rcases h.own.2 with ⟨h1, h2⟩ | ⟨g, c, cur, h1, _, h2, h3, _, h4, h5⟩
  · injection h1 with e1 e2 e3
    subst e1 e3
    exact ⟨by omega, fun _ => rfl, fun _ h => by (cases h), h.wf⟩
  · injection h1 with e1 e2 e3
    subst e1 e3
    refine ⟨h3, fun h => by (cases h), fun ad ha j hj => ?_, h.wf⟩
    cases ha
    rw [add_at, Nat.zero_add, cell_of_row w g j _ e _ h2]
    have h6 : (l.map fun r : Nat => Value.int k (r : Int))[j]? = some (.int k (l.getD j 0 : Int)) := by
      rw [List.getElem?_map, List.getElem?_eq_getElem hj, List.getD_eq_getElem?_getD, List.getElem?_eq_getElem hj]
      rfl
    rw [← h5, List.getElem?_take, if_pos (by omega)] at h6
    simpa using h6
theorem OB.ge (h : OB w e k B ao cap l) : ∀ ad, ao = some ad → B ≤ ad.block ∧ ad.block < w.heap.size := fun ad ha => by
  subst ha
  exact h.own.lt _ rfl
theorem grown_of_below {w w' : World} (h : Below w.heap.size w w') : w.grownBy w' none := ⟨h.os, h.tape, h.output, h.size, fun k hk _ => h.block k hk⟩
theorem OB.gro (h : OB w e k B ao cap l) (G : Gro w w') : OB w' e k B ao cap l :=
  ⟨h.own.kept (grown_of_below G) (by cases hv : (Value.slice ao l.length cap).ownBlock <;> simp), h.wf⟩
theorem OB.mono (h : OB w e k B ao cap l) {B' : Nat} (hB : B' ≤ B) : OB w e k B' ao cap l := by
  refine ⟨⟨h.own.1, ?_⟩, h.wf⟩
  rcases h.own.2 with h1 | ⟨g, c, cur, h1, h2, h3⟩
  · exact .inl h1
  · exact .inr ⟨g, c, cur, h1, by omega, h3⟩
/-- A new row. -/
theorem OB.made {g : Nat} {cs : Array Value} (hg : w.heap[g]? = some (.cells cs e (0, 0))) (hB : B ≤ g) (hl : l.length ≤ cap) (hm : cap ≤ maxLen) (hc : cs.size = cap) (ht : cs.toList.take l.length = l.map fun r : Nat => Value.int k (r : Int)) (hw : ∀ x ∈ l, (x : Int) ≤ k.max) : OB w e k B (some ⟨g, 0, none⟩) cap l :=
  ⟨⟨by simp, .inr ⟨g, cap, cs, rfl, hB, hg, hl, hm, by omega, by rw [Nat.mul_one]; exact ht⟩⟩, hw⟩
end
end
end Go.Proofs.YtmjblbgalkjmiaaGreat
