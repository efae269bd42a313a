/- Rows of one's own that may have been cut; pipes; a region in whatever order with one operation that changes some blocks. -/
import Derived.Test.YtjahegiopigblaaGQ0
import Derived.Test.YtjahegiopigblaaGLaw3
namespace Go.Proofs.Ytjahegiopigblaa
open Go.RowKit
section
variable {P : Program} {o : Oper} {A : Act} {t e : TypeId} {sz b : Nat} {z : Value}
theorem sliceAtX_run (T : RowT P t e sz b z) (v : Value) (x y z : Option Value) (w : World) : (Instr.sliceAt t v x y z).run P w = (Instr.slice t v x y z).run P w := by
  simp only [Instr.sliceAt, Sem.run_bind, run_underlying T.und, Result.andThen_ok]
theorem run_cutX (T : RowT P t e sz b z) (x y : Operand) (ho : o.op = .slice t x (some y) none none) (ao : Option Addr) (n cap i : Nat) (hx : A.eval x = .slice ao n cap) (hy : A.eval y = .int .i64 (i : Int)) (hi : i ≤ n) (w : World) :
    (execOp A.eval o).run P w = .ok (.value (.slice (if cap = i then ao else ao.map (·.add (i * sz))) (n - i) (cap - i))) w := by
  have h : (Instr.slice t (.slice ao n cap) (some (.int .i64 (i : Int))) none none).run P w = .ok (.slice (if cap = i then ao else ao.map (·.add (i * sz))) (n - i) (cap - i)) w := by
    simp only [Instr.slice, Sem.run_bind, run_underlying T.und, Result.andThen_ok, Instr.sliceBounds, Instr.sliceBound, asIntOf, Sem.run_pure, run_sizeX T]
    have h2 : (0 : Int) ≤ (i : Int) ∧ (i : Int) ≤ (n : Int) := by omega
    simp [h2]
  unfold execOp
  simp only [ho, hx, hy, Option.map_some, Option.map_none, Sem.run_bind, sliceAtX_run T, h, Result.andThen_ok, Sem.run_pure]
end
/-- A row of one's own, of which the first and the last cells may have been cut off. -/
structure OY (w : World) (e : TypeId) (sz B : Nat) (ao : Option Addr) (cap n : Nat) (cs : List Value) : Prop where
  len : cs.length = n * sz
  row : (ao = none ∧ cap = 0 ∧ n = 0) ∨ ∃ g d cur, ao = some ⟨g, d, none⟩ ∧ B ≤ g ∧ w.heap[g]? = some (.cells cur e (0, 0)) ∧ n ≤ cap ∧ cap ≤ maxLen ∧ d + cap * sz ≤ cur.size ∧ (cur.toList.drop d).take (n * sz) = cs
  one : ∀ v ∈ cs, v.oneCell' = true
section
variable {w w' : World} {e : TypeId} {sz B : Nat} {ao : Option Addr} {cap n : Nat} {cs : List Value}
theorem OY.nil (w : World) (e : TypeId) (sz B : Nat) : OY w e sz B none 0 0 [] := ⟨by simp, .inl ⟨rfl, rfl, rfl⟩, fun _ h => by cases h⟩
theorem OY.xc (h : OY w e sz B ao cap n cs) : XC w sz ao cap n cs := by
  rcases h.row with ⟨h1, h2, h3⟩ | ⟨g, d, cur, h1, _, h2, h3, _, h4, h5⟩
  · exact ⟨h.len, by omega, fun _ => h2, fun _ ha => by (rw [h1] at ha; cases ha), h.one⟩
  · refine ⟨h.len, h3, fun hn => by (rw [h1] at hn; cases hn), fun ad ha j v hv => ?_, h.one⟩
    rw [h1] at ha
    cases ha
    rw [add_at, cell_of_row w g (d + j) _ e _ h2]
    have hj := (List.getElem?_eq_some_iff.1 hv).1
    have hl := h.len
    rw [← h5, List.getElem?_take, if_pos (by omega), List.getElem?_drop] at hv
    simpa using hv
theorem OY.at (h : OY w e sz B ao cap n cs) : ∀ k ∈ blk ao, B ≤ k ∧ ∃ cur, w.heap[k]? = some (.cells cur e (0, 0)) := fun k hk => by
  obtain ⟨ad, rfl, rfl⟩ := mem_blk.1 hk
  rcases h.row with ⟨h1, _, _⟩ | ⟨g, d, cur, h1, h2, h3, _⟩
  · cases h1
  · cases h1
    exact ⟨h2, cur, h3⟩
theorem OY.lt (h : OY w e sz B ao cap n cs) : ∀ k ∈ blk ao, k < w.heap.size := fun k hk => by
  obtain ⟨_, cur, hc⟩ := h.at k hk
  exact lt_of_heap hc
theorem OY.base (h : OY w e sz B ao cap n cs) : ∀ k ∈ blk ao, B ≤ k := fun k hk => (h.at k hk).1
theorem OY.ne (h : OY w e sz B ao cap n cs) {k : Nat} {c : Array Value} {t : TypeId} (hk : w.heap[k]? = some (.cells c t (0, 0))) (ht : t ≠ e) : k ∉ blk ao := fun hm => by
  obtain ⟨_, cur, hc⟩ := h.at k hm
  exact ne_type hk hc ht rfl
theorem OY.gros {S : List Nat} (h : OY w e sz B ao cap n cs) (G : GroS S w w') (hs : ∀ k ∈ blk ao, k ∉ S) : OY w' e sz B ao cap n cs := by
  refine ⟨h.len, ?_, h.one⟩
  rcases h.row with h1 | ⟨g, d, cur, h1, h2, h3, h4⟩
  · exact .inl h1
  · exact .inr ⟨g, d, cur, h1, h2, G.has h3 (hs g (mem_blk.2 ⟨_, h1, rfl⟩)), h4⟩
theorem OY.gro (h : OY w e sz B ao cap n cs) (G : Gro w w') : OY w' e sz B ao cap n cs := h.gros (S := []) (.of G) (fun _ _ => by simp)
theorem OY.mono (h : OY w e sz B ao cap n cs) {B' : Nat} (hB : B' ≤ B) : OY w e sz B' ao cap n cs := by
  refine ⟨h.len, ?_, h.one⟩
  rcases h.row with h1 | ⟨g, d, cur, h1, h2, h3⟩
  · exact .inl h1
  · exact .inr ⟨g, d, cur, h1, by omega, h3⟩
/-- The first ones cut off. -/
theorem OY.drop (h : OY w e sz B ao cap n cs) (i : Nat) (hi : i ≤ n) : OY w e sz B (if cap = i then ao else ao.map (·.add (i * sz))) (cap - i) (n - i) (cs.drop (i * sz)) := by
  have hl := h.len
  refine ⟨by rw [List.length_drop, hl, Nat.sub_mul], ?_, fun v hv => h.one v (List.mem_of_mem_drop hv)⟩
  rcases h.row with ⟨h1, h2, h3⟩ | ⟨g, d, cur, h1, h2, h3, h4, h5, h6, h7⟩
  · refine .inl ⟨?_, by omega, by omega⟩
    rw [h1]
    split <;> rfl
  · have hs : (cap - i) * sz = cap * sz - i * sz := Nat.sub_mul _ _ _
    have hs2 : (n - i) * sz = n * sz - i * sz := Nat.sub_mul _ _ _
    have hm : i * sz ≤ n * sz := Nat.mul_le_mul_right _ hi
    have hm2 : n * sz ≤ cap * sz := Nat.mul_le_mul_right _ h4
    by_cases hc : cap = i
    · have hn : n = i := by omega
      refine .inr ⟨g, d, cur, by rw [if_pos hc]; exact h1, h2, h3, by omega, by omega, by omega, ?_⟩
      rw [hn, Nat.sub_self, Nat.zero_mul, List.take_zero, List.drop_of_length_le (by rw [hl, hn]; exact Nat.le_refl _)]
    · refine .inr ⟨g, d + i * sz, cur, ?_, h2, h3, by omega, by omega, by omega, ?_⟩
      · rw [if_neg hc, h1, Option.map_some, add_at]
      · rw [← h7, List.drop_take, hs2, List.drop_drop]
/-- A cell of it written. -/
theorem OY.set (h : OY w e sz B ao cap n cs) {j : Nat} (hj : j < n * sz) (v : Value) (hv : v.oneCell' = true) : ∃ g d cur, ao = some ⟨g, d, none⟩ ∧ B ≤ g ∧ w.heap[g]? = some (.cells cur e (0, 0)) ∧ d + j < cur.size ∧
    ∀ w', Stored w w' g (.cells (splice cur (d + j) #[v]) e (0, 0)) → OY w' e sz B ao cap n (cs.set j v) := by
  rcases h.row with ⟨_, _, h3⟩ | ⟨g, d, cur, h1, h2, h3, h4, h5, h6, h7⟩
  · rw [h3, Nat.zero_mul] at hj
    omega
  have hm2 : n * sz ≤ cap * sz := Nat.mul_le_mul_right _ h4
  have hlt : d + j < cur.size := by omega
  refine ⟨g, d, cur, h1, h2, h3, hlt, fun w' St => ⟨by rw [List.length_set]; exact h.len, .inr ⟨g, d, _, h1, h2, St.new, h4, h5, ?_, ?_⟩, fun x hx => ?_⟩⟩
  · have : (splice cur (d + j) #[v]).size = cur.size := by
      simp only [splice, List.size_toArray, List.length_append, List.length_take, List.length_drop, Array.length_toList, List.length_cons, List.length_nil]
      omega
    omega
  · have e1 : (splice cur (d + j) #[v]).toList = cur.toList.set (d + j) v := by
      rw [List.set_eq_take_append_cons_drop, if_pos (by simpa using hlt)]
      simp [splice]
    rw [e1, ← h7]
    apply List.ext_getElem?
    intro k
    simp only [List.getElem?_take, List.getElem?_drop, List.getElem?_set, List.length_take, List.length_drop, Array.length_toList]
    by_cases hk : k < n * sz
    · by_cases hkj : j = k
      · subst hkj
        simp [hk, hlt]
        omega
      · have : ¬ (d + j = d + k) := by omega
        simp [hk, hkj]
    · have : ¬ (j = k) := by omega
      simp [hk, this]
  · rcases List.mem_or_eq_of_mem_set hx with hx | rfl
    · exact h.one x hx
    · exact hv
end
/-! ### A region in whatever order, with one operation that changes some blocks -/
end Go.Proofs.Ytjahegiopigblaa
