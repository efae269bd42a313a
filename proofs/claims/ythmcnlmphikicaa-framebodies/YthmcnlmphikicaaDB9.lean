/- Wire: a text is read; the document's own reading of it. -/
import Derived.Test.YthmcnlmphikicaaDB7
namespace Go.Proofs.Ythmcnlmphikicaa
open Go.RowKit
section
variable {P : Program}
theorem wpList_copy {ops : Array Oper} {rest : List Oper} {o : Oper} {a : Act} {w : World} {Q : Exit → Act → World → Prop} {t e : TypeId} {k : IntKind} {b : Nat} (T : NumT P t e k b) (dst : Nat) (hd : o.dst = some dst) (hgd : o.guard = none) (x y : Operand) (ho : o.op = .call { callee := .builtin .copy, args := #[x, y], argTypes := #[t, t] })
    (g n dCap : Nat) (hx : a.eval x = .slice (some ⟨g, 0, none⟩) n dCap) {cs : Array Value} {e' : TypeId} (hg : w.heap[g]? = some (.cells cs e' (0, 0))) (hcs : cs.size = n) {ao' : Option Addr} {m cap' : Nat} {L l' : List Nat} (hy : a.eval y = .slice ao' m cap') (hm : L.length = m) (hsrc : NC w k ao' cap' L) (hln : n ≤ m) (hl : L.take n = l')
    (h : ∀ w', Stored w w' g (.cells (l'.map fun r : Nat => Value.int k (r : Int)).toArray e' (0, 0)) → wpList P ops Q rest (a.put (some dst) (.int .i64 (n : Int))) w') : wpList P ops Q (o :: rest) a w := by
  have hl' : l'.length = n := by rw [← hl, List.length_take]; omega
  have hmin : Nat.min m n = n := Nat.min_eq_right hln
  by_cases h0 : n = 0
  · refine wpList_copy_nothing hgd x y t t ho e T.und T.size1 _ _ _ _ _ _ hx hy (by rw [hmin]; exact h0) ?_
    rw [hd]
    have e1 : l' = [] := List.eq_nil_of_length_eq_zero (by omega)
    have e2 : cs = #[] := Array.eq_empty_of_size_eq_zero (by omega)
    have := h w ⟨rfl, rfl, rfl, rfl, by rw [e1]; rw [e2] at hg; exact hg, fun _ _ => rfl⟩
    rw [h0] at this
    exact this
  · obtain ⟨ad, rfl, _⟩ := hsrc.at (j := 0) (by omega)
    refine wpList_copy_own hgd x y t t ho e T.und T.size1 g 0 n dCap ad m cap' hx hy cs e' hg (l'.map fun r : Nat => Value.int k (r : Int)) (by rw [hmin]; simp; omega) (fun j v hv => ?_) (by simp; omega) (fun v hv => ?_) ?_
    · rw [List.getElem?_map] at hv
      by_cases hj : j < l'.length
      · rw [List.getElem?_eq_getElem hj] at hv
        have hc := hsrc.cell ad rfl j (by omega)
        rw [List.getD_eq_getElem?_getD] at hc
        have : L[j]? = l'[j]? := by rw [← hl, List.getElem?_take, if_pos (by omega)]
        rw [this, List.getElem?_eq_getElem hj] at hc
        rw [hc]
        simpa using hv
      · rw [List.getElem?_eq_none (by omega)] at hv
        cases hv
    · obtain ⟨r, _, rfl⟩ := List.mem_map.1 hv; rfl
    · rw [hd]
      have e1 : (cs.toList.take 0 ++ ((l'.map fun r : Nat => Value.int k (r : Int)) ++ cs.toList.drop (0 + (l'.map fun r : Nat => Value.int k (r : Int)).length))).toArray = (l'.map fun r : Nat => Value.int k (r : Int)).toArray := by
        have : cs.toList.drop (0 + (l'.map fun r : Nat => Value.int k (r : Int)).length) = [] := List.drop_of_length_le (by simp; omega)
        rw [this]
        simp
      rw [e1]
      have := h _ (stored_setRow _ hg)
      simp only [goInt, List.length_map, hl']
      exact this
variable {o : Oper} {A : Act}
theorem run_gtrU (t t2 : TypeId) (x y : Operand) (ho : o.op = .binOp .gtr t x y t2) (a b : Nat) (hx : A.eval x = .int .u64 (a : Int)) (hy : A.eval y = .int .u64 (b : Int)) (p : Bool) (hp : decide (b < a) = p) (w : World) : (execOp A.eval o).run P w = .ok (.value (.bool p)) w := by
  subst hp
  refine run_binop .gtr t x y t2 ho _ _ _ hx hy (by simp [eqGuard]) ?_
  simp [go_sem]
theorem run_neq_k (t : TypeId) (k : IntKind) (x y : Operand) (t2 : TypeId) (ho : o.op = .binOp .neq t x y t2) (_hu : P.underlying t = some (.int k)) (a b : Int) (hx : A.eval x = .int k a) (hy : A.eval y = .int k b) (p : Bool) (hp : decide (a = b) = !p) (w : World) : (execOp A.eval o).run P w = .ok (.value (.bool p)) w := by
  refine run_binop .neq t x y t2 ho _ _ _ hx hy (by simp [eqGuard, go_sem]) ?_
  simp only [binOp]
  have e : (a == b) = !p := by rw [← hp]; rfl
  simp [go_sem]
  rw [bne, e]
  simp
end
end Go.Proofs.Ythmcnlmphikicaa
