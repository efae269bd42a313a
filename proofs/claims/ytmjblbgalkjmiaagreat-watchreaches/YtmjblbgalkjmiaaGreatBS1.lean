/- Laws for a walk that is written down operation by operation: values, blocks of structs, calls that return or panic. Over any program. -/
import Derived.Test.YtmjblbgalkjmiaaGreatBLaw3
import Derived.Test.YtmjblbgalkjmiaaGreatBB1
namespace Go.Proofs.YtmjblbgalkjmiaaGreat
open Go.RowKit
section
variable {P : Program} {ops : Array Oper} {rest : List Oper} {o : Oper} {T : List Value} {ds : List Deferred} {w : World} {Q : Exit → Act → World → Prop}
theorem then_n {next : Act → World → Prop} {a : Act} (h : next a w) : Exit.then next Q .normal a w := h
theorem then_r {next : Act → World → Prop} {a : Act} (h : Q .ret a w) : Exit.then next Q .ret a w := h
theorem then_x {next : Act → World → Prop} {a : Act} {i : Nat} (h : Q (.exit i) a w) : Exit.then next Q (.exit i) a w := h
theorem blk_n {i : Nat} {a : Act} (h : Q .normal a w) : Exit.inBlock i Q .normal a w := h
theorem blk_x {i : Nat} {a : Act} (h : Q .normal a w) : Exit.inBlock i Q (.exit i) a w := by simpa [Exit.inBlock] using h
theorem put_list {d : Nat} {v : Value} : (⟨T.toArray, ds⟩ : Act).put (some d) v = ⟨(T.set d v).toArray, ds⟩ := by simp [Act.put]
/-- An operation that yields a value and leaves the world alone. -/
theorem s_val (dst : Nat) (hd : o.dst = some dst) (hgd : o.guard = none) (v : Value) (he : (execOp (Act.eval ⟨T.toArray, ds⟩) o).run P w = .ok (.value v) w)
    (h : wpList P ops Q rest ⟨(T.set dst v).toArray, ds⟩ w) : wpList P ops Q (o :: rest) ⟨T.toArray, ds⟩ w :=
  wpList_value_d dst hd hgd v he (by rw [put_list]; exact h)
/-- The same behind a guard that holds. -/
theorem s_gval (dst : Nat) (hd : o.dst = some dst) (hw : Region.wanted o (yielded ops T.toArray) = true) (v : Value) (he : (execOp (Act.eval ⟨T.toArray, ds⟩) o).run P w = .ok (.value v) w)
    (h : wpList P ops Q rest ⟨(T.set dst v).toArray, ds⟩ w) : wpList P ops Q (o :: rest) ⟨T.toArray, ds⟩ w :=
  wpList_step fun K hK => by
    rw [if_pos hw]
    unfold Oper.wp
    rw [he, Oper.upon_value, hd, put_list]
    exact hK _ _ h
/-- Behind a guard that does not hold. -/
theorem s_skip (dst : Nat) (hd : o.dst = some dst) (hw : Region.wanted o (yielded ops T.toArray) = false)
    (h : wpList P ops Q rest ⟨(T.set dst undef).toArray, ds⟩ w) : wpList P ops Q (o :: rest) ⟨T.toArray, ds⟩ w :=
  wpList_skip hw (by rw [hd, put_list]; exact h)
theorem s_alloc (dst : Nat) (hd : o.dst = some dst) (hgd : o.guard = none) (ty : TypeId) (ho : o.op = .alloc ty) (v : Value) (hz : ∀ w, (zeroValue ty).run P w = .ok v w) (cs : Array Value) (hc : v.cells = cs)
    (h : ∀ w' g, Gro w w' → w.heap.size = g → w'.heap[g]? = some (.cells cs ty (0, 0)) → wpList P ops Q rest ⟨(T.set dst (.pointer (some ⟨g, 0, none⟩))).toArray, ds⟩ w') : wpList P ops Q (o :: rest) ⟨T.toArray, ds⟩ w := by
  subst hc
  exact wpList_alloc hgd ty ho v hz (fun w' g G e k => by rw [hd, put_list]; exact h w' g G e k)
theorem s_box (dst : Nat) (hd : o.dst = some dst) (hgd : o.guard = none) (ty : TypeId) (x : Operand) (ho : o.op = .box ty x) (v : Value) (hx : (⟨T.toArray, ds⟩ : Act).eval x = v) (cs : Array Value) (hc : v.cells = cs)
    (h : ∀ w' g, Gro w w' → w.heap.size = g → w'.heap[g]? = some (.cells cs ty (0, 0)) → wpList P ops Q rest ⟨(T.set dst (.pointer (some ⟨g, 0, none⟩))).toArray, ds⟩ w') : wpList P ops Q (o :: rest) ⟨T.toArray, ds⟩ w := by
  subst hc
  exact wpList_box hgd ty x ho v hx (fun w' g G e k => by rw [hd, put_list]; exact h w' g G e k)
theorem s_store (hgd : o.guard = none) (hdst : o.dst = none) (ty : TypeId) (x y : Operand) (ho : o.op = .store ty x y)
    (g off : Nat) (hx : (⟨T.toArray, ds⟩ : Act).eval x = .pointer (some ⟨g, off, none⟩)) (v : Value) (hy : (⟨T.toArray, ds⟩ : Act).eval y = v) (t : TypeId) (old : Array Value) (hg : w.heap[g]? = some (.cells old t (0, 0)))
    (vs : Array Value) (hc : v.cells = vs) (hi : (P.info? ty).map (·.size) = some vs.size) (hle : off + vs.size ≤ old.size) (h1 : vs.all (·.oneCell') = true) (new : Array Value) (hn : splice old off vs = new)
    (h : ∀ w', Stored w w' g (.cells new t (0, 0)) → wpList P ops Q rest ⟨T.toArray, ds⟩ w') : wpList P ops Q (o :: rest) ⟨T.toArray, ds⟩ w := by
  subst hc
  exact wpList_store_at hgd hdst ty x y ho g off hx v hy t old hg hi hle h1 new hn h
/-- A call by its contract. -/
theorem s_call (hgd : o.guard = none) (c : Call) (f : FuncId) (hen : ∀ args w, (callFunc f args).run P w = .ok (.enter f args) w) (ho : o.op = .call c) (hc : c.callee = .value (.func f)) (xs : List Operand) (hxs : c.args = xs.toArray) (vs : List Value) (hvs : xs.map (Act.eval ⟨T.toArray, ds⟩) = vs)
    {R : Ending → World → Prop} (H : Calls P f vs.toArray w R)
    (h : ∀ v w', R (.returned v) w' → wpList P ops Q rest ((⟨T.toArray, ds⟩ : Act).put o.dst v) w') (hp : ∀ ch w', R (.panicked ch) w' → Q (.panic ch) ⟨T.toArray, ds⟩ w') (ho' : ∀ w', ¬ R .outgrown w') : wpList P ops Q (o :: rest) ⟨T.toArray, ds⟩ w :=
  wpList_plain hgd fun _ hK => by
    unfold Oper.wp
    rw [run_call c f hen ho hc, hxs, List.map_toArray, hvs, Oper.upon_enter]
    refine H.mono fun e w' hR => ?_
    cases e with
    | returned v => exact hK _ _ (h v w' hR)
    | panicked ch => exact hp ch w' hR
    | outgrown => exact absurd hR (ho' w')
/-- A call that returns a value that is known. -/
theorem s_callv (dst : Nat) (hd : o.dst = some dst) (hgd : o.guard = none) (c : Call) (f : FuncId) (hen : ∀ args w, (callFunc f args).run P w = .ok (.enter f args) w) (ho : o.op = .call c) (hc : c.callee = .value (.func f)) (xs : List Operand) (hxs : c.args = xs.toArray) (vs : List Value) (hvs : xs.map (Act.eval ⟨T.toArray, ds⟩) = vs)
    {v : Value} {R : World → Prop} (H : Calls P f vs.toArray w fun e w' => e = .returned v ∧ R w')
    (h : ∀ w', R w' → wpList P ops Q rest ⟨(T.set dst v).toArray, ds⟩ w') : wpList P ops Q (o :: rest) ⟨T.toArray, ds⟩ w :=
  s_call hgd c f hen ho hc xs hxs vs hvs H (fun v' w' hR => by obtain ⟨he, hR⟩ := hR; cases he; rw [hd, put_list]; exact h w' hR) (fun _ _ hR => by cases hR.1) (fun _ hR => by cases hR.1)
/-- A call that returns something. -/
theorem s_callx (dst : Nat) (hd : o.dst = some dst) (hgd : o.guard = none) (c : Call) (f : FuncId) (hen : ∀ args w, (callFunc f args).run P w = .ok (.enter f args) w) (ho : o.op = .call c) (hc : c.callee = .value (.func f)) (xs : List Operand) (hxs : c.args = xs.toArray) (vs : List Value) (hvs : xs.map (Act.eval ⟨T.toArray, ds⟩) = vs)
    {R : Ending → World → Prop} (H : Calls P f vs.toArray w R) (hR : ∀ e w', R e w' → ∃ v, e = .returned v)
    (h : ∀ v w', R (.returned v) w' → wpList P ops Q rest ⟨(T.set dst v).toArray, ds⟩ w') : wpList P ops Q (o :: rest) ⟨T.toArray, ds⟩ w :=
  s_call hgd c f hen ho hc xs hxs vs hvs H (fun v' w' hr => by rw [hd, put_list]; exact h v' w' hr) (fun _ _ hr => by obtain ⟨_, h⟩ := hR _ _ hr; cases h) (fun _ hr => by obtain ⟨_, h⟩ := hR _ _ hr; cases h)
end
section
variable {P : Program} {o : Oper} {A : Act} {w : World}
theorem run_fld (s : TypeId) (x : Operand) (i : Nat) (ho : o.op = .fieldAddr s x i) (g off : Nat) (hx : A.eval x = .pointer (some ⟨g, off, none⟩)) (r : Nat)
    (hf : (Instr.fieldAt s (.pointer (some ⟨g, off, none⟩)) i).run P w = .ok (.pointer (some ⟨g, r, none⟩)) w) : (execOp A.eval o).run P w = .ok (.value (.pointer (some ⟨g, r, none⟩))) w := by
  unfold execOp
  simp only [ho, hx, Sem.run_bind, hf, Result.andThen_ok, Sem.run_pure]
theorem run_lda (ty : TypeId) (x : Operand) (ho : o.op = .load ty x) (g off n : Nat) (hx : A.eval x = .pointer (some ⟨g, off, none⟩)) (t : TypeId) (cs : Array Value) (hg : w.heap[g]? = some (.cells cs t (0, 0))) (d : TypeDesc)
    (hu : P.underlying ty = some d) (hd : (match d with | .struct _ | .array _ _ => true | _ => false) = true) (hi : (P.info? ty).map (·.size) = some n) (hle : off + n ≤ cs.size) (vs : Array Value) (hv : cs.extract off (off + n) = vs) :
    (execOp A.eval o).run P w = .ok (.value (.agg vs)) w := by
  subst hv
  unfold execOp
  simp only [ho, hx, Instr.loadAt, Instr.sureAddr, Sem.run_bind, Sem.run_pure, Result.andThen_ok, run_loadVar_at w g off n t ty cs (0, 0) d hg hu hd hi hle]
theorem run_ldc (ty : TypeId) (x : Operand) (ho : o.op = .load ty x) (g off : Nat) (hx : A.eval x = .pointer (some ⟨g, off, none⟩)) (t : TypeId) (cs : Array Value) (hg : w.heap[g]? = some (.cells cs t (0, 0)))
    (hu : (isAgg ty).run P w = .ok false w) (v : Value) (hv : cs[off]? = some v) : (execOp A.eval o).run P w = .ok (.value v) w := by
  have hc : w.cell? ⟨g, off, none⟩ = some v := by rw [cell_of_row w g off cs t (0, 0) hg]; exact hv
  unfold execOp
  simp only [ho, hx]
  simp [Instr.loadAt, Instr.sureAddr, Sem.run_bind, loadVar, hu, hc, go_sem]
theorem run_nt (t : TypeId) (x : Operand) (ho : o.op = .unOp .not t x) (b : Bool) (hx : A.eval x = .bool b) : (execOp A.eval o).run P w = .ok (.value (.bool (!b))) w := by
  unfold execOp
  simp only [ho, hx]
  rfl
end
theorem nr {P : Program} {ops : Array Oper} {rest : List Oper} {ds : List Deferred} {w : World} {Q : Exit → Act → World → Prop} {T : List Value} (h : ∀ U, U = T → wpList P ops Q rest ⟨U.toArray, ds⟩ w) : wpList P ops Q rest ⟨T.toArray, ds⟩ w := h _ rfl
theorem z0 (x a : Value) (l : List Value) : (x :: l).set 0 a = a :: l := rfl
theorem z1 (x a : Value) (l : List Value) (n : Nat) : (x :: l).set (n + 1) a = x :: l.set n a := rfl
/-! ### Rows from structs -/
structure Sl where
  ao : Option Addr
  n : Nat
  cap : Nat
def Sl.nil : Sl := ⟨none, 0, 0⟩
end Go.Proofs.YtmjblbgalkjmiaaGreat
