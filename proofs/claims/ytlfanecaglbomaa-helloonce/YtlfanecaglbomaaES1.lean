/- Laws for a walk that is written down operation by operation: values, blocks of structs, calls that return or panic. Over any program. -/
import Derived.Test.YtlfanecaglbomaaELaw3
import Derived.Test.YtlfanecaglbomaaEB1
namespace Go.Proofs.Ytlfanecaglbomaa
open Go.RowKit
section
variable {P : Program} {ops : Array Oper} {rest : List Oper} {o : Oper} {T : List Value} {ds : List Deferred} {w : World} {Q : Exit → Act → World → Prop}
theorem ja {next : Act → World → Prop} {a : Act} (h : next a w) : Exit.then next Q .normal a w := h
theorem jL {next : Act → World → Prop} {a : Act} (h : Q .ret a w) : Exit.then next Q .ret a w := h
theorem jZ {next : Act → World → Prop} {a : Act} {i : Nat} (h : Q (.exit i) a w) : Exit.then next Q (.exit i) a w := h
theorem jQ {i : Nat} {a : Act} (h : Q .normal a w) : Exit.inBlock i Q .normal a w := h
theorem zh {i : Nat} {a : Act} (h : Q .ret a w) : Exit.inBlock i Q .ret a w := h
theorem zZ {i : Nat} {a : Act} (h : Q .normal a w) : Exit.inBlock i Q (.exit i) a w := by simpa [Exit.inBlock] using h
theorem jN {fn : Func} {R : Ending → World → Prop} {a : Act} {v : Value} (hr : (results fn a.tmps).run P w = .ok v w) (hd : a.defers = []) (h : R (.returned v) w) : bodyPost P fn R .normal a w := ⟨hd, v, hr, h⟩
theorem zg {d : Nat} {v : Value} : (⟨T.toArray, ds⟩ : Act).put (some d) v = ⟨(T.set d v).toArray, ds⟩ := by simp [Act.put]
theorem yb (dst : Nat) (hd : o.dst = some dst) (hgd : o.guard = none) (v : Value) (he : (execOp (Act.eval ⟨T.toArray, ds⟩) o).run P w = .ok (.value v) w)
    (h : wpList P ops Q rest ⟨(T.set dst v).toArray, ds⟩ w) : wpList P ops Q (o :: rest) ⟨T.toArray, ds⟩ w :=
  zi dst hd hgd v he (by rw [zg]; exact h)
theorem sv (dst : Nat) (v : Value) (he : (execOp (Act.eval ⟨T.toArray, ds⟩) o).run P w = .ok (.value v) w)
    (h : wpList P ops Q rest ⟨(T.set dst v).toArray, ds⟩ w) (hd : o.dst = some dst := by exact rfl) (hgd : o.guard = none := by exact rfl) : wpList P ops Q (o :: rest) ⟨T.toArray, ds⟩ w := yb dst hd hgd v he h
theorem mv (dst : Nat) (v : Value)
    (h : wpList P ops Q rest ⟨(T.set dst v).toArray, ds⟩ w) (he : (execOp (Act.eval ⟨T.toArray, ds⟩) o).run P w = .ok (.value v) w := by exact rfl) (hd : o.dst = some dst := by exact rfl) (hgd : o.guard = none := by exact rfl) : wpList P ops Q (o :: rest) ⟨T.toArray, ds⟩ w := yb dst hd hgd v he h
theorem Jw (dst : Nat) (hd : o.dst = some dst) (hw : Region.wanted o (yielded ops T.toArray) = true) (v : Value) (he : (execOp (Act.eval ⟨T.toArray, ds⟩) o).run P w = .ok (.value v) w)
    (h : wpList P ops Q rest ⟨(T.set dst v).toArray, ds⟩ w) : wpList P ops Q (o :: rest) ⟨T.toArray, ds⟩ w :=
  wpList_step fun K hK => by
    rw [if_pos hw]
    unfold Oper.wp
    rw [he, Oper.upon_value, hd, zg]
    exact hK _ _ h
theorem ZC (dst : Nat) (hd : o.dst = some dst) (hw : Region.wanted o (yielded ops T.toArray) = false)
    (h : wpList P ops Q rest ⟨(T.set dst undef).toArray, ds⟩ w) : wpList P ops Q (o :: rest) ⟨T.toArray, ds⟩ w :=
  wpList_skip hw (by rw [hd, zg]; exact h)
theorem js (dst : Nat) (hd : o.dst = some dst) (hgd : o.guard = none) (ty : TypeId) (ho : o.op = .alloc ty) (v : Value) (hz : ∀ w, (zeroValue ty).run P w = .ok v w) (cs : Array Value) (hc : v.cells = cs)
    (h : ∀ w' g, Gro w w' → w.heap.size = g → w'.heap[g]? = some (.cells cs ty (0, 0)) → wpList P ops Q rest ⟨(T.set dst (pK g 0)).toArray, ds⟩ w') : wpList P ops Q (o :: rest) ⟨T.toArray, ds⟩ w := by
  subst hc
  exact ut hgd ty ho v hz (fun w' g G e k => by rw [hd, zg]; exact h w' g G e k)
theorem jE (dst : Nat) (hd : o.dst = some dst) (hgd : o.guard = none) (ty : TypeId) (x : Operand) (ho : o.op = .box ty x) (v : Value) (hx : (⟨T.toArray, ds⟩ : Act).eval x = v) (cs : Array Value) (hc : v.cells = cs)
    (h : ∀ w' g, Gro w w' → w.heap.size = g → w'.heap[g]? = some (.cells cs ty (0, 0)) → wpList P ops Q rest ⟨(T.set dst (pK g 0)).toArray, ds⟩ w') : wpList P ops Q (o :: rest) ⟨T.toArray, ds⟩ w := by
  subst hc
  exact Js hgd ty x ho v hx (fun w' g G e k => by rw [hd, zg]; exact h w' g G e k)
theorem jo (hgd : o.guard = none) (hdst : o.dst = none) (ty : TypeId) (x y : Operand) (ho : o.op = .store ty x y)
    (g off : Nat) (hx : (⟨T.toArray, ds⟩ : Act).eval x = pK g off) (v : Value) (hy : (⟨T.toArray, ds⟩ : Act).eval y = v) (t : TypeId) (old : Array Value) (hg : w.heap[g]? = some (.cells old t (0, 0)))
    (vs : Array Value) (hc : v.cells = vs) (hi : (P.info? ty).map (·.size) = some vs.size) (hle : off + vs.size ≤ old.size) (h1 : vs.all (·.oneCell') = true) (new : Array Value) (hn : splice old off vs = new)
    (h : ∀ w', Stored w w' g (.cells new t (0, 0)) → wpList P ops Q rest ⟨T.toArray, ds⟩ w') : wpList P ops Q (o :: rest) ⟨T.toArray, ds⟩ w := by
  subst hc
  exact vm hgd hdst ty x y ho g off hx v hy t old hg hi hle h1 new hn h
theorem ZF (hgd : o.guard = none) (c : Call) (f : FuncId) (hen : ∀ args w, (callFunc f args).run P w = .ok (.enter f args) w) (ho : o.op = .call c) (hc : c.callee = .value (.func f)) (xs : List Operand) (hxs : c.args = xs.toArray) (vs : List Value) (hvs : xs.map (Act.eval ⟨T.toArray, ds⟩) = vs)
    {R : Ending → World → Prop} (H : Calls P f vs.toArray w R)
    (h : ∀ v w', R (.returned v) w' → wpList P ops Q rest ((⟨T.toArray, ds⟩ : Act).put o.dst v) w') (hp : ∀ ch w', R (.panicked ch) w' → Q (.panic ch) ⟨T.toArray, ds⟩ w') (ho' : ∀ w', ¬ R .outgrown w') : wpList P ops Q (o :: rest) ⟨T.toArray, ds⟩ w :=
  wpList_plain hgd fun _ hK => by
    unfold Oper.wp
    rw [yu c f hen ho hc, hxs, List.map_toArray, hvs, Oper.upon_enter]
    refine H.mono fun e w' hR => ?_
    cases e with
    | returned v => exact hK _ _ (h v w' hR)
    | panicked ch => exact hp ch w' hR
    | outgrown => exact absurd hR (ho' w')
theorem jC (dst : Nat) (hd : o.dst = some dst) (hgd : o.guard = none) (c : Call) (f : FuncId) (hen : ∀ args w, (callFunc f args).run P w = .ok (.enter f args) w) (ho : o.op = .call c) (hc : c.callee = .value (.func f)) (xs : List Operand) (hxs : c.args = xs.toArray) (vs : List Value) (hvs : xs.map (Act.eval ⟨T.toArray, ds⟩) = vs)
    {v : Value} {R : World → Prop} (H : Calls P f vs.toArray w fun e w' => e = .returned v ∧ R w')
    (h : ∀ w', R w' → wpList P ops Q rest ⟨(T.set dst v).toArray, ds⟩ w') : wpList P ops Q (o :: rest) ⟨T.toArray, ds⟩ w :=
  ZF hgd c f hen ho hc xs hxs vs hvs H (fun v' w' hR => by obtain ⟨he, hR⟩ := hR; cases he; rw [hd, zg]; exact h w' hR) (fun _ _ hR => by cases hR.1) (fun _ hR => by cases hR.1)
theorem jt (dst : Nat) (hd : o.dst = some dst) (hgd : o.guard = none) (c : Call) (f : FuncId) (hen : ∀ args w, (callFunc f args).run P w = .ok (.enter f args) w) (ho : o.op = .call c) (hc : c.callee = .value (.func f)) (xs : List Operand) (hxs : c.args = xs.toArray) (vs : List Value) (hvs : xs.map (Act.eval ⟨T.toArray, ds⟩) = vs)
    {R : Ending → World → Prop} (H : Calls P f vs.toArray w R) (hR : ∀ e w', R e w' → ∃ v, e = .returned v)
    (h : ∀ v w', R (.returned v) w' → wpList P ops Q rest ⟨(T.set dst v).toArray, ds⟩ w') : wpList P ops Q (o :: rest) ⟨T.toArray, ds⟩ w :=
  ZF hgd c f hen ho hc xs hxs vs hvs H (fun v' w' hr => by rw [hd, zg]; exact h v' w' hr) (fun _ _ hr => by obtain ⟨_, h⟩ := hR _ _ hr; cases h) (fun _ hr => by obtain ⟨_, h⟩ := hR _ _ hr; cases h)
theorem ZD (dst : Nat) (hd : o.dst = some dst) (hgd : o.guard = none) (f : FuncId) (vs : List Value) (hen : (execOp (Act.eval ⟨T.toArray, ds⟩) o).run P w = .ok (.enter f vs.toArray) w)
    {v : Value} {R : World → Prop} (H : Calls P f vs.toArray w fun e w' => e = .returned v ∧ R w')
    (h : ∀ w', R w' → wpList P ops Q rest ⟨(T.set dst v).toArray, ds⟩ w') : wpList P ops Q (o :: rest) ⟨T.toArray, ds⟩ w :=
  wpList_plain hgd fun _ hK => by
    unfold Oper.wp
    rw [hen, Oper.upon_enter]
    refine H.mono fun e w' hR => ?_
    obtain ⟨rfl, hR⟩ := hR
    have := h w' hR
    rw [← zg, ← hd] at this
    exact hK _ _ this
end
section
variable {P : Program} {o : Oper} {A : Act} {w : World}
theorem jc (s : TypeId) (x : Operand) (i : Nat) (ho : o.op = .fieldAddr s x i) (g off : Nat) (hx : A.eval x = pK g off) (r : Nat)
    (hf : (Instr.fieldAt s (pK g off) i).run P w = .ok (pK g r) w := by kernel_rfl) : (execOp A.eval o).run P w = .ok (.value (pK g r)) w := by
  unfold execOp
  simp only [ho, hx, Sem.run_bind, hf, Result.andThen_ok, Sem.run_pure]
theorem jk (ty : TypeId) (x : Operand) (ho : o.op = .load ty x) (g off n : Nat) (hx : A.eval x = pK g off) (t : TypeId) (cs : Array Value) (hg : w.heap[g]? = some (.cells cs t (0, 0))) (d : TypeDesc)
    (hu : P.underlying ty = some d) (hd : (match d with | .struct _ | .array _ _ => true | _ => false) = true) (hi : (P.info? ty).map (·.size) = some n) (vs : Array Value) (hle : off + n ≤ cs.size := by exact nlB rfl) (hv : cs.extract off (off + n) = vs := by kernel_rfl) :
    (execOp A.eval o).run P w = .ok (.value (.agg vs)) w := by
  subst hv
  unfold execOp
  simp only [ho, hx, Instr.loadAt, Instr.sureAddr, Sem.run_bind, Sem.run_pure, Result.andThen_ok, vJ w g off n t ty cs (0, 0) d hg hu hd hi hle]
theorem je (ty : TypeId) (x : Operand) (ho : o.op = .load ty x) (g off : Nat) (hx : A.eval x = pK g off) (t : TypeId) (cs : Array Value) (hg : w.heap[g]? = some (.cells cs t (0, 0)))
    (hu : (isAgg ty).run P w = .ok false w) (v : Value) (hv : cs[off]? = some v) : (execOp A.eval o).run P w = .ok (.value v) w := by
  have hc : w.cell? ⟨g, off, none⟩ = some v := by rw [cell_of_row w g off cs t (0, 0) hg]; exact hv
  unfold execOp
  simp only [ho, hx]
  simp [Instr.loadAt, Instr.sureAddr, Sem.run_bind, loadVar, hu, hc, go_sem]
theorem jA (t : TypeId) (l : List (Nat × Operand)) (ho : o.op = .build t l.toArray) (vals : List (Nat × Value)) (hv : (l.map fun p => (p.1, A.eval p.2)) = vals) (v : Value) (h : (Instr.build t vals.toArray).run P w = .ok v w) :
    (execOp A.eval o).run P w = .ok (.value v) w := by
  unfold execOp
  simp only [ho]
  have : (l.toArray.map fun (i, x) => (i, A.eval x)) = vals.toArray := by rw [← hv]; simp
  rw [this]
  simp [h]
theorem zE (t : TypeId) (x : Operand) (ho : o.op = .makeInterface t x) (v : Value) (hx : A.eval x = v) (hc : P.concrete t = true := by kernel_rfl) : (execOp A.eval o).run P w = .ok (.value (.iface t v)) w := by
  unfold execOp
  simp [ho, hx, run_makeInterface w t v hc]
theorem jx (x : Operand) (tx t : TypeId) (b : Bool) (ho : o.op = .typeAssert x tx t b) (u v : Value) (hx : A.eval x = u) (h : (Instr.typeAssert u tx t b).run P w = .ok v w := by kernel_rfl) : (execOp A.eval o).run P w = .ok (.value v) w := by
  unfold execOp
  simp [ho, hx, h]
theorem jl (x : Operand) (ho : o.op = .nilCheck x) (p : Addr) (hx : A.eval x = .pointer (some p)) : (execOp A.eval o).run P w = .ok (.value (.pointer (some p))) w := by
  unfold execOp
  simp [ho, hx]
theorem jU (t : TypeId) (x : Operand) (ho : o.op = .unOp .not t x) (b : Bool) (hx : A.eval x = .bool b) : (execOp A.eval o).run P w = .ok (.value (.bool (!b))) w := by
  unfold execOp
  simp only [ho, hx]
  rfl
end
theorem nr {P : Program} {ops : Array Oper} {rest : List Oper} {ds : List Deferred} {w : World} {Q : Exit → Act → World → Prop} {T : List Value} (h : ∀ U, U = T → wpList P ops Q rest ⟨U.toArray, ds⟩ w) : wpList P ops Q rest ⟨T.toArray, ds⟩ w := h _ rfl
theorem z0 (x a : Value) (l : List Value) : (x :: l).set 0 a = a :: l := rfl
theorem z1 (x a : Value) (l : List Value) (n : Nat) : (x :: l).set (n + 1) a = x :: l.set n a := rfl
/-! ### Rows from structs -/
structure Sl where
  ao : Option Addr
  n : Nat
  cap : Nat
def Sl.nil : Sl := ⟨none, 0, 0⟩
def zF : Nat → Nat := fun _ => 0
theorem usB {m m' : Nat} {F : List Value} {mk : (Nat → Value) → List Value} {R : Prop} (D : List Nat) (hm : m = m') (h : F = mk fun k => F.getD (D.getD k 0) undef) (r : R) : ∃ us : Nat → Value, m = m' ∧ (⟨F.toArray, []⟩ : Act) = ⟨(mk us).toArray, []⟩ ∧ R :=
  ⟨_, hm, by rw [← h], r⟩
end Go.Proofs.Ytlfanecaglbomaa
