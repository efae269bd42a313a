/- The law of a table without room. -/
import Derived.Test.YtkjnefgenffhcaaGZ7
import Derived.Test.YtkjnefgenffhcaaGLaw11
namespace Go.Proofs.Ytkjnefgenffhcaa
open Go.RowKit Go.Maps
/-- What holds in such a region: which ran is told by R. -/
structure WrI (w0 : World) (b : Nat) (L1 L2 : List En) (e0 al stx BB : Nat) (E : Ed) (ptrs : Nat → Value) (R : Nat → Bool) (x : World) : Prop where
  g : GroS [b] w0 x
  t1 : R e0 = false → TM x b L1
  t2 : R e0 = true → TM x b L2
  sx : R stx = true → R e0 = true
  bx : R stx = true → R al = true ∧ ∃ g ao n, ptrs al = .pointer (some ⟨g, 0, none⟩) ∧ BB ≤ g ∧ x.heap[g]? = some (.cells (edA ao n E.mine E.full) 41 (0, 0)) ∧ OutP x BB E.out ao n
theorem upd_ne {R : Nat → Bool} {i j : Nat} (h : i ≠ j) : upd R i j = R j := by
  unfold upd
  have : (j == i) = false := by simpa using Ne.symm h
  rw [this, Bool.false_or]
theorem upd_self (R : Nat → Bool) (i : Nat) : upd R i i = true := by simp [upd]
section
variable {w0 : World} {b : Nat} {L1 L2 : List En} {e0 al stx BB : Nat} {E : Ed} {ptrs : Nat → Value} {R : Nat → Bool} {a x : World}
theorem WrI.gro (h : WrI w0 b L1 L2 e0 al stx BB E ptrs R a) (i : Nat) (h1 : i ≠ e0) (h2 : i ≠ stx) (hi : R i = false) (G : Gro a x) (v : Value) : WrI w0 b L1 L2 e0 al stx BB E (vset ptrs i v) (upd R i) x := by
  refine ⟨h.g.tg G, fun k => (h.t1 (by rwa [upd_ne h1] at k)).gro G, fun k => (h.t2 (by rwa [upd_ne h1] at k)).gro G, fun k => by rw [upd_ne h1]; exact h.sx (by rwa [upd_ne h2] at k), fun k => ?_⟩
  rw [upd_ne h2] at k
  obtain ⟨h3, g, ao, n, p1, p2, p3, p4⟩ := h.bx k
  have hia : i ≠ al := fun e => by rw [e, h3] at hi; cases hi
  refine ⟨by rw [upd_ne hia]; exact h3, g, ao, n, ?_, p2, G.has p3, p4.gro G⟩
  unfold vset
  rw [if_neg (Ne.symm hia)]
  exact p1
theorem WrI.call (h : WrI w0 b L1 L2 e0 al stx BB E ptrs R a) (hi : R e0 = false) (hne : e0 ≠ stx) (HT : TM x b L2) (G : GroS [b] a x) (v : Value) : WrI w0 b L1 L2 e0 al stx BB E (vset ptrs e0 v) (upd R e0) x :=
  ⟨h.g.trans G, fun k => (by rw [upd_self] at k; cases k), fun _ => HT, fun _ => upd_self R e0, fun k => (by rw [upd_ne hne] at k; have := h.sx k; rw [hi] at this; cases this)⟩
theorem WrI.store (h : WrI w0 b L1 L2 e0 al stx BB E ptrs R a) (hne : stx ≠ e0) (hna : stx ≠ al) (ha : R al = true) (hc : R e0 = true) {g n : Nat} {ao : Option Addr} {c : Array Value} (p1 : ptrs al = .pointer (some ⟨g, 0, none⟩)) (p2 : BB ≤ g) (hw : w0.heap.size ≤ g) (kg : a.heap[g]? = some (.cells c 41 (0, 0))) (St : Stored a x g (.cells (edA ao n E.mine E.full) 41 (0, 0))) (HO : OutP a BB E.out ao n) (v : Value) : WrI w0 b L1 L2 e0 al stx BB E (vset ptrs stx v) (upd R stx) x := by
  refine ⟨h.g.st St (.inl hw), fun k => ?_, fun k => ?_, fun _ => by rw [upd_ne hne]; exact hc, fun _ => ⟨by rw [upd_ne hna]; exact ha, g, ao, n, ?_, p2, St.new, HO.st St kg (by decide)⟩⟩
  · rw [upd_ne hne] at k
    exact (h.t1 k).st St ((h.t1 k).nec kg).symm
  · rw [upd_ne hne] at k
    exact (h.t2 k).st St ((h.t2 k).nec kg).symm
  · unfold vset
    rw [if_neg (Ne.symm hna)]
    exact p1
theorem WrI.start (HT : TM w0 b L1) (ptrs : Nat → Value) : WrI w0 b L1 L2 e0 al stx BB E ptrs (fun _ => false) w0 := ⟨GroS.refl _ _, fun _ => HT, fun k => (by cases k), fun k => (by cases k), fun k => (by cases k)⟩
end
theorem run_ext0 {o : Oper} {A : Act} (x : Operand) (i : Nat) (ho : o.op = .extract x i) (u v : Value) (hx : A.eval x = .tuple #[u, v]) (w : World) (hi : i = 0 := by rfl) : (execOp A.eval o).run Try.prog w = .ok (.value u) w := by
  subst hi
  unfold execOp
  simp only [ho, hx]
  rfl
theorem run_ext1 {o : Oper} {A : Act} (x : Operand) (i : Nat) (ho : o.op = .extract x i) (u v : Value) (hx : A.eval x = .tuple #[u, v]) (w : World) (hi : i = 1 := by rfl) : (execOp A.eval o).run Try.prog w = .ok (.value v) w := by
  subst hi
  unfold execOp
  simp only [ho, hx]
  rfl
def o6 : List Bool := [true, true, true, true, true, true]
end Go.Proofs.Ytkjnefgenffhcaa
