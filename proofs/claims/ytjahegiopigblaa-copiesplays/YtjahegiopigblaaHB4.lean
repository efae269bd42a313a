/- Facts on this program: the type of identities, their reading, comparing and indexing. -/
import Derived.Test.YtjahegiopigblaaRows
import Derived.Test.YtjahegiopigblaaHNum
import Derived.Test.YtjahegiopigblaaHOps
import Derived.Test.YtjahegiopigblaaHB2
namespace Go.Proofs.Ytjahegiopigblaa
open Go.RowKit
theorem size23 : (Try.prog.info? 23).map (·.size) = some 16 := by kernel_rfl
theorem size5 : (Try.prog.info? 5).map (·.size) = some 1 := by kernel_rfl
theorem size23' (n : Nat) : (Try.prog.info? 23).map (·.size) = some (idA n).size := by rw [idA_size]; exact size23
theorem zero23 (w : World) : (zeroValue 23).run Try.prog w = .ok (.agg (idA 0)) w := by rw [Try.zeroValue23]; rfl
theorem follows : Try.prog.follows .mixedOrders = true := by kernel_rfl
theorem part_id (n k : Nat) (hk : k < 16) (w : World) : (part 5 (idA n) k).run Try.prog w = .ok (.int .u8 (byt n k)) w := by
  have h := idA_get n k hk
  simp [part, go_sem, h]
/-- An identity, indexed. -/
theorem run_index_id (n k : Nat) (hk : k < 16) (w : World) : (Instr.index 23 (.agg (idA n)) (.int .i64 k)).run Try.prog w = .ok (.int .u8 (byt n k)) w := by
  have hs := run_underlying Try.underlying23 w
  have hp := part_id n k hk w
  simp [Instr.index, asIntOf, hs, hk, hp]
/-- Two identities, compared. -/
theorem run_eq_id (a b : Nat) (ha : a < top) (hb : b < top) (w : World) : (Op.equal 23 (.agg (idA a)) (.agg (idA b))).run Try.prog w = .ok (decide (a = b)) w := by
  unfold Op.equal
  have e : Op.maxDepth = (Op.maxDepth - 2) + 1 + 1 := by decide
  rw [e]
  refine run_equalIn_row _ 23 5 16 Try.underlying23 w (Try.sizeOf5 w) (idA a) (idA b) (fun i => .int .u8 (byt a i)) (fun i => .int .u8 (byt b i)) (fun i => (byt a i : Int) == byt b i)
    (fun i hi => part_id a i hi w) (fun i hi => part_id b i hi w) (fun i _ => run_equalIn_int w _ 5 .u8 .u8 _ _ Try.underlying5) _ ?_
  rw [decide_eq_true_iff]
  constructor
  · rintro rfl i _; simp
  · intro h
    exact eq_of_bytes ha hb fun i hi => by have := h i hi; simp at this; omega
theorem eqGuard_id (op : BinOp) (x y : Operand) (c d : Array Value) (w : World) : (eqGuard op 23 x y (.agg c) (.agg d)).run Try.prog w = .ok () w := by
  unfold eqGuard
  cases op <;> simp [go_sem]
theorem run_eql_id (a b : Nat) (ha : a < top) (hb : b < top) (w : World) : (binOp .eql 23 (.agg (idA a)) (.agg (idA b))).run Try.prog w = .ok (.bool (decide (a = b))) w := by
  simp [binOp, run_eq_id a b ha hb w]
theorem run_neq_id (a b : Nat) (ha : a < top) (hb : b < top) (w : World) : (binOp .neq 23 (.agg (idA a)) (.agg (idA b))).run Try.prog w = .ok (.bool (!decide (a = b))) w := by
  simp [binOp, run_eq_id a b ha hb w]
theorem extract_id (n : Nat) : (idA n).extract 0 (0 + 16) = idA n := by
  have : 0 + 16 = (idA n).size := (idA_size n).symm
  rw [this, Array.extract_size]
section
variable {ops : Array Oper} {o : Oper} {A : Act} {w : World}
theorem ok_load_id (n : Nat) (hgd : o.guard = none) (x : Operand) (ho : o.op = .load 23 x) (g : Nat) (hx : A.eval x = .pointer (some ⟨g, 0, none⟩)) (hg : w.heap[g]? = some (.cells (idA n) 23 (0, 0))) : OpOK Try.prog ops (.val (.agg (idA n))) o A w :=
  ok_load hgd 23 x ho g 0 16 hx 23 (idA n) (0, 0) _ hg Try.underlying23 rfl size23 (by rw [idA_size]; omega) _ (extract_id n)
theorem ok_alloc_id (hgd : o.guard = none) (ho : o.op = .alloc 23) : OpOK Try.prog ops (.new 23 (idA 0)) o A w :=
  ok_alloc hgd 23 ho (.agg (idA 0)) zero23
theorem quiet_load_id {C : World → Prop} {K : Act → Prop} (n : Nat) (x : Operand) (ho : o.op = .load 23 x) (g : Nat) (hx : A.eval x = .pointer (some ⟨g, 0, none⟩)) (hg : ∀ w, C w → w.heap[g]? = some (.cells (idA n) 23 (0, 0)))
    (h : K (A.put o.dst (.agg (idA n)))) : o.quiet Try.prog A C K :=
  quiet_load 23 x ho g 0 16 hx 23 (idA n) (0, 0) _ hg Try.underlying23 rfl size23 (by rw [idA_size]; omega) _ (extract_id n) h
theorem run_eqlop_id {op : BinOp} (x y : Operand) (t2 : TypeId) (ho : o.op = .binOp op 23 x y t2) (n m : Nat) (hx : A.eval x = .agg (idA n)) (hy : A.eval y = .agg (idA m)) (v : Value) (hv : ∀ w, (binOp op 23 (.agg (idA n)) (.agg (idA m))).run Try.prog w = .ok v w) (w : World) :
    (execOp A.eval o).run Try.prog w = .ok (.value v) w := by
  unfold execOp
  simp only [ho, hx, hy, Sem.run_bind, eqGuard_id, Result.andThen_ok, hv, Sem.run_pure]
theorem wpList_eql_id {Q : Exit → Act → World → Prop} {rest : List Oper} (hgd : o.guard = none) (x y : Operand) (t2 : TypeId) (ho : o.op = .binOp .eql 23 x y t2) (n m : Nat) (hx : A.eval x = .agg (idA n)) (hy : A.eval y = .agg (idA m)) (hn : n < top) (hm : m < top) (p : Bool) (hp : decide (n = m) = p)
    (h : wpList Try.prog ops Q rest (A.put o.dst (.bool p)) w) : wpList Try.prog ops Q (o :: rest) A w :=
  wpList_plain hgd fun _ hK => by
    unfold Oper.wp
    rw [run_eqlop_id x y t2 ho n m hx hy (.bool p) (fun w => by rw [run_eql_id n m hn hm w, hp])]
    exact hK _ _ h
theorem wq_eql_id {C : World → Prop} {Q : Act → Prop} {rest : List Oper} (hw : Region.wanted o (yielded ops A.tmps) = true) (x y : Operand) (t2 : TypeId) (ho : o.op = .binOp .eql 23 x y t2) (n m : Nat) (hx : A.eval x = .agg (idA n)) (hy : A.eval y = .agg (idA m)) (hn : n < top) (hm : m < top) (p : Bool) (hp : decide (n = m) = p)
    (h : wpQuiet Try.prog ops C Q rest (A.put o.dst (.bool p))) : wpQuiet Try.prog ops C Q (o :: rest) A :=
  wq_value hw (.bool p) (run_eqlop_id x y t2 ho n m hx hy (.bool p) (fun w => by rw [run_eql_id n m hn hm w, hp])) h
theorem wq_load_id {C : World → Prop} {Q : Act → Prop} {rest : List Oper} (hw : Region.wanted o (yielded ops A.tmps) = true) (x : Operand) (ho : o.op = .load 23 x) (g : Nat) (hx : A.eval x = .pointer (some ⟨g, 0, none⟩)) (n : Nat) (hg : ∀ w, C w → w.heap[g]? = some (.cells (idA n) 23 (0, 0)))
    (h : wpQuiet Try.prog ops C Q rest (A.put o.dst (.agg (idA n)))) : wpQuiet Try.prog ops C Q (o :: rest) A :=
  BigFrame.wpQuiet_want hw fun _ hK => quiet_load_id n x ho g hx hg (hK _ h)
end
end Go.Proofs.Ytjahegiopigblaa
namespace Go.Proofs.Ytjahegiopigblaa
open Go.RowKit
section
variable {P : Program} {o : Oper} {A : Act} {w : World}
theorem wrap_in (r : Int) (h1 : -9223372036854775808 ≤ r) (h2 : r < 9223372036854775808) : IntKind.i64.wrap r = r := by
  simp [IntKind.wrap, IntKind.bits, IntKind.signed]
  omega
theorem run_shr64 (t t2 : TypeId) (x y : Operand) (ho : o.op = .binOp .shr t x y t2) (n m : Nat) (ky : IntKind) (hx : A.eval x = .int .u64 (n : Int)) (hy : A.eval y = .int ky (m : Int)) (hm : m ≤ 64) (r : Nat) (hr : n / 2 ^ m = r) (w : World) : (execOp A.eval o).run P w = .ok (.value (.int .u64 (r : Int))) w := by
  refine run_binop .shr t x y t2 ho _ _ _ hx hy (by simp [eqGuard]) ?_
  subst hr
  have h1 : ¬ ((m : Int) < 0) := by omega
  have h2 : min m IntKind.u64.bits = m := by
    have : IntKind.u64.bits = 64 := rfl
    omega
  simp [binOp]
end
theorem OB.one {w : World} {g : Nat} {e : TypeId} {k : IntKind} {z : Nat} {B : Nat} (hg : w.heap[g]? = some (.cells #[.int k (z : Int)] e (0, 0))) (hB : B ≤ g) (hz : (z : Int) ≤ k.max) : OB w e k B (some ⟨g, 0, none⟩) 1 [z] :=
  OB.made hg hB (Nat.le_refl _) (by decide) rfl rfl (fun x hx => by simp at hx; subst hx; exact hz)
end Go.Proofs.Ytjahegiopigblaa
