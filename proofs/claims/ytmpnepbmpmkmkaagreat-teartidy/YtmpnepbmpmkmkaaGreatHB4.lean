/- Numbers and texts as bytes: what the document says of lists of bytes; no program. -/
import Derived.Test.YtmpnepbmpmkmkaaGreatHB1
import Derived.Test.YtmpnepbmpmkmkaaGreatRows
import Derived.Test.YtmpnepbmpmkmkaaGreatHNum
import Derived.Test.YtmpnepbmpmkmkaaGreatHOps
namespace Go.Proofs.YtmpnepbmpmkmkaaGreat
/-- How many bytes a number has. -/
def nb (x : Nat) : Nat := if x = 0 then 0 else if x < 256 then 1 else if x < 65536 then 2 else if x < 16777216 then 3 else if x < 4294967296 then 4 else if x < 1099511627776 then 5 else if x < 281474976710656 then 6 else if x < 72057594037927936 then 7 else 8
end Go.Proofs.YtmpnepbmpmkmkaaGreat
namespace Go.Proofs.YtmpnepbmpmkmkaaGreat
open Go.RowKit
theorem size23 : (Tryz.prog.info? 24).map (·.size) = some 16 := by kernel_rfl
theorem size5 : (Tryz.prog.info? 5).map (·.size) = some 1 := by kernel_rfl
theorem size23' (n : Nat) : (Tryz.prog.info? 24).map (·.size) = some (idA n).size := by rw [idA_size]; exact size23
theorem zero23 (w : World) : (zeroValue 24).run Tryz.prog w = .ok (.agg (idA 0)) w := by rw [Tryz.zeroValue24]; rfl
theorem follows : Tryz.prog.follows .mixedOrders = true := by kernel_rfl
theorem part_id (n k : Nat) (hk : k < 16) (w : World) : (part 5 (idA n) k).run Tryz.prog w = .ok (.int .u8 (byt n k)) w := by
  have h := idA_get n k hk
  simp [part, go_sem, h]
/-- An identity, indexed. -/
theorem run_index_id (n k : Nat) (hk : k < 16) (w : World) : (Instr.index 24 (.agg (idA n)) (.int .i64 k)).run Tryz.prog w = .ok (.int .u8 (byt n k)) w := by
  have hs := run_underlying Tryz.underlying24 w
  have hp := part_id n k hk w
  simp [Instr.index, asIntOf, hs, hk, hp]
/-- Two identities, compared. -/
theorem run_eq_id (a b : Nat) (ha : a < top) (hb : b < top) (w : World) : (Op.equal 24 (.agg (idA a)) (.agg (idA b))).run Tryz.prog w = .ok (decide (a = b)) w := by
  unfold Op.equal
  have e : Op.maxDepth = (Op.maxDepth - 2) + 1 + 1 := by decide
  rw [e]
  refine run_equalIn_row _ 24 5 16 Tryz.underlying24 w (Tryz.sizeOf5 w) (idA a) (idA b) (fun i => .int .u8 (byt a i)) (fun i => .int .u8 (byt b i)) (fun i => (byt a i : Int) == byt b i)
    (fun i hi => part_id a i hi w) (fun i hi => part_id b i hi w) (fun i _ => run_equalIn_int w _ 5 .u8 .u8 _ _ Tryz.underlying5) _ ?_
  rw [decide_eq_true_iff]
  constructor
  · rintro rfl i _; simp
  · intro h
    exact eq_of_bytes ha hb fun i hi => by have := h i hi; simp at this; omega
theorem eqGuard_id (op : BinOp) (x y : Operand) (c d : Array Value) (w : World) : (eqGuard op 24 x y (.agg c) (.agg d)).run Tryz.prog w = .ok () w := by
  unfold eqGuard
  cases op <;> simp [go_sem]
theorem run_eql_id (a b : Nat) (ha : a < top) (hb : b < top) (w : World) : (binOp .eql 24 (.agg (idA a)) (.agg (idA b))).run Tryz.prog w = .ok (.bool (decide (a = b))) w := by
  simp [binOp, run_eq_id a b ha hb w]
theorem run_neq_id (a b : Nat) (ha : a < top) (hb : b < top) (w : World) : (binOp .neq 24 (.agg (idA a)) (.agg (idA b))).run Tryz.prog w = .ok (.bool (!decide (a = b))) w := by
  simp [binOp, run_eq_id a b ha hb w]
theorem extract_id (n : Nat) : (idA n).extract 0 (0 + 16) = idA n := by
  have : 0 + 16 = (idA n).size := (idA_size n).symm
  rw [this, Array.extract_size]
section
variable {ops : Array Oper} {o : Oper} {A : Act} {w : World}
theorem quiet_load_id {C : World → Prop} {K : Act → Prop} (n : Nat) (x : Operand) (ho : o.op = .load 24 x) (g : Nat) (hx : A.eval x = .pointer (some ⟨g, 0, none⟩)) (hg : ∀ w, C w → w.heap[g]? = some (.cells (idA n) 24 (0, 0)))
    (h : K (A.put o.dst (.agg (idA n)))) : o.quiet Tryz.prog A C K :=
  quiet_load 24 x ho g 0 16 hx 24 (idA n) (0, 0) _ hg Tryz.underlying24 rfl size23 (by rw [idA_size]; omega) _ (extract_id n) h
theorem run_eqlop_id {op : BinOp} (x y : Operand) (t2 : TypeId) (ho : o.op = .binOp op 24 x y t2) (n m : Nat) (hx : A.eval x = .agg (idA n)) (hy : A.eval y = .agg (idA m)) (v : Value) (hv : ∀ w, (binOp op 24 (.agg (idA n)) (.agg (idA m))).run Tryz.prog w = .ok v w) (w : World) :
    (execOp A.eval o).run Tryz.prog w = .ok (.value v) w := by
  unfold execOp
  simp only [ho, hx, hy, Sem.run_bind, eqGuard_id, Result.andThen_ok, hv, Sem.run_pure]
theorem wq_load_id {C : World → Prop} {Q : Act → Prop} {rest : List Oper} (hw : Region.wanted o (yielded ops A.tmps) = true) (x : Operand) (ho : o.op = .load 24 x) (g : Nat) (hx : A.eval x = .pointer (some ⟨g, 0, none⟩)) (n : Nat) (hg : ∀ w, C w → w.heap[g]? = some (.cells (idA n) 24 (0, 0)))
    (h : wpQuiet Tryz.prog ops C Q rest (A.put o.dst (.agg (idA n)))) : wpQuiet Tryz.prog ops C Q (o :: rest) A :=
  BigFrame.wpQuiet_want hw fun _ hK => quiet_load_id n x ho g hx hg (hK _ h)
end
end Go.Proofs.YtmpnepbmpmkmkaaGreat
namespace Go.Proofs.YtmpnepbmpmkmkaaGreat
open Go.RowKit
theorem wpList_stop {P : Program} {ops : Array Oper} {rest : List Oper} {o : Oper} {a : Act} {w : World} {Q : Exit → Act → World → Prop} {s x : Operand} {t1 t2 : TypeId} (_ho : o.op = .call { callee := .builtin .append, args := #[s, x], argTypes := #[t1, t2] }) (h : Stop (wpList P ops Q (o :: rest) a w)) : wpList P ops Q (o :: rest) a w := h.out
section
variable {P : Program} {o : Oper} {A : Act} {w : World}
theorem wrap_in (r : Int) (h1 : -9223372036854775808 ≤ r) (h2 : r < 9223372036854775808) : IntKind.i64.wrap r = r := by
  simp [IntKind.wrap, IntKind.bits, IntKind.signed]
  omega
end
theorem OB.one {w : World} {g : Nat} {e : TypeId} {k : IntKind} {z : Nat} {B : Nat} (hg : w.heap[g]? = some (.cells #[.int k (z : Int)] e (0, 0))) (hB : B ≤ g) (hz : (z : Int) ≤ k.max) : OB w e k B (some ⟨g, 0, none⟩) 1 [z] :=
  OB.made hg hB (Nat.le_refl _) (by decide) rfl rfl (fun x hx => by simp at hx; subst hx; exact hz)
end Go.Proofs.YtmpnepbmpmkmkaaGreat
