/- Wire: a number is read. -/
import Derived.Test.YtgfnjekpafempaaEB5
namespace Go.Proofs.Ytgfnjekpafempaa
open Go.RowKit
section
variable {P : Program} {o : Oper} {A : Act}
/-- A row, cut at its front: what the operation yields. -/
structure CutOK (P : Program) (t : TypeId) (ao : Option Addr) (n cap i : Nat) (ao1 : Option Addr) (n1 cap1 : Nat) : Prop where
  run : ∀ {o : Oper} {A : Act} (x y : Operand), o.op = .slice t x (some y) none none → A.eval x = .slice ao n cap → A.eval y = .int .i64 (i : Int) → ∀ w, (execOp A.eval o).run P w = .ok (.value (.slice ao1 n1 cap1)) w
theorem NC.cut {t e : TypeId} {k : IntKind} {b : Nat} (T : NumT P t e k b) {w : World} {ao : Option Addr} {cap : Nat} {l : List Nat} (h : NC w k ao cap l) (i : Nat) (hi : i ≤ l.length) :
    ∃ ao1 cap1 L, Shut (L = l.drop i) ∧ NC w k ao1 cap1 L ∧ CutOK P t ao l.length cap i ao1 L.length cap1 :=
  ⟨_, _, l.drop i, ⟨rfl⟩, h.drop i hi, ⟨fun x y ho hx hy w => by rw [run_cut T x y ho ao l.length cap i hx hy hi w, List.length_drop]⟩⟩
theorem run_shl8 (t t2 : TypeId) (x y : Operand) (ho : o.op = .binOp .shl t x y t2) (n : Nat) (hn : n < 72057594037927936) (ky : IntKind) (hx : A.eval x = .int .u64 (n : Int)) (hy : A.eval y = .int ky 8) (w : World) : (execOp A.eval o).run P w = .ok (.value (.int .u64 ((n * 256 : Nat) : Int))) w := by
  refine run_binop .shl t x y t2 ho _ _ _ hx hy (by simp [eqGuard]) ?_
  have h2 : IntKind.u64.wrap ((n : Int) * 2 ^ min 8 IntKind.u64.bits) = ((n * 256 : Nat) : Int) := by
    have : min 8 IntKind.u64.bits = 8 := rfl
    rw [this]
    simp [IntKind.wrap, IntKind.bits, IntKind.signed]
    omega
  simp [binOp, Op.shift, h2]
theorem or_nat (a b : Nat) (ha : a < 72057594037927936) (hb : b < 256) : (BitVec.ofInt 64 ((a * 256 : Nat) : Int) ||| BitVec.ofInt 64 (b : Int)).toNat = a * 256 + b := by
  rw [BitVec.ofInt_natCast, BitVec.ofInt_natCast, BitVec.toNat_or, BitVec.toNat_ofNat, BitVec.toNat_ofNat, Nat.mod_eq_of_lt (by omega), Nat.mod_eq_of_lt (by omega)]
  have := Nat.shiftLeft_add_eq_or_of_lt (b := b) (i := 8) (by omega) a
  rw [Nat.shiftLeft_eq, show (2 : Nat) ^ 8 = 256 from rfl] at this
  omega
theorem run_or8 (t t2 : TypeId) (x y : Operand) (ho : o.op = .binOp .or t x y t2) (a b : Nat) (ha : a < 72057594037927936) (hb : b < 256) (hx : A.eval x = .int .u64 ((a * 256 : Nat) : Int)) (hy : A.eval y = .int .u64 (b : Int)) (r : Nat) (hr : a * 256 + b = r) (w : World) : (execOp A.eval o).run P w = .ok (.value (.int .u64 (r : Int))) w := by
  refine run_binop .or t x y t2 ho _ _ _ hx hy (by simp [eqGuard]) ?_
  subst hr
  have h2 : IntKind.u64.wrap (((BitVec.ofInt 64 ((a * 256 : Nat) : Int) ||| BitVec.ofInt 64 (b : Int)).toNat : Nat) : Int) = ((a * 256 + b : Nat) : Int) := by
    rw [or_nat a b ha hb]
    simp [IntKind.wrap, IntKind.bits, IntKind.signed]
    omega
  have e : IntKind.u64.bits = 64 := rfl
  show (Op.intBits .or .u64 ((a * 256 : Nat) : Int) (b : Int)).run P w = _
  unfold Op.intBits
  simp only [Sem.run_pure]
  exact congrArg (fun z => Result.ok (Value.int .u64 z) w) h2
theorem run_gtr64 (x y : Operand) (t2 : TypeId) (ho : o.op = .binOp .gtr 3 x y t2) (a b : Int) (hx : A.eval x = .int .i64 a) (hy : A.eval y = .int .i64 b) (p : Bool) (hp : decide (b < a) = p) (w : World) : (execOp A.eval o).run P w = .ok (.value (.bool p)) w := by
  subst hp
  refine run_binop .gtr 3 x y t2 ho _ _ _ hx hy (by simp [eqGuard]) ?_
  simp [go_sem]
end
theorem conv53 {o : Oper} {A : Act} (x : Operand) (ho : o.op = .convert 5 3 x) (n : Nat) (hn : n < 256) (hx : A.eval x = .int .u8 (n : Int)) (w : World) : (execOp A.eval o).run Try.prog w = .ok (.value (.int .i64 (n : Int))) w := by
  have h := wrap_in (n : Int) (by omega) (by omega)
  unfold execOp
  simp only [ho, hx]
  simp [convert, go_sem, Conv.intToInt, h]
theorem conv525 {o : Oper} {A : Act} (x : Operand) (ho : o.op = .convert 5 75 x) (n : Nat) (hn : n < 256) (hx : A.eval x = .int .u8 (n : Int)) (w : World) : (execOp A.eval o).run Try.prog w = .ok (.value (.int .u64 (n : Int))) w := by
  have h : IntKind.u64.wrap (n : Int) = (n : Int) := by
    simp [IntKind.wrap, IntKind.bits, IntKind.signed]
    omega
  unfold execOp
  simp only [ho, hx]
  simp [go_sem, h]
theorem within_any (ao : Option Addr) (n cap : Nat) (i : Int) (w : World) : Calls Try.prog 78 #[.slice ao n cap, .int .i64 i] w fun e w' => e = .returned (.bool (decide (0 ≤ i ∧ i ≤ (n : Int)))) ∧ w' = w := by
  by_cases h : 0 ≤ i
  · go_enter Try.func78, Try.ntmps78
    go_wp2
    go_ret
    refine ⟨?_, rfl⟩
    simp [h]
  · go_enter Try.func78, Try.ntmps78
    go_wp2
    go_ret
    refine ⟨?_, rfl⟩
    simp
    omega
end Go.Proofs.Ytgfnjekpafempaa
