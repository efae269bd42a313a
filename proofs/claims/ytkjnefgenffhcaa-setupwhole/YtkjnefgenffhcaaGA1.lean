/- Laws of earlier stages, turned to this program (A1). -/
import Derived.Test.YtkjnefgenffhcaaGQ1
import Derived.Test.YtkjnefgenffhcaaGFr5
namespace Go.Proofs.Ytkjnefgenffhcaa
open Go.RowKit
section
variable {P : Program} {o : Oper} {A : Act}
/-- A row, cut at its front: what the operation yields. -/
structure CutOK (P : Program) (t : TypeId) (ao : Option Addr) (n cap i : Nat) (ao1 : Option Addr) (n1 cap1 : Nat) : Prop where
  run : ∀ {o : Oper} {A : Act} (x y : Operand), o.op = .slice t x (some y) none none → A.eval x = .slice ao n cap → A.eval y = .int .i64 (i : Int) → ∀ w, (execOp A.eval o).run P w = .ok (.value (.slice ao1 n1 cap1)) w
theorem NC.cut {t e : TypeId} {k : IntKind} {b : Nat} (T : NumT P t e k b) {w : World} {ao : Option Addr} {cap : Nat} {l : List Nat} (h : NC w k ao cap l) (i : Nat) (hi : i ≤ l.length) :
    ∃ ao1 cap1 L, Shut (L = l.drop i) ∧ NC w k ao1 cap1 L ∧ CutOK P t ao l.length cap i ao1 L.length cap1 :=
  ⟨_, _, l.drop i, ⟨rfl⟩, h.drop i hi, ⟨fun x y ho hx hy w => by rw [run_cut T x y ho ao l.length cap i hx hy hi w, List.length_drop]⟩⟩
end
def c24 (x0 : Nat → Nat) : Array Value := #[.int .u8 ((x0 0 : Nat) : Int), .int .u8 ((x0 1 : Nat) : Int), .int .u8 ((x0 2 : Nat) : Int), .int .u8 ((x0 3 : Nat) : Int), .int .u8 ((x0 4 : Nat) : Int), .int .u8 ((x0 5 : Nat) : Int), .int .u8 ((x0 6 : Nat) : Int), .int .u8 ((x0 7 : Nat) : Int), .int .u8 ((x0 8 : Nat) : Int), .int .u8 ((x0 9 : Nat) : Int), .int .u8 ((x0 10 : Nat) : Int), .int .u8 ((x0 11 : Nat) : Int), .int .u8 ((x0 12 : Nat) : Int), .int .u8 ((x0 13 : Nat) : Int), .int .u8 ((x0 14 : Nat) : Int), .int .u8 ((x0 15 : Nat) : Int)]
theorem si24 : (Try.prog.info? 24).map (·.size) = some 16 := by kernel_rfl
def c31 (x0 : Nat → Nat) (x1 : Int) : Array Value := #[.int .u8 ((x0 0 : Nat) : Int), .int .u8 ((x0 1 : Nat) : Int), .int .u8 ((x0 2 : Nat) : Int), .int .u8 ((x0 3 : Nat) : Int), .int .u8 ((x0 4 : Nat) : Int), .int .u8 ((x0 5 : Nat) : Int), .int .u8 ((x0 6 : Nat) : Int), .int .u8 ((x0 7 : Nat) : Int), .int .u8 ((x0 8 : Nat) : Int), .int .u8 ((x0 9 : Nat) : Int), .int .u8 ((x0 10 : Nat) : Int), .int .u8 ((x0 11 : Nat) : Int), .int .u8 ((x0 12 : Nat) : Int), .int .u8 ((x0 13 : Nat) : Int), .int .u8 ((x0 14 : Nat) : Int), .int .u8 ((x0 15 : Nat) : Int), .int .i64 x1]
theorem si31a : (Try.prog.info? 31).map (·.size) = some 17 := by kernel_rfl
def c56 (x0 : Int) (x1 : Int) : Array Value := #[.int .i64 x0, .int .i64 x1]
theorem si56 : (Try.prog.info? 56).map (·.size) = some 2 := by kernel_rfl
def c59 (x0 : Int) (x1 : Nat → Nat) : Array Value := #[.int .i64 x0, .int .u8 ((x1 0 : Nat) : Int), .int .u8 ((x1 1 : Nat) : Int), .int .u8 ((x1 2 : Nat) : Int), .int .u8 ((x1 3 : Nat) : Int), .int .u8 ((x1 4 : Nat) : Int), .int .u8 ((x1 5 : Nat) : Int), .int .u8 ((x1 6 : Nat) : Int), .int .u8 ((x1 7 : Nat) : Int), .int .u8 ((x1 8 : Nat) : Int), .int .u8 ((x1 9 : Nat) : Int), .int .u8 ((x1 10 : Nat) : Int), .int .u8 ((x1 11 : Nat) : Int), .int .u8 ((x1 12 : Nat) : Int), .int .u8 ((x1 13 : Nat) : Int), .int .u8 ((x1 14 : Nat) : Int), .int .u8 ((x1 15 : Nat) : Int)]
theorem si59 : (Try.prog.info? 59).map (·.size) = some 17 := by kernel_rfl
def c62 (x0 : Nat → Nat) (x1 : Int) (x2 : Nat → Nat) (x3 : Sl) : Array Value := #[.int .u8 ((x0 0 : Nat) : Int), .int .u8 ((x0 1 : Nat) : Int), .int .u8 ((x0 2 : Nat) : Int), .int .u8 ((x0 3 : Nat) : Int), .int .u8 ((x0 4 : Nat) : Int), .int .u8 ((x0 5 : Nat) : Int), .int .u8 ((x0 6 : Nat) : Int), .int .u8 ((x0 7 : Nat) : Int), .int .u8 ((x0 8 : Nat) : Int), .int .u8 ((x0 9 : Nat) : Int), .int .u8 ((x0 10 : Nat) : Int), .int .u8 ((x0 11 : Nat) : Int), .int .u8 ((x0 12 : Nat) : Int), .int .u8 ((x0 13 : Nat) : Int), .int .u8 ((x0 14 : Nat) : Int), .int .u8 ((x0 15 : Nat) : Int), .int .i64 x1, .int .u8 ((x2 0 : Nat) : Int), .int .u8 ((x2 1 : Nat) : Int), .int .u8 ((x2 2 : Nat) : Int), .int .u8 ((x2 3 : Nat) : Int), .int .u8 ((x2 4 : Nat) : Int), .int .u8 ((x2 5 : Nat) : Int), .int .u8 ((x2 6 : Nat) : Int), .int .u8 ((x2 7 : Nat) : Int), .int .u8 ((x2 8 : Nat) : Int), .int .u8 ((x2 9 : Nat) : Int), .int .u8 ((x2 10 : Nat) : Int), .int .u8 ((x2 11 : Nat) : Int), .int .u8 ((x2 12 : Nat) : Int), .int .u8 ((x2 13 : Nat) : Int), .int .u8 ((x2 14 : Nat) : Int), .int .u8 ((x2 15 : Nat) : Int), .slice x3.ao x3.n x3.cap]
theorem si62 : (Try.prog.info? 62).map (·.size) = some 34 := by kernel_rfl
def c64 (x0 : Int) (x1 : Nat → Nat) (x2 : Int) (x3 : Bool) (x4 : Nat → Nat) (x5 : Nat → Nat) (x6 : Int) (x7 : Int) (x8 : Int) (x9 : Int) (x10 : Int) (x11 : Sl) (x12 : Sl) (x13 : Nat → Nat) (x14 : Int) (x15 : Nat → Nat) (x16 : Sl) (x17 : Int) (x18 : Int) (x19 : Sl) : Array Value := #[.int .i64 x0, .int .u8 ((x1 0 : Nat) : Int), .int .u8 ((x1 1 : Nat) : Int), .int .u8 ((x1 2 : Nat) : Int), .int .u8 ((x1 3 : Nat) : Int), .int .u8 ((x1 4 : Nat) : Int), .int .u8 ((x1 5 : Nat) : Int), .int .u8 ((x1 6 : Nat) : Int), .int .u8 ((x1 7 : Nat) : Int), .int .u8 ((x1 8 : Nat) : Int), .int .u8 ((x1 9 : Nat) : Int), .int .u8 ((x1 10 : Nat) : Int), .int .u8 ((x1 11 : Nat) : Int), .int .u8 ((x1 12 : Nat) : Int), .int .u8 ((x1 13 : Nat) : Int), .int .u8 ((x1 14 : Nat) : Int), .int .u8 ((x1 15 : Nat) : Int), .int .i64 x2, .bool x3, .int .u8 ((x4 0 : Nat) : Int), .int .u8 ((x4 1 : Nat) : Int), .int .u8 ((x4 2 : Nat) : Int), .int .u8 ((x4 3 : Nat) : Int), .int .u8 ((x4 4 : Nat) : Int), .int .u8 ((x4 5 : Nat) : Int), .int .u8 ((x4 6 : Nat) : Int), .int .u8 ((x4 7 : Nat) : Int), .int .u8 ((x4 8 : Nat) : Int), .int .u8 ((x4 9 : Nat) : Int), .int .u8 ((x4 10 : Nat) : Int), .int .u8 ((x4 11 : Nat) : Int), .int .u8 ((x4 12 : Nat) : Int), .int .u8 ((x4 13 : Nat) : Int), .int .u8 ((x4 14 : Nat) : Int), .int .u8 ((x4 15 : Nat) : Int), .int .u8 ((x5 0 : Nat) : Int), .int .u8 ((x5 1 : Nat) : Int), .int .u8 ((x5 2 : Nat) : Int), .int .u8 ((x5 3 : Nat) : Int), .int .u8 ((x5 4 : Nat) : Int), .int .u8 ((x5 5 : Nat) : Int), .int .u8 ((x5 6 : Nat) : Int), .int .u8 ((x5 7 : Nat) : Int), .int .u8 ((x5 8 : Nat) : Int), .int .u8 ((x5 9 : Nat) : Int), .int .u8 ((x5 10 : Nat) : Int), .int .u8 ((x5 11 : Nat) : Int), .int .u8 ((x5 12 : Nat) : Int), .int .u8 ((x5 13 : Nat) : Int), .int .u8 ((x5 14 : Nat) : Int), .int .u8 ((x5 15 : Nat) : Int), .int .i64 x6, .int .i64 x7, .int .i64 x8, .int .i64 x9, .int .i64 x10, .slice x11.ao x11.n x11.cap, .slice x12.ao x12.n x12.cap, .int .u8 ((x13 0 : Nat) : Int), .int .u8 ((x13 1 : Nat) : Int), .int .u8 ((x13 2 : Nat) : Int), .int .u8 ((x13 3 : Nat) : Int), .int .u8 ((x13 4 : Nat) : Int), .int .u8 ((x13 5 : Nat) : Int), .int .u8 ((x13 6 : Nat) : Int), .int .u8 ((x13 7 : Nat) : Int), .int .u8 ((x13 8 : Nat) : Int), .int .u8 ((x13 9 : Nat) : Int), .int .u8 ((x13 10 : Nat) : Int), .int .u8 ((x13 11 : Nat) : Int), .int .u8 ((x13 12 : Nat) : Int), .int .u8 ((x13 13 : Nat) : Int), .int .u8 ((x13 14 : Nat) : Int), .int .u8 ((x13 15 : Nat) : Int), .int .i64 x14, .int .u8 ((x15 0 : Nat) : Int), .int .u8 ((x15 1 : Nat) : Int), .int .u8 ((x15 2 : Nat) : Int), .int .u8 ((x15 3 : Nat) : Int), .int .u8 ((x15 4 : Nat) : Int), .int .u8 ((x15 5 : Nat) : Int), .int .u8 ((x15 6 : Nat) : Int), .int .u8 ((x15 7 : Nat) : Int), .int .u8 ((x15 8 : Nat) : Int), .int .u8 ((x15 9 : Nat) : Int), .int .u8 ((x15 10 : Nat) : Int), .int .u8 ((x15 11 : Nat) : Int), .int .u8 ((x15 12 : Nat) : Int), .int .u8 ((x15 13 : Nat) : Int), .int .u8 ((x15 14 : Nat) : Int), .int .u8 ((x15 15 : Nat) : Int), .slice x16.ao x16.n x16.cap, .int .i64 x17, .int .i64 x18, .slice x19.ao x19.n x19.cap]
theorem si64 : (Try.prog.info? 64).map (·.size) = some 95 := by kernel_rfl
theorem zv64 (w : World) : (zeroValue 64).run Try.prog w = .ok (.agg (c64 0 zF 0 false zF zF 0 0 0 0 0 Sl.nil Sl.nil zF 0 zF Sl.nil 0 0 Sl.nil)) w := by kernel_rfl
def c131 (x0 : Int) (x1 : Int) (x2 : Int) (x3 : Int) (x4 : Nat → Nat) : Array Value := #[.int .i64 x0, .int .i64 x1, .int .i64 x2, .int .i64 x3, .int .u8 ((x4 0 : Nat) : Int), .int .u8 ((x4 1 : Nat) : Int), .int .u8 ((x4 2 : Nat) : Int), .int .u8 ((x4 3 : Nat) : Int), .int .u8 ((x4 4 : Nat) : Int), .int .u8 ((x4 5 : Nat) : Int), .int .u8 ((x4 6 : Nat) : Int), .int .u8 ((x4 7 : Nat) : Int), .int .u8 ((x4 8 : Nat) : Int), .int .u8 ((x4 9 : Nat) : Int), .int .u8 ((x4 10 : Nat) : Int), .int .u8 ((x4 11 : Nat) : Int), .int .u8 ((x4 12 : Nat) : Int), .int .u8 ((x4 13 : Nat) : Int), .int .u8 ((x4 14 : Nat) : Int), .int .u8 ((x4 15 : Nat) : Int)]
theorem zv131 (w : World) : (zeroValue 131).run Try.prog w = .ok (.agg (c131 0 0 0 0 zF)) w := by kernel_rfl
def c133 (x0 : Int) (x1 : Int) (x2 : Int) (x3 : Int) (x4 : Int) (x5 : Sl) : Array Value := #[.int .i64 x0, .int .i64 x1, .int .i64 x2, .int .i64 x3, .int .i64 x4, .slice x5.ao x5.n x5.cap]
theorem zv133 (w : World) : (zeroValue 133).run Try.prog w = .ok (.agg (c133 0 0 0 0 0 Sl.nil)) w := by kernel_rfl
def c135 (x0 : Int) (x1 : Int) (x2 : Int) (x3 : Int) (x4 : Int) : Array Value := #[.int .i64 x0, .int .i64 x1, .int .i64 x2, .int .i64 x3, .int .i64 x4]
theorem zv135 (w : World) : (zeroValue 135).run Try.prog w = .ok (.agg (c135 0 0 0 0 0)) w := by kernel_rfl
def c88 (x0 : Nat → Nat) (x1 : Int) (x2 : Nat → Nat) (x3 : Nat → Nat) (x4 : Sl) : Array Value := #[.int .u8 ((x0 0 : Nat) : Int), .int .u8 ((x0 1 : Nat) : Int), .int .u8 ((x0 2 : Nat) : Int), .int .u8 ((x0 3 : Nat) : Int), .int .u8 ((x0 4 : Nat) : Int), .int .u8 ((x0 5 : Nat) : Int), .int .u8 ((x0 6 : Nat) : Int), .int .u8 ((x0 7 : Nat) : Int), .int .u8 ((x0 8 : Nat) : Int), .int .u8 ((x0 9 : Nat) : Int), .int .u8 ((x0 10 : Nat) : Int), .int .u8 ((x0 11 : Nat) : Int), .int .u8 ((x0 12 : Nat) : Int), .int .u8 ((x0 13 : Nat) : Int), .int .u8 ((x0 14 : Nat) : Int), .int .u8 ((x0 15 : Nat) : Int), .int .i64 x1, .int .u8 ((x2 0 : Nat) : Int), .int .u8 ((x2 1 : Nat) : Int), .int .u8 ((x2 2 : Nat) : Int), .int .u8 ((x2 3 : Nat) : Int), .int .u8 ((x2 4 : Nat) : Int), .int .u8 ((x2 5 : Nat) : Int), .int .u8 ((x2 6 : Nat) : Int), .int .u8 ((x2 7 : Nat) : Int), .int .u8 ((x2 8 : Nat) : Int), .int .u8 ((x2 9 : Nat) : Int), .int .u8 ((x2 10 : Nat) : Int), .int .u8 ((x2 11 : Nat) : Int), .int .u8 ((x2 12 : Nat) : Int), .int .u8 ((x2 13 : Nat) : Int), .int .u8 ((x2 14 : Nat) : Int), .int .u8 ((x2 15 : Nat) : Int), .int .u8 ((x3 0 : Nat) : Int), .int .u8 ((x3 1 : Nat) : Int), .int .u8 ((x3 2 : Nat) : Int), .int .u8 ((x3 3 : Nat) : Int), .int .u8 ((x3 4 : Nat) : Int), .int .u8 ((x3 5 : Nat) : Int), .int .u8 ((x3 6 : Nat) : Int), .int .u8 ((x3 7 : Nat) : Int), .int .u8 ((x3 8 : Nat) : Int), .int .u8 ((x3 9 : Nat) : Int), .int .u8 ((x3 10 : Nat) : Int), .int .u8 ((x3 11 : Nat) : Int), .int .u8 ((x3 12 : Nat) : Int), .int .u8 ((x3 13 : Nat) : Int), .int .u8 ((x3 14 : Nat) : Int), .int .u8 ((x3 15 : Nat) : Int), .slice x4.ao x4.n x4.cap]
theorem zv88 (w : World) : (zeroValue 88).run Try.prog w = .ok (.agg (c88 zF 0 zF zF Sl.nil)) w := by kernel_rfl
def c126 (x0 : Nat → Nat) (x1 : Int) : Array Value := #[.int .u8 ((x0 0 : Nat) : Int), .int .u8 ((x0 1 : Nat) : Int), .int .u8 ((x0 2 : Nat) : Int), .int .u8 ((x0 3 : Nat) : Int), .int .u8 ((x0 4 : Nat) : Int), .int .u8 ((x0 5 : Nat) : Int), .int .u8 ((x0 6 : Nat) : Int), .int .u8 ((x0 7 : Nat) : Int), .int .u8 ((x0 8 : Nat) : Int), .int .u8 ((x0 9 : Nat) : Int), .int .u8 ((x0 10 : Nat) : Int), .int .u8 ((x0 11 : Nat) : Int), .int .u8 ((x0 12 : Nat) : Int), .int .u8 ((x0 13 : Nat) : Int), .int .u8 ((x0 14 : Nat) : Int), .int .u8 ((x0 15 : Nat) : Int), .int .i64 x1]
theorem zv126 (w : World) : (zeroValue 126).run Try.prog w = .ok (.agg (c126 zF 0)) w := by kernel_rfl
def c137 (x0 : Nat → Nat) (x1 : Int) (x2 : Bool) : Array Value := #[.int .u8 ((x0 0 : Nat) : Int), .int .u8 ((x0 1 : Nat) : Int), .int .u8 ((x0 2 : Nat) : Int), .int .u8 ((x0 3 : Nat) : Int), .int .u8 ((x0 4 : Nat) : Int), .int .u8 ((x0 5 : Nat) : Int), .int .u8 ((x0 6 : Nat) : Int), .int .u8 ((x0 7 : Nat) : Int), .int .u8 ((x0 8 : Nat) : Int), .int .u8 ((x0 9 : Nat) : Int), .int .u8 ((x0 10 : Nat) : Int), .int .u8 ((x0 11 : Nat) : Int), .int .u8 ((x0 12 : Nat) : Int), .int .u8 ((x0 13 : Nat) : Int), .int .u8 ((x0 14 : Nat) : Int), .int .u8 ((x0 15 : Nat) : Int), .int .i64 x1, .bool x2]
theorem zv137 (w : World) : (zeroValue 137).run Try.prog w = .ok (.agg (c137 zF 0 false)) w := by kernel_rfl
def c139 (x0 : Nat → Nat) (x1 : Int) (x2 : Bool) (x3 : Sl) : Array Value := #[.int .u8 ((x0 0 : Nat) : Int), .int .u8 ((x0 1 : Nat) : Int), .int .u8 ((x0 2 : Nat) : Int), .int .u8 ((x0 3 : Nat) : Int), .int .u8 ((x0 4 : Nat) : Int), .int .u8 ((x0 5 : Nat) : Int), .int .u8 ((x0 6 : Nat) : Int), .int .u8 ((x0 7 : Nat) : Int), .int .u8 ((x0 8 : Nat) : Int), .int .u8 ((x0 9 : Nat) : Int), .int .u8 ((x0 10 : Nat) : Int), .int .u8 ((x0 11 : Nat) : Int), .int .u8 ((x0 12 : Nat) : Int), .int .u8 ((x0 13 : Nat) : Int), .int .u8 ((x0 14 : Nat) : Int), .int .u8 ((x0 15 : Nat) : Int), .int .i64 x1, .bool x2, .slice x3.ao x3.n x3.cap]
theorem zv139 (w : World) : (zeroValue 139).run Try.prog w = .ok (.agg (c139 zF 0 false Sl.nil)) w := by kernel_rfl
def c141 (x0 : Nat → Nat) (x1 : Nat → Nat) (x2 : Int) (x3 : Nat → Nat) (x4 : Int) (x5 : Bool) (x6 : Sl) : Array Value := #[.int .u8 ((x0 0 : Nat) : Int), .int .u8 ((x0 1 : Nat) : Int), .int .u8 ((x0 2 : Nat) : Int), .int .u8 ((x0 3 : Nat) : Int), .int .u8 ((x0 4 : Nat) : Int), .int .u8 ((x0 5 : Nat) : Int), .int .u8 ((x0 6 : Nat) : Int), .int .u8 ((x0 7 : Nat) : Int), .int .u8 ((x0 8 : Nat) : Int), .int .u8 ((x0 9 : Nat) : Int), .int .u8 ((x0 10 : Nat) : Int), .int .u8 ((x0 11 : Nat) : Int), .int .u8 ((x0 12 : Nat) : Int), .int .u8 ((x0 13 : Nat) : Int), .int .u8 ((x0 14 : Nat) : Int), .int .u8 ((x0 15 : Nat) : Int), .int .u8 ((x1 0 : Nat) : Int), .int .u8 ((x1 1 : Nat) : Int), .int .u8 ((x1 2 : Nat) : Int), .int .u8 ((x1 3 : Nat) : Int), .int .u8 ((x1 4 : Nat) : Int), .int .u8 ((x1 5 : Nat) : Int), .int .u8 ((x1 6 : Nat) : Int), .int .u8 ((x1 7 : Nat) : Int), .int .u8 ((x1 8 : Nat) : Int), .int .u8 ((x1 9 : Nat) : Int), .int .u8 ((x1 10 : Nat) : Int), .int .u8 ((x1 11 : Nat) : Int), .int .u8 ((x1 12 : Nat) : Int), .int .u8 ((x1 13 : Nat) : Int), .int .u8 ((x1 14 : Nat) : Int), .int .u8 ((x1 15 : Nat) : Int), .int .i64 x2, .int .u8 ((x3 0 : Nat) : Int), .int .u8 ((x3 1 : Nat) : Int), .int .u8 ((x3 2 : Nat) : Int), .int .u8 ((x3 3 : Nat) : Int), .int .u8 ((x3 4 : Nat) : Int), .int .u8 ((x3 5 : Nat) : Int), .int .u8 ((x3 6 : Nat) : Int), .int .u8 ((x3 7 : Nat) : Int), .int .u8 ((x3 8 : Nat) : Int), .int .u8 ((x3 9 : Nat) : Int), .int .u8 ((x3 10 : Nat) : Int), .int .u8 ((x3 11 : Nat) : Int), .int .u8 ((x3 12 : Nat) : Int), .int .u8 ((x3 13 : Nat) : Int), .int .u8 ((x3 14 : Nat) : Int), .int .u8 ((x3 15 : Nat) : Int), .int .i64 x4, .bool x5, .slice x6.ao x6.n x6.cap]
theorem zv141 (w : World) : (zeroValue 141).run Try.prog w = .ok (.agg (c141 zF zF 0 zF 0 false Sl.nil)) w := by kernel_rfl
def c143 (x0 : Nat → Nat) (x1 : Int) : Array Value := #[.int .u8 ((x0 0 : Nat) : Int), .int .u8 ((x0 1 : Nat) : Int), .int .u8 ((x0 2 : Nat) : Int), .int .u8 ((x0 3 : Nat) : Int), .int .u8 ((x0 4 : Nat) : Int), .int .u8 ((x0 5 : Nat) : Int), .int .u8 ((x0 6 : Nat) : Int), .int .u8 ((x0 7 : Nat) : Int), .int .u8 ((x0 8 : Nat) : Int), .int .u8 ((x0 9 : Nat) : Int), .int .u8 ((x0 10 : Nat) : Int), .int .u8 ((x0 11 : Nat) : Int), .int .u8 ((x0 12 : Nat) : Int), .int .u8 ((x0 13 : Nat) : Int), .int .u8 ((x0 14 : Nat) : Int), .int .u8 ((x0 15 : Nat) : Int), .int .i64 x1]
theorem zv143 (w : World) : (zeroValue 143).run Try.prog w = .ok (.agg (c143 zF 0)) w := by kernel_rfl
def c145 (x0 : Nat → Nat) (x1 : Nat → Nat) (x2 : Int) (x3 : Int) (x4 : Int) (x5 : Nat → Nat) (x6 : Int) (x7 : Nat → Nat) (x8 : Sl) (x9 : Sl) : Array Value := #[.int .u8 ((x0 0 : Nat) : Int), .int .u8 ((x0 1 : Nat) : Int), .int .u8 ((x0 2 : Nat) : Int), .int .u8 ((x0 3 : Nat) : Int), .int .u8 ((x0 4 : Nat) : Int), .int .u8 ((x0 5 : Nat) : Int), .int .u8 ((x0 6 : Nat) : Int), .int .u8 ((x0 7 : Nat) : Int), .int .u8 ((x0 8 : Nat) : Int), .int .u8 ((x0 9 : Nat) : Int), .int .u8 ((x0 10 : Nat) : Int), .int .u8 ((x0 11 : Nat) : Int), .int .u8 ((x0 12 : Nat) : Int), .int .u8 ((x0 13 : Nat) : Int), .int .u8 ((x0 14 : Nat) : Int), .int .u8 ((x0 15 : Nat) : Int), .int .u8 ((x1 0 : Nat) : Int), .int .u8 ((x1 1 : Nat) : Int), .int .u8 ((x1 2 : Nat) : Int), .int .u8 ((x1 3 : Nat) : Int), .int .u8 ((x1 4 : Nat) : Int), .int .u8 ((x1 5 : Nat) : Int), .int .u8 ((x1 6 : Nat) : Int), .int .u8 ((x1 7 : Nat) : Int), .int .u8 ((x1 8 : Nat) : Int), .int .u8 ((x1 9 : Nat) : Int), .int .u8 ((x1 10 : Nat) : Int), .int .u8 ((x1 11 : Nat) : Int), .int .u8 ((x1 12 : Nat) : Int), .int .u8 ((x1 13 : Nat) : Int), .int .u8 ((x1 14 : Nat) : Int), .int .u8 ((x1 15 : Nat) : Int), .int .i64 x2, .int .i64 x3, .int .i64 x4, .int .u8 ((x5 0 : Nat) : Int), .int .u8 ((x5 1 : Nat) : Int), .int .u8 ((x5 2 : Nat) : Int), .int .u8 ((x5 3 : Nat) : Int), .int .u8 ((x5 4 : Nat) : Int), .int .u8 ((x5 5 : Nat) : Int), .int .u8 ((x5 6 : Nat) : Int), .int .u8 ((x5 7 : Nat) : Int), .int .u8 ((x5 8 : Nat) : Int), .int .u8 ((x5 9 : Nat) : Int), .int .u8 ((x5 10 : Nat) : Int), .int .u8 ((x5 11 : Nat) : Int), .int .u8 ((x5 12 : Nat) : Int), .int .u8 ((x5 13 : Nat) : Int), .int .u8 ((x5 14 : Nat) : Int), .int .u8 ((x5 15 : Nat) : Int), .int .i64 x6, .int .u8 ((x7 0 : Nat) : Int), .int .u8 ((x7 1 : Nat) : Int), .int .u8 ((x7 2 : Nat) : Int), .int .u8 ((x7 3 : Nat) : Int), .int .u8 ((x7 4 : Nat) : Int), .int .u8 ((x7 5 : Nat) : Int), .int .u8 ((x7 6 : Nat) : Int), .int .u8 ((x7 7 : Nat) : Int), .int .u8 ((x7 8 : Nat) : Int), .int .u8 ((x7 9 : Nat) : Int), .int .u8 ((x7 10 : Nat) : Int), .int .u8 ((x7 11 : Nat) : Int), .int .u8 ((x7 12 : Nat) : Int), .int .u8 ((x7 13 : Nat) : Int), .int .u8 ((x7 14 : Nat) : Int), .int .u8 ((x7 15 : Nat) : Int), .slice x8.ao x8.n x8.cap, .slice x9.ao x9.n x9.cap]
theorem zv145 (w : World) : (zeroValue 145).run Try.prog w = .ok (.agg (c145 zF zF 0 0 0 zF 0 zF Sl.nil Sl.nil)) w := by kernel_rfl
def c147 (x0 : Nat → Nat) (x1 : Int) (x2 : Bool) (x3 : Nat → Nat) (x4 : Int) (x5 : Nat → Nat) (x6 : Sl) : Array Value := #[.int .u8 ((x0 0 : Nat) : Int), .int .u8 ((x0 1 : Nat) : Int), .int .u8 ((x0 2 : Nat) : Int), .int .u8 ((x0 3 : Nat) : Int), .int .u8 ((x0 4 : Nat) : Int), .int .u8 ((x0 5 : Nat) : Int), .int .u8 ((x0 6 : Nat) : Int), .int .u8 ((x0 7 : Nat) : Int), .int .u8 ((x0 8 : Nat) : Int), .int .u8 ((x0 9 : Nat) : Int), .int .u8 ((x0 10 : Nat) : Int), .int .u8 ((x0 11 : Nat) : Int), .int .u8 ((x0 12 : Nat) : Int), .int .u8 ((x0 13 : Nat) : Int), .int .u8 ((x0 14 : Nat) : Int), .int .u8 ((x0 15 : Nat) : Int), .int .i64 x1, .bool x2, .int .u8 ((x3 0 : Nat) : Int), .int .u8 ((x3 1 : Nat) : Int), .int .u8 ((x3 2 : Nat) : Int), .int .u8 ((x3 3 : Nat) : Int), .int .u8 ((x3 4 : Nat) : Int), .int .u8 ((x3 5 : Nat) : Int), .int .u8 ((x3 6 : Nat) : Int), .int .u8 ((x3 7 : Nat) : Int), .int .u8 ((x3 8 : Nat) : Int), .int .u8 ((x3 9 : Nat) : Int), .int .u8 ((x3 10 : Nat) : Int), .int .u8 ((x3 11 : Nat) : Int), .int .u8 ((x3 12 : Nat) : Int), .int .u8 ((x3 13 : Nat) : Int), .int .u8 ((x3 14 : Nat) : Int), .int .u8 ((x3 15 : Nat) : Int), .int .i64 x4, .int .u8 ((x5 0 : Nat) : Int), .int .u8 ((x5 1 : Nat) : Int), .int .u8 ((x5 2 : Nat) : Int), .int .u8 ((x5 3 : Nat) : Int), .int .u8 ((x5 4 : Nat) : Int), .int .u8 ((x5 5 : Nat) : Int), .int .u8 ((x5 6 : Nat) : Int), .int .u8 ((x5 7 : Nat) : Int), .int .u8 ((x5 8 : Nat) : Int), .int .u8 ((x5 9 : Nat) : Int), .int .u8 ((x5 10 : Nat) : Int), .int .u8 ((x5 11 : Nat) : Int), .int .u8 ((x5 12 : Nat) : Int), .int .u8 ((x5 13 : Nat) : Int), .int .u8 ((x5 14 : Nat) : Int), .int .u8 ((x5 15 : Nat) : Int), .slice x6.ao x6.n x6.cap]
theorem zv147 (w : World) : (zeroValue 147).run Try.prog w = .ok (.agg (c147 zF 0 false zF 0 zF Sl.nil)) w := by kernel_rfl
def c149 (x0 : Nat → Nat) (x1 : Int) (x2 : Bool) (x3 : Nat → Nat) (x4 : Int) (x5 : Nat → Nat) : Array Value := #[.int .u8 ((x0 0 : Nat) : Int), .int .u8 ((x0 1 : Nat) : Int), .int .u8 ((x0 2 : Nat) : Int), .int .u8 ((x0 3 : Nat) : Int), .int .u8 ((x0 4 : Nat) : Int), .int .u8 ((x0 5 : Nat) : Int), .int .u8 ((x0 6 : Nat) : Int), .int .u8 ((x0 7 : Nat) : Int), .int .u8 ((x0 8 : Nat) : Int), .int .u8 ((x0 9 : Nat) : Int), .int .u8 ((x0 10 : Nat) : Int), .int .u8 ((x0 11 : Nat) : Int), .int .u8 ((x0 12 : Nat) : Int), .int .u8 ((x0 13 : Nat) : Int), .int .u8 ((x0 14 : Nat) : Int), .int .u8 ((x0 15 : Nat) : Int), .int .i64 x1, .bool x2, .int .u8 ((x3 0 : Nat) : Int), .int .u8 ((x3 1 : Nat) : Int), .int .u8 ((x3 2 : Nat) : Int), .int .u8 ((x3 3 : Nat) : Int), .int .u8 ((x3 4 : Nat) : Int), .int .u8 ((x3 5 : Nat) : Int), .int .u8 ((x3 6 : Nat) : Int), .int .u8 ((x3 7 : Nat) : Int), .int .u8 ((x3 8 : Nat) : Int), .int .u8 ((x3 9 : Nat) : Int), .int .u8 ((x3 10 : Nat) : Int), .int .u8 ((x3 11 : Nat) : Int), .int .u8 ((x3 12 : Nat) : Int), .int .u8 ((x3 13 : Nat) : Int), .int .u8 ((x3 14 : Nat) : Int), .int .u8 ((x3 15 : Nat) : Int), .int .i64 x4, .int .u8 ((x5 0 : Nat) : Int), .int .u8 ((x5 1 : Nat) : Int), .int .u8 ((x5 2 : Nat) : Int), .int .u8 ((x5 3 : Nat) : Int), .int .u8 ((x5 4 : Nat) : Int), .int .u8 ((x5 5 : Nat) : Int), .int .u8 ((x5 6 : Nat) : Int), .int .u8 ((x5 7 : Nat) : Int), .int .u8 ((x5 8 : Nat) : Int), .int .u8 ((x5 9 : Nat) : Int), .int .u8 ((x5 10 : Nat) : Int), .int .u8 ((x5 11 : Nat) : Int), .int .u8 ((x5 12 : Nat) : Int), .int .u8 ((x5 13 : Nat) : Int), .int .u8 ((x5 14 : Nat) : Int), .int .u8 ((x5 15 : Nat) : Int)]
theorem zv149 (w : World) : (zeroValue 149).run Try.prog w = .ok (.agg (c149 zF 0 false zF 0 zF)) w := by kernel_rfl
theorem na2a (w : World) : (isAgg 2).run Try.prog w = .ok false w := by kernel_rfl
theorem na32 (w : World) : (isAgg 32).run Try.prog w = .ok false w := by kernel_rfl
theorem na57a (w : World) : (isAgg 57).run Try.prog w = .ok false w := by kernel_rfl
theorem na60 (w : World) : (isAgg 60).run Try.prog w = .ok false w := by kernel_rfl
structure Fr where
  kind : Int
  pw : Nat → Nat
  pn : Int
  toA : Bool
  a : Nat → Nat
  b : Nat → Nat
  n : Int
  fi : Int
  fn : Int
  ti : Int
  tn : Int
  tr : Sl
  ids : Sl
  key : Nat → Nat
  vn : Int
  vw : Nat → Nat
  val : Sl
  op : Int
  ttl : Int
  tx : Sl
def frA (f : Fr) : Array Value := c64 f.kind f.pw f.pn f.toA f.a f.b f.n f.fi f.fn f.ti f.tn f.tr f.ids f.key f.vn f.vw f.val f.op f.ttl f.tx
def bodyV (k : Nat) (f : Fr) : Value :=
  match k with
  | 1 => .iface 131 (.agg (c131 f.fi f.fn f.ti f.tn f.a))
  | 2 => .iface 133 (.agg (c133 f.fi f.fn f.ti f.tn f.n f.tx))
  | 3 => .iface 135 (.agg (c135 f.fi f.fn f.ti f.tn f.n))
  | 4 => .iface 88 (.agg (c88 f.pw f.pn f.a f.b f.tr))
  | 5 => .iface 126 (.agg (c126 f.pw f.pn))
  | 6 => .iface 137 (.agg (c137 f.pw f.pn f.toA))
  | 7 => .iface 139 (.agg (c139 f.pw f.pn f.toA f.ids))
  | 8 => .iface 141 (.agg (c141 f.a f.b f.op f.pw f.pn f.toA f.tr))
  | 9 => .iface 143 (.agg (c143 f.a f.n))
  | 10 => .iface 145 (.agg (c145 f.a f.b f.n f.op f.ttl f.key f.vn f.vw f.val f.tx))
  | 11 => .iface 147 (.agg (c147 f.pw f.pn f.toA f.key f.vn f.vw f.val))
  | 12 => .iface 149 (.agg (c149 f.pw f.pn f.toA f.key f.vn f.vw))
  | _ => .nilIface
def bare (k : Nat) (f : Fr) : Fr :=
  match k with
  | 1 => ⟨0, zF, 0, false, f.a, zF, 0, f.fi, f.fn, f.ti, f.tn, Sl.nil, Sl.nil, zF, 0, zF, Sl.nil, 0, 0, Sl.nil⟩
  | 2 => ⟨0, zF, 0, false, zF, zF, f.n, f.fi, f.fn, f.ti, f.tn, Sl.nil, Sl.nil, zF, 0, zF, Sl.nil, 0, 0, f.tx⟩
  | 3 => ⟨0, zF, 0, false, zF, zF, f.n, f.fi, f.fn, f.ti, f.tn, Sl.nil, Sl.nil, zF, 0, zF, Sl.nil, 0, 0, Sl.nil⟩
  | 4 => ⟨0, f.pw, f.pn, false, f.a, f.b, 0, 0, 0, 0, 0, f.tr, Sl.nil, zF, 0, zF, Sl.nil, 0, 0, Sl.nil⟩
  | 5 => ⟨0, f.pw, f.pn, false, zF, zF, 0, 0, 0, 0, 0, Sl.nil, Sl.nil, zF, 0, zF, Sl.nil, 0, 0, Sl.nil⟩
  | 6 => ⟨0, f.pw, f.pn, f.toA, zF, zF, 0, 0, 0, 0, 0, Sl.nil, Sl.nil, zF, 0, zF, Sl.nil, 0, 0, Sl.nil⟩
  | 7 => ⟨0, f.pw, f.pn, f.toA, zF, zF, 0, 0, 0, 0, 0, Sl.nil, f.ids, zF, 0, zF, Sl.nil, 0, 0, Sl.nil⟩
  | 8 => ⟨0, f.pw, f.pn, f.toA, f.a, f.b, 0, 0, 0, 0, 0, f.tr, Sl.nil, zF, 0, zF, Sl.nil, f.op, 0, Sl.nil⟩
  | 9 => ⟨0, zF, 0, false, f.a, zF, f.n, 0, 0, 0, 0, Sl.nil, Sl.nil, zF, 0, zF, Sl.nil, 0, 0, Sl.nil⟩
  | 10 => ⟨0, zF, 0, false, f.a, f.b, f.n, 0, 0, 0, 0, Sl.nil, Sl.nil, f.key, f.vn, f.vw, f.val, f.op, f.ttl, f.tx⟩
  | 11 => ⟨0, f.pw, f.pn, f.toA, zF, zF, 0, 0, 0, 0, 0, Sl.nil, Sl.nil, f.key, f.vn, f.vw, f.val, 0, 0, Sl.nil⟩
  | 12 => ⟨0, f.pw, f.pn, f.toA, zF, zF, 0, 0, 0, 0, 0, Sl.nil, Sl.nil, f.key, f.vn, f.vw, Sl.nil, 0, 0, Sl.nil⟩
  | _ => ⟨0, zF, 0, false, zF, zF, 0, 0, 0, 0, 0, Sl.nil, Sl.nil, zF, 0, zF, Sl.nil, 0, 0, Sl.nil⟩
def Fr.zero : Fr := ⟨0, zF, 0, false, zF, zF, 0, 0, 0, 0, 0, Sl.nil, Sl.nil, zF, 0, zF, Sl.nil, 0, 0, Sl.nil⟩
theorem is12 {k : Nat} (h1 : 1 ≤ k) (h2 : k ≤ 12) : k = 1 ∨ k = 2 ∨ k = 3 ∨ k = 4 ∨ k = 5 ∨ k = 6 ∨ k = 7 ∨ k = 8 ∨ k = 9 ∨ k = 10 ∨ k = 11 ∨ k = 12 := by omega
set_option maxRecDepth 100000 in
set_option maxHeartbeats 4000000 in
theorem fields_1 (f : Fr) (w : World) : Calls Try.prog 56 #[.iface 131 (.agg (c131 f.fi f.fn f.ti f.tn f.a))] w fun e w' => e = .returned (.tuple #[.agg (c64 0 zF 0 false f.a zF 0 f.fi f.fn f.ti f.tn Sl.nil Sl.nil zF 0 zF Sl.nil 0 0 Sl.nil), .bool true]) ∧ Gro w w' := by
  refine s_enter Try.func56 rfl Try.ntmps56 [.iface 131 (.agg (c131 f.fi f.fn f.ti f.tn f.a))] [.iface 131 (.agg (c131 f.fi f.fn f.ti f.tn f.a)), undef, undef, undef, undef, undef, undef, undef, undef, undef, undef, undef, undef, undef, undef, undef, undef, undef, undef, undef, undef, undef, undef, undef, undef, undef, undef, undef, undef, undef, undef, undef, undef, undef, undef, undef, undef, undef, undef, undef, undef, undef, undef, undef, undef, undef, undef, undef, undef, undef, undef, undef, undef, undef, undef, undef, undef, undef, undef, undef, undef, undef, undef, undef, undef, undef, undef, undef, undef, undef, undef, undef, undef, undef, undef, undef, undef, undef, undef, undef, undef, undef, undef, undef, undef, undef, undef, undef, undef, undef, undef, undef, undef, undef, undef, undef, undef, undef, undef, undef, undef, undef, undef, undef, undef, undef, undef, undef, undef, undef, undef, undef, undef, undef, undef, undef, undef, undef, undef, undef, undef, undef, undef, undef, undef, undef, undef, undef, undef, undef, undef, undef, undef, undef, undef, undef, undef, undef, undef, undef, undef, undef, undef, undef, undef, undef, undef, undef, undef, undef, undef] rfl ?_
  have GG := Gro.refl w
  refine wp_seq ?_
  refine wp_region_lit ?_
  refine s_alloc 2 rfl rfl 64 rfl _ zv64 _ rfl ?_
  intro w1 g1 G eg1 kg1
  have bg1 := size_base GG eg1
  replace GG := GG.trans G
  clear G eg1
  simp only [z0, z1]
  refine s_val 3 rfl rfl (.bool false) (rfl) ?_
  simp only [z0, z1]
  refine wpList_nil ?_
  refine then_n ?_
  refine wp_seq ?_
  refine wp_seq ?_
  refine wp_region_lit ?_
  refine s_val 16 rfl rfl (.iface 131 (.agg (c131 f.fi f.fn f.ti f.tn f.a))) (rfl) ?_
  simp only [z0, z1]
  refine wpList_nil ?_
  refine then_n ?_
  refine wp_block ?_
  refine wp_seq ?_
  refine wp_region_lit ?_
  refine s_val 17 rfl rfl (.tuple #[.agg (c131 f.fi f.fn f.ti f.tn f.a), .bool true]) (run_ta _ 102 131 true rfl _ _ rfl (by kernel_rfl)) ?_
  simp only [z0, z1]
  refine s_val 18 rfl rfl (.bool true) (rfl) ?_
  simp only [z0, z1]
  refine s_val 19 rfl rfl (.agg (c131 f.fi f.fn f.ti f.tn f.a)) (rfl) ?_
  simp only [z0, z1]
  refine wpList_nil ?_
  refine then_n ?_
  refine wp_cond_true rfl ?_
  refine wp_seq ?_
  refine wp_region_lit ?_
  refine s_alloc 4 rfl rfl 131 rfl _ zv131 _ rfl ?_
  intro w2 g2 G eg2 kg2
  have bg2 := size_base GG eg2
  have dg1g2 := lt_new kg1 eg2
  replace kg1 := G.has kg1
  replace GG := GG.trans G
  clear G eg2
  simp only [z0, z1]
  refine s_store rfl rfl 131 _ _ rfl g2 0 rfl (.agg (c131 f.fi f.fn f.ti f.tn f.a)) rfl 131 _ kg2 (c131 f.fi f.fn f.ti f.tn f.a) rfl (by kernel_rfl) (Nat.le_of_ble_eq_true rfl) (by kernel_rfl) (c131 f.fi f.fn f.ti f.tn f.a) (by kernel_rfl) ?_
  intro w4 S
  replace kg1 := S.has (by omega) kg1
  replace GG := GG.store S bg2
  replace kg2 := S.new
  clear S
  refine wpList_nil ?_
  refine then_n ?_
  refine wp_seq ?_
  refine wp_region_lit ?_
  refine s_val 20 rfl rfl (.pointer (some ⟨g2, 0, none⟩)) (run_fld 131 _ 0 rfl _ _ rfl _ (by kernel_rfl)) ?_
  simp only [z0, z1]
  refine s_val 21 rfl rfl (.agg (c56 f.fi f.fn)) (run_lda 56 _ rfl g2 0 2 rfl 131 _ kg2 _ Try.underlying56 rfl si56 (Nat.le_of_ble_eq_true rfl) _ (by kernel_rfl)) ?_
  simp only [z0, z1]
  refine s_val 22 rfl rfl (.pointer (some ⟨g2, 2, none⟩)) (run_fld 131 _ 1 rfl _ _ rfl _ (by kernel_rfl)) ?_
  simp only [z0, z1]
  refine s_val 23 rfl rfl (.agg (c56 f.ti f.tn)) (run_lda 56 _ rfl g2 2 2 rfl 131 _ kg2 _ Try.underlying56 rfl si56 (Nat.le_of_ble_eq_true rfl) _ (by kernel_rfl)) ?_
  simp only [z0, z1]
  refine s_val 24 rfl rfl (.pointer (some ⟨g2, 4, none⟩)) (run_fld 131 _ 2 rfl _ _ rfl _ (by kernel_rfl)) ?_
  simp only [z0, z1]
  refine s_val 25 rfl rfl (.agg (c24 f.a)) (run_lda 24 _ rfl g2 4 16 rfl 131 _ kg2 _ Try.underlying24 rfl si24 (Nat.le_of_ble_eq_true rfl) _ (by kernel_rfl)) ?_
  simp only [z0, z1]
  refine s_val 26 rfl rfl (.agg (c64 0 zF 0 false f.a zF 0 f.fi f.fn f.ti f.tn Sl.nil Sl.nil zF 0 zF Sl.nil 0 0 Sl.nil)) (run_bd 64 _ rfl [(6, .agg (c56 f.fi f.fn)), (7, .agg (c56 f.ti f.tn)), (3, .agg (c24 f.a))] rfl _ (by kernel_rfl)) ?_
  simp only [z0, z1]
  refine s_store rfl rfl 64 _ _ rfl g1 0 rfl (.agg (c64 0 zF 0 false f.a zF 0 f.fi f.fn f.ti f.tn Sl.nil Sl.nil zF 0 zF Sl.nil 0 0 Sl.nil)) rfl 64 _ kg1 (c64 0 zF 0 false f.a zF 0 f.fi f.fn f.ti f.tn Sl.nil Sl.nil zF 0 zF Sl.nil 0 0 Sl.nil) rfl (by kernel_rfl) (Nat.le_of_ble_eq_true rfl) (by kernel_rfl) (c64 0 zF 0 false f.a zF 0 f.fi f.fn f.ti f.tn Sl.nil Sl.nil zF 0 zF Sl.nil 0 0 Sl.nil) (by kernel_rfl) ?_
  intro w6 S
  replace kg2 := S.has (by omega) kg2
  replace GG := GG.store S bg1
  replace kg1 := S.new
  clear S
  refine s_val 3 rfl rfl (.bool true) (rfl) ?_
  simp only [z0, z1]
  refine wpList_nil ?_
  refine then_n ?_
  refine wp_ret ?_
  refine blk_r ?_
  refine then_r ?_
  refine bodyPost_ret (results_cell_tmp Try.results56 _ _ g1 64 _ (0, 0) _ rfl (.bool true) rfl kg1 Try.underlying64 rfl (by kernel_rfl)) rfl ?_
  exact ⟨rfl, GG⟩
set_option maxRecDepth 100000 in
set_option maxHeartbeats 4000000 in
theorem fields_2 (f : Fr) (w : World) : Calls Try.prog 56 #[.iface 133 (.agg (c133 f.fi f.fn f.ti f.tn f.n f.tx))] w fun e w' => e = .returned (.tuple #[.agg (c64 0 zF 0 false zF zF f.n f.fi f.fn f.ti f.tn Sl.nil Sl.nil zF 0 zF Sl.nil 0 0 f.tx), .bool true]) ∧ Gro w w' := by
  refine s_enter Try.func56 rfl Try.ntmps56 [.iface 133 (.agg (c133 f.fi f.fn f.ti f.tn f.n f.tx))] [.iface 133 (.agg (c133 f.fi f.fn f.ti f.tn f.n f.tx)), undef, undef, undef, undef, undef, undef, undef, undef, undef, undef, undef, undef, undef, undef, undef, undef, undef, undef, undef, undef, undef, undef, undef, undef, undef, undef, undef, undef, undef, undef, undef, undef, undef, undef, undef, undef, undef, undef, undef, undef, undef, undef, undef, undef, undef, undef, undef, undef, undef, undef, undef, undef, undef, undef, undef, undef, undef, undef, undef, undef, undef, undef, undef, undef, undef, undef, undef, undef, undef, undef, undef, undef, undef, undef, undef, undef, undef, undef, undef, undef, undef, undef, undef, undef, undef, undef, undef, undef, undef, undef, undef, undef, undef, undef, undef, undef, undef, undef, undef, undef, undef, undef, undef, undef, undef, undef, undef, undef, undef, undef, undef, undef, undef, undef, undef, undef, undef, undef, undef, undef, undef, undef, undef, undef, undef, undef, undef, undef, undef, undef, undef, undef, undef, undef, undef, undef, undef, undef, undef, undef, undef, undef, undef, undef, undef, undef, undef, undef, undef, undef] rfl ?_
  have GG := Gro.refl w
  refine wp_seq ?_
  refine wp_region_lit ?_
  refine s_alloc 2 rfl rfl 64 rfl _ zv64 _ rfl ?_
  intro w1 g1 G eg1 kg1
  have bg1 := size_base GG eg1
  replace GG := GG.trans G
  clear G eg1
  simp only [z0, z1]
  refine s_val 3 rfl rfl (.bool false) (rfl) ?_
  simp only [z0, z1]
  refine wpList_nil ?_
  refine then_n ?_
  refine wp_seq ?_
  refine wp_seq ?_
  refine wp_region_lit ?_
  refine s_val 16 rfl rfl (.iface 133 (.agg (c133 f.fi f.fn f.ti f.tn f.n f.tx))) (rfl) ?_
  simp only [z0, z1]
  refine wpList_nil ?_
  refine then_n ?_
  refine wp_block ?_
  refine wp_seq ?_
  refine wp_region_lit ?_
  refine s_val 17 rfl rfl (.tuple #[.agg (c131 0 0 0 0 zF), .bool false]) (run_ta _ 102 131 true rfl _ _ rfl (by kernel_rfl)) ?_
  simp only [z0, z1]
  refine s_val 18 rfl rfl (.bool false) (rfl) ?_
  simp only [z0, z1]
  refine s_val 19 rfl rfl (.agg (c131 0 0 0 0 zF)) (rfl) ?_
  simp only [z0, z1]
  refine wpList_nil ?_
  refine then_n ?_
  refine wp_cond_false rfl ?_
  refine wp_seq ?_
  refine wp_region_lit ?_
  refine s_val 27 rfl rfl (.tuple #[.agg (c133 f.fi f.fn f.ti f.tn f.n f.tx), .bool true]) (run_ta _ 102 133 true rfl _ _ rfl (by kernel_rfl)) ?_
  simp only [z0, z1]
  refine s_val 28 rfl rfl (.bool true) (rfl) ?_
  simp only [z0, z1]
  refine s_val 29 rfl rfl (.agg (c133 f.fi f.fn f.ti f.tn f.n f.tx)) (rfl) ?_
  simp only [z0, z1]
  refine wpList_nil ?_
  refine then_n ?_
  refine wp_cond_true rfl ?_
  refine wp_seq ?_
  refine wp_region_lit ?_
  refine s_alloc 5 rfl rfl 133 rfl _ zv133 _ rfl ?_
  intro w2 g2 G eg2 kg2
  have bg2 := size_base GG eg2
  have dg1g2 := lt_new kg1 eg2
  replace kg1 := G.has kg1
  replace GG := GG.trans G
  clear G eg2
  simp only [z0, z1]
  refine s_store rfl rfl 133 _ _ rfl g2 0 rfl (.agg (c133 f.fi f.fn f.ti f.tn f.n f.tx)) rfl 133 _ kg2 (c133 f.fi f.fn f.ti f.tn f.n f.tx) rfl (by kernel_rfl) (Nat.le_of_ble_eq_true rfl) (by kernel_rfl) (c133 f.fi f.fn f.ti f.tn f.n f.tx) (by kernel_rfl) ?_
  intro w4 S
  replace kg1 := S.has (by omega) kg1
  replace GG := GG.store S bg2
  replace kg2 := S.new
  clear S
  refine wpList_nil ?_
  refine then_n ?_
  refine wp_seq ?_
  refine wp_region_lit ?_
  refine s_val 30 rfl rfl (.pointer (some ⟨g2, 0, none⟩)) (run_fld 133 _ 0 rfl _ _ rfl _ (by kernel_rfl)) ?_
  simp only [z0, z1]
  refine s_val 31 rfl rfl (.agg (c56 f.fi f.fn)) (run_lda 56 _ rfl g2 0 2 rfl 133 _ kg2 _ Try.underlying56 rfl si56 (Nat.le_of_ble_eq_true rfl) _ (by kernel_rfl)) ?_
  simp only [z0, z1]
  refine s_val 32 rfl rfl (.pointer (some ⟨g2, 2, none⟩)) (run_fld 133 _ 1 rfl _ _ rfl _ (by kernel_rfl)) ?_
  simp only [z0, z1]
  refine s_val 33 rfl rfl (.agg (c56 f.ti f.tn)) (run_lda 56 _ rfl g2 2 2 rfl 133 _ kg2 _ Try.underlying56 rfl si56 (Nat.le_of_ble_eq_true rfl) _ (by kernel_rfl)) ?_
  simp only [z0, z1]
  refine s_val 34 rfl rfl (.pointer (some ⟨g2, 4, none⟩)) (run_fld 133 _ 2 rfl _ _ rfl _ (by kernel_rfl)) ?_
  simp only [z0, z1]
  refine s_val 35 rfl rfl (.int .i64 f.n) (run_ldc 2 _ rfl g2 4 rfl 133 _ kg2 (na2a _) _ rfl) ?_
  simp only [z0, z1]
  refine s_val 36 rfl rfl (.pointer (some ⟨g2, 5, none⟩)) (run_fld 133 _ 3 rfl _ _ rfl _ (by kernel_rfl)) ?_
  simp only [z0, z1]
  refine s_val 37 rfl rfl (.slice f.tx.ao f.tx.n f.tx.cap) (run_ldc 60 _ rfl g2 5 rfl 133 _ kg2 (na60 _) _ rfl) ?_
  simp only [z0, z1]
  refine s_val 38 rfl rfl (.agg (c64 0 zF 0 false zF zF f.n f.fi f.fn f.ti f.tn Sl.nil Sl.nil zF 0 zF Sl.nil 0 0 f.tx)) (run_bd 64 _ rfl [(6, .agg (c56 f.fi f.fn)), (7, .agg (c56 f.ti f.tn)), (5, .int .i64 f.n), (13, .slice f.tx.ao f.tx.n f.tx.cap)] rfl _ (by kernel_rfl)) ?_
  simp only [z0, z1]
  refine s_store rfl rfl 64 _ _ rfl g1 0 rfl (.agg (c64 0 zF 0 false zF zF f.n f.fi f.fn f.ti f.tn Sl.nil Sl.nil zF 0 zF Sl.nil 0 0 f.tx)) rfl 64 _ kg1 (c64 0 zF 0 false zF zF f.n f.fi f.fn f.ti f.tn Sl.nil Sl.nil zF 0 zF Sl.nil 0 0 f.tx) rfl (by kernel_rfl) (Nat.le_of_ble_eq_true rfl) (by kernel_rfl) (c64 0 zF 0 false zF zF f.n f.fi f.fn f.ti f.tn Sl.nil Sl.nil zF 0 zF Sl.nil 0 0 f.tx) (by kernel_rfl) ?_
  intro w6 S
  replace kg2 := S.has (by omega) kg2
  replace GG := GG.store S bg1
  replace kg1 := S.new
  clear S
  refine s_val 3 rfl rfl (.bool true) (rfl) ?_
  simp only [z0, z1]
  refine wpList_nil ?_
  refine then_n ?_
  refine wp_ret ?_
  refine blk_r ?_
  refine then_r ?_
  refine bodyPost_ret (results_cell_tmp Try.results56 _ _ g1 64 _ (0, 0) _ rfl (.bool true) rfl kg1 Try.underlying64 rfl (by kernel_rfl)) rfl ?_
  exact ⟨rfl, GG⟩
set_option maxRecDepth 100000 in
set_option maxHeartbeats 4000000 in
theorem fields_3 (f : Fr) (w : World) : Calls Try.prog 56 #[.iface 135 (.agg (c135 f.fi f.fn f.ti f.tn f.n))] w fun e w' => e = .returned (.tuple #[.agg (c64 0 zF 0 false zF zF f.n f.fi f.fn f.ti f.tn Sl.nil Sl.nil zF 0 zF Sl.nil 0 0 Sl.nil), .bool true]) ∧ Gro w w' := by
  refine s_enter Try.func56 rfl Try.ntmps56 [.iface 135 (.agg (c135 f.fi f.fn f.ti f.tn f.n))] [.iface 135 (.agg (c135 f.fi f.fn f.ti f.tn f.n)), undef, undef, undef, undef, undef, undef, undef, undef, undef, undef, undef, undef, undef, undef, undef, undef, undef, undef, undef, undef, undef, undef, undef, undef, undef, undef, undef, undef, undef, undef, undef, undef, undef, undef, undef, undef, undef, undef, undef, undef, undef, undef, undef, undef, undef, undef, undef, undef, undef, undef, undef, undef, undef, undef, undef, undef, undef, undef, undef, undef, undef, undef, undef, undef, undef, undef, undef, undef, undef, undef, undef, undef, undef, undef, undef, undef, undef, undef, undef, undef, undef, undef, undef, undef, undef, undef, undef, undef, undef, undef, undef, undef, undef, undef, undef, undef, undef, undef, undef, undef, undef, undef, undef, undef, undef, undef, undef, undef, undef, undef, undef, undef, undef, undef, undef, undef, undef, undef, undef, undef, undef, undef, undef, undef, undef, undef, undef, undef, undef, undef, undef, undef, undef, undef, undef, undef, undef, undef, undef, undef, undef, undef, undef, undef, undef, undef, undef, undef, undef, undef] rfl ?_
  have GG := Gro.refl w
  refine wp_seq ?_
  refine wp_region_lit ?_
  refine s_alloc 2 rfl rfl 64 rfl _ zv64 _ rfl ?_
  intro w1 g1 G eg1 kg1
  have bg1 := size_base GG eg1
  replace GG := GG.trans G
  clear G eg1
  simp only [z0, z1]
  refine s_val 3 rfl rfl (.bool false) (rfl) ?_
  simp only [z0, z1]
  refine wpList_nil ?_
  refine then_n ?_
  refine wp_seq ?_
  refine wp_seq ?_
  refine wp_region_lit ?_
  refine s_val 16 rfl rfl (.iface 135 (.agg (c135 f.fi f.fn f.ti f.tn f.n))) (rfl) ?_
  simp only [z0, z1]
  refine wpList_nil ?_
  refine then_n ?_
  refine wp_block ?_
  refine wp_seq ?_
  refine wp_region_lit ?_
  refine s_val 17 rfl rfl (.tuple #[.agg (c131 0 0 0 0 zF), .bool false]) (run_ta _ 102 131 true rfl _ _ rfl (by kernel_rfl)) ?_
  simp only [z0, z1]
  refine s_val 18 rfl rfl (.bool false) (rfl) ?_
  simp only [z0, z1]
  refine s_val 19 rfl rfl (.agg (c131 0 0 0 0 zF)) (rfl) ?_
  simp only [z0, z1]
  refine wpList_nil ?_
  refine then_n ?_
  refine wp_cond_false rfl ?_
  refine wp_seq ?_
  refine wp_region_lit ?_
  refine s_val 27 rfl rfl (.tuple #[.agg (c133 0 0 0 0 0 Sl.nil), .bool false]) (run_ta _ 102 133 true rfl _ _ rfl (by kernel_rfl)) ?_
  simp only [z0, z1]
  refine s_val 28 rfl rfl (.bool false) (rfl) ?_
  simp only [z0, z1]
  refine s_val 29 rfl rfl (.agg (c133 0 0 0 0 0 Sl.nil)) (rfl) ?_
  simp only [z0, z1]
  refine wpList_nil ?_
  refine then_n ?_
  refine wp_cond_false rfl ?_
  refine wp_seq ?_
  refine wp_region_lit ?_
  refine s_val 39 rfl rfl (.tuple #[.agg (c135 f.fi f.fn f.ti f.tn f.n), .bool true]) (run_ta _ 102 135 true rfl _ _ rfl (by kernel_rfl)) ?_
  simp only [z0, z1]
  refine s_val 40 rfl rfl (.bool true) (rfl) ?_
  simp only [z0, z1]
  refine s_val 41 rfl rfl (.agg (c135 f.fi f.fn f.ti f.tn f.n)) (rfl) ?_
  simp only [z0, z1]
  refine wpList_nil ?_
  refine then_n ?_
  refine wp_cond_true rfl ?_
  refine wp_seq ?_
  refine wp_region_lit ?_
  refine s_alloc 6 rfl rfl 135 rfl _ zv135 _ rfl ?_
  intro w2 g2 G eg2 kg2
  have bg2 := size_base GG eg2
  have dg1g2 := lt_new kg1 eg2
  replace kg1 := G.has kg1
  replace GG := GG.trans G
  clear G eg2
  simp only [z0, z1]
  refine s_store rfl rfl 135 _ _ rfl g2 0 rfl (.agg (c135 f.fi f.fn f.ti f.tn f.n)) rfl 135 _ kg2 (c135 f.fi f.fn f.ti f.tn f.n) rfl (by kernel_rfl) (Nat.le_of_ble_eq_true rfl) (by kernel_rfl) (c135 f.fi f.fn f.ti f.tn f.n) (by kernel_rfl) ?_
  intro w4 S
  replace kg1 := S.has (by omega) kg1
  replace GG := GG.store S bg2
  replace kg2 := S.new
  clear S
  refine wpList_nil ?_
  refine then_n ?_
  refine wp_seq ?_
  refine wp_region_lit ?_
  refine s_val 42 rfl rfl (.pointer (some ⟨g2, 0, none⟩)) (run_fld 135 _ 0 rfl _ _ rfl _ (by kernel_rfl)) ?_
  simp only [z0, z1]
  refine s_val 43 rfl rfl (.agg (c56 f.fi f.fn)) (run_lda 56 _ rfl g2 0 2 rfl 135 _ kg2 _ Try.underlying56 rfl si56 (Nat.le_of_ble_eq_true rfl) _ (by kernel_rfl)) ?_
  simp only [z0, z1]
  refine s_val 44 rfl rfl (.pointer (some ⟨g2, 2, none⟩)) (run_fld 135 _ 1 rfl _ _ rfl _ (by kernel_rfl)) ?_
  simp only [z0, z1]
  refine s_val 45 rfl rfl (.agg (c56 f.ti f.tn)) (run_lda 56 _ rfl g2 2 2 rfl 135 _ kg2 _ Try.underlying56 rfl si56 (Nat.le_of_ble_eq_true rfl) _ (by kernel_rfl)) ?_
  simp only [z0, z1]
  refine s_val 46 rfl rfl (.pointer (some ⟨g2, 4, none⟩)) (run_fld 135 _ 2 rfl _ _ rfl _ (by kernel_rfl)) ?_
  simp only [z0, z1]
  refine s_val 47 rfl rfl (.int .i64 f.n) (run_ldc 2 _ rfl g2 4 rfl 135 _ kg2 (na2a _) _ rfl) ?_
  simp only [z0, z1]
  refine s_val 48 rfl rfl (.agg (c64 0 zF 0 false zF zF f.n f.fi f.fn f.ti f.tn Sl.nil Sl.nil zF 0 zF Sl.nil 0 0 Sl.nil)) (run_bd 64 _ rfl [(6, .agg (c56 f.fi f.fn)), (7, .agg (c56 f.ti f.tn)), (5, .int .i64 f.n)] rfl _ (by kernel_rfl)) ?_
  simp only [z0, z1]
  refine s_store rfl rfl 64 _ _ rfl g1 0 rfl (.agg (c64 0 zF 0 false zF zF f.n f.fi f.fn f.ti f.tn Sl.nil Sl.nil zF 0 zF Sl.nil 0 0 Sl.nil)) rfl 64 _ kg1 (c64 0 zF 0 false zF zF f.n f.fi f.fn f.ti f.tn Sl.nil Sl.nil zF 0 zF Sl.nil 0 0 Sl.nil) rfl (by kernel_rfl) (Nat.le_of_ble_eq_true rfl) (by kernel_rfl) (c64 0 zF 0 false zF zF f.n f.fi f.fn f.ti f.tn Sl.nil Sl.nil zF 0 zF Sl.nil 0 0 Sl.nil) (by kernel_rfl) ?_
  intro w6 S
  replace kg2 := S.has (by omega) kg2
  replace GG := GG.store S bg1
  replace kg1 := S.new
  clear S
  refine s_val 3 rfl rfl (.bool true) (rfl) ?_
  simp only [z0, z1]
  refine wpList_nil ?_
  refine then_n ?_
  refine wp_ret ?_
  refine blk_r ?_
  refine then_r ?_
  refine bodyPost_ret (results_cell_tmp Try.results56 _ _ g1 64 _ (0, 0) _ rfl (.bool true) rfl kg1 Try.underlying64 rfl (by kernel_rfl)) rfl ?_
  exact ⟨rfl, GG⟩
set_option maxRecDepth 100000 in
set_option maxHeartbeats 4000000 in
theorem fields_4 (f : Fr) (w : World) : Calls Try.prog 56 #[.iface 88 (.agg (c88 f.pw f.pn f.a f.b f.tr))] w fun e w' => e = .returned (.tuple #[.agg (c64 0 f.pw f.pn false f.a f.b 0 0 0 0 0 f.tr Sl.nil zF 0 zF Sl.nil 0 0 Sl.nil), .bool true]) ∧ Gro w w' := by
  refine s_enter Try.func56 rfl Try.ntmps56 [.iface 88 (.agg (c88 f.pw f.pn f.a f.b f.tr))] [.iface 88 (.agg (c88 f.pw f.pn f.a f.b f.tr)), undef, undef, undef, undef, undef, undef, undef, undef, undef, undef, undef, undef, undef, undef, undef, undef, undef, undef, undef, undef, undef, undef, undef, undef, undef, undef, undef, undef, undef, undef, undef, undef, undef, undef, undef, undef, undef, undef, undef, undef, undef, undef, undef, undef, undef, undef, undef, undef, undef, undef, undef, undef, undef, undef, undef, undef, undef, undef, undef, undef, undef, undef, undef, undef, undef, undef, undef, undef, undef, undef, undef, undef, undef, undef, undef, undef, undef, undef, undef, undef, undef, undef, undef, undef, undef, undef, undef, undef, undef, undef, undef, undef, undef, undef, undef, undef, undef, undef, undef, undef, undef, undef, undef, undef, undef, undef, undef, undef, undef, undef, undef, undef, undef, undef, undef, undef, undef, undef, undef, undef, undef, undef, undef, undef, undef, undef, undef, undef, undef, undef, undef, undef, undef, undef, undef, undef, undef, undef, undef, undef, undef, undef, undef, undef, undef, undef, undef, undef, undef, undef] rfl ?_
  have GG := Gro.refl w
  refine wp_seq ?_
  refine wp_region_lit ?_
  refine s_alloc 2 rfl rfl 64 rfl _ zv64 _ rfl ?_
  intro w1 g1 G eg1 kg1
  have bg1 := size_base GG eg1
  replace GG := GG.trans G
  clear G eg1
  simp only [z0, z1]
  refine s_val 3 rfl rfl (.bool false) (rfl) ?_
  simp only [z0, z1]
  refine wpList_nil ?_
  refine then_n ?_
  refine wp_seq ?_
  refine wp_seq ?_
  refine wp_region_lit ?_
  refine s_val 16 rfl rfl (.iface 88 (.agg (c88 f.pw f.pn f.a f.b f.tr))) (rfl) ?_
  simp only [z0, z1]
  refine wpList_nil ?_
  refine then_n ?_
  refine wp_block ?_
  refine wp_seq ?_
  refine wp_region_lit ?_
  refine s_val 17 rfl rfl (.tuple #[.agg (c131 0 0 0 0 zF), .bool false]) (run_ta _ 102 131 true rfl _ _ rfl (by kernel_rfl)) ?_
  simp only [z0, z1]
  refine s_val 18 rfl rfl (.bool false) (rfl) ?_
  simp only [z0, z1]
  refine s_val 19 rfl rfl (.agg (c131 0 0 0 0 zF)) (rfl) ?_
  simp only [z0, z1]
  refine wpList_nil ?_
  refine then_n ?_
  refine wp_cond_false rfl ?_
  refine wp_seq ?_
  refine wp_region_lit ?_
  refine s_val 27 rfl rfl (.tuple #[.agg (c133 0 0 0 0 0 Sl.nil), .bool false]) (run_ta _ 102 133 true rfl _ _ rfl (by kernel_rfl)) ?_
  simp only [z0, z1]
  refine s_val 28 rfl rfl (.bool false) (rfl) ?_
  simp only [z0, z1]
  refine s_val 29 rfl rfl (.agg (c133 0 0 0 0 0 Sl.nil)) (rfl) ?_
  simp only [z0, z1]
  refine wpList_nil ?_
  refine then_n ?_
  refine wp_cond_false rfl ?_
  refine wp_seq ?_
  refine wp_region_lit ?_
  refine s_val 39 rfl rfl (.tuple #[.agg (c135 0 0 0 0 0), .bool false]) (run_ta _ 102 135 true rfl _ _ rfl (by kernel_rfl)) ?_
  simp only [z0, z1]
  refine s_val 40 rfl rfl (.bool false) (rfl) ?_
  simp only [z0, z1]
  refine s_val 41 rfl rfl (.agg (c135 0 0 0 0 0)) (rfl) ?_
  simp only [z0, z1]
  refine wpList_nil ?_
  refine then_n ?_
  refine wp_cond_false rfl ?_
  refine wp_seq ?_
  refine wp_region_lit ?_
  refine s_val 49 rfl rfl (.tuple #[.agg (c88 f.pw f.pn f.a f.b f.tr), .bool true]) (run_ta _ 102 88 true rfl _ _ rfl (by kernel_rfl)) ?_
  simp only [z0, z1]
  refine s_val 50 rfl rfl (.bool true) (rfl) ?_
  simp only [z0, z1]
  refine s_val 51 rfl rfl (.agg (c88 f.pw f.pn f.a f.b f.tr)) (rfl) ?_
  simp only [z0, z1]
  refine wpList_nil ?_
  refine then_n ?_
  refine wp_cond_true rfl ?_
  refine wp_seq ?_
  refine wp_region_lit ?_
  refine s_alloc 7 rfl rfl 88 rfl _ zv88 _ rfl ?_
  intro w2 g2 G eg2 kg2
  have bg2 := size_base GG eg2
  have dg1g2 := lt_new kg1 eg2
  replace kg1 := G.has kg1
  replace GG := GG.trans G
  clear G eg2
  simp only [z0, z1]
  refine s_store rfl rfl 88 _ _ rfl g2 0 rfl (.agg (c88 f.pw f.pn f.a f.b f.tr)) rfl 88 _ kg2 (c88 f.pw f.pn f.a f.b f.tr) rfl (by kernel_rfl) (Nat.le_of_ble_eq_true rfl) (by kernel_rfl) (c88 f.pw f.pn f.a f.b f.tr) (by kernel_rfl) ?_
  intro w4 S
  replace kg1 := S.has (by omega) kg1
  replace GG := GG.store S bg2
  replace kg2 := S.new
  clear S
  refine wpList_nil ?_
  refine then_n ?_
  refine wp_seq ?_
  refine wp_region_lit ?_
  refine s_val 52 rfl rfl (.pointer (some ⟨g2, 0, none⟩)) (run_fld 88 _ 0 rfl _ _ rfl _ (by kernel_rfl)) ?_
  simp only [z0, z1]
  refine s_val 53 rfl rfl (.agg (c31 f.pw f.pn)) (run_lda 31 _ rfl g2 0 17 rfl 88 _ kg2 _ Try.underlying31 rfl si31a (Nat.le_of_ble_eq_true rfl) _ (by kernel_rfl)) ?_
  simp only [z0, z1]
  refine s_val 54 rfl rfl (.pointer (some ⟨g2, 17, none⟩)) (run_fld 88 _ 1 rfl _ _ rfl _ (by kernel_rfl)) ?_
  simp only [z0, z1]
  refine s_val 55 rfl rfl (.agg (c24 f.a)) (run_lda 24 _ rfl g2 17 16 rfl 88 _ kg2 _ Try.underlying24 rfl si24 (Nat.le_of_ble_eq_true rfl) _ (by kernel_rfl)) ?_
  simp only [z0, z1]
  refine s_val 56 rfl rfl (.pointer (some ⟨g2, 33, none⟩)) (run_fld 88 _ 2 rfl _ _ rfl _ (by kernel_rfl)) ?_
  simp only [z0, z1]
  refine s_val 57 rfl rfl (.agg (c24 f.b)) (run_lda 24 _ rfl g2 33 16 rfl 88 _ kg2 _ Try.underlying24 rfl si24 (Nat.le_of_ble_eq_true rfl) _ (by kernel_rfl)) ?_
  simp only [z0, z1]
  refine s_val 58 rfl rfl (.pointer (some ⟨g2, 49, none⟩)) (run_fld 88 _ 3 rfl _ _ rfl _ (by kernel_rfl)) ?_
  simp only [z0, z1]
  refine s_val 59 rfl rfl (.slice f.tr.ao f.tr.n f.tr.cap) (run_ldc 32 _ rfl g2 49 rfl 88 _ kg2 (na32 _) _ rfl) ?_
  simp only [z0, z1]
  refine s_val 60 rfl rfl (.agg (c64 0 f.pw f.pn false f.a f.b 0 0 0 0 0 f.tr Sl.nil zF 0 zF Sl.nil 0 0 Sl.nil)) (run_bd 64 _ rfl [(1, .agg (c31 f.pw f.pn)), (3, .agg (c24 f.a)), (4, .agg (c24 f.b)), (8, .slice f.tr.ao f.tr.n f.tr.cap)] rfl _ (by kernel_rfl)) ?_
  simp only [z0, z1]
  refine s_store rfl rfl 64 _ _ rfl g1 0 rfl (.agg (c64 0 f.pw f.pn false f.a f.b 0 0 0 0 0 f.tr Sl.nil zF 0 zF Sl.nil 0 0 Sl.nil)) rfl 64 _ kg1 (c64 0 f.pw f.pn false f.a f.b 0 0 0 0 0 f.tr Sl.nil zF 0 zF Sl.nil 0 0 Sl.nil) rfl (by kernel_rfl) (Nat.le_of_ble_eq_true rfl) (by kernel_rfl) (c64 0 f.pw f.pn false f.a f.b 0 0 0 0 0 f.tr Sl.nil zF 0 zF Sl.nil 0 0 Sl.nil) (by kernel_rfl) ?_
  intro w6 S
  replace kg2 := S.has (by omega) kg2
  replace GG := GG.store S bg1
  replace kg1 := S.new
  clear S
  refine s_val 3 rfl rfl (.bool true) (rfl) ?_
  simp only [z0, z1]
  refine wpList_nil ?_
  refine then_n ?_
  refine wp_ret ?_
  refine blk_r ?_
  refine then_r ?_
  refine bodyPost_ret (results_cell_tmp Try.results56 _ _ g1 64 _ (0, 0) _ rfl (.bool true) rfl kg1 Try.underlying64 rfl (by kernel_rfl)) rfl ?_
  exact ⟨rfl, GG⟩
set_option maxRecDepth 100000 in
set_option maxHeartbeats 4000000 in
theorem fields_5 (f : Fr) (w : World) : Calls Try.prog 56 #[.iface 126 (.agg (c126 f.pw f.pn))] w fun e w' => e = .returned (.tuple #[.agg (c64 0 f.pw f.pn false zF zF 0 0 0 0 0 Sl.nil Sl.nil zF 0 zF Sl.nil 0 0 Sl.nil), .bool true]) ∧ Gro w w' := by
  refine s_enter Try.func56 rfl Try.ntmps56 [.iface 126 (.agg (c126 f.pw f.pn))] [.iface 126 (.agg (c126 f.pw f.pn)), undef, undef, undef, undef, undef, undef, undef, undef, undef, undef, undef, undef, undef, undef, undef, undef, undef, undef, undef, undef, undef, undef, undef, undef, undef, undef, undef, undef, undef, undef, undef, undef, undef, undef, undef, undef, undef, undef, undef, undef, undef, undef, undef, undef, undef, undef, undef, undef, undef, undef, undef, undef, undef, undef, undef, undef, undef, undef, undef, undef, undef, undef, undef, undef, undef, undef, undef, undef, undef, undef, undef, undef, undef, undef, undef, undef, undef, undef, undef, undef, undef, undef, undef, undef, undef, undef, undef, undef, undef, undef, undef, undef, undef, undef, undef, undef, undef, undef, undef, undef, undef, undef, undef, undef, undef, undef, undef, undef, undef, undef, undef, undef, undef, undef, undef, undef, undef, undef, undef, undef, undef, undef, undef, undef, undef, undef, undef, undef, undef, undef, undef, undef, undef, undef, undef, undef, undef, undef, undef, undef, undef, undef, undef, undef, undef, undef, undef, undef, undef, undef] rfl ?_
  have GG := Gro.refl w
  refine wp_seq ?_
  refine wp_region_lit ?_
  refine s_alloc 2 rfl rfl 64 rfl _ zv64 _ rfl ?_
  intro w1 g1 G eg1 kg1
  have bg1 := size_base GG eg1
  replace GG := GG.trans G
  clear G eg1
  simp only [z0, z1]
  refine s_val 3 rfl rfl (.bool false) (rfl) ?_
  simp only [z0, z1]
  refine wpList_nil ?_
  refine then_n ?_
  refine wp_seq ?_
  refine wp_seq ?_
  refine wp_region_lit ?_
  refine s_val 16 rfl rfl (.iface 126 (.agg (c126 f.pw f.pn))) (rfl) ?_
  simp only [z0, z1]
  refine wpList_nil ?_
  refine then_n ?_
  refine wp_block ?_
  refine wp_seq ?_
  refine wp_region_lit ?_
  refine s_val 17 rfl rfl (.tuple #[.agg (c131 0 0 0 0 zF), .bool false]) (run_ta _ 102 131 true rfl _ _ rfl (by kernel_rfl)) ?_
  simp only [z0, z1]
  refine s_val 18 rfl rfl (.bool false) (rfl) ?_
  simp only [z0, z1]
  refine s_val 19 rfl rfl (.agg (c131 0 0 0 0 zF)) (rfl) ?_
  simp only [z0, z1]
  refine wpList_nil ?_
  refine then_n ?_
  refine wp_cond_false rfl ?_
  refine wp_seq ?_
  refine wp_region_lit ?_
  refine s_val 27 rfl rfl (.tuple #[.agg (c133 0 0 0 0 0 Sl.nil), .bool false]) (run_ta _ 102 133 true rfl _ _ rfl (by kernel_rfl)) ?_
  simp only [z0, z1]
  refine s_val 28 rfl rfl (.bool false) (rfl) ?_
  simp only [z0, z1]
  refine s_val 29 rfl rfl (.agg (c133 0 0 0 0 0 Sl.nil)) (rfl) ?_
  simp only [z0, z1]
  refine wpList_nil ?_
  refine then_n ?_
  refine wp_cond_false rfl ?_
  refine wp_seq ?_
  refine wp_region_lit ?_
  refine s_val 39 rfl rfl (.tuple #[.agg (c135 0 0 0 0 0), .bool false]) (run_ta _ 102 135 true rfl _ _ rfl (by kernel_rfl)) ?_
  simp only [z0, z1]
  refine s_val 40 rfl rfl (.bool false) (rfl) ?_
  simp only [z0, z1]
  refine s_val 41 rfl rfl (.agg (c135 0 0 0 0 0)) (rfl) ?_
  simp only [z0, z1]
  refine wpList_nil ?_
  refine then_n ?_
  refine wp_cond_false rfl ?_
  refine wp_seq ?_
  refine wp_region_lit ?_
  refine s_val 49 rfl rfl (.tuple #[.agg (c88 zF 0 zF zF Sl.nil), .bool false]) (run_ta _ 102 88 true rfl _ _ rfl (by kernel_rfl)) ?_
  simp only [z0, z1]
  refine s_val 50 rfl rfl (.bool false) (rfl) ?_
  simp only [z0, z1]
  refine s_val 51 rfl rfl (.agg (c88 zF 0 zF zF Sl.nil)) (rfl) ?_
  simp only [z0, z1]
  refine wpList_nil ?_
  refine then_n ?_
  refine wp_cond_false rfl ?_
  refine wp_seq ?_
  refine wp_region_lit ?_
  refine s_val 61 rfl rfl (.tuple #[.agg (c126 f.pw f.pn), .bool true]) (run_ta _ 102 126 true rfl _ _ rfl (by kernel_rfl)) ?_
  simp only [z0, z1]
  refine s_val 62 rfl rfl (.bool true) (rfl) ?_
  simp only [z0, z1]
  refine s_val 63 rfl rfl (.agg (c126 f.pw f.pn)) (rfl) ?_
  simp only [z0, z1]
  refine wpList_nil ?_
  refine then_n ?_
  refine wp_cond_true rfl ?_
  refine wp_seq ?_
  refine wp_region_lit ?_
  refine s_alloc 8 rfl rfl 126 rfl _ zv126 _ rfl ?_
  intro w2 g2 G eg2 kg2
  have bg2 := size_base GG eg2
  have dg1g2 := lt_new kg1 eg2
  replace kg1 := G.has kg1
  replace GG := GG.trans G
  clear G eg2
  simp only [z0, z1]
  refine s_store rfl rfl 126 _ _ rfl g2 0 rfl (.agg (c126 f.pw f.pn)) rfl 126 _ kg2 (c126 f.pw f.pn) rfl (by kernel_rfl) (Nat.le_of_ble_eq_true rfl) (by kernel_rfl) (c126 f.pw f.pn) (by kernel_rfl) ?_
  intro w4 S
  replace kg1 := S.has (by omega) kg1
  replace GG := GG.store S bg2
  replace kg2 := S.new
  clear S
  refine wpList_nil ?_
  refine then_n ?_
  refine wp_seq ?_
  refine wp_region_lit ?_
  refine s_val 64 rfl rfl (.pointer (some ⟨g2, 0, none⟩)) (run_fld 126 _ 0 rfl _ _ rfl _ (by kernel_rfl)) ?_
  simp only [z0, z1]
  refine s_val 65 rfl rfl (.agg (c31 f.pw f.pn)) (run_lda 31 _ rfl g2 0 17 rfl 126 _ kg2 _ Try.underlying31 rfl si31a (Nat.le_of_ble_eq_true rfl) _ (by kernel_rfl)) ?_
  simp only [z0, z1]
  refine s_val 66 rfl rfl (.agg (c64 0 f.pw f.pn false zF zF 0 0 0 0 0 Sl.nil Sl.nil zF 0 zF Sl.nil 0 0 Sl.nil)) (run_bd 64 _ rfl [(1, .agg (c31 f.pw f.pn))] rfl _ (by kernel_rfl)) ?_
  simp only [z0, z1]
  refine s_store rfl rfl 64 _ _ rfl g1 0 rfl (.agg (c64 0 f.pw f.pn false zF zF 0 0 0 0 0 Sl.nil Sl.nil zF 0 zF Sl.nil 0 0 Sl.nil)) rfl 64 _ kg1 (c64 0 f.pw f.pn false zF zF 0 0 0 0 0 Sl.nil Sl.nil zF 0 zF Sl.nil 0 0 Sl.nil) rfl (by kernel_rfl) (Nat.le_of_ble_eq_true rfl) (by kernel_rfl) (c64 0 f.pw f.pn false zF zF 0 0 0 0 0 Sl.nil Sl.nil zF 0 zF Sl.nil 0 0 Sl.nil) (by kernel_rfl) ?_
  intro w6 S
  replace kg2 := S.has (by omega) kg2
  replace GG := GG.store S bg1
  replace kg1 := S.new
  clear S
  refine s_val 3 rfl rfl (.bool true) (rfl) ?_
  simp only [z0, z1]
  refine wpList_nil ?_
  refine then_n ?_
  refine wp_ret ?_
  refine blk_r ?_
  refine then_r ?_
  refine bodyPost_ret (results_cell_tmp Try.results56 _ _ g1 64 _ (0, 0) _ rfl (.bool true) rfl kg1 Try.underlying64 rfl (by kernel_rfl)) rfl ?_
  exact ⟨rfl, GG⟩
set_option maxRecDepth 100000 in
set_option maxHeartbeats 4000000 in
theorem fields_6 (f : Fr) (w : World) : Calls Try.prog 56 #[.iface 137 (.agg (c137 f.pw f.pn f.toA))] w fun e w' => e = .returned (.tuple #[.agg (c64 0 f.pw f.pn f.toA zF zF 0 0 0 0 0 Sl.nil Sl.nil zF 0 zF Sl.nil 0 0 Sl.nil), .bool true]) ∧ Gro w w' := by
  refine s_enter Try.func56 rfl Try.ntmps56 [.iface 137 (.agg (c137 f.pw f.pn f.toA))] [.iface 137 (.agg (c137 f.pw f.pn f.toA)), undef, undef, undef, undef, undef, undef, undef, undef, undef, undef, undef, undef, undef, undef, undef, undef, undef, undef, undef, undef, undef, undef, undef, undef, undef, undef, undef, undef, undef, undef, undef, undef, undef, undef, undef, undef, undef, undef, undef, undef, undef, undef, undef, undef, undef, undef, undef, undef, undef, undef, undef, undef, undef, undef, undef, undef, undef, undef, undef, undef, undef, undef, undef, undef, undef, undef, undef, undef, undef, undef, undef, undef, undef, undef, undef, undef, undef, undef, undef, undef, undef, undef, undef, undef, undef, undef, undef, undef, undef, undef, undef, undef, undef, undef, undef, undef, undef, undef, undef, undef, undef, undef, undef, undef, undef, undef, undef, undef, undef, undef, undef, undef, undef, undef, undef, undef, undef, undef, undef, undef, undef, undef, undef, undef, undef, undef, undef, undef, undef, undef, undef, undef, undef, undef, undef, undef, undef, undef, undef, undef, undef, undef, undef, undef, undef, undef, undef, undef, undef, undef] rfl ?_
  have GG := Gro.refl w
  refine wp_seq ?_
  refine wp_region_lit ?_
  refine s_alloc 2 rfl rfl 64 rfl _ zv64 _ rfl ?_
  intro w1 g1 G eg1 kg1
  have bg1 := size_base GG eg1
  replace GG := GG.trans G
  clear G eg1
  simp only [z0, z1]
  refine s_val 3 rfl rfl (.bool false) (rfl) ?_
  simp only [z0, z1]
  refine wpList_nil ?_
  refine then_n ?_
  refine wp_seq ?_
  refine wp_seq ?_
  refine wp_region_lit ?_
  refine s_val 16 rfl rfl (.iface 137 (.agg (c137 f.pw f.pn f.toA))) (rfl) ?_
  simp only [z0, z1]
  refine wpList_nil ?_
  refine then_n ?_
  refine wp_block ?_
  refine wp_seq ?_
  refine wp_region_lit ?_
  refine s_val 17 rfl rfl (.tuple #[.agg (c131 0 0 0 0 zF), .bool false]) (run_ta _ 102 131 true rfl _ _ rfl (by kernel_rfl)) ?_
  simp only [z0, z1]
  refine s_val 18 rfl rfl (.bool false) (rfl) ?_
  simp only [z0, z1]
  refine s_val 19 rfl rfl (.agg (c131 0 0 0 0 zF)) (rfl) ?_
  simp only [z0, z1]
  refine wpList_nil ?_
  refine then_n ?_
  refine wp_cond_false rfl ?_
  refine wp_seq ?_
  refine wp_region_lit ?_
  refine s_val 27 rfl rfl (.tuple #[.agg (c133 0 0 0 0 0 Sl.nil), .bool false]) (run_ta _ 102 133 true rfl _ _ rfl (by kernel_rfl)) ?_
  simp only [z0, z1]
  refine s_val 28 rfl rfl (.bool false) (rfl) ?_
  simp only [z0, z1]
  refine s_val 29 rfl rfl (.agg (c133 0 0 0 0 0 Sl.nil)) (rfl) ?_
  simp only [z0, z1]
  refine wpList_nil ?_
  refine then_n ?_
  refine wp_cond_false rfl ?_
  refine wp_seq ?_
  refine wp_region_lit ?_
  refine s_val 39 rfl rfl (.tuple #[.agg (c135 0 0 0 0 0), .bool false]) (run_ta _ 102 135 true rfl _ _ rfl (by kernel_rfl)) ?_
  simp only [z0, z1]
  refine s_val 40 rfl rfl (.bool false) (rfl) ?_
  simp only [z0, z1]
  refine s_val 41 rfl rfl (.agg (c135 0 0 0 0 0)) (rfl) ?_
  simp only [z0, z1]
  refine wpList_nil ?_
  refine then_n ?_
  refine wp_cond_false rfl ?_
  refine wp_seq ?_
  refine wp_region_lit ?_
  refine s_val 49 rfl rfl (.tuple #[.agg (c88 zF 0 zF zF Sl.nil), .bool false]) (run_ta _ 102 88 true rfl _ _ rfl (by kernel_rfl)) ?_
  simp only [z0, z1]
  refine s_val 50 rfl rfl (.bool false) (rfl) ?_
  simp only [z0, z1]
  refine s_val 51 rfl rfl (.agg (c88 zF 0 zF zF Sl.nil)) (rfl) ?_
  simp only [z0, z1]
  refine wpList_nil ?_
  refine then_n ?_
  refine wp_cond_false rfl ?_
  refine wp_seq ?_
  refine wp_region_lit ?_
  refine s_val 61 rfl rfl (.tuple #[.agg (c126 zF 0), .bool false]) (run_ta _ 102 126 true rfl _ _ rfl (by kernel_rfl)) ?_
  simp only [z0, z1]
  refine s_val 62 rfl rfl (.bool false) (rfl) ?_
  simp only [z0, z1]
  refine s_val 63 rfl rfl (.agg (c126 zF 0)) (rfl) ?_
  simp only [z0, z1]
  refine wpList_nil ?_
  refine then_n ?_
  refine wp_cond_false rfl ?_
  refine wp_seq ?_
  refine wp_region_lit ?_
  refine s_val 67 rfl rfl (.tuple #[.agg (c137 f.pw f.pn f.toA), .bool true]) (run_ta _ 102 137 true rfl _ _ rfl (by kernel_rfl)) ?_
  simp only [z0, z1]
  refine s_val 68 rfl rfl (.bool true) (rfl) ?_
  simp only [z0, z1]
  refine s_val 69 rfl rfl (.agg (c137 f.pw f.pn f.toA)) (rfl) ?_
  simp only [z0, z1]
  refine wpList_nil ?_
  refine then_n ?_
  refine wp_cond_true rfl ?_
  refine wp_seq ?_
  refine wp_region_lit ?_
  refine s_alloc 9 rfl rfl 137 rfl _ zv137 _ rfl ?_
  intro w2 g2 G eg2 kg2
  have bg2 := size_base GG eg2
  have dg1g2 := lt_new kg1 eg2
  replace kg1 := G.has kg1
  replace GG := GG.trans G
  clear G eg2
  simp only [z0, z1]
  refine s_store rfl rfl 137 _ _ rfl g2 0 rfl (.agg (c137 f.pw f.pn f.toA)) rfl 137 _ kg2 (c137 f.pw f.pn f.toA) rfl (by kernel_rfl) (Nat.le_of_ble_eq_true rfl) (by kernel_rfl) (c137 f.pw f.pn f.toA) (by kernel_rfl) ?_
  intro w4 S
  replace kg1 := S.has (by omega) kg1
  replace GG := GG.store S bg2
  replace kg2 := S.new
  clear S
  refine wpList_nil ?_
  refine then_n ?_
  refine wp_seq ?_
  refine wp_region_lit ?_
  refine s_val 70 rfl rfl (.pointer (some ⟨g2, 0, none⟩)) (run_fld 137 _ 0 rfl _ _ rfl _ (by kernel_rfl)) ?_
  simp only [z0, z1]
  refine s_val 71 rfl rfl (.agg (c31 f.pw f.pn)) (run_lda 31 _ rfl g2 0 17 rfl 137 _ kg2 _ Try.underlying31 rfl si31a (Nat.le_of_ble_eq_true rfl) _ (by kernel_rfl)) ?_
  simp only [z0, z1]
  refine s_val 72 rfl rfl (.pointer (some ⟨g2, 17, none⟩)) (run_fld 137 _ 1 rfl _ _ rfl _ (by kernel_rfl)) ?_
  simp only [z0, z1]
  refine s_val 73 rfl rfl (.bool f.toA) (run_ldc 4 _ rfl g2 17 rfl 137 _ kg2 (na4 _) _ rfl) ?_
  simp only [z0, z1]
  refine s_val 74 rfl rfl (.agg (c64 0 f.pw f.pn f.toA zF zF 0 0 0 0 0 Sl.nil Sl.nil zF 0 zF Sl.nil 0 0 Sl.nil)) (run_bd 64 _ rfl [(1, .agg (c31 f.pw f.pn)), (2, .bool f.toA)] rfl _ (by kernel_rfl)) ?_
  simp only [z0, z1]
  refine s_store rfl rfl 64 _ _ rfl g1 0 rfl (.agg (c64 0 f.pw f.pn f.toA zF zF 0 0 0 0 0 Sl.nil Sl.nil zF 0 zF Sl.nil 0 0 Sl.nil)) rfl 64 _ kg1 (c64 0 f.pw f.pn f.toA zF zF 0 0 0 0 0 Sl.nil Sl.nil zF 0 zF Sl.nil 0 0 Sl.nil) rfl (by kernel_rfl) (Nat.le_of_ble_eq_true rfl) (by kernel_rfl) (c64 0 f.pw f.pn f.toA zF zF 0 0 0 0 0 Sl.nil Sl.nil zF 0 zF Sl.nil 0 0 Sl.nil) (by kernel_rfl) ?_
  intro w6 S
  replace kg2 := S.has (by omega) kg2
  replace GG := GG.store S bg1
  replace kg1 := S.new
  clear S
  refine s_val 3 rfl rfl (.bool true) (rfl) ?_
  simp only [z0, z1]
  refine wpList_nil ?_
  refine then_n ?_
  refine wp_ret ?_
  refine blk_r ?_
  refine then_r ?_
  refine bodyPost_ret (results_cell_tmp Try.results56 _ _ g1 64 _ (0, 0) _ rfl (.bool true) rfl kg1 Try.underlying64 rfl (by kernel_rfl)) rfl ?_
  exact ⟨rfl, GG⟩
set_option maxRecDepth 100000 in
set_option maxHeartbeats 4000000 in
theorem fields_7 (f : Fr) (w : World) : Calls Try.prog 56 #[.iface 139 (.agg (c139 f.pw f.pn f.toA f.ids))] w fun e w' => e = .returned (.tuple #[.agg (c64 0 f.pw f.pn f.toA zF zF 0 0 0 0 0 Sl.nil f.ids zF 0 zF Sl.nil 0 0 Sl.nil), .bool true]) ∧ Gro w w' := by
  refine s_enter Try.func56 rfl Try.ntmps56 [.iface 139 (.agg (c139 f.pw f.pn f.toA f.ids))] [.iface 139 (.agg (c139 f.pw f.pn f.toA f.ids)), undef, undef, undef, undef, undef, undef, undef, undef, undef, undef, undef, undef, undef, undef, undef, undef, undef, undef, undef, undef, undef, undef, undef, undef, undef, undef, undef, undef, undef, undef, undef, undef, undef, undef, undef, undef, undef, undef, undef, undef, undef, undef, undef, undef, undef, undef, undef, undef, undef, undef, undef, undef, undef, undef, undef, undef, undef, undef, undef, undef, undef, undef, undef, undef, undef, undef, undef, undef, undef, undef, undef, undef, undef, undef, undef, undef, undef, undef, undef, undef, undef, undef, undef, undef, undef, undef, undef, undef, undef, undef, undef, undef, undef, undef, undef, undef, undef, undef, undef, undef, undef, undef, undef, undef, undef, undef, undef, undef, undef, undef, undef, undef, undef, undef, undef, undef, undef, undef, undef, undef, undef, undef, undef, undef, undef, undef, undef, undef, undef, undef, undef, undef, undef, undef, undef, undef, undef, undef, undef, undef, undef, undef, undef, undef, undef, undef, undef, undef, undef, undef] rfl ?_
  have GG := Gro.refl w
  refine wp_seq ?_
  refine wp_region_lit ?_
  refine s_alloc 2 rfl rfl 64 rfl _ zv64 _ rfl ?_
  intro w1 g1 G eg1 kg1
  have bg1 := size_base GG eg1
  replace GG := GG.trans G
  clear G eg1
  simp only [z0, z1]
  refine s_val 3 rfl rfl (.bool false) (rfl) ?_
  simp only [z0, z1]
  refine wpList_nil ?_
  refine then_n ?_
  refine wp_seq ?_
  refine wp_seq ?_
  refine wp_region_lit ?_
  refine s_val 16 rfl rfl (.iface 139 (.agg (c139 f.pw f.pn f.toA f.ids))) (rfl) ?_
  simp only [z0, z1]
  refine wpList_nil ?_
  refine then_n ?_
  refine wp_block ?_
  refine wp_seq ?_
  refine wp_region_lit ?_
  refine s_val 17 rfl rfl (.tuple #[.agg (c131 0 0 0 0 zF), .bool false]) (run_ta _ 102 131 true rfl _ _ rfl (by kernel_rfl)) ?_
  simp only [z0, z1]
  refine s_val 18 rfl rfl (.bool false) (rfl) ?_
  simp only [z0, z1]
  refine s_val 19 rfl rfl (.agg (c131 0 0 0 0 zF)) (rfl) ?_
  simp only [z0, z1]
  refine wpList_nil ?_
  refine then_n ?_
  refine wp_cond_false rfl ?_
  refine wp_seq ?_
  refine wp_region_lit ?_
  refine s_val 27 rfl rfl (.tuple #[.agg (c133 0 0 0 0 0 Sl.nil), .bool false]) (run_ta _ 102 133 true rfl _ _ rfl (by kernel_rfl)) ?_
  simp only [z0, z1]
  refine s_val 28 rfl rfl (.bool false) (rfl) ?_
  simp only [z0, z1]
  refine s_val 29 rfl rfl (.agg (c133 0 0 0 0 0 Sl.nil)) (rfl) ?_
  simp only [z0, z1]
  refine wpList_nil ?_
  refine then_n ?_
  refine wp_cond_false rfl ?_
  refine wp_seq ?_
  refine wp_region_lit ?_
  refine s_val 39 rfl rfl (.tuple #[.agg (c135 0 0 0 0 0), .bool false]) (run_ta _ 102 135 true rfl _ _ rfl (by kernel_rfl)) ?_
  simp only [z0, z1]
  refine s_val 40 rfl rfl (.bool false) (rfl) ?_
  simp only [z0, z1]
  refine s_val 41 rfl rfl (.agg (c135 0 0 0 0 0)) (rfl) ?_
  simp only [z0, z1]
  refine wpList_nil ?_
  refine then_n ?_
  refine wp_cond_false rfl ?_
  refine wp_seq ?_
  refine wp_region_lit ?_
  refine s_val 49 rfl rfl (.tuple #[.agg (c88 zF 0 zF zF Sl.nil), .bool false]) (run_ta _ 102 88 true rfl _ _ rfl (by kernel_rfl)) ?_
  simp only [z0, z1]
  refine s_val 50 rfl rfl (.bool false) (rfl) ?_
  simp only [z0, z1]
  refine s_val 51 rfl rfl (.agg (c88 zF 0 zF zF Sl.nil)) (rfl) ?_
  simp only [z0, z1]
  refine wpList_nil ?_
  refine then_n ?_
  refine wp_cond_false rfl ?_
  refine wp_seq ?_
  refine wp_region_lit ?_
  refine s_val 61 rfl rfl (.tuple #[.agg (c126 zF 0), .bool false]) (run_ta _ 102 126 true rfl _ _ rfl (by kernel_rfl)) ?_
  simp only [z0, z1]
  refine s_val 62 rfl rfl (.bool false) (rfl) ?_
  simp only [z0, z1]
  refine s_val 63 rfl rfl (.agg (c126 zF 0)) (rfl) ?_
  simp only [z0, z1]
  refine wpList_nil ?_
  refine then_n ?_
  refine wp_cond_false rfl ?_
  refine wp_seq ?_
  refine wp_region_lit ?_
  refine s_val 67 rfl rfl (.tuple #[.agg (c137 zF 0 false), .bool false]) (run_ta _ 102 137 true rfl _ _ rfl (by kernel_rfl)) ?_
  simp only [z0, z1]
  refine s_val 68 rfl rfl (.bool false) (rfl) ?_
  simp only [z0, z1]
  refine s_val 69 rfl rfl (.agg (c137 zF 0 false)) (rfl) ?_
  simp only [z0, z1]
  refine wpList_nil ?_
  refine then_n ?_
  refine wp_cond_false rfl ?_
  refine wp_seq ?_
  refine wp_region_lit ?_
  refine s_val 75 rfl rfl (.tuple #[.agg (c139 f.pw f.pn f.toA f.ids), .bool true]) (run_ta _ 102 139 true rfl _ _ rfl (by kernel_rfl)) ?_
  simp only [z0, z1]
  refine s_val 76 rfl rfl (.bool true) (rfl) ?_
  simp only [z0, z1]
  refine s_val 77 rfl rfl (.agg (c139 f.pw f.pn f.toA f.ids)) (rfl) ?_
  simp only [z0, z1]
  refine wpList_nil ?_
  refine then_n ?_
  refine wp_cond_true rfl ?_
  refine wp_seq ?_
  refine wp_region_lit ?_
  refine s_alloc 10 rfl rfl 139 rfl _ zv139 _ rfl ?_
  intro w2 g2 G eg2 kg2
  have bg2 := size_base GG eg2
  have dg1g2 := lt_new kg1 eg2
  replace kg1 := G.has kg1
  replace GG := GG.trans G
  clear G eg2
  simp only [z0, z1]
  refine s_store rfl rfl 139 _ _ rfl g2 0 rfl (.agg (c139 f.pw f.pn f.toA f.ids)) rfl 139 _ kg2 (c139 f.pw f.pn f.toA f.ids) rfl (by kernel_rfl) (Nat.le_of_ble_eq_true rfl) (by kernel_rfl) (c139 f.pw f.pn f.toA f.ids) (by kernel_rfl) ?_
  intro w4 S
  replace kg1 := S.has (by omega) kg1
  replace GG := GG.store S bg2
  replace kg2 := S.new
  clear S
  refine wpList_nil ?_
  refine then_n ?_
  refine wp_seq ?_
  refine wp_region_lit ?_
  refine s_val 78 rfl rfl (.pointer (some ⟨g2, 0, none⟩)) (run_fld 139 _ 0 rfl _ _ rfl _ (by kernel_rfl)) ?_
  simp only [z0, z1]
  refine s_val 79 rfl rfl (.agg (c31 f.pw f.pn)) (run_lda 31 _ rfl g2 0 17 rfl 139 _ kg2 _ Try.underlying31 rfl si31a (Nat.le_of_ble_eq_true rfl) _ (by kernel_rfl)) ?_
  simp only [z0, z1]
  refine s_val 80 rfl rfl (.pointer (some ⟨g2, 17, none⟩)) (run_fld 139 _ 1 rfl _ _ rfl _ (by kernel_rfl)) ?_
  simp only [z0, z1]
  refine s_val 81 rfl rfl (.bool f.toA) (run_ldc 4 _ rfl g2 17 rfl 139 _ kg2 (na4 _) _ rfl) ?_
  simp only [z0, z1]
  refine s_val 82 rfl rfl (.pointer (some ⟨g2, 18, none⟩)) (run_fld 139 _ 2 rfl _ _ rfl _ (by kernel_rfl)) ?_
  simp only [z0, z1]
  refine s_val 83 rfl rfl (.slice f.ids.ao f.ids.n f.ids.cap) (run_ldc 57 _ rfl g2 18 rfl 139 _ kg2 (na57a _) _ rfl) ?_
  simp only [z0, z1]
  refine s_val 84 rfl rfl (.agg (c64 0 f.pw f.pn f.toA zF zF 0 0 0 0 0 Sl.nil f.ids zF 0 zF Sl.nil 0 0 Sl.nil)) (run_bd 64 _ rfl [(1, .agg (c31 f.pw f.pn)), (2, .bool f.toA), (9, .slice f.ids.ao f.ids.n f.ids.cap)] rfl _ (by kernel_rfl)) ?_
  simp only [z0, z1]
  refine s_store rfl rfl 64 _ _ rfl g1 0 rfl (.agg (c64 0 f.pw f.pn f.toA zF zF 0 0 0 0 0 Sl.nil f.ids zF 0 zF Sl.nil 0 0 Sl.nil)) rfl 64 _ kg1 (c64 0 f.pw f.pn f.toA zF zF 0 0 0 0 0 Sl.nil f.ids zF 0 zF Sl.nil 0 0 Sl.nil) rfl (by kernel_rfl) (Nat.le_of_ble_eq_true rfl) (by kernel_rfl) (c64 0 f.pw f.pn f.toA zF zF 0 0 0 0 0 Sl.nil f.ids zF 0 zF Sl.nil 0 0 Sl.nil) (by kernel_rfl) ?_
  intro w6 S
  replace kg2 := S.has (by omega) kg2
  replace GG := GG.store S bg1
  replace kg1 := S.new
  clear S
  refine s_val 3 rfl rfl (.bool true) (rfl) ?_
  simp only [z0, z1]
  refine wpList_nil ?_
  refine then_n ?_
  refine wp_ret ?_
  refine blk_r ?_
  refine then_r ?_
  refine bodyPost_ret (results_cell_tmp Try.results56 _ _ g1 64 _ (0, 0) _ rfl (.bool true) rfl kg1 Try.underlying64 rfl (by kernel_rfl)) rfl ?_
  exact ⟨rfl, GG⟩
set_option maxRecDepth 100000 in
set_option maxHeartbeats 4000000 in
theorem fields_8 (f : Fr) (w : World) : Calls Try.prog 56 #[.iface 141 (.agg (c141 f.a f.b f.op f.pw f.pn f.toA f.tr))] w fun e w' => e = .returned (.tuple #[.agg (c64 0 f.pw f.pn f.toA f.a f.b 0 0 0 0 0 f.tr Sl.nil zF 0 zF Sl.nil f.op 0 Sl.nil), .bool true]) ∧ Gro w w' := by
  refine s_enter Try.func56 rfl Try.ntmps56 [.iface 141 (.agg (c141 f.a f.b f.op f.pw f.pn f.toA f.tr))] [.iface 141 (.agg (c141 f.a f.b f.op f.pw f.pn f.toA f.tr)), undef, undef, undef, undef, undef, undef, undef, undef, undef, undef, undef, undef, undef, undef, undef, undef, undef, undef, undef, undef, undef, undef, undef, undef, undef, undef, undef, undef, undef, undef, undef, undef, undef, undef, undef, undef, undef, undef, undef, undef, undef, undef, undef, undef, undef, undef, undef, undef, undef, undef, undef, undef, undef, undef, undef, undef, undef, undef, undef, undef, undef, undef, undef, undef, undef, undef, undef, undef, undef, undef, undef, undef, undef, undef, undef, undef, undef, undef, undef, undef, undef, undef, undef, undef, undef, undef, undef, undef, undef, undef, undef, undef, undef, undef, undef, undef, undef, undef, undef, undef, undef, undef, undef, undef, undef, undef, undef, undef, undef, undef, undef, undef, undef, undef, undef, undef, undef, undef, undef, undef, undef, undef, undef, undef, undef, undef, undef, undef, undef, undef, undef, undef, undef, undef, undef, undef, undef, undef, undef, undef, undef, undef, undef, undef, undef, undef, undef, undef, undef, undef] rfl ?_
  have GG := Gro.refl w
  refine wp_seq ?_
  refine wp_region_lit ?_
  refine s_alloc 2 rfl rfl 64 rfl _ zv64 _ rfl ?_
  intro w1 g1 G eg1 kg1
  have bg1 := size_base GG eg1
  replace GG := GG.trans G
  clear G eg1
  simp only [z0, z1]
  refine s_val 3 rfl rfl (.bool false) (rfl) ?_
  simp only [z0, z1]
  refine wpList_nil ?_
  refine then_n ?_
  refine wp_seq ?_
  refine wp_seq ?_
  refine wp_region_lit ?_
  refine s_val 16 rfl rfl (.iface 141 (.agg (c141 f.a f.b f.op f.pw f.pn f.toA f.tr))) (rfl) ?_
  simp only [z0, z1]
  refine wpList_nil ?_
  refine then_n ?_
  refine wp_block ?_
  refine wp_seq ?_
  refine wp_region_lit ?_
  refine s_val 17 rfl rfl (.tuple #[.agg (c131 0 0 0 0 zF), .bool false]) (run_ta _ 102 131 true rfl _ _ rfl (by kernel_rfl)) ?_
  simp only [z0, z1]
  refine s_val 18 rfl rfl (.bool false) (rfl) ?_
  simp only [z0, z1]
  refine s_val 19 rfl rfl (.agg (c131 0 0 0 0 zF)) (rfl) ?_
  simp only [z0, z1]
  refine wpList_nil ?_
  refine then_n ?_
  refine wp_cond_false rfl ?_
  refine wp_seq ?_
  refine wp_region_lit ?_
  refine s_val 27 rfl rfl (.tuple #[.agg (c133 0 0 0 0 0 Sl.nil), .bool false]) (run_ta _ 102 133 true rfl _ _ rfl (by kernel_rfl)) ?_
  simp only [z0, z1]
  refine s_val 28 rfl rfl (.bool false) (rfl) ?_
  simp only [z0, z1]
  refine s_val 29 rfl rfl (.agg (c133 0 0 0 0 0 Sl.nil)) (rfl) ?_
  simp only [z0, z1]
  refine wpList_nil ?_
  refine then_n ?_
  refine wp_cond_false rfl ?_
  refine wp_seq ?_
  refine wp_region_lit ?_
  refine s_val 39 rfl rfl (.tuple #[.agg (c135 0 0 0 0 0), .bool false]) (run_ta _ 102 135 true rfl _ _ rfl (by kernel_rfl)) ?_
  simp only [z0, z1]
  refine s_val 40 rfl rfl (.bool false) (rfl) ?_
  simp only [z0, z1]
  refine s_val 41 rfl rfl (.agg (c135 0 0 0 0 0)) (rfl) ?_
  simp only [z0, z1]
  refine wpList_nil ?_
  refine then_n ?_
  refine wp_cond_false rfl ?_
  refine wp_seq ?_
  refine wp_region_lit ?_
  refine s_val 49 rfl rfl (.tuple #[.agg (c88 zF 0 zF zF Sl.nil), .bool false]) (run_ta _ 102 88 true rfl _ _ rfl (by kernel_rfl)) ?_
  simp only [z0, z1]
  refine s_val 50 rfl rfl (.bool false) (rfl) ?_
  simp only [z0, z1]
  refine s_val 51 rfl rfl (.agg (c88 zF 0 zF zF Sl.nil)) (rfl) ?_
  simp only [z0, z1]
  refine wpList_nil ?_
  refine then_n ?_
  refine wp_cond_false rfl ?_
  refine wp_seq ?_
  refine wp_region_lit ?_
  refine s_val 61 rfl rfl (.tuple #[.agg (c126 zF 0), .bool false]) (run_ta _ 102 126 true rfl _ _ rfl (by kernel_rfl)) ?_
  simp only [z0, z1]
  refine s_val 62 rfl rfl (.bool false) (rfl) ?_
  simp only [z0, z1]
  refine s_val 63 rfl rfl (.agg (c126 zF 0)) (rfl) ?_
  simp only [z0, z1]
  refine wpList_nil ?_
  refine then_n ?_
  refine wp_cond_false rfl ?_
  refine wp_seq ?_
  refine wp_region_lit ?_
  refine s_val 67 rfl rfl (.tuple #[.agg (c137 zF 0 false), .bool false]) (run_ta _ 102 137 true rfl _ _ rfl (by kernel_rfl)) ?_
  simp only [z0, z1]
  refine s_val 68 rfl rfl (.bool false) (rfl) ?_
  simp only [z0, z1]
  refine s_val 69 rfl rfl (.agg (c137 zF 0 false)) (rfl) ?_
  simp only [z0, z1]
  refine wpList_nil ?_
  refine then_n ?_
  refine wp_cond_false rfl ?_
  refine wp_seq ?_
  refine wp_region_lit ?_
  refine s_val 75 rfl rfl (.tuple #[.agg (c139 zF 0 false Sl.nil), .bool false]) (run_ta _ 102 139 true rfl _ _ rfl (by kernel_rfl)) ?_
  simp only [z0, z1]
  refine s_val 76 rfl rfl (.bool false) (rfl) ?_
  simp only [z0, z1]
  refine s_val 77 rfl rfl (.agg (c139 zF 0 false Sl.nil)) (rfl) ?_
  simp only [z0, z1]
  refine wpList_nil ?_
  refine then_n ?_
  refine wp_cond_false rfl ?_
  refine wp_seq ?_
  refine wp_region_lit ?_
  refine s_val 85 rfl rfl (.tuple #[.agg (c141 f.a f.b f.op f.pw f.pn f.toA f.tr), .bool true]) (run_ta _ 102 141 true rfl _ _ rfl (by kernel_rfl)) ?_
  simp only [z0, z1]
  refine s_val 86 rfl rfl (.bool true) (rfl) ?_
  simp only [z0, z1]
  refine s_val 87 rfl rfl (.agg (c141 f.a f.b f.op f.pw f.pn f.toA f.tr)) (rfl) ?_
  simp only [z0, z1]
  refine wpList_nil ?_
  refine then_n ?_
  refine wp_cond_true rfl ?_
  refine wp_seq ?_
  refine wp_region_lit ?_
  refine s_alloc 11 rfl rfl 141 rfl _ zv141 _ rfl ?_
  intro w2 g2 G eg2 kg2
  have bg2 := size_base GG eg2
  have dg1g2 := lt_new kg1 eg2
  replace kg1 := G.has kg1
  replace GG := GG.trans G
  clear G eg2
  simp only [z0, z1]
  refine s_store rfl rfl 141 _ _ rfl g2 0 rfl (.agg (c141 f.a f.b f.op f.pw f.pn f.toA f.tr)) rfl 141 _ kg2 (c141 f.a f.b f.op f.pw f.pn f.toA f.tr) rfl (by kernel_rfl) (Nat.le_of_ble_eq_true rfl) (by kernel_rfl) (c141 f.a f.b f.op f.pw f.pn f.toA f.tr) (by kernel_rfl) ?_
  intro w4 S
  replace kg1 := S.has (by omega) kg1
  replace GG := GG.store S bg2
  replace kg2 := S.new
  clear S
  refine wpList_nil ?_
  refine then_n ?_
  refine wp_seq ?_
  refine wp_region_lit ?_
  refine s_val 88 rfl rfl (.pointer (some ⟨g2, 0, none⟩)) (run_fld 141 _ 0 rfl _ _ rfl _ (by kernel_rfl)) ?_
  simp only [z0, z1]
  refine s_val 89 rfl rfl (.agg (c24 f.a)) (run_lda 24 _ rfl g2 0 16 rfl 141 _ kg2 _ Try.underlying24 rfl si24 (Nat.le_of_ble_eq_true rfl) _ (by kernel_rfl)) ?_
  simp only [z0, z1]
  refine s_val 90 rfl rfl (.pointer (some ⟨g2, 16, none⟩)) (run_fld 141 _ 1 rfl _ _ rfl _ (by kernel_rfl)) ?_
  simp only [z0, z1]
  refine s_val 91 rfl rfl (.agg (c24 f.b)) (run_lda 24 _ rfl g2 16 16 rfl 141 _ kg2 _ Try.underlying24 rfl si24 (Nat.le_of_ble_eq_true rfl) _ (by kernel_rfl)) ?_
  simp only [z0, z1]
  refine s_val 92 rfl rfl (.pointer (some ⟨g2, 32, none⟩)) (run_fld 141 _ 2 rfl _ _ rfl _ (by kernel_rfl)) ?_
  simp only [z0, z1]
  refine s_val 93 rfl rfl (.int .i64 f.op) (run_ldc 3 _ rfl g2 32 rfl 141 _ kg2 (na3 _) _ rfl) ?_
  simp only [z0, z1]
  refine s_val 94 rfl rfl (.pointer (some ⟨g2, 33, none⟩)) (run_fld 141 _ 3 rfl _ _ rfl _ (by kernel_rfl)) ?_
  simp only [z0, z1]
  refine s_val 95 rfl rfl (.agg (c31 f.pw f.pn)) (run_lda 31 _ rfl g2 33 17 rfl 141 _ kg2 _ Try.underlying31 rfl si31a (Nat.le_of_ble_eq_true rfl) _ (by kernel_rfl)) ?_
  simp only [z0, z1]
  refine s_val 96 rfl rfl (.pointer (some ⟨g2, 50, none⟩)) (run_fld 141 _ 4 rfl _ _ rfl _ (by kernel_rfl)) ?_
  simp only [z0, z1]
  refine s_val 97 rfl rfl (.bool f.toA) (run_ldc 4 _ rfl g2 50 rfl 141 _ kg2 (na4 _) _ rfl) ?_
  simp only [z0, z1]
  refine s_val 98 rfl rfl (.pointer (some ⟨g2, 51, none⟩)) (run_fld 141 _ 5 rfl _ _ rfl _ (by kernel_rfl)) ?_
  simp only [z0, z1]
  refine s_val 99 rfl rfl (.slice f.tr.ao f.tr.n f.tr.cap) (run_ldc 32 _ rfl g2 51 rfl 141 _ kg2 (na32 _) _ rfl) ?_
  simp only [z0, z1]
  refine s_val 100 rfl rfl (.agg (c64 0 f.pw f.pn f.toA f.a f.b 0 0 0 0 0 f.tr Sl.nil zF 0 zF Sl.nil f.op 0 Sl.nil)) (run_bd 64 _ rfl [(3, .agg (c24 f.a)), (4, .agg (c24 f.b)), (11, .int .i64 f.op), (1, .agg (c31 f.pw f.pn)), (2, .bool f.toA), (8, .slice f.tr.ao f.tr.n f.tr.cap)] rfl _ (by kernel_rfl)) ?_
  simp only [z0, z1]
  refine s_store rfl rfl 64 _ _ rfl g1 0 rfl (.agg (c64 0 f.pw f.pn f.toA f.a f.b 0 0 0 0 0 f.tr Sl.nil zF 0 zF Sl.nil f.op 0 Sl.nil)) rfl 64 _ kg1 (c64 0 f.pw f.pn f.toA f.a f.b 0 0 0 0 0 f.tr Sl.nil zF 0 zF Sl.nil f.op 0 Sl.nil) rfl (by kernel_rfl) (Nat.le_of_ble_eq_true rfl) (by kernel_rfl) (c64 0 f.pw f.pn f.toA f.a f.b 0 0 0 0 0 f.tr Sl.nil zF 0 zF Sl.nil f.op 0 Sl.nil) (by kernel_rfl) ?_
  intro w6 S
  replace kg2 := S.has (by omega) kg2
  replace GG := GG.store S bg1
  replace kg1 := S.new
  clear S
  refine s_val 3 rfl rfl (.bool true) (rfl) ?_
  simp only [z0, z1]
  refine wpList_nil ?_
  refine then_n ?_
  refine wp_ret ?_
  refine blk_r ?_
  refine then_r ?_
  refine bodyPost_ret (results_cell_tmp Try.results56 _ _ g1 64 _ (0, 0) _ rfl (.bool true) rfl kg1 Try.underlying64 rfl (by kernel_rfl)) rfl ?_
  exact ⟨rfl, GG⟩
set_option maxRecDepth 100000 in
set_option maxHeartbeats 4000000 in
theorem fields_9 (f : Fr) (w : World) : Calls Try.prog 56 #[.iface 143 (.agg (c143 f.a f.n))] w fun e w' => e = .returned (.tuple #[.agg (c64 0 zF 0 false f.a zF f.n 0 0 0 0 Sl.nil Sl.nil zF 0 zF Sl.nil 0 0 Sl.nil), .bool true]) ∧ Gro w w' := by
  refine s_enter Try.func56 rfl Try.ntmps56 [.iface 143 (.agg (c143 f.a f.n))] [.iface 143 (.agg (c143 f.a f.n)), undef, undef, undef, undef, undef, undef, undef, undef, undef, undef, undef, undef, undef, undef, undef, undef, undef, undef, undef, undef, undef, undef, undef, undef, undef, undef, undef, undef, undef, undef, undef, undef, undef, undef, undef, undef, undef, undef, undef, undef, undef, undef, undef, undef, undef, undef, undef, undef, undef, undef, undef, undef, undef, undef, undef, undef, undef, undef, undef, undef, undef, undef, undef, undef, undef, undef, undef, undef, undef, undef, undef, undef, undef, undef, undef, undef, undef, undef, undef, undef, undef, undef, undef, undef, undef, undef, undef, undef, undef, undef, undef, undef, undef, undef, undef, undef, undef, undef, undef, undef, undef, undef, undef, undef, undef, undef, undef, undef, undef, undef, undef, undef, undef, undef, undef, undef, undef, undef, undef, undef, undef, undef, undef, undef, undef, undef, undef, undef, undef, undef, undef, undef, undef, undef, undef, undef, undef, undef, undef, undef, undef, undef, undef, undef, undef, undef, undef, undef, undef, undef] rfl ?_
  have GG := Gro.refl w
  refine wp_seq ?_
  refine wp_region_lit ?_
  refine s_alloc 2 rfl rfl 64 rfl _ zv64 _ rfl ?_
  intro w1 g1 G eg1 kg1
  have bg1 := size_base GG eg1
  replace GG := GG.trans G
  clear G eg1
  simp only [z0, z1]
  refine s_val 3 rfl rfl (.bool false) (rfl) ?_
  simp only [z0, z1]
  refine wpList_nil ?_
  refine then_n ?_
  refine wp_seq ?_
  refine wp_seq ?_
  refine wp_region_lit ?_
  refine s_val 16 rfl rfl (.iface 143 (.agg (c143 f.a f.n))) (rfl) ?_
  simp only [z0, z1]
  refine wpList_nil ?_
  refine then_n ?_
  refine wp_block ?_
  refine wp_seq ?_
  refine wp_region_lit ?_
  refine s_val 17 rfl rfl (.tuple #[.agg (c131 0 0 0 0 zF), .bool false]) (run_ta _ 102 131 true rfl _ _ rfl (by kernel_rfl)) ?_
  simp only [z0, z1]
  refine s_val 18 rfl rfl (.bool false) (rfl) ?_
  simp only [z0, z1]
  refine s_val 19 rfl rfl (.agg (c131 0 0 0 0 zF)) (rfl) ?_
  simp only [z0, z1]
  refine wpList_nil ?_
  refine then_n ?_
  refine wp_cond_false rfl ?_
  refine wp_seq ?_
  refine wp_region_lit ?_
  refine s_val 27 rfl rfl (.tuple #[.agg (c133 0 0 0 0 0 Sl.nil), .bool false]) (run_ta _ 102 133 true rfl _ _ rfl (by kernel_rfl)) ?_
  simp only [z0, z1]
  refine s_val 28 rfl rfl (.bool false) (rfl) ?_
  simp only [z0, z1]
  refine s_val 29 rfl rfl (.agg (c133 0 0 0 0 0 Sl.nil)) (rfl) ?_
  simp only [z0, z1]
  refine wpList_nil ?_
  refine then_n ?_
  refine wp_cond_false rfl ?_
  refine wp_seq ?_
  refine wp_region_lit ?_
  refine s_val 39 rfl rfl (.tuple #[.agg (c135 0 0 0 0 0), .bool false]) (run_ta _ 102 135 true rfl _ _ rfl (by kernel_rfl)) ?_
  simp only [z0, z1]
  refine s_val 40 rfl rfl (.bool false) (rfl) ?_
  simp only [z0, z1]
  refine s_val 41 rfl rfl (.agg (c135 0 0 0 0 0)) (rfl) ?_
  simp only [z0, z1]
  refine wpList_nil ?_
  refine then_n ?_
  refine wp_cond_false rfl ?_
  refine wp_seq ?_
  refine wp_region_lit ?_
  refine s_val 49 rfl rfl (.tuple #[.agg (c88 zF 0 zF zF Sl.nil), .bool false]) (run_ta _ 102 88 true rfl _ _ rfl (by kernel_rfl)) ?_
  simp only [z0, z1]
  refine s_val 50 rfl rfl (.bool false) (rfl) ?_
  simp only [z0, z1]
  refine s_val 51 rfl rfl (.agg (c88 zF 0 zF zF Sl.nil)) (rfl) ?_
  simp only [z0, z1]
  refine wpList_nil ?_
  refine then_n ?_
  refine wp_cond_false rfl ?_
  refine wp_seq ?_
  refine wp_region_lit ?_
  refine s_val 61 rfl rfl (.tuple #[.agg (c126 zF 0), .bool false]) (run_ta _ 102 126 true rfl _ _ rfl (by kernel_rfl)) ?_
  simp only [z0, z1]
  refine s_val 62 rfl rfl (.bool false) (rfl) ?_
  simp only [z0, z1]
  refine s_val 63 rfl rfl (.agg (c126 zF 0)) (rfl) ?_
  simp only [z0, z1]
  refine wpList_nil ?_
  refine then_n ?_
  refine wp_cond_false rfl ?_
  refine wp_seq ?_
  refine wp_region_lit ?_
  refine s_val 67 rfl rfl (.tuple #[.agg (c137 zF 0 false), .bool false]) (run_ta _ 102 137 true rfl _ _ rfl (by kernel_rfl)) ?_
  simp only [z0, z1]
  refine s_val 68 rfl rfl (.bool false) (rfl) ?_
  simp only [z0, z1]
  refine s_val 69 rfl rfl (.agg (c137 zF 0 false)) (rfl) ?_
  simp only [z0, z1]
  refine wpList_nil ?_
  refine then_n ?_
  refine wp_cond_false rfl ?_
  refine wp_seq ?_
  refine wp_region_lit ?_
  refine s_val 75 rfl rfl (.tuple #[.agg (c139 zF 0 false Sl.nil), .bool false]) (run_ta _ 102 139 true rfl _ _ rfl (by kernel_rfl)) ?_
  simp only [z0, z1]
  refine s_val 76 rfl rfl (.bool false) (rfl) ?_
  simp only [z0, z1]
  refine s_val 77 rfl rfl (.agg (c139 zF 0 false Sl.nil)) (rfl) ?_
  simp only [z0, z1]
  refine wpList_nil ?_
  refine then_n ?_
  refine wp_cond_false rfl ?_
  refine wp_seq ?_
  refine wp_region_lit ?_
  refine s_val 85 rfl rfl (.tuple #[.agg (c141 zF zF 0 zF 0 false Sl.nil), .bool false]) (run_ta _ 102 141 true rfl _ _ rfl (by kernel_rfl)) ?_
  simp only [z0, z1]
  refine s_val 86 rfl rfl (.bool false) (rfl) ?_
  simp only [z0, z1]
  refine s_val 87 rfl rfl (.agg (c141 zF zF 0 zF 0 false Sl.nil)) (rfl) ?_
  simp only [z0, z1]
  refine wpList_nil ?_
  refine then_n ?_
  refine wp_cond_false rfl ?_
  refine wp_seq ?_
  refine wp_region_lit ?_
  refine s_val 101 rfl rfl (.tuple #[.agg (c143 f.a f.n), .bool true]) (run_ta _ 102 143 true rfl _ _ rfl (by kernel_rfl)) ?_
  simp only [z0, z1]
  refine s_val 102 rfl rfl (.bool true) (rfl) ?_
  simp only [z0, z1]
  refine s_val 103 rfl rfl (.agg (c143 f.a f.n)) (rfl) ?_
  simp only [z0, z1]
  refine wpList_nil ?_
  refine then_n ?_
  refine wp_cond_true rfl ?_
  refine wp_seq ?_
  refine wp_region_lit ?_
  refine s_alloc 12 rfl rfl 143 rfl _ zv143 _ rfl ?_
  intro w2 g2 G eg2 kg2
  have bg2 := size_base GG eg2
  have dg1g2 := lt_new kg1 eg2
  replace kg1 := G.has kg1
  replace GG := GG.trans G
  clear G eg2
  simp only [z0, z1]
  refine s_store rfl rfl 143 _ _ rfl g2 0 rfl (.agg (c143 f.a f.n)) rfl 143 _ kg2 (c143 f.a f.n) rfl (by kernel_rfl) (Nat.le_of_ble_eq_true rfl) (by kernel_rfl) (c143 f.a f.n) (by kernel_rfl) ?_
  intro w4 S
  replace kg1 := S.has (by omega) kg1
  replace GG := GG.store S bg2
  replace kg2 := S.new
  clear S
  refine wpList_nil ?_
  refine then_n ?_
  refine wp_seq ?_
  refine wp_region_lit ?_
  refine s_val 104 rfl rfl (.pointer (some ⟨g2, 0, none⟩)) (run_fld 143 _ 0 rfl _ _ rfl _ (by kernel_rfl)) ?_
  simp only [z0, z1]
  refine s_val 105 rfl rfl (.agg (c24 f.a)) (run_lda 24 _ rfl g2 0 16 rfl 143 _ kg2 _ Try.underlying24 rfl si24 (Nat.le_of_ble_eq_true rfl) _ (by kernel_rfl)) ?_
  simp only [z0, z1]
  refine s_val 106 rfl rfl (.pointer (some ⟨g2, 16, none⟩)) (run_fld 143 _ 1 rfl _ _ rfl _ (by kernel_rfl)) ?_
  simp only [z0, z1]
  refine s_val 107 rfl rfl (.int .i64 f.n) (run_ldc 2 _ rfl g2 16 rfl 143 _ kg2 (na2a _) _ rfl) ?_
  simp only [z0, z1]
  refine s_val 108 rfl rfl (.agg (c64 0 zF 0 false f.a zF f.n 0 0 0 0 Sl.nil Sl.nil zF 0 zF Sl.nil 0 0 Sl.nil)) (run_bd 64 _ rfl [(3, .agg (c24 f.a)), (5, .int .i64 f.n)] rfl _ (by kernel_rfl)) ?_
  simp only [z0, z1]
  refine s_store rfl rfl 64 _ _ rfl g1 0 rfl (.agg (c64 0 zF 0 false f.a zF f.n 0 0 0 0 Sl.nil Sl.nil zF 0 zF Sl.nil 0 0 Sl.nil)) rfl 64 _ kg1 (c64 0 zF 0 false f.a zF f.n 0 0 0 0 Sl.nil Sl.nil zF 0 zF Sl.nil 0 0 Sl.nil) rfl (by kernel_rfl) (Nat.le_of_ble_eq_true rfl) (by kernel_rfl) (c64 0 zF 0 false f.a zF f.n 0 0 0 0 Sl.nil Sl.nil zF 0 zF Sl.nil 0 0 Sl.nil) (by kernel_rfl) ?_
  intro w6 S
  replace kg2 := S.has (by omega) kg2
  replace GG := GG.store S bg1
  replace kg1 := S.new
  clear S
  refine s_val 3 rfl rfl (.bool true) (rfl) ?_
  simp only [z0, z1]
  refine wpList_nil ?_
  refine then_n ?_
  refine wp_ret ?_
  refine blk_r ?_
  refine then_r ?_
  refine bodyPost_ret (results_cell_tmp Try.results56 _ _ g1 64 _ (0, 0) _ rfl (.bool true) rfl kg1 Try.underlying64 rfl (by kernel_rfl)) rfl ?_
  exact ⟨rfl, GG⟩
set_option maxRecDepth 100000 in
set_option maxHeartbeats 4000000 in
theorem fields_10 (f : Fr) (w : World) : Calls Try.prog 56 #[.iface 145 (.agg (c145 f.a f.b f.n f.op f.ttl f.key f.vn f.vw f.val f.tx))] w fun e w' => e = .returned (.tuple #[.agg (c64 0 zF 0 false f.a f.b f.n 0 0 0 0 Sl.nil Sl.nil f.key f.vn f.vw f.val f.op f.ttl f.tx), .bool true]) ∧ Gro w w' := by
  refine s_enter Try.func56 rfl Try.ntmps56 [.iface 145 (.agg (c145 f.a f.b f.n f.op f.ttl f.key f.vn f.vw f.val f.tx))] [.iface 145 (.agg (c145 f.a f.b f.n f.op f.ttl f.key f.vn f.vw f.val f.tx)), undef, undef, undef, undef, undef, undef, undef, undef, undef, undef, undef, undef, undef, undef, undef, undef, undef, undef, undef, undef, undef, undef, undef, undef, undef, undef, undef, undef, undef, undef, undef, undef, undef, undef, undef, undef, undef, undef, undef, undef, undef, undef, undef, undef, undef, undef, undef, undef, undef, undef, undef, undef, undef, undef, undef, undef, undef, undef, undef, undef, undef, undef, undef, undef, undef, undef, undef, undef, undef, undef, undef, undef, undef, undef, undef, undef, undef, undef, undef, undef, undef, undef, undef, undef, undef, undef, undef, undef, undef, undef, undef, undef, undef, undef, undef, undef, undef, undef, undef, undef, undef, undef, undef, undef, undef, undef, undef, undef, undef, undef, undef, undef, undef, undef, undef, undef, undef, undef, undef, undef, undef, undef, undef, undef, undef, undef, undef, undef, undef, undef, undef, undef, undef, undef, undef, undef, undef, undef, undef, undef, undef, undef, undef, undef, undef, undef, undef, undef, undef, undef] rfl ?_
  have GG := Gro.refl w
  refine wp_seq ?_
  refine wp_region_lit ?_
  refine s_alloc 2 rfl rfl 64 rfl _ zv64 _ rfl ?_
  intro w1 g1 G eg1 kg1
  have bg1 := size_base GG eg1
  replace GG := GG.trans G
  clear G eg1
  simp only [z0, z1]
  refine s_val 3 rfl rfl (.bool false) (rfl) ?_
  simp only [z0, z1]
  refine wpList_nil ?_
  refine then_n ?_
  refine wp_seq ?_
  refine wp_seq ?_
  refine wp_region_lit ?_
  refine s_val 16 rfl rfl (.iface 145 (.agg (c145 f.a f.b f.n f.op f.ttl f.key f.vn f.vw f.val f.tx))) (rfl) ?_
  simp only [z0, z1]
  refine wpList_nil ?_
  refine then_n ?_
  refine wp_block ?_
  refine wp_seq ?_
  refine wp_region_lit ?_
  refine s_val 17 rfl rfl (.tuple #[.agg (c131 0 0 0 0 zF), .bool false]) (run_ta _ 102 131 true rfl _ _ rfl (by kernel_rfl)) ?_
  simp only [z0, z1]
  refine s_val 18 rfl rfl (.bool false) (rfl) ?_
  simp only [z0, z1]
  refine s_val 19 rfl rfl (.agg (c131 0 0 0 0 zF)) (rfl) ?_
  simp only [z0, z1]
  refine wpList_nil ?_
  refine then_n ?_
  refine wp_cond_false rfl ?_
  refine wp_seq ?_
  refine wp_region_lit ?_
  refine s_val 27 rfl rfl (.tuple #[.agg (c133 0 0 0 0 0 Sl.nil), .bool false]) (run_ta _ 102 133 true rfl _ _ rfl (by kernel_rfl)) ?_
  simp only [z0, z1]
  refine s_val 28 rfl rfl (.bool false) (rfl) ?_
  simp only [z0, z1]
  refine s_val 29 rfl rfl (.agg (c133 0 0 0 0 0 Sl.nil)) (rfl) ?_
  simp only [z0, z1]
  refine wpList_nil ?_
  refine then_n ?_
  refine wp_cond_false rfl ?_
  refine wp_seq ?_
  refine wp_region_lit ?_
  refine s_val 39 rfl rfl (.tuple #[.agg (c135 0 0 0 0 0), .bool false]) (run_ta _ 102 135 true rfl _ _ rfl (by kernel_rfl)) ?_
  simp only [z0, z1]
  refine s_val 40 rfl rfl (.bool false) (rfl) ?_
  simp only [z0, z1]
  refine s_val 41 rfl rfl (.agg (c135 0 0 0 0 0)) (rfl) ?_
  simp only [z0, z1]
  refine wpList_nil ?_
  refine then_n ?_
  refine wp_cond_false rfl ?_
  refine wp_seq ?_
  refine wp_region_lit ?_
  refine s_val 49 rfl rfl (.tuple #[.agg (c88 zF 0 zF zF Sl.nil), .bool false]) (run_ta _ 102 88 true rfl _ _ rfl (by kernel_rfl)) ?_
  simp only [z0, z1]
  refine s_val 50 rfl rfl (.bool false) (rfl) ?_
  simp only [z0, z1]
  refine s_val 51 rfl rfl (.agg (c88 zF 0 zF zF Sl.nil)) (rfl) ?_
  simp only [z0, z1]
  refine wpList_nil ?_
  refine then_n ?_
  refine wp_cond_false rfl ?_
  refine wp_seq ?_
  refine wp_region_lit ?_
  refine s_val 61 rfl rfl (.tuple #[.agg (c126 zF 0), .bool false]) (run_ta _ 102 126 true rfl _ _ rfl (by kernel_rfl)) ?_
  simp only [z0, z1]
  refine s_val 62 rfl rfl (.bool false) (rfl) ?_
  simp only [z0, z1]
  refine s_val 63 rfl rfl (.agg (c126 zF 0)) (rfl) ?_
  simp only [z0, z1]
  refine wpList_nil ?_
  refine then_n ?_
  refine wp_cond_false rfl ?_
  refine wp_seq ?_
  refine wp_region_lit ?_
  refine s_val 67 rfl rfl (.tuple #[.agg (c137 zF 0 false), .bool false]) (run_ta _ 102 137 true rfl _ _ rfl (by kernel_rfl)) ?_
  simp only [z0, z1]
  refine s_val 68 rfl rfl (.bool false) (rfl) ?_
  simp only [z0, z1]
  refine s_val 69 rfl rfl (.agg (c137 zF 0 false)) (rfl) ?_
  simp only [z0, z1]
  refine wpList_nil ?_
  refine then_n ?_
  refine wp_cond_false rfl ?_
  refine wp_seq ?_
  refine wp_region_lit ?_
  refine s_val 75 rfl rfl (.tuple #[.agg (c139 zF 0 false Sl.nil), .bool false]) (run_ta _ 102 139 true rfl _ _ rfl (by kernel_rfl)) ?_
  simp only [z0, z1]
  refine s_val 76 rfl rfl (.bool false) (rfl) ?_
  simp only [z0, z1]
  refine s_val 77 rfl rfl (.agg (c139 zF 0 false Sl.nil)) (rfl) ?_
  simp only [z0, z1]
  refine wpList_nil ?_
  refine then_n ?_
  refine wp_cond_false rfl ?_
  refine wp_seq ?_
  refine wp_region_lit ?_
  refine s_val 85 rfl rfl (.tuple #[.agg (c141 zF zF 0 zF 0 false Sl.nil), .bool false]) (run_ta _ 102 141 true rfl _ _ rfl (by kernel_rfl)) ?_
  simp only [z0, z1]
  refine s_val 86 rfl rfl (.bool false) (rfl) ?_
  simp only [z0, z1]
  refine s_val 87 rfl rfl (.agg (c141 zF zF 0 zF 0 false Sl.nil)) (rfl) ?_
  simp only [z0, z1]
  refine wpList_nil ?_
  refine then_n ?_
  refine wp_cond_false rfl ?_
  refine wp_seq ?_
  refine wp_region_lit ?_
  refine s_val 101 rfl rfl (.tuple #[.agg (c143 zF 0), .bool false]) (run_ta _ 102 143 true rfl _ _ rfl (by kernel_rfl)) ?_
  simp only [z0, z1]
  refine s_val 102 rfl rfl (.bool false) (rfl) ?_
  simp only [z0, z1]
  refine s_val 103 rfl rfl (.agg (c143 zF 0)) (rfl) ?_
  simp only [z0, z1]
  refine wpList_nil ?_
  refine then_n ?_
  refine wp_cond_false rfl ?_
  refine wp_seq ?_
  refine wp_region_lit ?_
  refine s_val 109 rfl rfl (.tuple #[.agg (c145 f.a f.b f.n f.op f.ttl f.key f.vn f.vw f.val f.tx), .bool true]) (run_ta _ 102 145 true rfl _ _ rfl (by kernel_rfl)) ?_
  simp only [z0, z1]
  refine s_val 110 rfl rfl (.bool true) (rfl) ?_
  simp only [z0, z1]
  refine s_val 111 rfl rfl (.agg (c145 f.a f.b f.n f.op f.ttl f.key f.vn f.vw f.val f.tx)) (rfl) ?_
  simp only [z0, z1]
  refine wpList_nil ?_
  refine then_n ?_
  refine wp_cond_true rfl ?_
  refine wp_seq ?_
  refine wp_region_lit ?_
  refine s_alloc 13 rfl rfl 145 rfl _ zv145 _ rfl ?_
  intro w2 g2 G eg2 kg2
  have bg2 := size_base GG eg2
  have dg1g2 := lt_new kg1 eg2
  replace kg1 := G.has kg1
  replace GG := GG.trans G
  clear G eg2
  simp only [z0, z1]
  refine s_store rfl rfl 145 _ _ rfl g2 0 rfl (.agg (c145 f.a f.b f.n f.op f.ttl f.key f.vn f.vw f.val f.tx)) rfl 145 _ kg2 (c145 f.a f.b f.n f.op f.ttl f.key f.vn f.vw f.val f.tx) rfl (by kernel_rfl) (Nat.le_of_ble_eq_true rfl) (by kernel_rfl) (c145 f.a f.b f.n f.op f.ttl f.key f.vn f.vw f.val f.tx) (by kernel_rfl) ?_
  intro w4 S
  replace kg1 := S.has (by omega) kg1
  replace GG := GG.store S bg2
  replace kg2 := S.new
  clear S
  refine wpList_nil ?_
  refine then_n ?_
  refine wp_seq ?_
  refine wp_region_lit ?_
  refine s_val 112 rfl rfl (.pointer (some ⟨g2, 0, none⟩)) (run_fld 145 _ 0 rfl _ _ rfl _ (by kernel_rfl)) ?_
  simp only [z0, z1]
  refine s_val 113 rfl rfl (.agg (c24 f.a)) (run_lda 24 _ rfl g2 0 16 rfl 145 _ kg2 _ Try.underlying24 rfl si24 (Nat.le_of_ble_eq_true rfl) _ (by kernel_rfl)) ?_
  simp only [z0, z1]
  refine s_val 114 rfl rfl (.pointer (some ⟨g2, 16, none⟩)) (run_fld 145 _ 1 rfl _ _ rfl _ (by kernel_rfl)) ?_
  simp only [z0, z1]
  refine s_val 115 rfl rfl (.agg (c24 f.b)) (run_lda 24 _ rfl g2 16 16 rfl 145 _ kg2 _ Try.underlying24 rfl si24 (Nat.le_of_ble_eq_true rfl) _ (by kernel_rfl)) ?_
  simp only [z0, z1]
  refine s_val 116 rfl rfl (.pointer (some ⟨g2, 32, none⟩)) (run_fld 145 _ 2 rfl _ _ rfl _ (by kernel_rfl)) ?_
  simp only [z0, z1]
  refine s_val 117 rfl rfl (.int .i64 f.n) (run_ldc 2 _ rfl g2 32 rfl 145 _ kg2 (na2a _) _ rfl) ?_
  simp only [z0, z1]
  refine s_val 118 rfl rfl (.pointer (some ⟨g2, 33, none⟩)) (run_fld 145 _ 3 rfl _ _ rfl _ (by kernel_rfl)) ?_
  simp only [z0, z1]
  refine s_val 119 rfl rfl (.int .i64 f.op) (run_ldc 3 _ rfl g2 33 rfl 145 _ kg2 (na3 _) _ rfl) ?_
  simp only [z0, z1]
  refine s_val 120 rfl rfl (.pointer (some ⟨g2, 34, none⟩)) (run_fld 145 _ 4 rfl _ _ rfl _ (by kernel_rfl)) ?_
  simp only [z0, z1]
  refine s_val 121 rfl rfl (.int .i64 f.ttl) (run_ldc 3 _ rfl g2 34 rfl 145 _ kg2 (na3 _) _ rfl) ?_
  simp only [z0, z1]
  refine s_val 122 rfl rfl (.pointer (some ⟨g2, 35, none⟩)) (run_fld 145 _ 5 rfl _ _ rfl _ (by kernel_rfl)) ?_
  simp only [z0, z1]
  refine s_val 123 rfl rfl (.agg (c62 f.key f.vn f.vw f.val)) (run_lda 62 _ rfl g2 35 34 rfl 145 _ kg2 _ Try.underlying62 rfl si62 (Nat.le_of_ble_eq_true rfl) _ (by kernel_rfl)) ?_
  simp only [z0, z1]
  refine s_val 124 rfl rfl (.pointer (some ⟨g2, 69, none⟩)) (run_fld 145 _ 6 rfl _ _ rfl _ (by kernel_rfl)) ?_
  simp only [z0, z1]
  refine s_val 125 rfl rfl (.slice f.tx.ao f.tx.n f.tx.cap) (run_ldc 60 _ rfl g2 69 rfl 145 _ kg2 (na60 _) _ rfl) ?_
  simp only [z0, z1]
  refine s_val 126 rfl rfl (.agg (c64 0 zF 0 false f.a f.b f.n 0 0 0 0 Sl.nil Sl.nil f.key f.vn f.vw f.val f.op f.ttl f.tx)) (run_bd 64 _ rfl [(3, .agg (c24 f.a)), (4, .agg (c24 f.b)), (5, .int .i64 f.n), (11, .int .i64 f.op), (12, .int .i64 f.ttl), (10, .agg (c62 f.key f.vn f.vw f.val)), (13, .slice f.tx.ao f.tx.n f.tx.cap)] rfl _ (by kernel_rfl)) ?_
  simp only [z0, z1]
  refine s_store rfl rfl 64 _ _ rfl g1 0 rfl (.agg (c64 0 zF 0 false f.a f.b f.n 0 0 0 0 Sl.nil Sl.nil f.key f.vn f.vw f.val f.op f.ttl f.tx)) rfl 64 _ kg1 (c64 0 zF 0 false f.a f.b f.n 0 0 0 0 Sl.nil Sl.nil f.key f.vn f.vw f.val f.op f.ttl f.tx) rfl (by kernel_rfl) (Nat.le_of_ble_eq_true rfl) (by kernel_rfl) (c64 0 zF 0 false f.a f.b f.n 0 0 0 0 Sl.nil Sl.nil f.key f.vn f.vw f.val f.op f.ttl f.tx) (by kernel_rfl) ?_
  intro w6 S
  replace kg2 := S.has (by omega) kg2
  replace GG := GG.store S bg1
  replace kg1 := S.new
  clear S
  refine s_val 3 rfl rfl (.bool true) (rfl) ?_
  simp only [z0, z1]
  refine wpList_nil ?_
  refine then_n ?_
  refine wp_ret ?_
  refine blk_r ?_
  refine then_r ?_
  refine bodyPost_ret (results_cell_tmp Try.results56 _ _ g1 64 _ (0, 0) _ rfl (.bool true) rfl kg1 Try.underlying64 rfl (by kernel_rfl)) rfl ?_
  exact ⟨rfl, GG⟩
set_option maxRecDepth 100000 in
set_option maxHeartbeats 4000000 in
theorem fields_11 (f : Fr) (w : World) : Calls Try.prog 56 #[.iface 147 (.agg (c147 f.pw f.pn f.toA f.key f.vn f.vw f.val))] w fun e w' => e = .returned (.tuple #[.agg (c64 0 f.pw f.pn f.toA zF zF 0 0 0 0 0 Sl.nil Sl.nil f.key f.vn f.vw f.val 0 0 Sl.nil), .bool true]) ∧ Gro w w' := by
  refine s_enter Try.func56 rfl Try.ntmps56 [.iface 147 (.agg (c147 f.pw f.pn f.toA f.key f.vn f.vw f.val))] [.iface 147 (.agg (c147 f.pw f.pn f.toA f.key f.vn f.vw f.val)), undef, undef, undef, undef, undef, undef, undef, undef, undef, undef, undef, undef, undef, undef, undef, undef, undef, undef, undef, undef, undef, undef, undef, undef, undef, undef, undef, undef, undef, undef, undef, undef, undef, undef, undef, undef, undef, undef, undef, undef, undef, undef, undef, undef, undef, undef, undef, undef, undef, undef, undef, undef, undef, undef, undef, undef, undef, undef, undef, undef, undef, undef, undef, undef, undef, undef, undef, undef, undef, undef, undef, undef, undef, undef, undef, undef, undef, undef, undef, undef, undef, undef, undef, undef, undef, undef, undef, undef, undef, undef, undef, undef, undef, undef, undef, undef, undef, undef, undef, undef, undef, undef, undef, undef, undef, undef, undef, undef, undef, undef, undef, undef, undef, undef, undef, undef, undef, undef, undef, undef, undef, undef, undef, undef, undef, undef, undef, undef, undef, undef, undef, undef, undef, undef, undef, undef, undef, undef, undef, undef, undef, undef, undef, undef, undef, undef, undef, undef, undef, undef] rfl ?_
  have GG := Gro.refl w
  refine wp_seq ?_
  refine wp_region_lit ?_
  refine s_alloc 2 rfl rfl 64 rfl _ zv64 _ rfl ?_
  intro w1 g1 G eg1 kg1
  have bg1 := size_base GG eg1
  replace GG := GG.trans G
  clear G eg1
  simp only [z0, z1]
  refine s_val 3 rfl rfl (.bool false) (rfl) ?_
  simp only [z0, z1]
  refine wpList_nil ?_
  refine then_n ?_
  refine wp_seq ?_
  refine wp_seq ?_
  refine wp_region_lit ?_
  refine s_val 16 rfl rfl (.iface 147 (.agg (c147 f.pw f.pn f.toA f.key f.vn f.vw f.val))) (rfl) ?_
  simp only [z0, z1]
  refine wpList_nil ?_
  refine then_n ?_
  refine wp_block ?_
  refine wp_seq ?_
  refine wp_region_lit ?_
  refine s_val 17 rfl rfl (.tuple #[.agg (c131 0 0 0 0 zF), .bool false]) (run_ta _ 102 131 true rfl _ _ rfl (by kernel_rfl)) ?_
  simp only [z0, z1]
  refine s_val 18 rfl rfl (.bool false) (rfl) ?_
  simp only [z0, z1]
  refine s_val 19 rfl rfl (.agg (c131 0 0 0 0 zF)) (rfl) ?_
  simp only [z0, z1]
  refine wpList_nil ?_
  refine then_n ?_
  refine wp_cond_false rfl ?_
  refine wp_seq ?_
  refine wp_region_lit ?_
  refine s_val 27 rfl rfl (.tuple #[.agg (c133 0 0 0 0 0 Sl.nil), .bool false]) (run_ta _ 102 133 true rfl _ _ rfl (by kernel_rfl)) ?_
  simp only [z0, z1]
  refine s_val 28 rfl rfl (.bool false) (rfl) ?_
  simp only [z0, z1]
  refine s_val 29 rfl rfl (.agg (c133 0 0 0 0 0 Sl.nil)) (rfl) ?_
  simp only [z0, z1]
  refine wpList_nil ?_
  refine then_n ?_
  refine wp_cond_false rfl ?_
  refine wp_seq ?_
  refine wp_region_lit ?_
  refine s_val 39 rfl rfl (.tuple #[.agg (c135 0 0 0 0 0), .bool false]) (run_ta _ 102 135 true rfl _ _ rfl (by kernel_rfl)) ?_
  simp only [z0, z1]
  refine s_val 40 rfl rfl (.bool false) (rfl) ?_
  simp only [z0, z1]
  refine s_val 41 rfl rfl (.agg (c135 0 0 0 0 0)) (rfl) ?_
  simp only [z0, z1]
  refine wpList_nil ?_
  refine then_n ?_
  refine wp_cond_false rfl ?_
  refine wp_seq ?_
  refine wp_region_lit ?_
  refine s_val 49 rfl rfl (.tuple #[.agg (c88 zF 0 zF zF Sl.nil), .bool false]) (run_ta _ 102 88 true rfl _ _ rfl (by kernel_rfl)) ?_
  simp only [z0, z1]
  refine s_val 50 rfl rfl (.bool false) (rfl) ?_
  simp only [z0, z1]
  refine s_val 51 rfl rfl (.agg (c88 zF 0 zF zF Sl.nil)) (rfl) ?_
  simp only [z0, z1]
  refine wpList_nil ?_
  refine then_n ?_
  refine wp_cond_false rfl ?_
  refine wp_seq ?_
  refine wp_region_lit ?_
  refine s_val 61 rfl rfl (.tuple #[.agg (c126 zF 0), .bool false]) (run_ta _ 102 126 true rfl _ _ rfl (by kernel_rfl)) ?_
  simp only [z0, z1]
  refine s_val 62 rfl rfl (.bool false) (rfl) ?_
  simp only [z0, z1]
  refine s_val 63 rfl rfl (.agg (c126 zF 0)) (rfl) ?_
  simp only [z0, z1]
  refine wpList_nil ?_
  refine then_n ?_
  refine wp_cond_false rfl ?_
  refine wp_seq ?_
  refine wp_region_lit ?_
  refine s_val 67 rfl rfl (.tuple #[.agg (c137 zF 0 false), .bool false]) (run_ta _ 102 137 true rfl _ _ rfl (by kernel_rfl)) ?_
  simp only [z0, z1]
  refine s_val 68 rfl rfl (.bool false) (rfl) ?_
  simp only [z0, z1]
  refine s_val 69 rfl rfl (.agg (c137 zF 0 false)) (rfl) ?_
  simp only [z0, z1]
  refine wpList_nil ?_
  refine then_n ?_
  refine wp_cond_false rfl ?_
  refine wp_seq ?_
  refine wp_region_lit ?_
  refine s_val 75 rfl rfl (.tuple #[.agg (c139 zF 0 false Sl.nil), .bool false]) (run_ta _ 102 139 true rfl _ _ rfl (by kernel_rfl)) ?_
  simp only [z0, z1]
  refine s_val 76 rfl rfl (.bool false) (rfl) ?_
  simp only [z0, z1]
  refine s_val 77 rfl rfl (.agg (c139 zF 0 false Sl.nil)) (rfl) ?_
  simp only [z0, z1]
  refine wpList_nil ?_
  refine then_n ?_
  refine wp_cond_false rfl ?_
  refine wp_seq ?_
  refine wp_region_lit ?_
  refine s_val 85 rfl rfl (.tuple #[.agg (c141 zF zF 0 zF 0 false Sl.nil), .bool false]) (run_ta _ 102 141 true rfl _ _ rfl (by kernel_rfl)) ?_
  simp only [z0, z1]
  refine s_val 86 rfl rfl (.bool false) (rfl) ?_
  simp only [z0, z1]
  refine s_val 87 rfl rfl (.agg (c141 zF zF 0 zF 0 false Sl.nil)) (rfl) ?_
  simp only [z0, z1]
  refine wpList_nil ?_
  refine then_n ?_
  refine wp_cond_false rfl ?_
  refine wp_seq ?_
  refine wp_region_lit ?_
  refine s_val 101 rfl rfl (.tuple #[.agg (c143 zF 0), .bool false]) (run_ta _ 102 143 true rfl _ _ rfl (by kernel_rfl)) ?_
  simp only [z0, z1]
  refine s_val 102 rfl rfl (.bool false) (rfl) ?_
  simp only [z0, z1]
  refine s_val 103 rfl rfl (.agg (c143 zF 0)) (rfl) ?_
  simp only [z0, z1]
  refine wpList_nil ?_
  refine then_n ?_
  refine wp_cond_false rfl ?_
  refine wp_seq ?_
  refine wp_region_lit ?_
  refine s_val 109 rfl rfl (.tuple #[.agg (c145 zF zF 0 0 0 zF 0 zF Sl.nil Sl.nil), .bool false]) (run_ta _ 102 145 true rfl _ _ rfl (by kernel_rfl)) ?_
  simp only [z0, z1]
  refine s_val 110 rfl rfl (.bool false) (rfl) ?_
  simp only [z0, z1]
  refine s_val 111 rfl rfl (.agg (c145 zF zF 0 0 0 zF 0 zF Sl.nil Sl.nil)) (rfl) ?_
  simp only [z0, z1]
  refine wpList_nil ?_
  refine then_n ?_
  refine wp_cond_false rfl ?_
  refine wp_seq ?_
  refine wp_region_lit ?_
  refine s_val 127 rfl rfl (.tuple #[.agg (c147 f.pw f.pn f.toA f.key f.vn f.vw f.val), .bool true]) (run_ta _ 102 147 true rfl _ _ rfl (by kernel_rfl)) ?_
  simp only [z0, z1]
  refine s_val 128 rfl rfl (.bool true) (rfl) ?_
  simp only [z0, z1]
  refine s_val 129 rfl rfl (.agg (c147 f.pw f.pn f.toA f.key f.vn f.vw f.val)) (rfl) ?_
  simp only [z0, z1]
  refine wpList_nil ?_
  refine then_n ?_
  refine wp_cond_true rfl ?_
  refine wp_seq ?_
  refine wp_region_lit ?_
  refine s_alloc 14 rfl rfl 147 rfl _ zv147 _ rfl ?_
  intro w2 g2 G eg2 kg2
  have bg2 := size_base GG eg2
  have dg1g2 := lt_new kg1 eg2
  replace kg1 := G.has kg1
  replace GG := GG.trans G
  clear G eg2
  simp only [z0, z1]
  refine s_store rfl rfl 147 _ _ rfl g2 0 rfl (.agg (c147 f.pw f.pn f.toA f.key f.vn f.vw f.val)) rfl 147 _ kg2 (c147 f.pw f.pn f.toA f.key f.vn f.vw f.val) rfl (by kernel_rfl) (Nat.le_of_ble_eq_true rfl) (by kernel_rfl) (c147 f.pw f.pn f.toA f.key f.vn f.vw f.val) (by kernel_rfl) ?_
  intro w4 S
  replace kg1 := S.has (by omega) kg1
  replace GG := GG.store S bg2
  replace kg2 := S.new
  clear S
  refine wpList_nil ?_
  refine then_n ?_
  refine wp_seq ?_
  refine wp_region_lit ?_
  refine s_val 130 rfl rfl (.pointer (some ⟨g2, 0, none⟩)) (run_fld 147 _ 0 rfl _ _ rfl _ (by kernel_rfl)) ?_
  simp only [z0, z1]
  refine s_val 131 rfl rfl (.agg (c31 f.pw f.pn)) (run_lda 31 _ rfl g2 0 17 rfl 147 _ kg2 _ Try.underlying31 rfl si31a (Nat.le_of_ble_eq_true rfl) _ (by kernel_rfl)) ?_
  simp only [z0, z1]
  refine s_val 132 rfl rfl (.pointer (some ⟨g2, 17, none⟩)) (run_fld 147 _ 1 rfl _ _ rfl _ (by kernel_rfl)) ?_
  simp only [z0, z1]
  refine s_val 133 rfl rfl (.bool f.toA) (run_ldc 4 _ rfl g2 17 rfl 147 _ kg2 (na4 _) _ rfl) ?_
  simp only [z0, z1]
  refine s_val 134 rfl rfl (.pointer (some ⟨g2, 18, none⟩)) (run_fld 147 _ 2 rfl _ _ rfl _ (by kernel_rfl)) ?_
  simp only [z0, z1]
  refine s_val 135 rfl rfl (.agg (c62 f.key f.vn f.vw f.val)) (run_lda 62 _ rfl g2 18 34 rfl 147 _ kg2 _ Try.underlying62 rfl si62 (Nat.le_of_ble_eq_true rfl) _ (by kernel_rfl)) ?_
  simp only [z0, z1]
  refine s_val 136 rfl rfl (.agg (c64 0 f.pw f.pn f.toA zF zF 0 0 0 0 0 Sl.nil Sl.nil f.key f.vn f.vw f.val 0 0 Sl.nil)) (run_bd 64 _ rfl [(1, .agg (c31 f.pw f.pn)), (2, .bool f.toA), (10, .agg (c62 f.key f.vn f.vw f.val))] rfl _ (by kernel_rfl)) ?_
  simp only [z0, z1]
  refine s_store rfl rfl 64 _ _ rfl g1 0 rfl (.agg (c64 0 f.pw f.pn f.toA zF zF 0 0 0 0 0 Sl.nil Sl.nil f.key f.vn f.vw f.val 0 0 Sl.nil)) rfl 64 _ kg1 (c64 0 f.pw f.pn f.toA zF zF 0 0 0 0 0 Sl.nil Sl.nil f.key f.vn f.vw f.val 0 0 Sl.nil) rfl (by kernel_rfl) (Nat.le_of_ble_eq_true rfl) (by kernel_rfl) (c64 0 f.pw f.pn f.toA zF zF 0 0 0 0 0 Sl.nil Sl.nil f.key f.vn f.vw f.val 0 0 Sl.nil) (by kernel_rfl) ?_
  intro w6 S
  replace kg2 := S.has (by omega) kg2
  replace GG := GG.store S bg1
  replace kg1 := S.new
  clear S
  refine s_val 3 rfl rfl (.bool true) (rfl) ?_
  simp only [z0, z1]
  refine wpList_nil ?_
  refine then_n ?_
  refine wp_ret ?_
  refine blk_r ?_
  refine then_r ?_
  refine bodyPost_ret (results_cell_tmp Try.results56 _ _ g1 64 _ (0, 0) _ rfl (.bool true) rfl kg1 Try.underlying64 rfl (by kernel_rfl)) rfl ?_
  exact ⟨rfl, GG⟩
set_option maxRecDepth 100000 in
set_option maxHeartbeats 4000000 in
theorem fields_12 (f : Fr) (w : World) : Calls Try.prog 56 #[.iface 149 (.agg (c149 f.pw f.pn f.toA f.key f.vn f.vw))] w fun e w' => e = .returned (.tuple #[.agg (c64 0 f.pw f.pn f.toA zF zF 0 0 0 0 0 Sl.nil Sl.nil f.key f.vn f.vw Sl.nil 0 0 Sl.nil), .bool true]) ∧ Gro w w' := by
  refine s_enter Try.func56 rfl Try.ntmps56 [.iface 149 (.agg (c149 f.pw f.pn f.toA f.key f.vn f.vw))] [.iface 149 (.agg (c149 f.pw f.pn f.toA f.key f.vn f.vw)), undef, undef, undef, undef, undef, undef, undef, undef, undef, undef, undef, undef, undef, undef, undef, undef, undef, undef, undef, undef, undef, undef, undef, undef, undef, undef, undef, undef, undef, undef, undef, undef, undef, undef, undef, undef, undef, undef, undef, undef, undef, undef, undef, undef, undef, undef, undef, undef, undef, undef, undef, undef, undef, undef, undef, undef, undef, undef, undef, undef, undef, undef, undef, undef, undef, undef, undef, undef, undef, undef, undef, undef, undef, undef, undef, undef, undef, undef, undef, undef, undef, undef, undef, undef, undef, undef, undef, undef, undef, undef, undef, undef, undef, undef, undef, undef, undef, undef, undef, undef, undef, undef, undef, undef, undef, undef, undef, undef, undef, undef, undef, undef, undef, undef, undef, undef, undef, undef, undef, undef, undef, undef, undef, undef, undef, undef, undef, undef, undef, undef, undef, undef, undef, undef, undef, undef, undef, undef, undef, undef, undef, undef, undef, undef, undef, undef, undef, undef, undef, undef] rfl ?_
  have GG := Gro.refl w
  refine wp_seq ?_
  refine wp_region_lit ?_
  refine s_alloc 2 rfl rfl 64 rfl _ zv64 _ rfl ?_
  intro w1 g1 G eg1 kg1
  have bg1 := size_base GG eg1
  replace GG := GG.trans G
  clear G eg1
  simp only [z0, z1]
  refine s_val 3 rfl rfl (.bool false) (rfl) ?_
  simp only [z0, z1]
  refine wpList_nil ?_
  refine then_n ?_
  refine wp_seq ?_
  refine wp_seq ?_
  refine wp_region_lit ?_
  refine s_val 16 rfl rfl (.iface 149 (.agg (c149 f.pw f.pn f.toA f.key f.vn f.vw))) (rfl) ?_
  simp only [z0, z1]
  refine wpList_nil ?_
  refine then_n ?_
  refine wp_block ?_
  refine wp_seq ?_
  refine wp_region_lit ?_
  refine s_val 17 rfl rfl (.tuple #[.agg (c131 0 0 0 0 zF), .bool false]) (run_ta _ 102 131 true rfl _ _ rfl (by kernel_rfl)) ?_
  simp only [z0, z1]
  refine s_val 18 rfl rfl (.bool false) (rfl) ?_
  simp only [z0, z1]
  refine s_val 19 rfl rfl (.agg (c131 0 0 0 0 zF)) (rfl) ?_
  simp only [z0, z1]
  refine wpList_nil ?_
  refine then_n ?_
  refine wp_cond_false rfl ?_
  refine wp_seq ?_
  refine wp_region_lit ?_
  refine s_val 27 rfl rfl (.tuple #[.agg (c133 0 0 0 0 0 Sl.nil), .bool false]) (run_ta _ 102 133 true rfl _ _ rfl (by kernel_rfl)) ?_
  simp only [z0, z1]
  refine s_val 28 rfl rfl (.bool false) (rfl) ?_
  simp only [z0, z1]
  refine s_val 29 rfl rfl (.agg (c133 0 0 0 0 0 Sl.nil)) (rfl) ?_
  simp only [z0, z1]
  refine wpList_nil ?_
  refine then_n ?_
  refine wp_cond_false rfl ?_
  refine wp_seq ?_
  refine wp_region_lit ?_
  refine s_val 39 rfl rfl (.tuple #[.agg (c135 0 0 0 0 0), .bool false]) (run_ta _ 102 135 true rfl _ _ rfl (by kernel_rfl)) ?_
  simp only [z0, z1]
  refine s_val 40 rfl rfl (.bool false) (rfl) ?_
  simp only [z0, z1]
  refine s_val 41 rfl rfl (.agg (c135 0 0 0 0 0)) (rfl) ?_
  simp only [z0, z1]
  refine wpList_nil ?_
  refine then_n ?_
  refine wp_cond_false rfl ?_
  refine wp_seq ?_
  refine wp_region_lit ?_
  refine s_val 49 rfl rfl (.tuple #[.agg (c88 zF 0 zF zF Sl.nil), .bool false]) (run_ta _ 102 88 true rfl _ _ rfl (by kernel_rfl)) ?_
  simp only [z0, z1]
  refine s_val 50 rfl rfl (.bool false) (rfl) ?_
  simp only [z0, z1]
  refine s_val 51 rfl rfl (.agg (c88 zF 0 zF zF Sl.nil)) (rfl) ?_
  simp only [z0, z1]
  refine wpList_nil ?_
  refine then_n ?_
  refine wp_cond_false rfl ?_
  refine wp_seq ?_
  refine wp_region_lit ?_
  refine s_val 61 rfl rfl (.tuple #[.agg (c126 zF 0), .bool false]) (run_ta _ 102 126 true rfl _ _ rfl (by kernel_rfl)) ?_
  simp only [z0, z1]
  refine s_val 62 rfl rfl (.bool false) (rfl) ?_
  simp only [z0, z1]
  refine s_val 63 rfl rfl (.agg (c126 zF 0)) (rfl) ?_
  simp only [z0, z1]
  refine wpList_nil ?_
  refine then_n ?_
  refine wp_cond_false rfl ?_
  refine wp_seq ?_
  refine wp_region_lit ?_
  refine s_val 67 rfl rfl (.tuple #[.agg (c137 zF 0 false), .bool false]) (run_ta _ 102 137 true rfl _ _ rfl (by kernel_rfl)) ?_
  simp only [z0, z1]
  refine s_val 68 rfl rfl (.bool false) (rfl) ?_
  simp only [z0, z1]
  refine s_val 69 rfl rfl (.agg (c137 zF 0 false)) (rfl) ?_
  simp only [z0, z1]
  refine wpList_nil ?_
  refine then_n ?_
  refine wp_cond_false rfl ?_
  refine wp_seq ?_
  refine wp_region_lit ?_
  refine s_val 75 rfl rfl (.tuple #[.agg (c139 zF 0 false Sl.nil), .bool false]) (run_ta _ 102 139 true rfl _ _ rfl (by kernel_rfl)) ?_
  simp only [z0, z1]
  refine s_val 76 rfl rfl (.bool false) (rfl) ?_
  simp only [z0, z1]
  refine s_val 77 rfl rfl (.agg (c139 zF 0 false Sl.nil)) (rfl) ?_
  simp only [z0, z1]
  refine wpList_nil ?_
  refine then_n ?_
  refine wp_cond_false rfl ?_
  refine wp_seq ?_
  refine wp_region_lit ?_
  refine s_val 85 rfl rfl (.tuple #[.agg (c141 zF zF 0 zF 0 false Sl.nil), .bool false]) (run_ta _ 102 141 true rfl _ _ rfl (by kernel_rfl)) ?_
  simp only [z0, z1]
  refine s_val 86 rfl rfl (.bool false) (rfl) ?_
  simp only [z0, z1]
  refine s_val 87 rfl rfl (.agg (c141 zF zF 0 zF 0 false Sl.nil)) (rfl) ?_
  simp only [z0, z1]
  refine wpList_nil ?_
  refine then_n ?_
  refine wp_cond_false rfl ?_
  refine wp_seq ?_
  refine wp_region_lit ?_
  refine s_val 101 rfl rfl (.tuple #[.agg (c143 zF 0), .bool false]) (run_ta _ 102 143 true rfl _ _ rfl (by kernel_rfl)) ?_
  simp only [z0, z1]
  refine s_val 102 rfl rfl (.bool false) (rfl) ?_
  simp only [z0, z1]
  refine s_val 103 rfl rfl (.agg (c143 zF 0)) (rfl) ?_
  simp only [z0, z1]
  refine wpList_nil ?_
  refine then_n ?_
  refine wp_cond_false rfl ?_
  refine wp_seq ?_
  refine wp_region_lit ?_
  refine s_val 109 rfl rfl (.tuple #[.agg (c145 zF zF 0 0 0 zF 0 zF Sl.nil Sl.nil), .bool false]) (run_ta _ 102 145 true rfl _ _ rfl (by kernel_rfl)) ?_
  simp only [z0, z1]
  refine s_val 110 rfl rfl (.bool false) (rfl) ?_
  simp only [z0, z1]
  refine s_val 111 rfl rfl (.agg (c145 zF zF 0 0 0 zF 0 zF Sl.nil Sl.nil)) (rfl) ?_
  simp only [z0, z1]
  refine wpList_nil ?_
  refine then_n ?_
  refine wp_cond_false rfl ?_
  refine wp_seq ?_
  refine wp_region_lit ?_
  refine s_val 127 rfl rfl (.tuple #[.agg (c147 zF 0 false zF 0 zF Sl.nil), .bool false]) (run_ta _ 102 147 true rfl _ _ rfl (by kernel_rfl)) ?_
  simp only [z0, z1]
  refine s_val 128 rfl rfl (.bool false) (rfl) ?_
  simp only [z0, z1]
  refine s_val 129 rfl rfl (.agg (c147 zF 0 false zF 0 zF Sl.nil)) (rfl) ?_
  simp only [z0, z1]
  refine wpList_nil ?_
  refine then_n ?_
  refine wp_cond_false rfl ?_
  refine wp_seq ?_
  refine wp_region_lit ?_
  refine s_val 137 rfl rfl (.tuple #[.agg (c149 f.pw f.pn f.toA f.key f.vn f.vw), .bool true]) (run_ta _ 102 149 true rfl _ _ rfl (by kernel_rfl)) ?_
  simp only [z0, z1]
  refine s_val 138 rfl rfl (.bool true) (rfl) ?_
  simp only [z0, z1]
  refine s_val 139 rfl rfl (.agg (c149 f.pw f.pn f.toA f.key f.vn f.vw)) (rfl) ?_
  simp only [z0, z1]
  refine wpList_nil ?_
  refine then_n ?_
  refine wp_cond_true rfl ?_
  refine wp_seq ?_
  refine wp_region_lit ?_
  refine s_alloc 15 rfl rfl 149 rfl _ zv149 _ rfl ?_
  intro w2 g2 G eg2 kg2
  have bg2 := size_base GG eg2
  have dg1g2 := lt_new kg1 eg2
  replace kg1 := G.has kg1
  replace GG := GG.trans G
  clear G eg2
  simp only [z0, z1]
  refine s_store rfl rfl 149 _ _ rfl g2 0 rfl (.agg (c149 f.pw f.pn f.toA f.key f.vn f.vw)) rfl 149 _ kg2 (c149 f.pw f.pn f.toA f.key f.vn f.vw) rfl (by kernel_rfl) (Nat.le_of_ble_eq_true rfl) (by kernel_rfl) (c149 f.pw f.pn f.toA f.key f.vn f.vw) (by kernel_rfl) ?_
  intro w4 S
  replace kg1 := S.has (by omega) kg1
  replace GG := GG.store S bg2
  replace kg2 := S.new
  clear S
  refine wpList_nil ?_
  refine then_n ?_
  refine wp_seq ?_
  refine wp_region_lit ?_
  refine s_val 140 rfl rfl (.pointer (some ⟨g2, 0, none⟩)) (run_fld 149 _ 0 rfl _ _ rfl _ (by kernel_rfl)) ?_
  simp only [z0, z1]
  refine s_val 141 rfl rfl (.agg (c31 f.pw f.pn)) (run_lda 31 _ rfl g2 0 17 rfl 149 _ kg2 _ Try.underlying31 rfl si31a (Nat.le_of_ble_eq_true rfl) _ (by kernel_rfl)) ?_
  simp only [z0, z1]
  refine s_val 142 rfl rfl (.pointer (some ⟨g2, 17, none⟩)) (run_fld 149 _ 1 rfl _ _ rfl _ (by kernel_rfl)) ?_
  simp only [z0, z1]
  refine s_val 143 rfl rfl (.bool f.toA) (run_ldc 4 _ rfl g2 17 rfl 149 _ kg2 (na4 _) _ rfl) ?_
  simp only [z0, z1]
  refine s_val 144 rfl rfl (.pointer (some ⟨g2, 18, none⟩)) (run_fld 149 _ 2 rfl _ _ rfl _ (by kernel_rfl)) ?_
  simp only [z0, z1]
  refine s_val 145 rfl rfl (.agg (c24 f.key)) (run_lda 24 _ rfl g2 18 16 rfl 149 _ kg2 _ Try.underlying24 rfl si24 (Nat.le_of_ble_eq_true rfl) _ (by kernel_rfl)) ?_
  simp only [z0, z1]
  refine s_val 146 rfl rfl (.pointer (some ⟨g2, 34, none⟩)) (run_fld 149 _ 3 rfl _ _ rfl _ (by kernel_rfl)) ?_
  simp only [z0, z1]
  refine s_val 147 rfl rfl (.agg (c59 f.vn f.vw)) (run_lda 59 _ rfl g2 34 17 rfl 149 _ kg2 _ Try.underlying59 rfl si59 (Nat.le_of_ble_eq_true rfl) _ (by kernel_rfl)) ?_
  simp only [z0, z1]
  refine s_val 148 rfl rfl (.agg (c62 f.key f.vn f.vw Sl.nil)) (run_bd 62 _ rfl [(0, .agg (c24 f.key)), (1, .agg (c59 f.vn f.vw))] rfl _ (by kernel_rfl)) ?_
  simp only [z0, z1]
  refine s_val 149 rfl rfl (.agg (c64 0 f.pw f.pn f.toA zF zF 0 0 0 0 0 Sl.nil Sl.nil f.key f.vn f.vw Sl.nil 0 0 Sl.nil)) (run_bd 64 _ rfl [(1, .agg (c31 f.pw f.pn)), (2, .bool f.toA), (10, .agg (c62 f.key f.vn f.vw Sl.nil))] rfl _ (by kernel_rfl)) ?_
  simp only [z0, z1]
  refine s_store rfl rfl 64 _ _ rfl g1 0 rfl (.agg (c64 0 f.pw f.pn f.toA zF zF 0 0 0 0 0 Sl.nil Sl.nil f.key f.vn f.vw Sl.nil 0 0 Sl.nil)) rfl 64 _ kg1 (c64 0 f.pw f.pn f.toA zF zF 0 0 0 0 0 Sl.nil Sl.nil f.key f.vn f.vw Sl.nil 0 0 Sl.nil) rfl (by kernel_rfl) (Nat.le_of_ble_eq_true rfl) (by kernel_rfl) (c64 0 f.pw f.pn f.toA zF zF 0 0 0 0 0 Sl.nil Sl.nil f.key f.vn f.vw Sl.nil 0 0 Sl.nil) (by kernel_rfl) ?_
  intro w6 S
  replace kg2 := S.has (by omega) kg2
  replace GG := GG.store S bg1
  replace kg1 := S.new
  clear S
  refine s_val 3 rfl rfl (.bool true) (rfl) ?_
  simp only [z0, z1]
  refine wpList_nil ?_
  refine then_n ?_
  refine wp_ret ?_
  refine blk_r ?_
  refine then_r ?_
  refine bodyPost_ret (results_cell_tmp Try.results56 _ _ g1 64 _ (0, 0) _ rfl (.bool true) rfl kg1 Try.underlying64 rfl (by kernel_rfl)) rfl ?_
  exact ⟨rfl, GG⟩
theorem fields_any (k : Nat) (h1 : 1 ≤ k) (h2 : k ≤ 12) (f : Fr) (w : World) : Calls Try.prog 56 #[bodyV k f] w fun e w' => e = .returned (.tuple #[.agg (frA (bare k f)), .bool true]) ∧ Gro w w' := by
  rcases is12 h1 h2 with rfl | rfl | rfl | rfl | rfl | rfl | rfl | rfl | rfl | rfl | rfl | rfl
  · exact fields_1 f w
  · exact fields_2 f w
  · exact fields_3 f w
  · exact fields_4 f w
  · exact fields_5 f w
  · exact fields_6 f w
  · exact fields_7 f w
  · exact fields_8 f w
  · exact fields_9 f w
  · exact fields_10 f w
  · exact fields_11 f w
  · exact fields_12 f w
def SlAll (w : World) : List Value → List (List Nat) → Prop
  | [], [] => True
  | v :: vs, l :: ls => (∃ ao cap, v = .slice ao l.length cap ∧ NC w .u8 ao cap l) ∧ SlAll w vs ls
  | _, _ => False
theorem SlAll.len {w : World} : ∀ {vs : List Value} {ls : List (List Nat)}, SlAll w vs ls → vs.length = ls.length
  | [], [], _ => rfl
  | _ :: vs, _ :: ls, h => by simp [h.2.len]
  | [], _ :: _, h => h.elim
  | _ :: _, [], h => h.elim
theorem SlAll.at {w : World} : ∀ {vs : List Value} {ls : List (List Nat)}, SlAll w vs ls → ∀ j, j < ls.length → ∃ ao cap, vs[j]? = some (.slice ao (ls.getD j []).length cap) ∧ NC w .u8 ao cap (ls.getD j [])
  | [], [], _, j, hj => by simp at hj
  | v :: vs, l :: ls, h, 0, _ => by obtain ⟨⟨ao, cap, rfl, h2⟩, _⟩ := h; exact ⟨ao, cap, rfl, h2⟩
  | v :: vs, l :: ls, h, j + 1, hj => by
    obtain ⟨ao, cap, h1, h2⟩ := h.2.at j (by simp at hj; omega)
    exact ⟨ao, cap, by simpa using h1, by simpa using h2⟩
  | [], _ :: _, h, _, _ => h.elim
  | _ :: _, [], h, _, _ => h.elim
theorem SlAll.gro {w w' : World} (G : Gro w w') : ∀ {vs : List Value} {ls : List (List Nat)}, SlAll w vs ls → SlAll w' vs ls
  | [], [], _ => trivial
  | _ :: _, _ :: _, h => by obtain ⟨⟨ao, cap, h1, h2⟩, h3⟩ := h; exact ⟨⟨ao, cap, h1, h2.gro G⟩, SlAll.gro G h3⟩
  | [], _ :: _, h => h.elim
  | _ :: _, [], h => h.elim
theorem LC.made {w : World} {g : Nat} {vs : List Value} {t : TypeId} {ls : List (List Nat)} (hg : w.heap[g]? = some (.cells vs.toArray t (0, 0))) (h : SlAll w vs ls) : LC w (some ⟨g, 0, none⟩) ls.length ls :=
  ⟨Nat.le_refl _, fun e => by (cases e), fun ad ha j hj => by
    cases ha
    obtain ⟨ao, cap, h1, h2⟩ := h.at j hj
    refine ⟨ao, cap, ?_, h2⟩
    rw [add_at, Nat.zero_add, cell_of_row w g j _ t (0, 0) hg]
    simpa using h1⟩
theorem iT28 : RowT Try.prog 32 3 1 8 (.int .i64 0) := ⟨Try.underlying32, info_of (by kernel_rfl), rfl, by decide⟩
theorem iT29 : RowT Try.prog 57 24 16 16 (.agg (c24 zF)) := ⟨Try.underlying57, info_of (by kernel_rfl), rfl, by decide⟩
theorem bX : RowT Try.prog 60 5 1 1 (.int .u8 0) := ⟨Try.underlying60, info_of (by kernel_rfl), rfl, by decide⟩
def bL (l : List Nat) : List Value := l.map fun r : Nat => Value.int .u8 (r : Int)
def idL (x : Nat → Nat) : List Nat := [x 0, x 1, x 2, x 3, x 4, x 5, x 6, x 7, x 8, x 9, x 10, x 11, x 12, x 13, x 14, x 15]
def cellsIa (ids : List (List Nat)) : List Value := ids.flatMap bL
def ok16 (ids : List (List Nat)) : Prop := ∀ x ∈ ids, x.length = 16 ∧ ∀ y ∈ x, y < 256
theorem flatI_len : ∀ (ids : List (List Nat)), ok16 ids → ids.flatten.length = 16 * ids.length
  | [], _ => rfl
  | x :: ids, h => by
    have := flatI_len ids fun y hy => h y (List.mem_cons_of_mem _ hy)
    have hx := (h x List.mem_cons_self).1
    simp only [List.flatten_cons, List.length_append, List.length_cons]
    omega
structure FD where
  tr : List Int
  ids : List (List Nat)
  val : List Nat
  tx : List Nat
structure FrW (w : World) (f : Fr) (d : FD) : Prop where
  tr : XC w 1 f.tr.ao f.tr.cap f.tr.n (d.tr.map (Value.int .i64 ·))
  ids : XC w 16 f.ids.ao f.ids.cap f.ids.n (cellsIa d.ids)
  val : XC w 1 f.val.ao f.val.cap f.val.n (bL d.val)
  tx : XC w 1 f.tx.ao f.tx.cap f.tx.n (bL d.tx)
  oids : ok16 d.ids
  oval : ∀ x ∈ d.val, x < 256
  otx : ∀ x ∈ d.tx, x < 256
structure FrO (w : World) (B : Nat) (f : Fr) (d : FD) : Prop where
  tr : OX w 3 1 B f.tr.ao f.tr.cap f.tr.n (d.tr.map (Value.int .i64 ·))
  ids : OX w 24 16 B f.ids.ao f.ids.cap f.ids.n (cellsIa d.ids)
  val : OX w 5 1 B f.val.ao f.val.cap f.val.n (bL d.val)
  tx : OX w 5 1 B f.tx.ao f.tx.cap f.tx.n (bL d.tx)
  oids : ok16 d.ids
  oval : ∀ x ∈ d.val, x < 256
  otx : ∀ x ∈ d.tx, x < 256
theorem FrW.gro {w w' : World} {f : Fr} {d : FD} (h : FrW w f d) (G : Gro w w') : FrW w' f d := ⟨h.tr.gro G, h.ids.gro G, h.val.gro G, h.tx.gro G, h.oids, h.oval, h.otx⟩
theorem FrO.gro {w w' : World} {B : Nat} {f : Fr} {d : FD} (h : FrO w B f d) (G : Gro w w') : FrO w' B f d := ⟨h.tr.gro G, h.ids.gro G, h.val.gro G, h.tx.gro G, h.oids, h.oval, h.otx⟩
theorem FrO.mono {w : World} {B B' : Nat} {f : Fr} {d : FD} (h : FrO w B f d) (hB : B' ≤ B) : FrO w B' f d := ⟨h.tr.mono hB, h.ids.mono hB, h.val.mono hB, h.tx.mono hB, h.oids, h.oval, h.otx⟩
theorem xc_len1 {w : World} {ao : Option Addr} {cap n : Nat} {α : Type} {l : List α} {g : α → Value} (h : XC w 1 ao cap n (l.map g)) : n = l.length := by have := h.len; simp at this; omega
theorem xc_lenI {w : World} {ao : Option Addr} {cap n : Nat} {l : List (List Nat)} (h : XC w 16 ao cap n (cellsIa l)) (hl : ok16 l) : n = l.length := by
  have h1 := h.len
  have h2 : (cellsIa l).length = 16 * l.length := by
    rw [← flatI_len l hl]
    have : ∀ m : List (List Nat), (cellsIa m).length = m.flatten.length := fun m => by
      induction m with
      | nil => rfl
      | cons a m ih => simp only [cellsIa, List.flatMap_cons, List.length_append, List.flatten_cons] at *; rw [ih]; simp [bL]
    exact this l
  omega
theorem FrW.idn {w : World} {f : Fr} {d : FD} (h : FrW w f d) : f.ids.n = d.ids.length := xc_lenI h.ids h.oids
theorem below_trans {B : Nat} {a b c : World} (h : Below B a b) (k : Below B b c) : Below B a c := Below.trans h k
def CloneP (w : World) (e : TypeId) (sz n : Nat) (cs : List Value) (en : Ending) (w' : World) : Prop := ∃ ao cap, en = .returned (.slice ao n cap) ∧ OX w' e sz w.heap.size ao cap n cs ∧ Gro w w'
theorem wpList_none {ops : Array Oper} {rest : List Oper} {o : Oper} {a : Act} {w : World} {Q : Exit → Act → World → Prop} (t e : TypeId) (sz : Nat) (hrun : ∀ w, (Instr.buildSlice t 0 #[]).run Try.prog w = .ok (.slice (some ⟨w.heap.size, 0, none⟩) 0 0) (w.alloc (.cells #[] e))) (dst : Nat) (hd : o.dst = some dst) (hgd : o.guard = none) (ho : o.op = .buildSlice t 0 #[])
    (h : ∀ w' g, Gro w w' → w.heap.size = g → OX w' e sz g (some ⟨g, 0, none⟩) 0 0 [] → wpList Try.prog ops Q rest (a.put (some dst) (.slice (some ⟨g, 0, none⟩) 0 0)) w') : wpList Try.prog ops Q (o :: rest) a w :=
  wpList_plain hgd fun _ hK => by
    have he : (execOp a.eval o).run Try.prog w = .ok (.value (.slice (some ⟨w.heap.size, 0, none⟩) 0 0)) (w.alloc (.cells #[] e)) := by
      unfold execOp
      simp only [ho, List.map_toArray, List.map_nil, Sem.run_bind, hrun, Result.andThen_ok, Sem.run_pure]
    unfold Oper.wp
    rw [he, Oper.upon_value, hd]
    exact hK _ _ (h _ _ (gro_alloc _ _) rfl (OX.made (heap_alloc_new _ _) (Nat.le_refl _) (Nat.le_refl _) (by decide) (by simp) (by simp) (by simp) (fun x hx => by (cases hx))))
set_option maxRecDepth 100000 in
set_option maxHeartbeats 1600000 in
theorem clone28 (ao : Option Addr) (cap n : Nat) (cs : List Value) (w : World) (HC : XC w 1 ao cap n cs) (hb : n * 8 ≤ 140737488355328) : Calls Try.prog 65 #[.slice ao n cap] w (CloneP w 3 1 n cs) := by
  cases ao with
  | none =>
    have h1 := HC.bare rfl
    have h2 := HC.fit
    have h3 := HC.len
    have hn : n = 0 := by omega
    subst hn
    subst h1
    have h4 : cs = [] := List.eq_nil_of_length_eq_zero (by omega)
    subst h4
    go_enter Try.func65, Try.ntmps65
    go_wp2_with (first | (with_reducible refine wpList_at ?_; first | (refine wpList_value_d 4 rfl rfl (.bool true) (run_binop .eql 32 _ _ _ rfl _ _ _ rfl rfl (by kernel_rfl) (by kernel_rfl)) ?_; (try simp only [Act.put, List.setIfInBounds_toArray, List.set_cons_zero, List.set_cons_succ]))))
    go_ret
    exact ⟨none, 0, rfl, OX.nil _ _ _ _, Gro.refl _⟩
  | some ad =>
    have HB : Shut _ := ⟨hb⟩
    clear hb
    go_enter Try.func65, Try.ntmps65
    go_wp2_with (first | (with_reducible refine wpList_at ?_; first | (refine wpList_value_d 4 rfl rfl (.bool false) (run_binop .eql 32 _ _ _ rfl _ _ _ rfl rfl (by kernel_rfl) (by kernel_rfl)) ?_; (try simp only [Act.put, List.setIfInBounds_toArray, List.set_cons_zero, List.set_cons_succ])) | (refine wpList_none 32 3 1 (fun _ => by kernel_rfl) 5 rfl rfl rfl ?_; intro w1 g G1 e1 HO; (try simp only [Act.put, List.setIfInBounds_toArray, List.set_cons_zero, List.set_cons_succ])) | (refine wpList_stop rfl ?_)))
    constructor
    refine wpList_appX iT28 7 rfl rfl _ _ rfl rfl HO rfl (HC.gro G1) (by rw [Nat.zero_add]; exact HB.out) (by decide) (by rw [← e1]; exact G1.size) ?_
    intro ao2 cap2 w2 HO2 B2
    rw [Nat.zero_add] at HO2 ⊢
    simp only [Act.put, List.setIfInBounds_toArray, List.set_cons_zero, List.set_cons_succ]
    go_wp2
    go_ret
    exact ⟨ao2, cap2, rfl, HO2.mono (by omega), (below_trans G1 (B2.mono (by rw [← e1]; exact Nat.le_refl _)))⟩
set_option maxRecDepth 100000 in
set_option maxHeartbeats 1600000 in
theorem clone29 (ao : Option Addr) (cap n : Nat) (cs : List Value) (w : World) (HC : XC w 16 ao cap n cs) (hb : n * 16 ≤ 140737488355328) : Calls Try.prog 66 #[.slice ao n cap] w (CloneP w 24 16 n cs) := by
  cases ao with
  | none =>
    have h1 := HC.bare rfl
    have h2 := HC.fit
    have h3 := HC.len
    have hn : n = 0 := by omega
    subst hn
    subst h1
    have h4 : cs = [] := List.eq_nil_of_length_eq_zero (by omega)
    subst h4
    go_enter Try.func66, Try.ntmps66
    go_wp2_with (first | (with_reducible refine wpList_at ?_; first | (refine wpList_value_d 4 rfl rfl (.bool true) (run_binop .eql 57 _ _ _ rfl _ _ _ rfl rfl (by kernel_rfl) (by kernel_rfl)) ?_; (try simp only [Act.put, List.setIfInBounds_toArray, List.set_cons_zero, List.set_cons_succ]))))
    go_ret
    exact ⟨none, 0, rfl, OX.nil _ _ _ _, Gro.refl _⟩
  | some ad =>
    have HB : Shut _ := ⟨hb⟩
    clear hb
    go_enter Try.func66, Try.ntmps66
    go_wp2_with (first | (with_reducible refine wpList_at ?_; first | (refine wpList_value_d 4 rfl rfl (.bool false) (run_binop .eql 57 _ _ _ rfl _ _ _ rfl rfl (by kernel_rfl) (by kernel_rfl)) ?_; (try simp only [Act.put, List.setIfInBounds_toArray, List.set_cons_zero, List.set_cons_succ])) | (refine wpList_none 57 24 16 (fun _ => by kernel_rfl) 5 rfl rfl rfl ?_; intro w1 g G1 e1 HO; (try simp only [Act.put, List.setIfInBounds_toArray, List.set_cons_zero, List.set_cons_succ])) | (refine wpList_stop rfl ?_)))
    constructor
    refine wpList_appX iT29 7 rfl rfl _ _ rfl rfl HO rfl (HC.gro G1) (by rw [Nat.zero_add]; exact HB.out) (by decide) (by rw [← e1]; exact G1.size) ?_
    intro ao2 cap2 w2 HO2 B2
    rw [Nat.zero_add] at HO2 ⊢
    simp only [Act.put, List.setIfInBounds_toArray, List.set_cons_zero, List.set_cons_succ]
    go_wp2
    go_ret
    exact ⟨ao2, cap2, rfl, HO2.mono (by omega), (below_trans G1 (B2.mono (by rw [← e1]; exact Nat.le_refl _)))⟩
set_option maxRecDepth 100000 in
set_option maxHeartbeats 1600000 in
theorem clone32 (ao : Option Addr) (cap n : Nat) (cs : List Value) (w : World) (HC : XC w 1 ao cap n cs) (hb : n * 1 ≤ 140737488355328) : Calls Try.prog 67 #[.slice ao n cap] w (CloneP w 5 1 n cs) := by
  cases ao with
  | none =>
    have h1 := HC.bare rfl
    have h2 := HC.fit
    have h3 := HC.len
    have hn : n = 0 := by omega
    subst hn
    subst h1
    have h4 : cs = [] := List.eq_nil_of_length_eq_zero (by omega)
    subst h4
    go_enter Try.func67, Try.ntmps67
    go_wp2_with (first | (with_reducible refine wpList_at ?_; first | (refine wpList_value_d 4 rfl rfl (.bool true) (run_binop .eql 60 _ _ _ rfl _ _ _ rfl rfl (by kernel_rfl) (by kernel_rfl)) ?_; (try simp only [Act.put, List.setIfInBounds_toArray, List.set_cons_zero, List.set_cons_succ]))))
    go_ret
    exact ⟨none, 0, rfl, OX.nil _ _ _ _, Gro.refl _⟩
  | some ad =>
    have HB : Shut _ := ⟨hb⟩
    clear hb
    go_enter Try.func67, Try.ntmps67
    go_wp2_with (first | (with_reducible refine wpList_at ?_; first | (refine wpList_value_d 4 rfl rfl (.bool false) (run_binop .eql 60 _ _ _ rfl _ _ _ rfl rfl (by kernel_rfl) (by kernel_rfl)) ?_; (try simp only [Act.put, List.setIfInBounds_toArray, List.set_cons_zero, List.set_cons_succ])) | (refine wpList_none 60 5 1 (fun _ => by kernel_rfl) 5 rfl rfl rfl ?_; intro w1 g G1 e1 HO; (try simp only [Act.put, List.setIfInBounds_toArray, List.set_cons_zero, List.set_cons_succ])) | (refine wpList_stop rfl ?_)))
    constructor
    refine wpList_appX bX 7 rfl rfl _ _ rfl rfl HO rfl (HC.gro G1) (by rw [Nat.zero_add]; exact HB.out) (by decide) (by rw [← e1]; exact G1.size) ?_
    intro ao2 cap2 w2 HO2 B2
    rw [Nat.zero_add] at HO2 ⊢
    simp only [Act.put, List.setIfInBounds_toArray, List.set_cons_zero, List.set_cons_succ]
    go_wp2
    go_ret
    exact ⟨ao2, cap2, rfl, HO2.mono (by omega), (below_trans G1 (B2.mono (by rw [← e1]; exact Nat.le_refl _)))⟩
set_option maxRecDepth 100000 in
set_option maxHeartbeats 4000000 in
theorem apart_any (f : Fr) (d : FD) (w : World) (H : FrW w f d) (h1 : f.tr.n * 8 ≤ 140737488355328) (h2 : f.ids.n * 16 ≤ 140737488355328) (h3 : f.val.n * 1 ≤ 140737488355328) (h4 : f.tx.n * 1 ≤ 140737488355328) : Calls Try.prog 57 #[.agg (frA f)] w fun e w' => ∃ s1 s2 s3 s4 : Sl, e = .returned (.agg (frA { f with tr := s1, ids := s2, val := s3, tx := s4 })) ∧ FrO w' w.heap.size { f with tr := s1, ids := s2, val := s3, tx := s4 } d ∧ Gro w w' := by
  show Calls Try.prog 57 #[.agg (c64 f.kind f.pw f.pn f.toA f.a f.b f.n f.fi f.fn f.ti f.tn f.tr f.ids f.key f.vn f.vw f.val f.op f.ttl f.tx)] w _
  refine s_enter Try.func57 rfl Try.ntmps57 [.agg (c64 f.kind f.pw f.pn f.toA f.a f.b f.n f.fi f.fn f.ti f.tn f.tr f.ids f.key f.vn f.vw f.val f.op f.ttl f.tx)] [.agg (c64 f.kind f.pw f.pn f.toA f.a f.b f.n f.fi f.fn f.ti f.tn f.tr f.ids f.key f.vn f.vw f.val f.op f.ttl f.tx), undef, undef, undef, undef, undef, undef, undef, undef, undef, undef, undef, undef, undef, undef, undef, undef, undef, undef, undef, undef, undef] rfl ?_
  have GG := Gro.refl w
  refine wp_seq ?_
  refine wp_region_lit ?_
  refine s_box 1 rfl rfl 64 _ rfl _ rfl (c64 f.kind f.pw f.pn f.toA f.a f.b f.n f.fi f.fn f.ti f.tn f.tr f.ids f.key f.vn f.vw f.val f.op f.ttl f.tx) rfl ?_
  intro w1 g1 G eg1 kg1
  have bg1 := size_base GG eg1
  replace GG := GG.trans G
  clear G eg1
  simp only [z0, z1]
  refine s_alloc 2 rfl rfl 64 rfl _ zv64 _ rfl ?_
  intro w2 g2 G eg2 kg2
  have bg2 := size_base GG eg2
  have dg1g2 := lt_new kg1 eg2
  replace kg1 := G.has kg1
  replace GG := GG.trans G
  clear G eg2
  simp only [z0, z1]
  refine wpList_nil ?_
  refine then_n ?_
  refine wp_seq ?_
  refine wp_region_lit ?_
  refine s_val 3 rfl rfl (.pointer (some ⟨g1, 56, none⟩)) (run_fld 64 _ 8 rfl _ _ rfl _ (by kernel_rfl)) ?_
  simp only [z0, z1]
  refine s_val 4 rfl rfl (.slice f.tr.ao f.tr.n f.tr.cap) (run_ldc 32 _ rfl g1 56 rfl 64 _ kg1 (na32 _) _ rfl) ?_
  simp only [z0, z1]
  have q1 := GG.size
  have ddg11 := lt_of_heap kg1
  have ddg21 := lt_of_heap kg2
  refine s_callx 5 rfl rfl _ 65 Try.call65 rfl rfl _ rfl [.slice f.tr.ao f.tr.n f.tr.cap] rfl (clone28 _ _ _ _ _ (H.tr.gro GG) h1) (fun _ _ ⟨_, _, he, _⟩ => ⟨_, he⟩) ?_
  rintro v w3 ⟨ao1, cap1, he, o1, G⟩
  cases he
  replace kg1 := G.has kg1
  replace kg2 := G.has kg2
  replace GG := GG.trans G
  clear G
  simp only [z0, z1]
  refine s_val 6 rfl rfl (.pointer (some ⟨g1, 56, none⟩)) (run_fld 64 _ 8 rfl _ _ rfl _ (by kernel_rfl)) ?_
  simp only [z0, z1]
  refine s_store rfl rfl 32 _ _ rfl g1 56 rfl (.slice ao1 f.tr.n cap1) rfl 64 _ kg1 #[.slice ao1 f.tr.n cap1] rfl (by kernel_rfl) (Nat.le_of_ble_eq_true rfl) (by kernel_rfl) (c64 f.kind f.pw f.pn f.toA f.a f.b f.n f.fi f.fn f.ti f.tn ⟨ao1, f.tr.n, cap1⟩ f.ids f.key f.vn f.vw f.val f.op f.ttl f.tx) (by kernel_rfl) ?_
  intro w5 S
  replace kg2 := S.has (by omega) kg2
  replace o1 := o1.apart S (fun ad ha => by have := o1.ge ad ha; omega)
  replace GG := GG.store S bg1
  replace kg1 := S.new
  clear S
  refine wpList_nil ?_
  refine then_n ?_
  refine wp_seq ?_
  refine wp_region_lit ?_
  refine s_val 7 rfl rfl (.pointer (some ⟨g1, 57, none⟩)) (run_fld 64 _ 9 rfl _ _ rfl _ (by kernel_rfl)) ?_
  simp only [z0, z1]
  refine s_val 8 rfl rfl (.slice f.ids.ao f.ids.n f.ids.cap) (run_ldc 57 _ rfl g1 57 rfl 64 _ kg1 (na57a _) _ rfl) ?_
  simp only [z0, z1]
  have q2 := GG.size
  have ddg12 := lt_of_heap kg1
  have ddg22 := lt_of_heap kg2
  refine s_callx 9 rfl rfl _ 66 Try.call66 rfl rfl _ rfl [.slice f.ids.ao f.ids.n f.ids.cap] rfl (clone29 _ _ _ _ _ (H.ids.gro GG) h2) (fun _ _ ⟨_, _, he, _⟩ => ⟨_, he⟩) ?_
  rintro v w6 ⟨ao2, cap2, he, o2, G⟩
  cases he
  replace kg1 := G.has kg1
  replace kg2 := G.has kg2
  replace o1 := o1.gro G
  replace GG := GG.trans G
  clear G
  simp only [z0, z1]
  refine s_val 10 rfl rfl (.pointer (some ⟨g1, 57, none⟩)) (run_fld 64 _ 9 rfl _ _ rfl _ (by kernel_rfl)) ?_
  simp only [z0, z1]
  refine s_store rfl rfl 57 _ _ rfl g1 57 rfl (.slice ao2 f.ids.n cap2) rfl 64 _ kg1 #[.slice ao2 f.ids.n cap2] rfl (by kernel_rfl) (Nat.le_of_ble_eq_true rfl) (by kernel_rfl) (c64 f.kind f.pw f.pn f.toA f.a f.b f.n f.fi f.fn f.ti f.tn ⟨ao1, f.tr.n, cap1⟩ ⟨ao2, f.ids.n, cap2⟩ f.key f.vn f.vw f.val f.op f.ttl f.tx) (by kernel_rfl) ?_
  intro w8 S
  replace kg2 := S.has (by omega) kg2
  replace o1 := o1.apart S (fun ad ha => by have := o1.ge ad ha; omega)
  replace o2 := o2.apart S (fun ad ha => by have := o2.ge ad ha; omega)
  replace GG := GG.store S bg1
  replace kg1 := S.new
  clear S
  refine wpList_nil ?_
  refine then_n ?_
  refine wp_seq ?_
  refine wp_region_lit ?_
  refine s_val 11 rfl rfl (.pointer (some ⟨g1, 58, none⟩)) (run_fld 64 _ 10 rfl _ _ rfl _ (by kernel_rfl)) ?_
  simp only [z0, z1]
  refine s_val 12 rfl rfl (.pointer (some ⟨g1, 91, none⟩)) (run_fld 62 _ 2 rfl _ _ rfl _ (by kernel_rfl)) ?_
  simp only [z0, z1]
  refine s_val 13 rfl rfl (.slice f.val.ao f.val.n f.val.cap) (run_ldc 60 _ rfl g1 91 rfl 64 _ kg1 (na60 _) _ rfl) ?_
  simp only [z0, z1]
  have q3 := GG.size
  have ddg13 := lt_of_heap kg1
  have ddg23 := lt_of_heap kg2
  refine s_callx 14 rfl rfl _ 67 Try.call67 rfl rfl _ rfl [.slice f.val.ao f.val.n f.val.cap] rfl (clone32 _ _ _ _ _ (H.val.gro GG) h3) (fun _ _ ⟨_, _, he, _⟩ => ⟨_, he⟩) ?_
  rintro v w9 ⟨ao3, cap3, he, o3, G⟩
  cases he
  replace kg1 := G.has kg1
  replace kg2 := G.has kg2
  replace o1 := o1.gro G
  replace o2 := o2.gro G
  replace GG := GG.trans G
  clear G
  simp only [z0, z1]
  refine s_val 15 rfl rfl (.pointer (some ⟨g1, 58, none⟩)) (run_fld 64 _ 10 rfl _ _ rfl _ (by kernel_rfl)) ?_
  simp only [z0, z1]
  refine s_val 16 rfl rfl (.pointer (some ⟨g1, 91, none⟩)) (run_fld 62 _ 2 rfl _ _ rfl _ (by kernel_rfl)) ?_
  simp only [z0, z1]
  refine s_store rfl rfl 60 _ _ rfl g1 91 rfl (.slice ao3 f.val.n cap3) rfl 64 _ kg1 #[.slice ao3 f.val.n cap3] rfl (by kernel_rfl) (Nat.le_of_ble_eq_true rfl) (by kernel_rfl) (c64 f.kind f.pw f.pn f.toA f.a f.b f.n f.fi f.fn f.ti f.tn ⟨ao1, f.tr.n, cap1⟩ ⟨ao2, f.ids.n, cap2⟩ f.key f.vn f.vw ⟨ao3, f.val.n, cap3⟩ f.op f.ttl f.tx) (by kernel_rfl) ?_
  intro w11 S
  replace kg2 := S.has (by omega) kg2
  replace o1 := o1.apart S (fun ad ha => by have := o1.ge ad ha; omega)
  replace o2 := o2.apart S (fun ad ha => by have := o2.ge ad ha; omega)
  replace o3 := o3.apart S (fun ad ha => by have := o3.ge ad ha; omega)
  replace GG := GG.store S bg1
  replace kg1 := S.new
  clear S
  refine wpList_nil ?_
  refine then_n ?_
  refine wp_seq ?_
  refine wp_region_lit ?_
  refine s_val 17 rfl rfl (.pointer (some ⟨g1, 94, none⟩)) (run_fld 64 _ 13 rfl _ _ rfl _ (by kernel_rfl)) ?_
  simp only [z0, z1]
  refine s_val 18 rfl rfl (.slice f.tx.ao f.tx.n f.tx.cap) (run_ldc 60 _ rfl g1 94 rfl 64 _ kg1 (na60 _) _ rfl) ?_
  simp only [z0, z1]
  have q4 := GG.size
  have ddg14 := lt_of_heap kg1
  have ddg24 := lt_of_heap kg2
  refine s_callx 19 rfl rfl _ 67 Try.call67 rfl rfl _ rfl [.slice f.tx.ao f.tx.n f.tx.cap] rfl (clone32 _ _ _ _ _ (H.tx.gro GG) h4) (fun _ _ ⟨_, _, he, _⟩ => ⟨_, he⟩) ?_
  rintro v w12 ⟨ao4, cap4, he, o4, G⟩
  cases he
  replace kg1 := G.has kg1
  replace kg2 := G.has kg2
  replace o1 := o1.gro G
  replace o2 := o2.gro G
  replace o3 := o3.gro G
  replace GG := GG.trans G
  clear G
  simp only [z0, z1]
  refine s_val 20 rfl rfl (.pointer (some ⟨g1, 94, none⟩)) (run_fld 64 _ 13 rfl _ _ rfl _ (by kernel_rfl)) ?_
  simp only [z0, z1]
  refine s_store rfl rfl 60 _ _ rfl g1 94 rfl (.slice ao4 f.tx.n cap4) rfl 64 _ kg1 #[.slice ao4 f.tx.n cap4] rfl (by kernel_rfl) (Nat.le_of_ble_eq_true rfl) (by kernel_rfl) (c64 f.kind f.pw f.pn f.toA f.a f.b f.n f.fi f.fn f.ti f.tn ⟨ao1, f.tr.n, cap1⟩ ⟨ao2, f.ids.n, cap2⟩ f.key f.vn f.vw ⟨ao3, f.val.n, cap3⟩ f.op f.ttl ⟨ao4, f.tx.n, cap4⟩) (by kernel_rfl) ?_
  intro w14 S
  replace kg2 := S.has (by omega) kg2
  replace o1 := o1.apart S (fun ad ha => by have := o1.ge ad ha; omega)
  replace o2 := o2.apart S (fun ad ha => by have := o2.ge ad ha; omega)
  replace o3 := o3.apart S (fun ad ha => by have := o3.ge ad ha; omega)
  replace o4 := o4.apart S (fun ad ha => by have := o4.ge ad ha; omega)
  replace GG := GG.store S bg1
  replace kg1 := S.new
  clear S
  refine wpList_nil ?_
  refine then_n ?_
  refine wp_seq ?_
  refine wp_region_lit ?_
  refine s_val 21 rfl rfl (.agg (c64 f.kind f.pw f.pn f.toA f.a f.b f.n f.fi f.fn f.ti f.tn ⟨ao1, f.tr.n, cap1⟩ ⟨ao2, f.ids.n, cap2⟩ f.key f.vn f.vw ⟨ao3, f.val.n, cap3⟩ f.op f.ttl ⟨ao4, f.tx.n, cap4⟩)) (run_lda 64 _ rfl g1 0 95 rfl 64 _ kg1 _ Try.underlying64 rfl si64 (Nat.le_of_ble_eq_true rfl) _ (by kernel_rfl)) ?_
  simp only [z0, z1]
  refine s_store rfl rfl 64 _ _ rfl g2 0 rfl (.agg (c64 f.kind f.pw f.pn f.toA f.a f.b f.n f.fi f.fn f.ti f.tn ⟨ao1, f.tr.n, cap1⟩ ⟨ao2, f.ids.n, cap2⟩ f.key f.vn f.vw ⟨ao3, f.val.n, cap3⟩ f.op f.ttl ⟨ao4, f.tx.n, cap4⟩)) rfl 64 _ kg2 (c64 f.kind f.pw f.pn f.toA f.a f.b f.n f.fi f.fn f.ti f.tn ⟨ao1, f.tr.n, cap1⟩ ⟨ao2, f.ids.n, cap2⟩ f.key f.vn f.vw ⟨ao3, f.val.n, cap3⟩ f.op f.ttl ⟨ao4, f.tx.n, cap4⟩) rfl (by kernel_rfl) (Nat.le_of_ble_eq_true rfl) (by kernel_rfl) (c64 f.kind f.pw f.pn f.toA f.a f.b f.n f.fi f.fn f.ti f.tn ⟨ao1, f.tr.n, cap1⟩ ⟨ao2, f.ids.n, cap2⟩ f.key f.vn f.vw ⟨ao3, f.val.n, cap3⟩ f.op f.ttl ⟨ao4, f.tx.n, cap4⟩) (by kernel_rfl) ?_
  intro w16 S
  replace kg1 := S.has (by omega) kg1
  replace o1 := o1.apart S (fun ad ha => by have := o1.ge ad ha; omega)
  replace o2 := o2.apart S (fun ad ha => by have := o2.ge ad ha; omega)
  replace o3 := o3.apart S (fun ad ha => by have := o3.ge ad ha; omega)
  replace o4 := o4.apart S (fun ad ha => by have := o4.ge ad ha; omega)
  replace GG := GG.store S bg2
  replace kg2 := S.new
  clear S
  refine wpList_nil ?_
  refine then_n ?_
  refine wp_ret ?_
  refine bodyPost_ret (results_cell_row Try.results57 _ _ g2 64 _ (0, 0) _ rfl kg2 Try.underlying64 rfl (by kernel_rfl)) rfl ?_
  exact ⟨⟨ao1, f.tr.n, cap1⟩, ⟨ao2, f.ids.n, cap2⟩, ⟨ao3, f.val.n, cap3⟩, ⟨ao4, f.tx.n, cap4⟩, rfl, ⟨o1.mono q1, o2.mono q2, o3.mono q3, o4.mono q4, H.oids, H.oval, H.otx⟩, GG⟩
set_option maxRecDepth 100000 in
set_option maxHeartbeats 4000000 in
theorem body_1 (f : Fr) (w : World) : Calls Try.prog 63 #[.agg (c64 1 f.pw f.pn f.toA f.a f.b f.n f.fi f.fn f.ti f.tn f.tr f.ids f.key f.vn f.vw f.val f.op f.ttl f.tx)] w fun e w' => e = .returned (.iface 131 (.agg (c131 f.fi f.fn f.ti f.tn f.a))) ∧ Gro w w' := by
  refine s_enter Try.func63 rfl Try.ntmps63 [.agg (c64 1 f.pw f.pn f.toA f.a f.b f.n f.fi f.fn f.ti f.tn f.tr f.ids f.key f.vn f.vw f.val f.op f.ttl f.tx)] [.agg (c64 1 f.pw f.pn f.toA f.a f.b f.n f.fi f.fn f.ti f.tn f.tr f.ids f.key f.vn f.vw f.val f.op f.ttl f.tx), undef, undef, undef, undef, undef, undef, undef, undef, undef, undef, undef, undef, undef, undef, undef, undef, undef, undef, undef, undef, undef, undef, undef, undef, undef, undef, undef, undef, undef, undef, undef, undef, undef, undef, undef, undef, undef, undef, undef, undef, undef, undef, undef, undef, undef, undef, undef, undef, undef, undef, undef, undef, undef, undef, undef, undef, undef, undef, undef, undef, undef, undef, undef, undef, undef, undef, undef, undef, undef, undef, undef, undef, undef, undef, undef, undef, undef, undef, undef, undef, undef, undef, undef, undef, undef, undef, undef, undef, undef, undef, undef, undef, undef, undef, undef, undef, undef, undef, undef, undef, undef, undef, undef, undef, undef, undef, undef, undef, undef, undef, undef, undef, undef, undef, undef, undef, undef, undef, undef, undef, undef, undef, undef, undef, undef, undef, undef, undef, undef, undef, undef, undef, undef, undef, undef, undef, undef, undef] rfl ?_
  have GG := Gro.refl w
  refine wp_seq ?_
  refine wp_region_lit ?_
  refine s_box 1 rfl rfl 64 _ rfl _ rfl (c64 1 f.pw f.pn f.toA f.a f.b f.n f.fi f.fn f.ti f.tn f.tr f.ids f.key f.vn f.vw f.val f.op f.ttl f.tx) rfl ?_
  intro w1 g1 G eg1 kg1
  have bg1 := size_base GG eg1
  replace GG := GG.trans G
  clear G eg1
  simp only [z0, z1]
  refine s_val 2 rfl rfl (.nilIface) (rfl) ?_
  simp only [z0, z1]
  refine wpList_nil ?_
  refine then_n ?_
  refine wp_seq ?_
  refine wp_seq ?_
  refine wp_region_lit ?_
  refine s_val 3 rfl rfl (.pointer (some ⟨g1, 0, none⟩)) (run_fld 64 _ 0 rfl _ _ rfl _ (by kernel_rfl)) ?_
  simp only [z0, z1]
  refine s_val 4 rfl rfl (.int .i64 1) (run_ldc 3 _ rfl g1 0 rfl 64 _ kg1 (na3 _) _ rfl) ?_
  simp only [z0, z1]
  refine wpList_nil ?_
  refine then_n ?_
  refine wp_block ?_
  refine wp_seq ?_
  refine wp_region_lit ?_
  refine s_val 6 rfl rfl (.bool true) (run_eq_k 3 .i64 _ _ _ rfl Try.underlying3 _ _ rfl rfl true rfl _) ?_
  simp only [z0, z1]
  refine s_val 5 rfl rfl (.bool true) (rfl) ?_
  simp only [z0, z1]
  refine wpList_nil ?_
  refine then_n ?_
  refine wp_cond_true rfl ?_
  refine wp_seq ?_
  refine wp_region_lit ?_
  refine s_val 7 rfl rfl (.pointer (some ⟨g1, 52, none⟩)) (run_fld 64 _ 6 rfl _ _ rfl _ (by kernel_rfl)) ?_
  simp only [z0, z1]
  refine s_val 8 rfl rfl (.agg (c56 f.fi f.fn)) (run_lda 56 _ rfl g1 52 2 rfl 64 _ kg1 _ Try.underlying56 rfl si56 (Nat.le_of_ble_eq_true rfl) _ (by kernel_rfl)) ?_
  simp only [z0, z1]
  refine s_val 9 rfl rfl (.pointer (some ⟨g1, 54, none⟩)) (run_fld 64 _ 7 rfl _ _ rfl _ (by kernel_rfl)) ?_
  simp only [z0, z1]
  refine s_val 10 rfl rfl (.agg (c56 f.ti f.tn)) (run_lda 56 _ rfl g1 54 2 rfl 64 _ kg1 _ Try.underlying56 rfl si56 (Nat.le_of_ble_eq_true rfl) _ (by kernel_rfl)) ?_
  simp only [z0, z1]
  refine s_val 11 rfl rfl (.pointer (some ⟨g1, 19, none⟩)) (run_fld 64 _ 3 rfl _ _ rfl _ (by kernel_rfl)) ?_
  simp only [z0, z1]
  refine s_val 12 rfl rfl (.agg (c24 f.a)) (run_lda 24 _ rfl g1 19 16 rfl 64 _ kg1 _ Try.underlying24 rfl si24 (Nat.le_of_ble_eq_true rfl) _ (by kernel_rfl)) ?_
  simp only [z0, z1]
  refine s_val 13 rfl rfl (.agg (c131 f.fi f.fn f.ti f.tn f.a)) (run_bd 131 _ rfl [(0, .agg (c56 f.fi f.fn)), (1, .agg (c56 f.ti f.tn)), (2, .agg (c24 f.a))] rfl _ (by kernel_rfl)) ?_
  simp only [z0, z1]
  refine s_val 14 rfl rfl (.iface 131 (.agg (c131 f.fi f.fn f.ti f.tn f.a))) (run_mk 131 _ rfl _ rfl (by kernel_rfl)) ?_
  simp only [z0, z1]
  refine s_val 2 rfl rfl (.iface 131 (.agg (c131 f.fi f.fn f.ti f.tn f.a))) (rfl) ?_
  simp only [z0, z1]
  refine wpList_nil ?_
  refine then_n ?_
  refine wp_ret ?_
  refine blk_r ?_
  refine then_r ?_
  refine bodyPost_ret (results_tmp Try.results63 _ _ _) rfl ?_
  exact ⟨rfl, GG⟩
set_option maxRecDepth 100000 in
set_option maxHeartbeats 4000000 in
theorem body_2 (f : Fr) (w : World) : Calls Try.prog 63 #[.agg (c64 2 f.pw f.pn f.toA f.a f.b f.n f.fi f.fn f.ti f.tn f.tr f.ids f.key f.vn f.vw f.val f.op f.ttl f.tx)] w fun e w' => e = .returned (.iface 133 (.agg (c133 f.fi f.fn f.ti f.tn f.n f.tx))) ∧ Gro w w' := by
  refine s_enter Try.func63 rfl Try.ntmps63 [.agg (c64 2 f.pw f.pn f.toA f.a f.b f.n f.fi f.fn f.ti f.tn f.tr f.ids f.key f.vn f.vw f.val f.op f.ttl f.tx)] [.agg (c64 2 f.pw f.pn f.toA f.a f.b f.n f.fi f.fn f.ti f.tn f.tr f.ids f.key f.vn f.vw f.val f.op f.ttl f.tx), undef, undef, undef, undef, undef, undef, undef, undef, undef, undef, undef, undef, undef, undef, undef, undef, undef, undef, undef, undef, undef, undef, undef, undef, undef, undef, undef, undef, undef, undef, undef, undef, undef, undef, undef, undef, undef, undef, undef, undef, undef, undef, undef, undef, undef, undef, undef, undef, undef, undef, undef, undef, undef, undef, undef, undef, undef, undef, undef, undef, undef, undef, undef, undef, undef, undef, undef, undef, undef, undef, undef, undef, undef, undef, undef, undef, undef, undef, undef, undef, undef, undef, undef, undef, undef, undef, undef, undef, undef, undef, undef, undef, undef, undef, undef, undef, undef, undef, undef, undef, undef, undef, undef, undef, undef, undef, undef, undef, undef, undef, undef, undef, undef, undef, undef, undef, undef, undef, undef, undef, undef, undef, undef, undef, undef, undef, undef, undef, undef, undef, undef, undef, undef, undef, undef, undef, undef, undef] rfl ?_
  have GG := Gro.refl w
  refine wp_seq ?_
  refine wp_region_lit ?_
  refine s_box 1 rfl rfl 64 _ rfl _ rfl (c64 2 f.pw f.pn f.toA f.a f.b f.n f.fi f.fn f.ti f.tn f.tr f.ids f.key f.vn f.vw f.val f.op f.ttl f.tx) rfl ?_
  intro w1 g1 G eg1 kg1
  have bg1 := size_base GG eg1
  replace GG := GG.trans G
  clear G eg1
  simp only [z0, z1]
  refine s_val 2 rfl rfl (.nilIface) (rfl) ?_
  simp only [z0, z1]
  refine wpList_nil ?_
  refine then_n ?_
  refine wp_seq ?_
  refine wp_seq ?_
  refine wp_region_lit ?_
  refine s_val 3 rfl rfl (.pointer (some ⟨g1, 0, none⟩)) (run_fld 64 _ 0 rfl _ _ rfl _ (by kernel_rfl)) ?_
  simp only [z0, z1]
  refine s_val 4 rfl rfl (.int .i64 2) (run_ldc 3 _ rfl g1 0 rfl 64 _ kg1 (na3 _) _ rfl) ?_
  simp only [z0, z1]
  refine wpList_nil ?_
  refine then_n ?_
  refine wp_block ?_
  refine wp_seq ?_
  refine wp_region_lit ?_
  refine s_val 6 rfl rfl (.bool false) (run_eq_k 3 .i64 _ _ _ rfl Try.underlying3 _ _ rfl rfl false rfl _) ?_
  simp only [z0, z1]
  refine s_val 5 rfl rfl (.bool false) (rfl) ?_
  simp only [z0, z1]
  refine wpList_nil ?_
  refine then_n ?_
  refine wp_cond_false rfl ?_
  refine wp_seq ?_
  refine wp_region_lit ?_
  refine s_val 16 rfl rfl (.bool true) (run_eq_k 3 .i64 _ _ _ rfl Try.underlying3 _ _ rfl rfl true rfl _) ?_
  simp only [z0, z1]
  refine s_val 15 rfl rfl (.bool true) (rfl) ?_
  simp only [z0, z1]
  refine wpList_nil ?_
  refine then_n ?_
  refine wp_cond_true rfl ?_
  refine wp_seq ?_
  refine wp_region_lit ?_
  refine s_val 17 rfl rfl (.pointer (some ⟨g1, 52, none⟩)) (run_fld 64 _ 6 rfl _ _ rfl _ (by kernel_rfl)) ?_
  simp only [z0, z1]
  refine s_val 18 rfl rfl (.agg (c56 f.fi f.fn)) (run_lda 56 _ rfl g1 52 2 rfl 64 _ kg1 _ Try.underlying56 rfl si56 (Nat.le_of_ble_eq_true rfl) _ (by kernel_rfl)) ?_
  simp only [z0, z1]
  refine s_val 19 rfl rfl (.pointer (some ⟨g1, 54, none⟩)) (run_fld 64 _ 7 rfl _ _ rfl _ (by kernel_rfl)) ?_
  simp only [z0, z1]
  refine s_val 20 rfl rfl (.agg (c56 f.ti f.tn)) (run_lda 56 _ rfl g1 54 2 rfl 64 _ kg1 _ Try.underlying56 rfl si56 (Nat.le_of_ble_eq_true rfl) _ (by kernel_rfl)) ?_
  simp only [z0, z1]
  refine s_val 21 rfl rfl (.pointer (some ⟨g1, 51, none⟩)) (run_fld 64 _ 5 rfl _ _ rfl _ (by kernel_rfl)) ?_
  simp only [z0, z1]
  refine s_val 22 rfl rfl (.int .i64 f.n) (run_ldc 2 _ rfl g1 51 rfl 64 _ kg1 (na2a _) _ rfl) ?_
  simp only [z0, z1]
  refine s_val 23 rfl rfl (.pointer (some ⟨g1, 94, none⟩)) (run_fld 64 _ 13 rfl _ _ rfl _ (by kernel_rfl)) ?_
  simp only [z0, z1]
  refine s_val 24 rfl rfl (.slice f.tx.ao f.tx.n f.tx.cap) (run_ldc 60 _ rfl g1 94 rfl 64 _ kg1 (na60 _) _ rfl) ?_
  simp only [z0, z1]
  refine s_val 25 rfl rfl (.agg (c133 f.fi f.fn f.ti f.tn f.n f.tx)) (run_bd 133 _ rfl [(0, .agg (c56 f.fi f.fn)), (1, .agg (c56 f.ti f.tn)), (2, .int .i64 f.n), (3, .slice f.tx.ao f.tx.n f.tx.cap)] rfl _ (by kernel_rfl)) ?_
  simp only [z0, z1]
  refine s_val 26 rfl rfl (.iface 133 (.agg (c133 f.fi f.fn f.ti f.tn f.n f.tx))) (run_mk 133 _ rfl _ rfl (by kernel_rfl)) ?_
  simp only [z0, z1]
  refine s_val 2 rfl rfl (.iface 133 (.agg (c133 f.fi f.fn f.ti f.tn f.n f.tx))) (rfl) ?_
  simp only [z0, z1]
  refine wpList_nil ?_
  refine then_n ?_
  refine wp_ret ?_
  refine blk_r ?_
  refine then_r ?_
  refine bodyPost_ret (results_tmp Try.results63 _ _ _) rfl ?_
  exact ⟨rfl, GG⟩
set_option maxRecDepth 100000 in
set_option maxHeartbeats 4000000 in
theorem body_3 (f : Fr) (w : World) : Calls Try.prog 63 #[.agg (c64 3 f.pw f.pn f.toA f.a f.b f.n f.fi f.fn f.ti f.tn f.tr f.ids f.key f.vn f.vw f.val f.op f.ttl f.tx)] w fun e w' => e = .returned (.iface 135 (.agg (c135 f.fi f.fn f.ti f.tn f.n))) ∧ Gro w w' := by
  refine s_enter Try.func63 rfl Try.ntmps63 [.agg (c64 3 f.pw f.pn f.toA f.a f.b f.n f.fi f.fn f.ti f.tn f.tr f.ids f.key f.vn f.vw f.val f.op f.ttl f.tx)] [.agg (c64 3 f.pw f.pn f.toA f.a f.b f.n f.fi f.fn f.ti f.tn f.tr f.ids f.key f.vn f.vw f.val f.op f.ttl f.tx), undef, undef, undef, undef, undef, undef, undef, undef, undef, undef, undef, undef, undef, undef, undef, undef, undef, undef, undef, undef, undef, undef, undef, undef, undef, undef, undef, undef, undef, undef, undef, undef, undef, undef, undef, undef, undef, undef, undef, undef, undef, undef, undef, undef, undef, undef, undef, undef, undef, undef, undef, undef, undef, undef, undef, undef, undef, undef, undef, undef, undef, undef, undef, undef, undef, undef, undef, undef, undef, undef, undef, undef, undef, undef, undef, undef, undef, undef, undef, undef, undef, undef, undef, undef, undef, undef, undef, undef, undef, undef, undef, undef, undef, undef, undef, undef, undef, undef, undef, undef, undef, undef, undef, undef, undef, undef, undef, undef, undef, undef, undef, undef, undef, undef, undef, undef, undef, undef, undef, undef, undef, undef, undef, undef, undef, undef, undef, undef, undef, undef, undef, undef, undef, undef, undef, undef, undef, undef] rfl ?_
  have GG := Gro.refl w
  refine wp_seq ?_
  refine wp_region_lit ?_
  refine s_box 1 rfl rfl 64 _ rfl _ rfl (c64 3 f.pw f.pn f.toA f.a f.b f.n f.fi f.fn f.ti f.tn f.tr f.ids f.key f.vn f.vw f.val f.op f.ttl f.tx) rfl ?_
  intro w1 g1 G eg1 kg1
  have bg1 := size_base GG eg1
  replace GG := GG.trans G
  clear G eg1
  simp only [z0, z1]
  refine s_val 2 rfl rfl (.nilIface) (rfl) ?_
  simp only [z0, z1]
  refine wpList_nil ?_
  refine then_n ?_
  refine wp_seq ?_
  refine wp_seq ?_
  refine wp_region_lit ?_
  refine s_val 3 rfl rfl (.pointer (some ⟨g1, 0, none⟩)) (run_fld 64 _ 0 rfl _ _ rfl _ (by kernel_rfl)) ?_
  simp only [z0, z1]
  refine s_val 4 rfl rfl (.int .i64 3) (run_ldc 3 _ rfl g1 0 rfl 64 _ kg1 (na3 _) _ rfl) ?_
  simp only [z0, z1]
  refine wpList_nil ?_
  refine then_n ?_
  refine wp_block ?_
  refine wp_seq ?_
  refine wp_region_lit ?_
  refine s_val 6 rfl rfl (.bool false) (run_eq_k 3 .i64 _ _ _ rfl Try.underlying3 _ _ rfl rfl false rfl _) ?_
  simp only [z0, z1]
  refine s_val 5 rfl rfl (.bool false) (rfl) ?_
  simp only [z0, z1]
  refine wpList_nil ?_
  refine then_n ?_
  refine wp_cond_false rfl ?_
  refine wp_seq ?_
  refine wp_region_lit ?_
  refine s_val 16 rfl rfl (.bool false) (run_eq_k 3 .i64 _ _ _ rfl Try.underlying3 _ _ rfl rfl false rfl _) ?_
  simp only [z0, z1]
  refine s_val 15 rfl rfl (.bool false) (rfl) ?_
  simp only [z0, z1]
  refine wpList_nil ?_
  refine then_n ?_
  refine wp_cond_false rfl ?_
  refine wp_seq ?_
  refine wp_region_lit ?_
  refine s_val 28 rfl rfl (.bool true) (run_eq_k 3 .i64 _ _ _ rfl Try.underlying3 _ _ rfl rfl true rfl _) ?_
  simp only [z0, z1]
  refine s_val 27 rfl rfl (.bool true) (rfl) ?_
  simp only [z0, z1]
  refine wpList_nil ?_
  refine then_n ?_
  refine wp_cond_true rfl ?_
  refine wp_seq ?_
  refine wp_region_lit ?_
  refine s_val 29 rfl rfl (.pointer (some ⟨g1, 52, none⟩)) (run_fld 64 _ 6 rfl _ _ rfl _ (by kernel_rfl)) ?_
  simp only [z0, z1]
  refine s_val 30 rfl rfl (.agg (c56 f.fi f.fn)) (run_lda 56 _ rfl g1 52 2 rfl 64 _ kg1 _ Try.underlying56 rfl si56 (Nat.le_of_ble_eq_true rfl) _ (by kernel_rfl)) ?_
  simp only [z0, z1]
  refine s_val 31 rfl rfl (.pointer (some ⟨g1, 54, none⟩)) (run_fld 64 _ 7 rfl _ _ rfl _ (by kernel_rfl)) ?_
  simp only [z0, z1]
  refine s_val 32 rfl rfl (.agg (c56 f.ti f.tn)) (run_lda 56 _ rfl g1 54 2 rfl 64 _ kg1 _ Try.underlying56 rfl si56 (Nat.le_of_ble_eq_true rfl) _ (by kernel_rfl)) ?_
  simp only [z0, z1]
  refine s_val 33 rfl rfl (.pointer (some ⟨g1, 51, none⟩)) (run_fld 64 _ 5 rfl _ _ rfl _ (by kernel_rfl)) ?_
  simp only [z0, z1]
  refine s_val 34 rfl rfl (.int .i64 f.n) (run_ldc 2 _ rfl g1 51 rfl 64 _ kg1 (na2a _) _ rfl) ?_
  simp only [z0, z1]
  refine s_val 35 rfl rfl (.agg (c135 f.fi f.fn f.ti f.tn f.n)) (run_bd 135 _ rfl [(0, .agg (c56 f.fi f.fn)), (1, .agg (c56 f.ti f.tn)), (2, .int .i64 f.n)] rfl _ (by kernel_rfl)) ?_
  simp only [z0, z1]
  refine s_val 36 rfl rfl (.iface 135 (.agg (c135 f.fi f.fn f.ti f.tn f.n))) (run_mk 135 _ rfl _ rfl (by kernel_rfl)) ?_
  simp only [z0, z1]
  refine s_val 2 rfl rfl (.iface 135 (.agg (c135 f.fi f.fn f.ti f.tn f.n))) (rfl) ?_
  simp only [z0, z1]
  refine wpList_nil ?_
  refine then_n ?_
  refine wp_ret ?_
  refine blk_r ?_
  refine then_r ?_
  refine bodyPost_ret (results_tmp Try.results63 _ _ _) rfl ?_
  exact ⟨rfl, GG⟩
set_option maxRecDepth 100000 in
set_option maxHeartbeats 4000000 in
theorem body_4 (f : Fr) (w : World) : Calls Try.prog 63 #[.agg (c64 4 f.pw f.pn f.toA f.a f.b f.n f.fi f.fn f.ti f.tn f.tr f.ids f.key f.vn f.vw f.val f.op f.ttl f.tx)] w fun e w' => e = .returned (.iface 88 (.agg (c88 f.pw f.pn f.a f.b f.tr))) ∧ Gro w w' := by
  refine s_enter Try.func63 rfl Try.ntmps63 [.agg (c64 4 f.pw f.pn f.toA f.a f.b f.n f.fi f.fn f.ti f.tn f.tr f.ids f.key f.vn f.vw f.val f.op f.ttl f.tx)] [.agg (c64 4 f.pw f.pn f.toA f.a f.b f.n f.fi f.fn f.ti f.tn f.tr f.ids f.key f.vn f.vw f.val f.op f.ttl f.tx), undef, undef, undef, undef, undef, undef, undef, undef, undef, undef, undef, undef, undef, undef, undef, undef, undef, undef, undef, undef, undef, undef, undef, undef, undef, undef, undef, undef, undef, undef, undef, undef, undef, undef, undef, undef, undef, undef, undef, undef, undef, undef, undef, undef, undef, undef, undef, undef, undef, undef, undef, undef, undef, undef, undef, undef, undef, undef, undef, undef, undef, undef, undef, undef, undef, undef, undef, undef, undef, undef, undef, undef, undef, undef, undef, undef, undef, undef, undef, undef, undef, undef, undef, undef, undef, undef, undef, undef, undef, undef, undef, undef, undef, undef, undef, undef, undef, undef, undef, undef, undef, undef, undef, undef, undef, undef, undef, undef, undef, undef, undef, undef, undef, undef, undef, undef, undef, undef, undef, undef, undef, undef, undef, undef, undef, undef, undef, undef, undef, undef, undef, undef, undef, undef, undef, undef, undef, undef] rfl ?_
  have GG := Gro.refl w
  refine wp_seq ?_
  refine wp_region_lit ?_
  refine s_box 1 rfl rfl 64 _ rfl _ rfl (c64 4 f.pw f.pn f.toA f.a f.b f.n f.fi f.fn f.ti f.tn f.tr f.ids f.key f.vn f.vw f.val f.op f.ttl f.tx) rfl ?_
  intro w1 g1 G eg1 kg1
  have bg1 := size_base GG eg1
  replace GG := GG.trans G
  clear G eg1
  simp only [z0, z1]
  refine s_val 2 rfl rfl (.nilIface) (rfl) ?_
  simp only [z0, z1]
  refine wpList_nil ?_
  refine then_n ?_
  refine wp_seq ?_
  refine wp_seq ?_
  refine wp_region_lit ?_
  refine s_val 3 rfl rfl (.pointer (some ⟨g1, 0, none⟩)) (run_fld 64 _ 0 rfl _ _ rfl _ (by kernel_rfl)) ?_
  simp only [z0, z1]
  refine s_val 4 rfl rfl (.int .i64 4) (run_ldc 3 _ rfl g1 0 rfl 64 _ kg1 (na3 _) _ rfl) ?_
  simp only [z0, z1]
  refine wpList_nil ?_
  refine then_n ?_
  refine wp_block ?_
  refine wp_seq ?_
  refine wp_region_lit ?_
  refine s_val 6 rfl rfl (.bool false) (run_eq_k 3 .i64 _ _ _ rfl Try.underlying3 _ _ rfl rfl false rfl _) ?_
  simp only [z0, z1]
  refine s_val 5 rfl rfl (.bool false) (rfl) ?_
  simp only [z0, z1]
  refine wpList_nil ?_
  refine then_n ?_
  refine wp_cond_false rfl ?_
  refine wp_seq ?_
  refine wp_region_lit ?_
  refine s_val 16 rfl rfl (.bool false) (run_eq_k 3 .i64 _ _ _ rfl Try.underlying3 _ _ rfl rfl false rfl _) ?_
  simp only [z0, z1]
  refine s_val 15 rfl rfl (.bool false) (rfl) ?_
  simp only [z0, z1]
  refine wpList_nil ?_
  refine then_n ?_
  refine wp_cond_false rfl ?_
  refine wp_seq ?_
  refine wp_region_lit ?_
  refine s_val 28 rfl rfl (.bool false) (run_eq_k 3 .i64 _ _ _ rfl Try.underlying3 _ _ rfl rfl false rfl _) ?_
  simp only [z0, z1]
  refine s_val 27 rfl rfl (.bool false) (rfl) ?_
  simp only [z0, z1]
  refine wpList_nil ?_
  refine then_n ?_
  refine wp_cond_false rfl ?_
  refine wp_seq ?_
  refine wp_region_lit ?_
  refine s_val 38 rfl rfl (.bool true) (run_eq_k 3 .i64 _ _ _ rfl Try.underlying3 _ _ rfl rfl true rfl _) ?_
  simp only [z0, z1]
  refine s_val 37 rfl rfl (.bool true) (rfl) ?_
  simp only [z0, z1]
  refine wpList_nil ?_
  refine then_n ?_
  refine wp_cond_true rfl ?_
  refine wp_seq ?_
  refine wp_region_lit ?_
  refine s_val 39 rfl rfl (.pointer (some ⟨g1, 1, none⟩)) (run_fld 64 _ 1 rfl _ _ rfl _ (by kernel_rfl)) ?_
  simp only [z0, z1]
  refine s_val 40 rfl rfl (.agg (c31 f.pw f.pn)) (run_lda 31 _ rfl g1 1 17 rfl 64 _ kg1 _ Try.underlying31 rfl si31a (Nat.le_of_ble_eq_true rfl) _ (by kernel_rfl)) ?_
  simp only [z0, z1]
  refine s_val 41 rfl rfl (.pointer (some ⟨g1, 19, none⟩)) (run_fld 64 _ 3 rfl _ _ rfl _ (by kernel_rfl)) ?_
  simp only [z0, z1]
  refine s_val 42 rfl rfl (.agg (c24 f.a)) (run_lda 24 _ rfl g1 19 16 rfl 64 _ kg1 _ Try.underlying24 rfl si24 (Nat.le_of_ble_eq_true rfl) _ (by kernel_rfl)) ?_
  simp only [z0, z1]
  refine s_val 43 rfl rfl (.pointer (some ⟨g1, 35, none⟩)) (run_fld 64 _ 4 rfl _ _ rfl _ (by kernel_rfl)) ?_
  simp only [z0, z1]
  refine s_val 44 rfl rfl (.agg (c24 f.b)) (run_lda 24 _ rfl g1 35 16 rfl 64 _ kg1 _ Try.underlying24 rfl si24 (Nat.le_of_ble_eq_true rfl) _ (by kernel_rfl)) ?_
  simp only [z0, z1]
  refine s_val 45 rfl rfl (.pointer (some ⟨g1, 56, none⟩)) (run_fld 64 _ 8 rfl _ _ rfl _ (by kernel_rfl)) ?_
  simp only [z0, z1]
  refine s_val 46 rfl rfl (.slice f.tr.ao f.tr.n f.tr.cap) (run_ldc 32 _ rfl g1 56 rfl 64 _ kg1 (na32 _) _ rfl) ?_
  simp only [z0, z1]
  refine s_val 47 rfl rfl (.agg (c88 f.pw f.pn f.a f.b f.tr)) (run_bd 88 _ rfl [(0, .agg (c31 f.pw f.pn)), (1, .agg (c24 f.a)), (2, .agg (c24 f.b)), (3, .slice f.tr.ao f.tr.n f.tr.cap)] rfl _ (by kernel_rfl)) ?_
  simp only [z0, z1]
  refine s_val 48 rfl rfl (.iface 88 (.agg (c88 f.pw f.pn f.a f.b f.tr))) (run_mk 88 _ rfl _ rfl (by kernel_rfl)) ?_
  simp only [z0, z1]
  refine s_val 2 rfl rfl (.iface 88 (.agg (c88 f.pw f.pn f.a f.b f.tr))) (rfl) ?_
  simp only [z0, z1]
  refine wpList_nil ?_
  refine then_n ?_
  refine wp_ret ?_
  refine blk_r ?_
  refine then_r ?_
  refine bodyPost_ret (results_tmp Try.results63 _ _ _) rfl ?_
  exact ⟨rfl, GG⟩
set_option maxRecDepth 100000 in
set_option maxHeartbeats 4000000 in
theorem body_5 (f : Fr) (w : World) : Calls Try.prog 63 #[.agg (c64 5 f.pw f.pn f.toA f.a f.b f.n f.fi f.fn f.ti f.tn f.tr f.ids f.key f.vn f.vw f.val f.op f.ttl f.tx)] w fun e w' => e = .returned (.iface 126 (.agg (c126 f.pw f.pn))) ∧ Gro w w' := by
  refine s_enter Try.func63 rfl Try.ntmps63 [.agg (c64 5 f.pw f.pn f.toA f.a f.b f.n f.fi f.fn f.ti f.tn f.tr f.ids f.key f.vn f.vw f.val f.op f.ttl f.tx)] [.agg (c64 5 f.pw f.pn f.toA f.a f.b f.n f.fi f.fn f.ti f.tn f.tr f.ids f.key f.vn f.vw f.val f.op f.ttl f.tx), undef, undef, undef, undef, undef, undef, undef, undef, undef, undef, undef, undef, undef, undef, undef, undef, undef, undef, undef, undef, undef, undef, undef, undef, undef, undef, undef, undef, undef, undef, undef, undef, undef, undef, undef, undef, undef, undef, undef, undef, undef, undef, undef, undef, undef, undef, undef, undef, undef, undef, undef, undef, undef, undef, undef, undef, undef, undef, undef, undef, undef, undef, undef, undef, undef, undef, undef, undef, undef, undef, undef, undef, undef, undef, undef, undef, undef, undef, undef, undef, undef, undef, undef, undef, undef, undef, undef, undef, undef, undef, undef, undef, undef, undef, undef, undef, undef, undef, undef, undef, undef, undef, undef, undef, undef, undef, undef, undef, undef, undef, undef, undef, undef, undef, undef, undef, undef, undef, undef, undef, undef, undef, undef, undef, undef, undef, undef, undef, undef, undef, undef, undef, undef, undef, undef, undef, undef, undef] rfl ?_
  have GG := Gro.refl w
  refine wp_seq ?_
  refine wp_region_lit ?_
  refine s_box 1 rfl rfl 64 _ rfl _ rfl (c64 5 f.pw f.pn f.toA f.a f.b f.n f.fi f.fn f.ti f.tn f.tr f.ids f.key f.vn f.vw f.val f.op f.ttl f.tx) rfl ?_
  intro w1 g1 G eg1 kg1
  have bg1 := size_base GG eg1
  replace GG := GG.trans G
  clear G eg1
  simp only [z0, z1]
  refine s_val 2 rfl rfl (.nilIface) (rfl) ?_
  simp only [z0, z1]
  refine wpList_nil ?_
  refine then_n ?_
  refine wp_seq ?_
  refine wp_seq ?_
  refine wp_region_lit ?_
  refine s_val 3 rfl rfl (.pointer (some ⟨g1, 0, none⟩)) (run_fld 64 _ 0 rfl _ _ rfl _ (by kernel_rfl)) ?_
  simp only [z0, z1]
  refine s_val 4 rfl rfl (.int .i64 5) (run_ldc 3 _ rfl g1 0 rfl 64 _ kg1 (na3 _) _ rfl) ?_
  simp only [z0, z1]
  refine wpList_nil ?_
  refine then_n ?_
  refine wp_block ?_
  refine wp_seq ?_
  refine wp_region_lit ?_
  refine s_val 6 rfl rfl (.bool false) (run_eq_k 3 .i64 _ _ _ rfl Try.underlying3 _ _ rfl rfl false rfl _) ?_
  simp only [z0, z1]
  refine s_val 5 rfl rfl (.bool false) (rfl) ?_
  simp only [z0, z1]
  refine wpList_nil ?_
  refine then_n ?_
  refine wp_cond_false rfl ?_
  refine wp_seq ?_
  refine wp_region_lit ?_
  refine s_val 16 rfl rfl (.bool false) (run_eq_k 3 .i64 _ _ _ rfl Try.underlying3 _ _ rfl rfl false rfl _) ?_
  simp only [z0, z1]
  refine s_val 15 rfl rfl (.bool false) (rfl) ?_
  simp only [z0, z1]
  refine wpList_nil ?_
  refine then_n ?_
  refine wp_cond_false rfl ?_
  refine wp_seq ?_
  refine wp_region_lit ?_
  refine s_val 28 rfl rfl (.bool false) (run_eq_k 3 .i64 _ _ _ rfl Try.underlying3 _ _ rfl rfl false rfl _) ?_
  simp only [z0, z1]
  refine s_val 27 rfl rfl (.bool false) (rfl) ?_
  simp only [z0, z1]
  refine wpList_nil ?_
  refine then_n ?_
  refine wp_cond_false rfl ?_
  refine wp_seq ?_
  refine wp_region_lit ?_
  refine s_val 38 rfl rfl (.bool false) (run_eq_k 3 .i64 _ _ _ rfl Try.underlying3 _ _ rfl rfl false rfl _) ?_
  simp only [z0, z1]
  refine s_val 37 rfl rfl (.bool false) (rfl) ?_
  simp only [z0, z1]
  refine wpList_nil ?_
  refine then_n ?_
  refine wp_cond_false rfl ?_
  refine wp_seq ?_
  refine wp_region_lit ?_
  refine s_val 50 rfl rfl (.bool true) (run_eq_k 3 .i64 _ _ _ rfl Try.underlying3 _ _ rfl rfl true rfl _) ?_
  simp only [z0, z1]
  refine s_val 49 rfl rfl (.bool true) (rfl) ?_
  simp only [z0, z1]
  refine wpList_nil ?_
  refine then_n ?_
  refine wp_cond_true rfl ?_
  refine wp_seq ?_
  refine wp_region_lit ?_
  refine s_val 51 rfl rfl (.pointer (some ⟨g1, 1, none⟩)) (run_fld 64 _ 1 rfl _ _ rfl _ (by kernel_rfl)) ?_
  simp only [z0, z1]
  refine s_val 52 rfl rfl (.agg (c31 f.pw f.pn)) (run_lda 31 _ rfl g1 1 17 rfl 64 _ kg1 _ Try.underlying31 rfl si31a (Nat.le_of_ble_eq_true rfl) _ (by kernel_rfl)) ?_
  simp only [z0, z1]
  refine s_val 53 rfl rfl (.agg (c126 f.pw f.pn)) (run_bd 126 _ rfl [(0, .agg (c31 f.pw f.pn))] rfl _ (by kernel_rfl)) ?_
  simp only [z0, z1]
  refine s_val 54 rfl rfl (.iface 126 (.agg (c126 f.pw f.pn))) (run_mk 126 _ rfl _ rfl (by kernel_rfl)) ?_
  simp only [z0, z1]
  refine s_val 2 rfl rfl (.iface 126 (.agg (c126 f.pw f.pn))) (rfl) ?_
  simp only [z0, z1]
  refine wpList_nil ?_
  refine then_n ?_
  refine wp_ret ?_
  refine blk_r ?_
  refine then_r ?_
  refine bodyPost_ret (results_tmp Try.results63 _ _ _) rfl ?_
  exact ⟨rfl, GG⟩
set_option maxRecDepth 100000 in
set_option maxHeartbeats 4000000 in
theorem body_6 (f : Fr) (w : World) : Calls Try.prog 63 #[.agg (c64 6 f.pw f.pn f.toA f.a f.b f.n f.fi f.fn f.ti f.tn f.tr f.ids f.key f.vn f.vw f.val f.op f.ttl f.tx)] w fun e w' => e = .returned (.iface 137 (.agg (c137 f.pw f.pn f.toA))) ∧ Gro w w' := by
  refine s_enter Try.func63 rfl Try.ntmps63 [.agg (c64 6 f.pw f.pn f.toA f.a f.b f.n f.fi f.fn f.ti f.tn f.tr f.ids f.key f.vn f.vw f.val f.op f.ttl f.tx)] [.agg (c64 6 f.pw f.pn f.toA f.a f.b f.n f.fi f.fn f.ti f.tn f.tr f.ids f.key f.vn f.vw f.val f.op f.ttl f.tx), undef, undef, undef, undef, undef, undef, undef, undef, undef, undef, undef, undef, undef, undef, undef, undef, undef, undef, undef, undef, undef, undef, undef, undef, undef, undef, undef, undef, undef, undef, undef, undef, undef, undef, undef, undef, undef, undef, undef, undef, undef, undef, undef, undef, undef, undef, undef, undef, undef, undef, undef, undef, undef, undef, undef, undef, undef, undef, undef, undef, undef, undef, undef, undef, undef, undef, undef, undef, undef, undef, undef, undef, undef, undef, undef, undef, undef, undef, undef, undef, undef, undef, undef, undef, undef, undef, undef, undef, undef, undef, undef, undef, undef, undef, undef, undef, undef, undef, undef, undef, undef, undef, undef, undef, undef, undef, undef, undef, undef, undef, undef, undef, undef, undef, undef, undef, undef, undef, undef, undef, undef, undef, undef, undef, undef, undef, undef, undef, undef, undef, undef, undef, undef, undef, undef, undef, undef, undef] rfl ?_
  have GG := Gro.refl w
  refine wp_seq ?_
  refine wp_region_lit ?_
  refine s_box 1 rfl rfl 64 _ rfl _ rfl (c64 6 f.pw f.pn f.toA f.a f.b f.n f.fi f.fn f.ti f.tn f.tr f.ids f.key f.vn f.vw f.val f.op f.ttl f.tx) rfl ?_
  intro w1 g1 G eg1 kg1
  have bg1 := size_base GG eg1
  replace GG := GG.trans G
  clear G eg1
  simp only [z0, z1]
  refine s_val 2 rfl rfl (.nilIface) (rfl) ?_
  simp only [z0, z1]
  refine wpList_nil ?_
  refine then_n ?_
  refine wp_seq ?_
  refine wp_seq ?_
  refine wp_region_lit ?_
  refine s_val 3 rfl rfl (.pointer (some ⟨g1, 0, none⟩)) (run_fld 64 _ 0 rfl _ _ rfl _ (by kernel_rfl)) ?_
  simp only [z0, z1]
  refine s_val 4 rfl rfl (.int .i64 6) (run_ldc 3 _ rfl g1 0 rfl 64 _ kg1 (na3 _) _ rfl) ?_
  simp only [z0, z1]
  refine wpList_nil ?_
  refine then_n ?_
  refine wp_block ?_
  refine wp_seq ?_
  refine wp_region_lit ?_
  refine s_val 6 rfl rfl (.bool false) (run_eq_k 3 .i64 _ _ _ rfl Try.underlying3 _ _ rfl rfl false rfl _) ?_
  simp only [z0, z1]
  refine s_val 5 rfl rfl (.bool false) (rfl) ?_
  simp only [z0, z1]
  refine wpList_nil ?_
  refine then_n ?_
  refine wp_cond_false rfl ?_
  refine wp_seq ?_
  refine wp_region_lit ?_
  refine s_val 16 rfl rfl (.bool false) (run_eq_k 3 .i64 _ _ _ rfl Try.underlying3 _ _ rfl rfl false rfl _) ?_
  simp only [z0, z1]
  refine s_val 15 rfl rfl (.bool false) (rfl) ?_
  simp only [z0, z1]
  refine wpList_nil ?_
  refine then_n ?_
  refine wp_cond_false rfl ?_
  refine wp_seq ?_
  refine wp_region_lit ?_
  refine s_val 28 rfl rfl (.bool false) (run_eq_k 3 .i64 _ _ _ rfl Try.underlying3 _ _ rfl rfl false rfl _) ?_
  simp only [z0, z1]
  refine s_val 27 rfl rfl (.bool false) (rfl) ?_
  simp only [z0, z1]
  refine wpList_nil ?_
  refine then_n ?_
  refine wp_cond_false rfl ?_
  refine wp_seq ?_
  refine wp_region_lit ?_
  refine s_val 38 rfl rfl (.bool false) (run_eq_k 3 .i64 _ _ _ rfl Try.underlying3 _ _ rfl rfl false rfl _) ?_
  simp only [z0, z1]
  refine s_val 37 rfl rfl (.bool false) (rfl) ?_
  simp only [z0, z1]
  refine wpList_nil ?_
  refine then_n ?_
  refine wp_cond_false rfl ?_
  refine wp_seq ?_
  refine wp_region_lit ?_
  refine s_val 50 rfl rfl (.bool false) (run_eq_k 3 .i64 _ _ _ rfl Try.underlying3 _ _ rfl rfl false rfl _) ?_
  simp only [z0, z1]
  refine s_val 49 rfl rfl (.bool false) (rfl) ?_
  simp only [z0, z1]
  refine wpList_nil ?_
  refine then_n ?_
  refine wp_cond_false rfl ?_
  refine wp_seq ?_
  refine wp_region_lit ?_
  refine s_val 56 rfl rfl (.bool true) (run_eq_k 3 .i64 _ _ _ rfl Try.underlying3 _ _ rfl rfl true rfl _) ?_
  simp only [z0, z1]
  refine s_val 55 rfl rfl (.bool true) (rfl) ?_
  simp only [z0, z1]
  refine wpList_nil ?_
  refine then_n ?_
  refine wp_cond_true rfl ?_
  refine wp_seq ?_
  refine wp_region_lit ?_
  refine s_val 57 rfl rfl (.pointer (some ⟨g1, 1, none⟩)) (run_fld 64 _ 1 rfl _ _ rfl _ (by kernel_rfl)) ?_
  simp only [z0, z1]
  refine s_val 58 rfl rfl (.agg (c31 f.pw f.pn)) (run_lda 31 _ rfl g1 1 17 rfl 64 _ kg1 _ Try.underlying31 rfl si31a (Nat.le_of_ble_eq_true rfl) _ (by kernel_rfl)) ?_
  simp only [z0, z1]
  refine s_val 59 rfl rfl (.pointer (some ⟨g1, 18, none⟩)) (run_fld 64 _ 2 rfl _ _ rfl _ (by kernel_rfl)) ?_
  simp only [z0, z1]
  refine s_val 60 rfl rfl (.bool f.toA) (run_ldc 4 _ rfl g1 18 rfl 64 _ kg1 (na4 _) _ rfl) ?_
  simp only [z0, z1]
  refine s_val 61 rfl rfl (.agg (c137 f.pw f.pn f.toA)) (run_bd 137 _ rfl [(0, .agg (c31 f.pw f.pn)), (1, .bool f.toA)] rfl _ (by kernel_rfl)) ?_
  simp only [z0, z1]
  refine s_val 62 rfl rfl (.iface 137 (.agg (c137 f.pw f.pn f.toA))) (run_mk 137 _ rfl _ rfl (by kernel_rfl)) ?_
  simp only [z0, z1]
  refine s_val 2 rfl rfl (.iface 137 (.agg (c137 f.pw f.pn f.toA))) (rfl) ?_
  simp only [z0, z1]
  refine wpList_nil ?_
  refine then_n ?_
  refine wp_ret ?_
  refine blk_r ?_
  refine then_r ?_
  refine bodyPost_ret (results_tmp Try.results63 _ _ _) rfl ?_
  exact ⟨rfl, GG⟩
set_option maxRecDepth 100000 in
set_option maxHeartbeats 4000000 in
theorem body_7 (f : Fr) (w : World) : Calls Try.prog 63 #[.agg (c64 7 f.pw f.pn f.toA f.a f.b f.n f.fi f.fn f.ti f.tn f.tr f.ids f.key f.vn f.vw f.val f.op f.ttl f.tx)] w fun e w' => e = .returned (.iface 139 (.agg (c139 f.pw f.pn f.toA f.ids))) ∧ Gro w w' := by
  refine s_enter Try.func63 rfl Try.ntmps63 [.agg (c64 7 f.pw f.pn f.toA f.a f.b f.n f.fi f.fn f.ti f.tn f.tr f.ids f.key f.vn f.vw f.val f.op f.ttl f.tx)] [.agg (c64 7 f.pw f.pn f.toA f.a f.b f.n f.fi f.fn f.ti f.tn f.tr f.ids f.key f.vn f.vw f.val f.op f.ttl f.tx), undef, undef, undef, undef, undef, undef, undef, undef, undef, undef, undef, undef, undef, undef, undef, undef, undef, undef, undef, undef, undef, undef, undef, undef, undef, undef, undef, undef, undef, undef, undef, undef, undef, undef, undef, undef, undef, undef, undef, undef, undef, undef, undef, undef, undef, undef, undef, undef, undef, undef, undef, undef, undef, undef, undef, undef, undef, undef, undef, undef, undef, undef, undef, undef, undef, undef, undef, undef, undef, undef, undef, undef, undef, undef, undef, undef, undef, undef, undef, undef, undef, undef, undef, undef, undef, undef, undef, undef, undef, undef, undef, undef, undef, undef, undef, undef, undef, undef, undef, undef, undef, undef, undef, undef, undef, undef, undef, undef, undef, undef, undef, undef, undef, undef, undef, undef, undef, undef, undef, undef, undef, undef, undef, undef, undef, undef, undef, undef, undef, undef, undef, undef, undef, undef, undef, undef, undef, undef] rfl ?_
  have GG := Gro.refl w
  refine wp_seq ?_
  refine wp_region_lit ?_
  refine s_box 1 rfl rfl 64 _ rfl _ rfl (c64 7 f.pw f.pn f.toA f.a f.b f.n f.fi f.fn f.ti f.tn f.tr f.ids f.key f.vn f.vw f.val f.op f.ttl f.tx) rfl ?_
  intro w1 g1 G eg1 kg1
  have bg1 := size_base GG eg1
  replace GG := GG.trans G
  clear G eg1
  simp only [z0, z1]
  refine s_val 2 rfl rfl (.nilIface) (rfl) ?_
  simp only [z0, z1]
  refine wpList_nil ?_
  refine then_n ?_
  refine wp_seq ?_
  refine wp_seq ?_
  refine wp_region_lit ?_
  refine s_val 3 rfl rfl (.pointer (some ⟨g1, 0, none⟩)) (run_fld 64 _ 0 rfl _ _ rfl _ (by kernel_rfl)) ?_
  simp only [z0, z1]
  refine s_val 4 rfl rfl (.int .i64 7) (run_ldc 3 _ rfl g1 0 rfl 64 _ kg1 (na3 _) _ rfl) ?_
  simp only [z0, z1]
  refine wpList_nil ?_
  refine then_n ?_
  refine wp_block ?_
  refine wp_seq ?_
  refine wp_region_lit ?_
  refine s_val 6 rfl rfl (.bool false) (run_eq_k 3 .i64 _ _ _ rfl Try.underlying3 _ _ rfl rfl false rfl _) ?_
  simp only [z0, z1]
  refine s_val 5 rfl rfl (.bool false) (rfl) ?_
  simp only [z0, z1]
  refine wpList_nil ?_
  refine then_n ?_
  refine wp_cond_false rfl ?_
  refine wp_seq ?_
  refine wp_region_lit ?_
  refine s_val 16 rfl rfl (.bool false) (run_eq_k 3 .i64 _ _ _ rfl Try.underlying3 _ _ rfl rfl false rfl _) ?_
  simp only [z0, z1]
  refine s_val 15 rfl rfl (.bool false) (rfl) ?_
  simp only [z0, z1]
  refine wpList_nil ?_
  refine then_n ?_
  refine wp_cond_false rfl ?_
  refine wp_seq ?_
  refine wp_region_lit ?_
  refine s_val 28 rfl rfl (.bool false) (run_eq_k 3 .i64 _ _ _ rfl Try.underlying3 _ _ rfl rfl false rfl _) ?_
  simp only [z0, z1]
  refine s_val 27 rfl rfl (.bool false) (rfl) ?_
  simp only [z0, z1]
  refine wpList_nil ?_
  refine then_n ?_
  refine wp_cond_false rfl ?_
  refine wp_seq ?_
  refine wp_region_lit ?_
  refine s_val 38 rfl rfl (.bool false) (run_eq_k 3 .i64 _ _ _ rfl Try.underlying3 _ _ rfl rfl false rfl _) ?_
  simp only [z0, z1]
  refine s_val 37 rfl rfl (.bool false) (rfl) ?_
  simp only [z0, z1]
  refine wpList_nil ?_
  refine then_n ?_
  refine wp_cond_false rfl ?_
  refine wp_seq ?_
  refine wp_region_lit ?_
  refine s_val 50 rfl rfl (.bool false) (run_eq_k 3 .i64 _ _ _ rfl Try.underlying3 _ _ rfl rfl false rfl _) ?_
  simp only [z0, z1]
  refine s_val 49 rfl rfl (.bool false) (rfl) ?_
  simp only [z0, z1]
  refine wpList_nil ?_
  refine then_n ?_
  refine wp_cond_false rfl ?_
  refine wp_seq ?_
  refine wp_region_lit ?_
  refine s_val 56 rfl rfl (.bool false) (run_eq_k 3 .i64 _ _ _ rfl Try.underlying3 _ _ rfl rfl false rfl _) ?_
  simp only [z0, z1]
  refine s_val 55 rfl rfl (.bool false) (rfl) ?_
  simp only [z0, z1]
  refine wpList_nil ?_
  refine then_n ?_
  refine wp_cond_false rfl ?_
  refine wp_seq ?_
  refine wp_region_lit ?_
  refine s_val 64 rfl rfl (.bool true) (run_eq_k 3 .i64 _ _ _ rfl Try.underlying3 _ _ rfl rfl true rfl _) ?_
  simp only [z0, z1]
  refine s_val 63 rfl rfl (.bool true) (rfl) ?_
  simp only [z0, z1]
  refine wpList_nil ?_
  refine then_n ?_
  refine wp_cond_true rfl ?_
  refine wp_seq ?_
  refine wp_region_lit ?_
  refine s_val 65 rfl rfl (.pointer (some ⟨g1, 1, none⟩)) (run_fld 64 _ 1 rfl _ _ rfl _ (by kernel_rfl)) ?_
  simp only [z0, z1]
  refine s_val 66 rfl rfl (.agg (c31 f.pw f.pn)) (run_lda 31 _ rfl g1 1 17 rfl 64 _ kg1 _ Try.underlying31 rfl si31a (Nat.le_of_ble_eq_true rfl) _ (by kernel_rfl)) ?_
  simp only [z0, z1]
  refine s_val 67 rfl rfl (.pointer (some ⟨g1, 18, none⟩)) (run_fld 64 _ 2 rfl _ _ rfl _ (by kernel_rfl)) ?_
  simp only [z0, z1]
  refine s_val 68 rfl rfl (.bool f.toA) (run_ldc 4 _ rfl g1 18 rfl 64 _ kg1 (na4 _) _ rfl) ?_
  simp only [z0, z1]
  refine s_val 69 rfl rfl (.pointer (some ⟨g1, 57, none⟩)) (run_fld 64 _ 9 rfl _ _ rfl _ (by kernel_rfl)) ?_
  simp only [z0, z1]
  refine s_val 70 rfl rfl (.slice f.ids.ao f.ids.n f.ids.cap) (run_ldc 57 _ rfl g1 57 rfl 64 _ kg1 (na57a _) _ rfl) ?_
  simp only [z0, z1]
  refine s_val 71 rfl rfl (.agg (c139 f.pw f.pn f.toA f.ids)) (run_bd 139 _ rfl [(0, .agg (c31 f.pw f.pn)), (1, .bool f.toA), (2, .slice f.ids.ao f.ids.n f.ids.cap)] rfl _ (by kernel_rfl)) ?_
  simp only [z0, z1]
  refine s_val 72 rfl rfl (.iface 139 (.agg (c139 f.pw f.pn f.toA f.ids))) (run_mk 139 _ rfl _ rfl (by kernel_rfl)) ?_
  simp only [z0, z1]
  refine s_val 2 rfl rfl (.iface 139 (.agg (c139 f.pw f.pn f.toA f.ids))) (rfl) ?_
  simp only [z0, z1]
  refine wpList_nil ?_
  refine then_n ?_
  refine wp_ret ?_
  refine blk_r ?_
  refine then_r ?_
  refine bodyPost_ret (results_tmp Try.results63 _ _ _) rfl ?_
  exact ⟨rfl, GG⟩
set_option maxRecDepth 100000 in
set_option maxHeartbeats 4000000 in
theorem body_8 (f : Fr) (w : World) : Calls Try.prog 63 #[.agg (c64 8 f.pw f.pn f.toA f.a f.b f.n f.fi f.fn f.ti f.tn f.tr f.ids f.key f.vn f.vw f.val f.op f.ttl f.tx)] w fun e w' => e = .returned (.iface 141 (.agg (c141 f.a f.b f.op f.pw f.pn f.toA f.tr))) ∧ Gro w w' := by
  refine s_enter Try.func63 rfl Try.ntmps63 [.agg (c64 8 f.pw f.pn f.toA f.a f.b f.n f.fi f.fn f.ti f.tn f.tr f.ids f.key f.vn f.vw f.val f.op f.ttl f.tx)] [.agg (c64 8 f.pw f.pn f.toA f.a f.b f.n f.fi f.fn f.ti f.tn f.tr f.ids f.key f.vn f.vw f.val f.op f.ttl f.tx), undef, undef, undef, undef, undef, undef, undef, undef, undef, undef, undef, undef, undef, undef, undef, undef, undef, undef, undef, undef, undef, undef, undef, undef, undef, undef, undef, undef, undef, undef, undef, undef, undef, undef, undef, undef, undef, undef, undef, undef, undef, undef, undef, undef, undef, undef, undef, undef, undef, undef, undef, undef, undef, undef, undef, undef, undef, undef, undef, undef, undef, undef, undef, undef, undef, undef, undef, undef, undef, undef, undef, undef, undef, undef, undef, undef, undef, undef, undef, undef, undef, undef, undef, undef, undef, undef, undef, undef, undef, undef, undef, undef, undef, undef, undef, undef, undef, undef, undef, undef, undef, undef, undef, undef, undef, undef, undef, undef, undef, undef, undef, undef, undef, undef, undef, undef, undef, undef, undef, undef, undef, undef, undef, undef, undef, undef, undef, undef, undef, undef, undef, undef, undef, undef, undef, undef, undef, undef] rfl ?_
  have GG := Gro.refl w
  refine wp_seq ?_
  refine wp_region_lit ?_
  refine s_box 1 rfl rfl 64 _ rfl _ rfl (c64 8 f.pw f.pn f.toA f.a f.b f.n f.fi f.fn f.ti f.tn f.tr f.ids f.key f.vn f.vw f.val f.op f.ttl f.tx) rfl ?_
  intro w1 g1 G eg1 kg1
  have bg1 := size_base GG eg1
  replace GG := GG.trans G
  clear G eg1
  simp only [z0, z1]
  refine s_val 2 rfl rfl (.nilIface) (rfl) ?_
  simp only [z0, z1]
  refine wpList_nil ?_
  refine then_n ?_
  refine wp_seq ?_
  refine wp_seq ?_
  refine wp_region_lit ?_
  refine s_val 3 rfl rfl (.pointer (some ⟨g1, 0, none⟩)) (run_fld 64 _ 0 rfl _ _ rfl _ (by kernel_rfl)) ?_
  simp only [z0, z1]
  refine s_val 4 rfl rfl (.int .i64 8) (run_ldc 3 _ rfl g1 0 rfl 64 _ kg1 (na3 _) _ rfl) ?_
  simp only [z0, z1]
  refine wpList_nil ?_
  refine then_n ?_
  refine wp_block ?_
  refine wp_seq ?_
  refine wp_region_lit ?_
  refine s_val 6 rfl rfl (.bool false) (run_eq_k 3 .i64 _ _ _ rfl Try.underlying3 _ _ rfl rfl false rfl _) ?_
  simp only [z0, z1]
  refine s_val 5 rfl rfl (.bool false) (rfl) ?_
  simp only [z0, z1]
  refine wpList_nil ?_
  refine then_n ?_
  refine wp_cond_false rfl ?_
  refine wp_seq ?_
  refine wp_region_lit ?_
  refine s_val 16 rfl rfl (.bool false) (run_eq_k 3 .i64 _ _ _ rfl Try.underlying3 _ _ rfl rfl false rfl _) ?_
  simp only [z0, z1]
  refine s_val 15 rfl rfl (.bool false) (rfl) ?_
  simp only [z0, z1]
  refine wpList_nil ?_
  refine then_n ?_
  refine wp_cond_false rfl ?_
  refine wp_seq ?_
  refine wp_region_lit ?_
  refine s_val 28 rfl rfl (.bool false) (run_eq_k 3 .i64 _ _ _ rfl Try.underlying3 _ _ rfl rfl false rfl _) ?_
  simp only [z0, z1]
  refine s_val 27 rfl rfl (.bool false) (rfl) ?_
  simp only [z0, z1]
  refine wpList_nil ?_
  refine then_n ?_
  refine wp_cond_false rfl ?_
  refine wp_seq ?_
  refine wp_region_lit ?_
  refine s_val 38 rfl rfl (.bool false) (run_eq_k 3 .i64 _ _ _ rfl Try.underlying3 _ _ rfl rfl false rfl _) ?_
  simp only [z0, z1]
  refine s_val 37 rfl rfl (.bool false) (rfl) ?_
  simp only [z0, z1]
  refine wpList_nil ?_
  refine then_n ?_
  refine wp_cond_false rfl ?_
  refine wp_seq ?_
  refine wp_region_lit ?_
  refine s_val 50 rfl rfl (.bool false) (run_eq_k 3 .i64 _ _ _ rfl Try.underlying3 _ _ rfl rfl false rfl _) ?_
  simp only [z0, z1]
  refine s_val 49 rfl rfl (.bool false) (rfl) ?_
  simp only [z0, z1]
  refine wpList_nil ?_
  refine then_n ?_
  refine wp_cond_false rfl ?_
  refine wp_seq ?_
  refine wp_region_lit ?_
  refine s_val 56 rfl rfl (.bool false) (run_eq_k 3 .i64 _ _ _ rfl Try.underlying3 _ _ rfl rfl false rfl _) ?_
  simp only [z0, z1]
  refine s_val 55 rfl rfl (.bool false) (rfl) ?_
  simp only [z0, z1]
  refine wpList_nil ?_
  refine then_n ?_
  refine wp_cond_false rfl ?_
  refine wp_seq ?_
  refine wp_region_lit ?_
  refine s_val 64 rfl rfl (.bool false) (run_eq_k 3 .i64 _ _ _ rfl Try.underlying3 _ _ rfl rfl false rfl _) ?_
  simp only [z0, z1]
  refine s_val 63 rfl rfl (.bool false) (rfl) ?_
  simp only [z0, z1]
  refine wpList_nil ?_
  refine then_n ?_
  refine wp_cond_false rfl ?_
  refine wp_seq ?_
  refine wp_region_lit ?_
  refine s_val 74 rfl rfl (.bool true) (run_eq_k 3 .i64 _ _ _ rfl Try.underlying3 _ _ rfl rfl true rfl _) ?_
  simp only [z0, z1]
  refine s_val 73 rfl rfl (.bool true) (rfl) ?_
  simp only [z0, z1]
  refine wpList_nil ?_
  refine then_n ?_
  refine wp_cond_true rfl ?_
  refine wp_seq ?_
  refine wp_region_lit ?_
  refine s_val 75 rfl rfl (.pointer (some ⟨g1, 19, none⟩)) (run_fld 64 _ 3 rfl _ _ rfl _ (by kernel_rfl)) ?_
  simp only [z0, z1]
  refine s_val 76 rfl rfl (.agg (c24 f.a)) (run_lda 24 _ rfl g1 19 16 rfl 64 _ kg1 _ Try.underlying24 rfl si24 (Nat.le_of_ble_eq_true rfl) _ (by kernel_rfl)) ?_
  simp only [z0, z1]
  refine s_val 77 rfl rfl (.pointer (some ⟨g1, 35, none⟩)) (run_fld 64 _ 4 rfl _ _ rfl _ (by kernel_rfl)) ?_
  simp only [z0, z1]
  refine s_val 78 rfl rfl (.agg (c24 f.b)) (run_lda 24 _ rfl g1 35 16 rfl 64 _ kg1 _ Try.underlying24 rfl si24 (Nat.le_of_ble_eq_true rfl) _ (by kernel_rfl)) ?_
  simp only [z0, z1]
  refine s_val 79 rfl rfl (.pointer (some ⟨g1, 92, none⟩)) (run_fld 64 _ 11 rfl _ _ rfl _ (by kernel_rfl)) ?_
  simp only [z0, z1]
  refine s_val 80 rfl rfl (.int .i64 f.op) (run_ldc 3 _ rfl g1 92 rfl 64 _ kg1 (na3 _) _ rfl) ?_
  simp only [z0, z1]
  refine s_val 81 rfl rfl (.pointer (some ⟨g1, 1, none⟩)) (run_fld 64 _ 1 rfl _ _ rfl _ (by kernel_rfl)) ?_
  simp only [z0, z1]
  refine s_val 82 rfl rfl (.agg (c31 f.pw f.pn)) (run_lda 31 _ rfl g1 1 17 rfl 64 _ kg1 _ Try.underlying31 rfl si31a (Nat.le_of_ble_eq_true rfl) _ (by kernel_rfl)) ?_
  simp only [z0, z1]
  refine s_val 83 rfl rfl (.pointer (some ⟨g1, 18, none⟩)) (run_fld 64 _ 2 rfl _ _ rfl _ (by kernel_rfl)) ?_
  simp only [z0, z1]
  refine s_val 84 rfl rfl (.bool f.toA) (run_ldc 4 _ rfl g1 18 rfl 64 _ kg1 (na4 _) _ rfl) ?_
  simp only [z0, z1]
  refine s_val 85 rfl rfl (.pointer (some ⟨g1, 56, none⟩)) (run_fld 64 _ 8 rfl _ _ rfl _ (by kernel_rfl)) ?_
  simp only [z0, z1]
  refine s_val 86 rfl rfl (.slice f.tr.ao f.tr.n f.tr.cap) (run_ldc 32 _ rfl g1 56 rfl 64 _ kg1 (na32 _) _ rfl) ?_
  simp only [z0, z1]
  refine s_val 87 rfl rfl (.agg (c141 f.a f.b f.op f.pw f.pn f.toA f.tr)) (run_bd 141 _ rfl [(0, .agg (c24 f.a)), (1, .agg (c24 f.b)), (2, .int .i64 f.op), (3, .agg (c31 f.pw f.pn)), (4, .bool f.toA), (5, .slice f.tr.ao f.tr.n f.tr.cap)] rfl _ (by kernel_rfl)) ?_
  simp only [z0, z1]
  refine s_val 88 rfl rfl (.iface 141 (.agg (c141 f.a f.b f.op f.pw f.pn f.toA f.tr))) (run_mk 141 _ rfl _ rfl (by kernel_rfl)) ?_
  simp only [z0, z1]
  refine s_val 2 rfl rfl (.iface 141 (.agg (c141 f.a f.b f.op f.pw f.pn f.toA f.tr))) (rfl) ?_
  simp only [z0, z1]
  refine wpList_nil ?_
  refine then_n ?_
  refine wp_ret ?_
  refine blk_r ?_
  refine then_r ?_
  refine bodyPost_ret (results_tmp Try.results63 _ _ _) rfl ?_
  exact ⟨rfl, GG⟩
set_option maxRecDepth 100000 in
set_option maxHeartbeats 4000000 in
theorem body_9 (f : Fr) (w : World) : Calls Try.prog 63 #[.agg (c64 9 f.pw f.pn f.toA f.a f.b f.n f.fi f.fn f.ti f.tn f.tr f.ids f.key f.vn f.vw f.val f.op f.ttl f.tx)] w fun e w' => e = .returned (.iface 143 (.agg (c143 f.a f.n))) ∧ Gro w w' := by
  refine s_enter Try.func63 rfl Try.ntmps63 [.agg (c64 9 f.pw f.pn f.toA f.a f.b f.n f.fi f.fn f.ti f.tn f.tr f.ids f.key f.vn f.vw f.val f.op f.ttl f.tx)] [.agg (c64 9 f.pw f.pn f.toA f.a f.b f.n f.fi f.fn f.ti f.tn f.tr f.ids f.key f.vn f.vw f.val f.op f.ttl f.tx), undef, undef, undef, undef, undef, undef, undef, undef, undef, undef, undef, undef, undef, undef, undef, undef, undef, undef, undef, undef, undef, undef, undef, undef, undef, undef, undef, undef, undef, undef, undef, undef, undef, undef, undef, undef, undef, undef, undef, undef, undef, undef, undef, undef, undef, undef, undef, undef, undef, undef, undef, undef, undef, undef, undef, undef, undef, undef, undef, undef, undef, undef, undef, undef, undef, undef, undef, undef, undef, undef, undef, undef, undef, undef, undef, undef, undef, undef, undef, undef, undef, undef, undef, undef, undef, undef, undef, undef, undef, undef, undef, undef, undef, undef, undef, undef, undef, undef, undef, undef, undef, undef, undef, undef, undef, undef, undef, undef, undef, undef, undef, undef, undef, undef, undef, undef, undef, undef, undef, undef, undef, undef, undef, undef, undef, undef, undef, undef, undef, undef, undef, undef, undef, undef, undef, undef, undef, undef] rfl ?_
  have GG := Gro.refl w
  refine wp_seq ?_
  refine wp_region_lit ?_
  refine s_box 1 rfl rfl 64 _ rfl _ rfl (c64 9 f.pw f.pn f.toA f.a f.b f.n f.fi f.fn f.ti f.tn f.tr f.ids f.key f.vn f.vw f.val f.op f.ttl f.tx) rfl ?_
  intro w1 g1 G eg1 kg1
  have bg1 := size_base GG eg1
  replace GG := GG.trans G
  clear G eg1
  simp only [z0, z1]
  refine s_val 2 rfl rfl (.nilIface) (rfl) ?_
  simp only [z0, z1]
  refine wpList_nil ?_
  refine then_n ?_
  refine wp_seq ?_
  refine wp_seq ?_
  refine wp_region_lit ?_
  refine s_val 3 rfl rfl (.pointer (some ⟨g1, 0, none⟩)) (run_fld 64 _ 0 rfl _ _ rfl _ (by kernel_rfl)) ?_
  simp only [z0, z1]
  refine s_val 4 rfl rfl (.int .i64 9) (run_ldc 3 _ rfl g1 0 rfl 64 _ kg1 (na3 _) _ rfl) ?_
  simp only [z0, z1]
  refine wpList_nil ?_
  refine then_n ?_
  refine wp_block ?_
  refine wp_seq ?_
  refine wp_region_lit ?_
  refine s_val 6 rfl rfl (.bool false) (run_eq_k 3 .i64 _ _ _ rfl Try.underlying3 _ _ rfl rfl false rfl _) ?_
  simp only [z0, z1]
  refine s_val 5 rfl rfl (.bool false) (rfl) ?_
  simp only [z0, z1]
  refine wpList_nil ?_
  refine then_n ?_
  refine wp_cond_false rfl ?_
  refine wp_seq ?_
  refine wp_region_lit ?_
  refine s_val 16 rfl rfl (.bool false) (run_eq_k 3 .i64 _ _ _ rfl Try.underlying3 _ _ rfl rfl false rfl _) ?_
  simp only [z0, z1]
  refine s_val 15 rfl rfl (.bool false) (rfl) ?_
  simp only [z0, z1]
  refine wpList_nil ?_
  refine then_n ?_
  refine wp_cond_false rfl ?_
  refine wp_seq ?_
  refine wp_region_lit ?_
  refine s_val 28 rfl rfl (.bool false) (run_eq_k 3 .i64 _ _ _ rfl Try.underlying3 _ _ rfl rfl false rfl _) ?_
  simp only [z0, z1]
  refine s_val 27 rfl rfl (.bool false) (rfl) ?_
  simp only [z0, z1]
  refine wpList_nil ?_
  refine then_n ?_
  refine wp_cond_false rfl ?_
  refine wp_seq ?_
  refine wp_region_lit ?_
  refine s_val 38 rfl rfl (.bool false) (run_eq_k 3 .i64 _ _ _ rfl Try.underlying3 _ _ rfl rfl false rfl _) ?_
  simp only [z0, z1]
  refine s_val 37 rfl rfl (.bool false) (rfl) ?_
  simp only [z0, z1]
  refine wpList_nil ?_
  refine then_n ?_
  refine wp_cond_false rfl ?_
  refine wp_seq ?_
  refine wp_region_lit ?_
  refine s_val 50 rfl rfl (.bool false) (run_eq_k 3 .i64 _ _ _ rfl Try.underlying3 _ _ rfl rfl false rfl _) ?_
  simp only [z0, z1]
  refine s_val 49 rfl rfl (.bool false) (rfl) ?_
  simp only [z0, z1]
  refine wpList_nil ?_
  refine then_n ?_
  refine wp_cond_false rfl ?_
  refine wp_seq ?_
  refine wp_region_lit ?_
  refine s_val 56 rfl rfl (.bool false) (run_eq_k 3 .i64 _ _ _ rfl Try.underlying3 _ _ rfl rfl false rfl _) ?_
  simp only [z0, z1]
  refine s_val 55 rfl rfl (.bool false) (rfl) ?_
  simp only [z0, z1]
  refine wpList_nil ?_
  refine then_n ?_
  refine wp_cond_false rfl ?_
  refine wp_seq ?_
  refine wp_region_lit ?_
  refine s_val 64 rfl rfl (.bool false) (run_eq_k 3 .i64 _ _ _ rfl Try.underlying3 _ _ rfl rfl false rfl _) ?_
  simp only [z0, z1]
  refine s_val 63 rfl rfl (.bool false) (rfl) ?_
  simp only [z0, z1]
  refine wpList_nil ?_
  refine then_n ?_
  refine wp_cond_false rfl ?_
  refine wp_seq ?_
  refine wp_region_lit ?_
  refine s_val 74 rfl rfl (.bool false) (run_eq_k 3 .i64 _ _ _ rfl Try.underlying3 _ _ rfl rfl false rfl _) ?_
  simp only [z0, z1]
  refine s_val 73 rfl rfl (.bool false) (rfl) ?_
  simp only [z0, z1]
  refine wpList_nil ?_
  refine then_n ?_
  refine wp_cond_false rfl ?_
  refine wp_seq ?_
  refine wp_region_lit ?_
  refine s_val 90 rfl rfl (.bool true) (run_eq_k 3 .i64 _ _ _ rfl Try.underlying3 _ _ rfl rfl true rfl _) ?_
  simp only [z0, z1]
  refine s_val 89 rfl rfl (.bool true) (rfl) ?_
  simp only [z0, z1]
  refine wpList_nil ?_
  refine then_n ?_
  refine wp_cond_true rfl ?_
  refine wp_seq ?_
  refine wp_region_lit ?_
  refine s_val 91 rfl rfl (.pointer (some ⟨g1, 19, none⟩)) (run_fld 64 _ 3 rfl _ _ rfl _ (by kernel_rfl)) ?_
  simp only [z0, z1]
  refine s_val 92 rfl rfl (.agg (c24 f.a)) (run_lda 24 _ rfl g1 19 16 rfl 64 _ kg1 _ Try.underlying24 rfl si24 (Nat.le_of_ble_eq_true rfl) _ (by kernel_rfl)) ?_
  simp only [z0, z1]
  refine s_val 93 rfl rfl (.pointer (some ⟨g1, 51, none⟩)) (run_fld 64 _ 5 rfl _ _ rfl _ (by kernel_rfl)) ?_
  simp only [z0, z1]
  refine s_val 94 rfl rfl (.int .i64 f.n) (run_ldc 2 _ rfl g1 51 rfl 64 _ kg1 (na2a _) _ rfl) ?_
  simp only [z0, z1]
  refine s_val 95 rfl rfl (.agg (c143 f.a f.n)) (run_bd 143 _ rfl [(0, .agg (c24 f.a)), (1, .int .i64 f.n)] rfl _ (by kernel_rfl)) ?_
  simp only [z0, z1]
  refine s_val 96 rfl rfl (.iface 143 (.agg (c143 f.a f.n))) (run_mk 143 _ rfl _ rfl (by kernel_rfl)) ?_
  simp only [z0, z1]
  refine s_val 2 rfl rfl (.iface 143 (.agg (c143 f.a f.n))) (rfl) ?_
  simp only [z0, z1]
  refine wpList_nil ?_
  refine then_n ?_
  refine wp_ret ?_
  refine blk_r ?_
  refine then_r ?_
  refine bodyPost_ret (results_tmp Try.results63 _ _ _) rfl ?_
  exact ⟨rfl, GG⟩
set_option maxRecDepth 100000 in
set_option maxHeartbeats 4000000 in
theorem body_10 (f : Fr) (w : World) : Calls Try.prog 63 #[.agg (c64 10 f.pw f.pn f.toA f.a f.b f.n f.fi f.fn f.ti f.tn f.tr f.ids f.key f.vn f.vw f.val f.op f.ttl f.tx)] w fun e w' => e = .returned (.iface 145 (.agg (c145 f.a f.b f.n f.op f.ttl f.key f.vn f.vw f.val f.tx))) ∧ Gro w w' := by
  refine s_enter Try.func63 rfl Try.ntmps63 [.agg (c64 10 f.pw f.pn f.toA f.a f.b f.n f.fi f.fn f.ti f.tn f.tr f.ids f.key f.vn f.vw f.val f.op f.ttl f.tx)] [.agg (c64 10 f.pw f.pn f.toA f.a f.b f.n f.fi f.fn f.ti f.tn f.tr f.ids f.key f.vn f.vw f.val f.op f.ttl f.tx), undef, undef, undef, undef, undef, undef, undef, undef, undef, undef, undef, undef, undef, undef, undef, undef, undef, undef, undef, undef, undef, undef, undef, undef, undef, undef, undef, undef, undef, undef, undef, undef, undef, undef, undef, undef, undef, undef, undef, undef, undef, undef, undef, undef, undef, undef, undef, undef, undef, undef, undef, undef, undef, undef, undef, undef, undef, undef, undef, undef, undef, undef, undef, undef, undef, undef, undef, undef, undef, undef, undef, undef, undef, undef, undef, undef, undef, undef, undef, undef, undef, undef, undef, undef, undef, undef, undef, undef, undef, undef, undef, undef, undef, undef, undef, undef, undef, undef, undef, undef, undef, undef, undef, undef, undef, undef, undef, undef, undef, undef, undef, undef, undef, undef, undef, undef, undef, undef, undef, undef, undef, undef, undef, undef, undef, undef, undef, undef, undef, undef, undef, undef, undef, undef, undef, undef, undef, undef] rfl ?_
  have GG := Gro.refl w
  refine wp_seq ?_
  refine wp_region_lit ?_
  refine s_box 1 rfl rfl 64 _ rfl _ rfl (c64 10 f.pw f.pn f.toA f.a f.b f.n f.fi f.fn f.ti f.tn f.tr f.ids f.key f.vn f.vw f.val f.op f.ttl f.tx) rfl ?_
  intro w1 g1 G eg1 kg1
  have bg1 := size_base GG eg1
  replace GG := GG.trans G
  clear G eg1
  simp only [z0, z1]
  refine s_val 2 rfl rfl (.nilIface) (rfl) ?_
  simp only [z0, z1]
  refine wpList_nil ?_
  refine then_n ?_
  refine wp_seq ?_
  refine wp_seq ?_
  refine wp_region_lit ?_
  refine s_val 3 rfl rfl (.pointer (some ⟨g1, 0, none⟩)) (run_fld 64 _ 0 rfl _ _ rfl _ (by kernel_rfl)) ?_
  simp only [z0, z1]
  refine s_val 4 rfl rfl (.int .i64 10) (run_ldc 3 _ rfl g1 0 rfl 64 _ kg1 (na3 _) _ rfl) ?_
  simp only [z0, z1]
  refine wpList_nil ?_
  refine then_n ?_
  refine wp_block ?_
  refine wp_seq ?_
  refine wp_region_lit ?_
  refine s_val 6 rfl rfl (.bool false) (run_eq_k 3 .i64 _ _ _ rfl Try.underlying3 _ _ rfl rfl false rfl _) ?_
  simp only [z0, z1]
  refine s_val 5 rfl rfl (.bool false) (rfl) ?_
  simp only [z0, z1]
  refine wpList_nil ?_
  refine then_n ?_
  refine wp_cond_false rfl ?_
  refine wp_seq ?_
  refine wp_region_lit ?_
  refine s_val 16 rfl rfl (.bool false) (run_eq_k 3 .i64 _ _ _ rfl Try.underlying3 _ _ rfl rfl false rfl _) ?_
  simp only [z0, z1]
  refine s_val 15 rfl rfl (.bool false) (rfl) ?_
  simp only [z0, z1]
  refine wpList_nil ?_
  refine then_n ?_
  refine wp_cond_false rfl ?_
  refine wp_seq ?_
  refine wp_region_lit ?_
  refine s_val 28 rfl rfl (.bool false) (run_eq_k 3 .i64 _ _ _ rfl Try.underlying3 _ _ rfl rfl false rfl _) ?_
  simp only [z0, z1]
  refine s_val 27 rfl rfl (.bool false) (rfl) ?_
  simp only [z0, z1]
  refine wpList_nil ?_
  refine then_n ?_
  refine wp_cond_false rfl ?_
  refine wp_seq ?_
  refine wp_region_lit ?_
  refine s_val 38 rfl rfl (.bool false) (run_eq_k 3 .i64 _ _ _ rfl Try.underlying3 _ _ rfl rfl false rfl _) ?_
  simp only [z0, z1]
  refine s_val 37 rfl rfl (.bool false) (rfl) ?_
  simp only [z0, z1]
  refine wpList_nil ?_
  refine then_n ?_
  refine wp_cond_false rfl ?_
  refine wp_seq ?_
  refine wp_region_lit ?_
  refine s_val 50 rfl rfl (.bool false) (run_eq_k 3 .i64 _ _ _ rfl Try.underlying3 _ _ rfl rfl false rfl _) ?_
  simp only [z0, z1]
  refine s_val 49 rfl rfl (.bool false) (rfl) ?_
  simp only [z0, z1]
  refine wpList_nil ?_
  refine then_n ?_
  refine wp_cond_false rfl ?_
  refine wp_seq ?_
  refine wp_region_lit ?_
  refine s_val 56 rfl rfl (.bool false) (run_eq_k 3 .i64 _ _ _ rfl Try.underlying3 _ _ rfl rfl false rfl _) ?_
  simp only [z0, z1]
  refine s_val 55 rfl rfl (.bool false) (rfl) ?_
  simp only [z0, z1]
  refine wpList_nil ?_
  refine then_n ?_
  refine wp_cond_false rfl ?_
  refine wp_seq ?_
  refine wp_region_lit ?_
  refine s_val 64 rfl rfl (.bool false) (run_eq_k 3 .i64 _ _ _ rfl Try.underlying3 _ _ rfl rfl false rfl _) ?_
  simp only [z0, z1]
  refine s_val 63 rfl rfl (.bool false) (rfl) ?_
  simp only [z0, z1]
  refine wpList_nil ?_
  refine then_n ?_
  refine wp_cond_false rfl ?_
  refine wp_seq ?_
  refine wp_region_lit ?_
  refine s_val 74 rfl rfl (.bool false) (run_eq_k 3 .i64 _ _ _ rfl Try.underlying3 _ _ rfl rfl false rfl _) ?_
  simp only [z0, z1]
  refine s_val 73 rfl rfl (.bool false) (rfl) ?_
  simp only [z0, z1]
  refine wpList_nil ?_
  refine then_n ?_
  refine wp_cond_false rfl ?_
  refine wp_seq ?_
  refine wp_region_lit ?_
  refine s_val 90 rfl rfl (.bool false) (run_eq_k 3 .i64 _ _ _ rfl Try.underlying3 _ _ rfl rfl false rfl _) ?_
  simp only [z0, z1]
  refine s_val 89 rfl rfl (.bool false) (rfl) ?_
  simp only [z0, z1]
  refine wpList_nil ?_
  refine then_n ?_
  refine wp_cond_false rfl ?_
  refine wp_seq ?_
  refine wp_region_lit ?_
  refine s_val 98 rfl rfl (.bool true) (run_eq_k 3 .i64 _ _ _ rfl Try.underlying3 _ _ rfl rfl true rfl _) ?_
  simp only [z0, z1]
  refine s_val 97 rfl rfl (.bool true) (rfl) ?_
  simp only [z0, z1]
  refine wpList_nil ?_
  refine then_n ?_
  refine wp_cond_true rfl ?_
  refine wp_seq ?_
  refine wp_region_lit ?_
  refine s_val 99 rfl rfl (.pointer (some ⟨g1, 19, none⟩)) (run_fld 64 _ 3 rfl _ _ rfl _ (by kernel_rfl)) ?_
  simp only [z0, z1]
  refine s_val 100 rfl rfl (.agg (c24 f.a)) (run_lda 24 _ rfl g1 19 16 rfl 64 _ kg1 _ Try.underlying24 rfl si24 (Nat.le_of_ble_eq_true rfl) _ (by kernel_rfl)) ?_
  simp only [z0, z1]
  refine s_val 101 rfl rfl (.pointer (some ⟨g1, 35, none⟩)) (run_fld 64 _ 4 rfl _ _ rfl _ (by kernel_rfl)) ?_
  simp only [z0, z1]
  refine s_val 102 rfl rfl (.agg (c24 f.b)) (run_lda 24 _ rfl g1 35 16 rfl 64 _ kg1 _ Try.underlying24 rfl si24 (Nat.le_of_ble_eq_true rfl) _ (by kernel_rfl)) ?_
  simp only [z0, z1]
  refine s_val 103 rfl rfl (.pointer (some ⟨g1, 51, none⟩)) (run_fld 64 _ 5 rfl _ _ rfl _ (by kernel_rfl)) ?_
  simp only [z0, z1]
  refine s_val 104 rfl rfl (.int .i64 f.n) (run_ldc 2 _ rfl g1 51 rfl 64 _ kg1 (na2a _) _ rfl) ?_
  simp only [z0, z1]
  refine s_val 105 rfl rfl (.pointer (some ⟨g1, 92, none⟩)) (run_fld 64 _ 11 rfl _ _ rfl _ (by kernel_rfl)) ?_
  simp only [z0, z1]
  refine s_val 106 rfl rfl (.int .i64 f.op) (run_ldc 3 _ rfl g1 92 rfl 64 _ kg1 (na3 _) _ rfl) ?_
  simp only [z0, z1]
  refine s_val 107 rfl rfl (.pointer (some ⟨g1, 93, none⟩)) (run_fld 64 _ 12 rfl _ _ rfl _ (by kernel_rfl)) ?_
  simp only [z0, z1]
  refine s_val 108 rfl rfl (.int .i64 f.ttl) (run_ldc 3 _ rfl g1 93 rfl 64 _ kg1 (na3 _) _ rfl) ?_
  simp only [z0, z1]
  refine s_val 109 rfl rfl (.pointer (some ⟨g1, 58, none⟩)) (run_fld 64 _ 10 rfl _ _ rfl _ (by kernel_rfl)) ?_
  simp only [z0, z1]
  refine s_val 110 rfl rfl (.agg (c62 f.key f.vn f.vw f.val)) (run_lda 62 _ rfl g1 58 34 rfl 64 _ kg1 _ Try.underlying62 rfl si62 (Nat.le_of_ble_eq_true rfl) _ (by kernel_rfl)) ?_
  simp only [z0, z1]
  refine s_val 111 rfl rfl (.pointer (some ⟨g1, 94, none⟩)) (run_fld 64 _ 13 rfl _ _ rfl _ (by kernel_rfl)) ?_
  simp only [z0, z1]
  refine s_val 112 rfl rfl (.slice f.tx.ao f.tx.n f.tx.cap) (run_ldc 60 _ rfl g1 94 rfl 64 _ kg1 (na60 _) _ rfl) ?_
  simp only [z0, z1]
  refine s_val 113 rfl rfl (.agg (c145 f.a f.b f.n f.op f.ttl f.key f.vn f.vw f.val f.tx)) (run_bd 145 _ rfl [(0, .agg (c24 f.a)), (1, .agg (c24 f.b)), (2, .int .i64 f.n), (3, .int .i64 f.op), (4, .int .i64 f.ttl), (5, .agg (c62 f.key f.vn f.vw f.val)), (6, .slice f.tx.ao f.tx.n f.tx.cap)] rfl _ (by kernel_rfl)) ?_
  simp only [z0, z1]
  refine s_val 114 rfl rfl (.iface 145 (.agg (c145 f.a f.b f.n f.op f.ttl f.key f.vn f.vw f.val f.tx))) (run_mk 145 _ rfl _ rfl (by kernel_rfl)) ?_
  simp only [z0, z1]
  refine s_val 2 rfl rfl (.iface 145 (.agg (c145 f.a f.b f.n f.op f.ttl f.key f.vn f.vw f.val f.tx))) (rfl) ?_
  simp only [z0, z1]
  refine wpList_nil ?_
  refine then_n ?_
  refine wp_ret ?_
  refine blk_r ?_
  refine then_r ?_
  refine bodyPost_ret (results_tmp Try.results63 _ _ _) rfl ?_
  exact ⟨rfl, GG⟩
set_option maxRecDepth 100000 in
set_option maxHeartbeats 4000000 in
theorem body_11 (f : Fr) (w : World) : Calls Try.prog 63 #[.agg (c64 11 f.pw f.pn f.toA f.a f.b f.n f.fi f.fn f.ti f.tn f.tr f.ids f.key f.vn f.vw f.val f.op f.ttl f.tx)] w fun e w' => e = .returned (.iface 147 (.agg (c147 f.pw f.pn f.toA f.key f.vn f.vw f.val))) ∧ Gro w w' := by
  refine s_enter Try.func63 rfl Try.ntmps63 [.agg (c64 11 f.pw f.pn f.toA f.a f.b f.n f.fi f.fn f.ti f.tn f.tr f.ids f.key f.vn f.vw f.val f.op f.ttl f.tx)] [.agg (c64 11 f.pw f.pn f.toA f.a f.b f.n f.fi f.fn f.ti f.tn f.tr f.ids f.key f.vn f.vw f.val f.op f.ttl f.tx), undef, undef, undef, undef, undef, undef, undef, undef, undef, undef, undef, undef, undef, undef, undef, undef, undef, undef, undef, undef, undef, undef, undef, undef, undef, undef, undef, undef, undef, undef, undef, undef, undef, undef, undef, undef, undef, undef, undef, undef, undef, undef, undef, undef, undef, undef, undef, undef, undef, undef, undef, undef, undef, undef, undef, undef, undef, undef, undef, undef, undef, undef, undef, undef, undef, undef, undef, undef, undef, undef, undef, undef, undef, undef, undef, undef, undef, undef, undef, undef, undef, undef, undef, undef, undef, undef, undef, undef, undef, undef, undef, undef, undef, undef, undef, undef, undef, undef, undef, undef, undef, undef, undef, undef, undef, undef, undef, undef, undef, undef, undef, undef, undef, undef, undef, undef, undef, undef, undef, undef, undef, undef, undef, undef, undef, undef, undef, undef, undef, undef, undef, undef, undef, undef, undef, undef, undef, undef] rfl ?_
  have GG := Gro.refl w
  refine wp_seq ?_
  refine wp_region_lit ?_
  refine s_box 1 rfl rfl 64 _ rfl _ rfl (c64 11 f.pw f.pn f.toA f.a f.b f.n f.fi f.fn f.ti f.tn f.tr f.ids f.key f.vn f.vw f.val f.op f.ttl f.tx) rfl ?_
  intro w1 g1 G eg1 kg1
  have bg1 := size_base GG eg1
  replace GG := GG.trans G
  clear G eg1
  simp only [z0, z1]
  refine s_val 2 rfl rfl (.nilIface) (rfl) ?_
  simp only [z0, z1]
  refine wpList_nil ?_
  refine then_n ?_
  refine wp_seq ?_
  refine wp_seq ?_
  refine wp_region_lit ?_
  refine s_val 3 rfl rfl (.pointer (some ⟨g1, 0, none⟩)) (run_fld 64 _ 0 rfl _ _ rfl _ (by kernel_rfl)) ?_
  simp only [z0, z1]
  refine s_val 4 rfl rfl (.int .i64 11) (run_ldc 3 _ rfl g1 0 rfl 64 _ kg1 (na3 _) _ rfl) ?_
  simp only [z0, z1]
  refine wpList_nil ?_
  refine then_n ?_
  refine wp_block ?_
  refine wp_seq ?_
  refine wp_region_lit ?_
  refine s_val 6 rfl rfl (.bool false) (run_eq_k 3 .i64 _ _ _ rfl Try.underlying3 _ _ rfl rfl false rfl _) ?_
  simp only [z0, z1]
  refine s_val 5 rfl rfl (.bool false) (rfl) ?_
  simp only [z0, z1]
  refine wpList_nil ?_
  refine then_n ?_
  refine wp_cond_false rfl ?_
  refine wp_seq ?_
  refine wp_region_lit ?_
  refine s_val 16 rfl rfl (.bool false) (run_eq_k 3 .i64 _ _ _ rfl Try.underlying3 _ _ rfl rfl false rfl _) ?_
  simp only [z0, z1]
  refine s_val 15 rfl rfl (.bool false) (rfl) ?_
  simp only [z0, z1]
  refine wpList_nil ?_
  refine then_n ?_
  refine wp_cond_false rfl ?_
  refine wp_seq ?_
  refine wp_region_lit ?_
  refine s_val 28 rfl rfl (.bool false) (run_eq_k 3 .i64 _ _ _ rfl Try.underlying3 _ _ rfl rfl false rfl _) ?_
  simp only [z0, z1]
  refine s_val 27 rfl rfl (.bool false) (rfl) ?_
  simp only [z0, z1]
  refine wpList_nil ?_
  refine then_n ?_
  refine wp_cond_false rfl ?_
  refine wp_seq ?_
  refine wp_region_lit ?_
  refine s_val 38 rfl rfl (.bool false) (run_eq_k 3 .i64 _ _ _ rfl Try.underlying3 _ _ rfl rfl false rfl _) ?_
  simp only [z0, z1]
  refine s_val 37 rfl rfl (.bool false) (rfl) ?_
  simp only [z0, z1]
  refine wpList_nil ?_
  refine then_n ?_
  refine wp_cond_false rfl ?_
  refine wp_seq ?_
  refine wp_region_lit ?_
  refine s_val 50 rfl rfl (.bool false) (run_eq_k 3 .i64 _ _ _ rfl Try.underlying3 _ _ rfl rfl false rfl _) ?_
  simp only [z0, z1]
  refine s_val 49 rfl rfl (.bool false) (rfl) ?_
  simp only [z0, z1]
  refine wpList_nil ?_
  refine then_n ?_
  refine wp_cond_false rfl ?_
  refine wp_seq ?_
  refine wp_region_lit ?_
  refine s_val 56 rfl rfl (.bool false) (run_eq_k 3 .i64 _ _ _ rfl Try.underlying3 _ _ rfl rfl false rfl _) ?_
  simp only [z0, z1]
  refine s_val 55 rfl rfl (.bool false) (rfl) ?_
  simp only [z0, z1]
  refine wpList_nil ?_
  refine then_n ?_
  refine wp_cond_false rfl ?_
  refine wp_seq ?_
  refine wp_region_lit ?_
  refine s_val 64 rfl rfl (.bool false) (run_eq_k 3 .i64 _ _ _ rfl Try.underlying3 _ _ rfl rfl false rfl _) ?_
  simp only [z0, z1]
  refine s_val 63 rfl rfl (.bool false) (rfl) ?_
  simp only [z0, z1]
  refine wpList_nil ?_
  refine then_n ?_
  refine wp_cond_false rfl ?_
  refine wp_seq ?_
  refine wp_region_lit ?_
  refine s_val 74 rfl rfl (.bool false) (run_eq_k 3 .i64 _ _ _ rfl Try.underlying3 _ _ rfl rfl false rfl _) ?_
  simp only [z0, z1]
  refine s_val 73 rfl rfl (.bool false) (rfl) ?_
  simp only [z0, z1]
  refine wpList_nil ?_
  refine then_n ?_
  refine wp_cond_false rfl ?_
  refine wp_seq ?_
  refine wp_region_lit ?_
  refine s_val 90 rfl rfl (.bool false) (run_eq_k 3 .i64 _ _ _ rfl Try.underlying3 _ _ rfl rfl false rfl _) ?_
  simp only [z0, z1]
  refine s_val 89 rfl rfl (.bool false) (rfl) ?_
  simp only [z0, z1]
  refine wpList_nil ?_
  refine then_n ?_
  refine wp_cond_false rfl ?_
  refine wp_seq ?_
  refine wp_region_lit ?_
  refine s_val 98 rfl rfl (.bool false) (run_eq_k 3 .i64 _ _ _ rfl Try.underlying3 _ _ rfl rfl false rfl _) ?_
  simp only [z0, z1]
  refine s_val 97 rfl rfl (.bool false) (rfl) ?_
  simp only [z0, z1]
  refine wpList_nil ?_
  refine then_n ?_
  refine wp_cond_false rfl ?_
  refine wp_seq ?_
  refine wp_region_lit ?_
  refine s_val 116 rfl rfl (.bool true) (run_eq_k 3 .i64 _ _ _ rfl Try.underlying3 _ _ rfl rfl true rfl _) ?_
  simp only [z0, z1]
  refine s_val 115 rfl rfl (.bool true) (rfl) ?_
  simp only [z0, z1]
  refine wpList_nil ?_
  refine then_n ?_
  refine wp_cond_true rfl ?_
  refine wp_seq ?_
  refine wp_region_lit ?_
  refine s_val 117 rfl rfl (.pointer (some ⟨g1, 1, none⟩)) (run_fld 64 _ 1 rfl _ _ rfl _ (by kernel_rfl)) ?_
  simp only [z0, z1]
  refine s_val 118 rfl rfl (.agg (c31 f.pw f.pn)) (run_lda 31 _ rfl g1 1 17 rfl 64 _ kg1 _ Try.underlying31 rfl si31a (Nat.le_of_ble_eq_true rfl) _ (by kernel_rfl)) ?_
  simp only [z0, z1]
  refine s_val 119 rfl rfl (.pointer (some ⟨g1, 18, none⟩)) (run_fld 64 _ 2 rfl _ _ rfl _ (by kernel_rfl)) ?_
  simp only [z0, z1]
  refine s_val 120 rfl rfl (.bool f.toA) (run_ldc 4 _ rfl g1 18 rfl 64 _ kg1 (na4 _) _ rfl) ?_
  simp only [z0, z1]
  refine s_val 121 rfl rfl (.pointer (some ⟨g1, 58, none⟩)) (run_fld 64 _ 10 rfl _ _ rfl _ (by kernel_rfl)) ?_
  simp only [z0, z1]
  refine s_val 122 rfl rfl (.agg (c62 f.key f.vn f.vw f.val)) (run_lda 62 _ rfl g1 58 34 rfl 64 _ kg1 _ Try.underlying62 rfl si62 (Nat.le_of_ble_eq_true rfl) _ (by kernel_rfl)) ?_
  simp only [z0, z1]
  refine s_val 123 rfl rfl (.agg (c147 f.pw f.pn f.toA f.key f.vn f.vw f.val)) (run_bd 147 _ rfl [(0, .agg (c31 f.pw f.pn)), (1, .bool f.toA), (2, .agg (c62 f.key f.vn f.vw f.val))] rfl _ (by kernel_rfl)) ?_
  simp only [z0, z1]
  refine s_val 124 rfl rfl (.iface 147 (.agg (c147 f.pw f.pn f.toA f.key f.vn f.vw f.val))) (run_mk 147 _ rfl _ rfl (by kernel_rfl)) ?_
  simp only [z0, z1]
  refine s_val 2 rfl rfl (.iface 147 (.agg (c147 f.pw f.pn f.toA f.key f.vn f.vw f.val))) (rfl) ?_
  simp only [z0, z1]
  refine wpList_nil ?_
  refine then_n ?_
  refine wp_ret ?_
  refine blk_r ?_
  refine then_r ?_
  refine bodyPost_ret (results_tmp Try.results63 _ _ _) rfl ?_
  exact ⟨rfl, GG⟩
set_option maxRecDepth 100000 in
set_option maxHeartbeats 4000000 in
theorem body_12 (f : Fr) (w : World) : Calls Try.prog 63 #[.agg (c64 12 f.pw f.pn f.toA f.a f.b f.n f.fi f.fn f.ti f.tn f.tr f.ids f.key f.vn f.vw f.val f.op f.ttl f.tx)] w fun e w' => e = .returned (.iface 149 (.agg (c149 f.pw f.pn f.toA f.key f.vn f.vw))) ∧ Gro w w' := by
  refine s_enter Try.func63 rfl Try.ntmps63 [.agg (c64 12 f.pw f.pn f.toA f.a f.b f.n f.fi f.fn f.ti f.tn f.tr f.ids f.key f.vn f.vw f.val f.op f.ttl f.tx)] [.agg (c64 12 f.pw f.pn f.toA f.a f.b f.n f.fi f.fn f.ti f.tn f.tr f.ids f.key f.vn f.vw f.val f.op f.ttl f.tx), undef, undef, undef, undef, undef, undef, undef, undef, undef, undef, undef, undef, undef, undef, undef, undef, undef, undef, undef, undef, undef, undef, undef, undef, undef, undef, undef, undef, undef, undef, undef, undef, undef, undef, undef, undef, undef, undef, undef, undef, undef, undef, undef, undef, undef, undef, undef, undef, undef, undef, undef, undef, undef, undef, undef, undef, undef, undef, undef, undef, undef, undef, undef, undef, undef, undef, undef, undef, undef, undef, undef, undef, undef, undef, undef, undef, undef, undef, undef, undef, undef, undef, undef, undef, undef, undef, undef, undef, undef, undef, undef, undef, undef, undef, undef, undef, undef, undef, undef, undef, undef, undef, undef, undef, undef, undef, undef, undef, undef, undef, undef, undef, undef, undef, undef, undef, undef, undef, undef, undef, undef, undef, undef, undef, undef, undef, undef, undef, undef, undef, undef, undef, undef, undef, undef, undef, undef, undef] rfl ?_
  have GG := Gro.refl w
  refine wp_seq ?_
  refine wp_region_lit ?_
  refine s_box 1 rfl rfl 64 _ rfl _ rfl (c64 12 f.pw f.pn f.toA f.a f.b f.n f.fi f.fn f.ti f.tn f.tr f.ids f.key f.vn f.vw f.val f.op f.ttl f.tx) rfl ?_
  intro w1 g1 G eg1 kg1
  have bg1 := size_base GG eg1
  replace GG := GG.trans G
  clear G eg1
  simp only [z0, z1]
  refine s_val 2 rfl rfl (.nilIface) (rfl) ?_
  simp only [z0, z1]
  refine wpList_nil ?_
  refine then_n ?_
  refine wp_seq ?_
  refine wp_seq ?_
  refine wp_region_lit ?_
  refine s_val 3 rfl rfl (.pointer (some ⟨g1, 0, none⟩)) (run_fld 64 _ 0 rfl _ _ rfl _ (by kernel_rfl)) ?_
  simp only [z0, z1]
  refine s_val 4 rfl rfl (.int .i64 12) (run_ldc 3 _ rfl g1 0 rfl 64 _ kg1 (na3 _) _ rfl) ?_
  simp only [z0, z1]
  refine wpList_nil ?_
  refine then_n ?_
  refine wp_block ?_
  refine wp_seq ?_
  refine wp_region_lit ?_
  refine s_val 6 rfl rfl (.bool false) (run_eq_k 3 .i64 _ _ _ rfl Try.underlying3 _ _ rfl rfl false rfl _) ?_
  simp only [z0, z1]
  refine s_val 5 rfl rfl (.bool false) (rfl) ?_
  simp only [z0, z1]
  refine wpList_nil ?_
  refine then_n ?_
  refine wp_cond_false rfl ?_
  refine wp_seq ?_
  refine wp_region_lit ?_
  refine s_val 16 rfl rfl (.bool false) (run_eq_k 3 .i64 _ _ _ rfl Try.underlying3 _ _ rfl rfl false rfl _) ?_
  simp only [z0, z1]
  refine s_val 15 rfl rfl (.bool false) (rfl) ?_
  simp only [z0, z1]
  refine wpList_nil ?_
  refine then_n ?_
  refine wp_cond_false rfl ?_
  refine wp_seq ?_
  refine wp_region_lit ?_
  refine s_val 28 rfl rfl (.bool false) (run_eq_k 3 .i64 _ _ _ rfl Try.underlying3 _ _ rfl rfl false rfl _) ?_
  simp only [z0, z1]
  refine s_val 27 rfl rfl (.bool false) (rfl) ?_
  simp only [z0, z1]
  refine wpList_nil ?_
  refine then_n ?_
  refine wp_cond_false rfl ?_
  refine wp_seq ?_
  refine wp_region_lit ?_
  refine s_val 38 rfl rfl (.bool false) (run_eq_k 3 .i64 _ _ _ rfl Try.underlying3 _ _ rfl rfl false rfl _) ?_
  simp only [z0, z1]
  refine s_val 37 rfl rfl (.bool false) (rfl) ?_
  simp only [z0, z1]
  refine wpList_nil ?_
  refine then_n ?_
  refine wp_cond_false rfl ?_
  refine wp_seq ?_
  refine wp_region_lit ?_
  refine s_val 50 rfl rfl (.bool false) (run_eq_k 3 .i64 _ _ _ rfl Try.underlying3 _ _ rfl rfl false rfl _) ?_
  simp only [z0, z1]
  refine s_val 49 rfl rfl (.bool false) (rfl) ?_
  simp only [z0, z1]
  refine wpList_nil ?_
  refine then_n ?_
  refine wp_cond_false rfl ?_
  refine wp_seq ?_
  refine wp_region_lit ?_
  refine s_val 56 rfl rfl (.bool false) (run_eq_k 3 .i64 _ _ _ rfl Try.underlying3 _ _ rfl rfl false rfl _) ?_
  simp only [z0, z1]
  refine s_val 55 rfl rfl (.bool false) (rfl) ?_
  simp only [z0, z1]
  refine wpList_nil ?_
  refine then_n ?_
  refine wp_cond_false rfl ?_
  refine wp_seq ?_
  refine wp_region_lit ?_
  refine s_val 64 rfl rfl (.bool false) (run_eq_k 3 .i64 _ _ _ rfl Try.underlying3 _ _ rfl rfl false rfl _) ?_
  simp only [z0, z1]
  refine s_val 63 rfl rfl (.bool false) (rfl) ?_
  simp only [z0, z1]
  refine wpList_nil ?_
  refine then_n ?_
  refine wp_cond_false rfl ?_
  refine wp_seq ?_
  refine wp_region_lit ?_
  refine s_val 74 rfl rfl (.bool false) (run_eq_k 3 .i64 _ _ _ rfl Try.underlying3 _ _ rfl rfl false rfl _) ?_
  simp only [z0, z1]
  refine s_val 73 rfl rfl (.bool false) (rfl) ?_
  simp only [z0, z1]
  refine wpList_nil ?_
  refine then_n ?_
  refine wp_cond_false rfl ?_
  refine wp_seq ?_
  refine wp_region_lit ?_
  refine s_val 90 rfl rfl (.bool false) (run_eq_k 3 .i64 _ _ _ rfl Try.underlying3 _ _ rfl rfl false rfl _) ?_
  simp only [z0, z1]
  refine s_val 89 rfl rfl (.bool false) (rfl) ?_
  simp only [z0, z1]
  refine wpList_nil ?_
  refine then_n ?_
  refine wp_cond_false rfl ?_
  refine wp_seq ?_
  refine wp_region_lit ?_
  refine s_val 98 rfl rfl (.bool false) (run_eq_k 3 .i64 _ _ _ rfl Try.underlying3 _ _ rfl rfl false rfl _) ?_
  simp only [z0, z1]
  refine s_val 97 rfl rfl (.bool false) (rfl) ?_
  simp only [z0, z1]
  refine wpList_nil ?_
  refine then_n ?_
  refine wp_cond_false rfl ?_
  refine wp_seq ?_
  refine wp_region_lit ?_
  refine s_val 116 rfl rfl (.bool false) (run_eq_k 3 .i64 _ _ _ rfl Try.underlying3 _ _ rfl rfl false rfl _) ?_
  simp only [z0, z1]
  refine s_val 115 rfl rfl (.bool false) (rfl) ?_
  simp only [z0, z1]
  refine wpList_nil ?_
  refine then_n ?_
  refine wp_cond_false rfl ?_
  refine wp_seq ?_
  refine wp_region_lit ?_
  refine s_val 126 rfl rfl (.bool true) (run_eq_k 3 .i64 _ _ _ rfl Try.underlying3 _ _ rfl rfl true rfl _) ?_
  simp only [z0, z1]
  refine s_val 125 rfl rfl (.bool true) (rfl) ?_
  simp only [z0, z1]
  refine wpList_nil ?_
  refine then_n ?_
  refine wp_cond_true rfl ?_
  refine wp_seq ?_
  refine wp_region_lit ?_
  refine s_val 127 rfl rfl (.pointer (some ⟨g1, 1, none⟩)) (run_fld 64 _ 1 rfl _ _ rfl _ (by kernel_rfl)) ?_
  simp only [z0, z1]
  refine s_val 128 rfl rfl (.agg (c31 f.pw f.pn)) (run_lda 31 _ rfl g1 1 17 rfl 64 _ kg1 _ Try.underlying31 rfl si31a (Nat.le_of_ble_eq_true rfl) _ (by kernel_rfl)) ?_
  simp only [z0, z1]
  refine s_val 129 rfl rfl (.pointer (some ⟨g1, 18, none⟩)) (run_fld 64 _ 2 rfl _ _ rfl _ (by kernel_rfl)) ?_
  simp only [z0, z1]
  refine s_val 130 rfl rfl (.bool f.toA) (run_ldc 4 _ rfl g1 18 rfl 64 _ kg1 (na4 _) _ rfl) ?_
  simp only [z0, z1]
  refine s_val 131 rfl rfl (.pointer (some ⟨g1, 58, none⟩)) (run_fld 64 _ 10 rfl _ _ rfl _ (by kernel_rfl)) ?_
  simp only [z0, z1]
  refine s_val 132 rfl rfl (.pointer (some ⟨g1, 58, none⟩)) (run_fld 62 _ 0 rfl _ _ rfl _ (by kernel_rfl)) ?_
  simp only [z0, z1]
  refine s_val 133 rfl rfl (.agg (c24 f.key)) (run_lda 24 _ rfl g1 58 16 rfl 64 _ kg1 _ Try.underlying24 rfl si24 (Nat.le_of_ble_eq_true rfl) _ (by kernel_rfl)) ?_
  simp only [z0, z1]
  refine s_val 134 rfl rfl (.pointer (some ⟨g1, 58, none⟩)) (run_fld 64 _ 10 rfl _ _ rfl _ (by kernel_rfl)) ?_
  simp only [z0, z1]
  refine s_val 135 rfl rfl (.pointer (some ⟨g1, 74, none⟩)) (run_fld 62 _ 1 rfl _ _ rfl _ (by kernel_rfl)) ?_
  simp only [z0, z1]
  refine s_val 136 rfl rfl (.agg (c59 f.vn f.vw)) (run_lda 59 _ rfl g1 74 17 rfl 64 _ kg1 _ Try.underlying59 rfl si59 (Nat.le_of_ble_eq_true rfl) _ (by kernel_rfl)) ?_
  simp only [z0, z1]
  refine s_val 137 rfl rfl (.agg (c149 f.pw f.pn f.toA f.key f.vn f.vw)) (run_bd 149 _ rfl [(0, .agg (c31 f.pw f.pn)), (1, .bool f.toA), (2, .agg (c24 f.key)), (3, .agg (c59 f.vn f.vw))] rfl _ (by kernel_rfl)) ?_
  simp only [z0, z1]
  refine s_val 138 rfl rfl (.iface 149 (.agg (c149 f.pw f.pn f.toA f.key f.vn f.vw))) (run_mk 149 _ rfl _ rfl (by kernel_rfl)) ?_
  simp only [z0, z1]
  refine s_val 2 rfl rfl (.iface 149 (.agg (c149 f.pw f.pn f.toA f.key f.vn f.vw))) (rfl) ?_
  simp only [z0, z1]
  refine wpList_nil ?_
  refine then_n ?_
  refine wp_ret ?_
  refine blk_r ?_
  refine then_r ?_
  refine bodyPost_ret (results_tmp Try.results63 _ _ _) rfl ?_
  exact ⟨rfl, GG⟩
set_option maxRecDepth 100000 in
set_option maxHeartbeats 4000000 in
theorem body_none (x : Int) (h1 : ¬ x = 1) (h2 : ¬ x = 2) (h3 : ¬ x = 3) (h4 : ¬ x = 4) (h5 : ¬ x = 5) (h6 : ¬ x = 6) (h7 : ¬ x = 7) (h8 : ¬ x = 8) (h9 : ¬ x = 9) (h10 : ¬ x = 10) (h11 : ¬ x = 11) (h12 : ¬ x = 12) (f : Fr) (w : World) : Calls Try.prog 63 #[.agg (c64 x f.pw f.pn f.toA f.a f.b f.n f.fi f.fn f.ti f.tn f.tr f.ids f.key f.vn f.vw f.val f.op f.ttl f.tx)] w fun e w' => e = .returned .nilIface ∧ Gro w w' := by
  refine s_enter Try.func63 rfl Try.ntmps63 [.agg (c64 x f.pw f.pn f.toA f.a f.b f.n f.fi f.fn f.ti f.tn f.tr f.ids f.key f.vn f.vw f.val f.op f.ttl f.tx)] [.agg (c64 x f.pw f.pn f.toA f.a f.b f.n f.fi f.fn f.ti f.tn f.tr f.ids f.key f.vn f.vw f.val f.op f.ttl f.tx), undef, undef, undef, undef, undef, undef, undef, undef, undef, undef, undef, undef, undef, undef, undef, undef, undef, undef, undef, undef, undef, undef, undef, undef, undef, undef, undef, undef, undef, undef, undef, undef, undef, undef, undef, undef, undef, undef, undef, undef, undef, undef, undef, undef, undef, undef, undef, undef, undef, undef, undef, undef, undef, undef, undef, undef, undef, undef, undef, undef, undef, undef, undef, undef, undef, undef, undef, undef, undef, undef, undef, undef, undef, undef, undef, undef, undef, undef, undef, undef, undef, undef, undef, undef, undef, undef, undef, undef, undef, undef, undef, undef, undef, undef, undef, undef, undef, undef, undef, undef, undef, undef, undef, undef, undef, undef, undef, undef, undef, undef, undef, undef, undef, undef, undef, undef, undef, undef, undef, undef, undef, undef, undef, undef, undef, undef, undef, undef, undef, undef, undef, undef, undef, undef, undef, undef, undef, undef] rfl ?_
  have GG := Gro.refl w
  refine wp_seq ?_
  refine wp_region_lit ?_
  refine s_box 1 rfl rfl 64 _ rfl _ rfl (c64 x f.pw f.pn f.toA f.a f.b f.n f.fi f.fn f.ti f.tn f.tr f.ids f.key f.vn f.vw f.val f.op f.ttl f.tx) rfl ?_
  intro w1 g1 G eg1 kg1
  have bg1 := size_base GG eg1
  replace GG := GG.trans G
  clear G eg1
  simp only [z0, z1]
  refine s_val 2 rfl rfl (.nilIface) (rfl) ?_
  simp only [z0, z1]
  refine wpList_nil ?_
  refine then_n ?_
  refine wp_seq ?_
  refine wp_seq ?_
  refine wp_region_lit ?_
  refine s_val 3 rfl rfl (.pointer (some ⟨g1, 0, none⟩)) (run_fld 64 _ 0 rfl _ _ rfl _ (by kernel_rfl)) ?_
  simp only [z0, z1]
  refine s_val 4 rfl rfl (.int .i64 x) (run_ldc 3 _ rfl g1 0 rfl 64 _ kg1 (na3 _) _ rfl) ?_
  simp only [z0, z1]
  refine wpList_nil ?_
  refine then_n ?_
  refine wp_block ?_
  refine wp_seq ?_
  refine wp_region_lit ?_
  refine s_val 6 rfl rfl (.bool false) (run_eq_k 3 .i64 _ _ _ rfl Try.underlying3 x 1 rfl rfl false (decide_eq_false h1) _) ?_
  simp only [z0, z1]
  refine s_val 5 rfl rfl (.bool false) (rfl) ?_
  simp only [z0, z1]
  refine wpList_nil ?_
  refine then_n ?_
  refine wp_cond_false rfl ?_
  refine wp_seq ?_
  refine wp_region_lit ?_
  refine s_val 16 rfl rfl (.bool false) (run_eq_k 3 .i64 _ _ _ rfl Try.underlying3 x 2 rfl rfl false (decide_eq_false h2) _) ?_
  simp only [z0, z1]
  refine s_val 15 rfl rfl (.bool false) (rfl) ?_
  simp only [z0, z1]
  refine wpList_nil ?_
  refine then_n ?_
  refine wp_cond_false rfl ?_
  refine wp_seq ?_
  refine wp_region_lit ?_
  refine s_val 28 rfl rfl (.bool false) (run_eq_k 3 .i64 _ _ _ rfl Try.underlying3 x 3 rfl rfl false (decide_eq_false h3) _) ?_
  simp only [z0, z1]
  refine s_val 27 rfl rfl (.bool false) (rfl) ?_
  simp only [z0, z1]
  refine wpList_nil ?_
  refine then_n ?_
  refine wp_cond_false rfl ?_
  refine wp_seq ?_
  refine wp_region_lit ?_
  refine s_val 38 rfl rfl (.bool false) (run_eq_k 3 .i64 _ _ _ rfl Try.underlying3 x 4 rfl rfl false (decide_eq_false h4) _) ?_
  simp only [z0, z1]
  refine s_val 37 rfl rfl (.bool false) (rfl) ?_
  simp only [z0, z1]
  refine wpList_nil ?_
  refine then_n ?_
  refine wp_cond_false rfl ?_
  refine wp_seq ?_
  refine wp_region_lit ?_
  refine s_val 50 rfl rfl (.bool false) (run_eq_k 3 .i64 _ _ _ rfl Try.underlying3 x 5 rfl rfl false (decide_eq_false h5) _) ?_
  simp only [z0, z1]
  refine s_val 49 rfl rfl (.bool false) (rfl) ?_
  simp only [z0, z1]
  refine wpList_nil ?_
  refine then_n ?_
  refine wp_cond_false rfl ?_
  refine wp_seq ?_
  refine wp_region_lit ?_
  refine s_val 56 rfl rfl (.bool false) (run_eq_k 3 .i64 _ _ _ rfl Try.underlying3 x 6 rfl rfl false (decide_eq_false h6) _) ?_
  simp only [z0, z1]
  refine s_val 55 rfl rfl (.bool false) (rfl) ?_
  simp only [z0, z1]
  refine wpList_nil ?_
  refine then_n ?_
  refine wp_cond_false rfl ?_
  refine wp_seq ?_
  refine wp_region_lit ?_
  refine s_val 64 rfl rfl (.bool false) (run_eq_k 3 .i64 _ _ _ rfl Try.underlying3 x 7 rfl rfl false (decide_eq_false h7) _) ?_
  simp only [z0, z1]
  refine s_val 63 rfl rfl (.bool false) (rfl) ?_
  simp only [z0, z1]
  refine wpList_nil ?_
  refine then_n ?_
  refine wp_cond_false rfl ?_
  refine wp_seq ?_
  refine wp_region_lit ?_
  refine s_val 74 rfl rfl (.bool false) (run_eq_k 3 .i64 _ _ _ rfl Try.underlying3 x 8 rfl rfl false (decide_eq_false h8) _) ?_
  simp only [z0, z1]
  refine s_val 73 rfl rfl (.bool false) (rfl) ?_
  simp only [z0, z1]
  refine wpList_nil ?_
  refine then_n ?_
  refine wp_cond_false rfl ?_
  refine wp_seq ?_
  refine wp_region_lit ?_
  refine s_val 90 rfl rfl (.bool false) (run_eq_k 3 .i64 _ _ _ rfl Try.underlying3 x 9 rfl rfl false (decide_eq_false h9) _) ?_
  simp only [z0, z1]
  refine s_val 89 rfl rfl (.bool false) (rfl) ?_
  simp only [z0, z1]
  refine wpList_nil ?_
  refine then_n ?_
  refine wp_cond_false rfl ?_
  refine wp_seq ?_
  refine wp_region_lit ?_
  refine s_val 98 rfl rfl (.bool false) (run_eq_k 3 .i64 _ _ _ rfl Try.underlying3 x 10 rfl rfl false (decide_eq_false h10) _) ?_
  simp only [z0, z1]
  refine s_val 97 rfl rfl (.bool false) (rfl) ?_
  simp only [z0, z1]
  refine wpList_nil ?_
  refine then_n ?_
  refine wp_cond_false rfl ?_
  refine wp_seq ?_
  refine wp_region_lit ?_
  refine s_val 116 rfl rfl (.bool false) (run_eq_k 3 .i64 _ _ _ rfl Try.underlying3 x 11 rfl rfl false (decide_eq_false h11) _) ?_
  simp only [z0, z1]
  refine s_val 115 rfl rfl (.bool false) (rfl) ?_
  simp only [z0, z1]
  refine wpList_nil ?_
  refine then_n ?_
  refine wp_cond_false rfl ?_
  refine wp_seq ?_
  refine wp_region_lit ?_
  refine s_val 126 rfl rfl (.bool false) (run_eq_k 3 .i64 _ _ _ rfl Try.underlying3 x 12 rfl rfl false (decide_eq_false h12) _) ?_
  simp only [z0, z1]
  refine s_val 125 rfl rfl (.bool false) (rfl) ?_
  simp only [z0, z1]
  refine wpList_nil ?_
  refine then_n ?_
  refine wp_cond_false rfl ?_
  refine wp_skip ?_
  refine blk_n ?_
  refine then_n ?_
  refine wp_seq ?_
  refine wp_region_lit ?_
  refine s_val 2 rfl rfl (.nilIface) (rfl) ?_
  simp only [z0, z1]
  refine wpList_nil ?_
  refine then_n ?_
  refine wp_ret ?_
  refine bodyPost_ret (results_tmp Try.results63 _ _ _) rfl ?_
  exact ⟨rfl, GG⟩
theorem body_any (k : Nat) (h1 : 1 ≤ k) (h2 : k ≤ 12) (f : Fr) (hk : f.kind = (k : Int)) (w : World) : Calls Try.prog 63 #[.agg (frA f)] w fun e w' => e = .returned (bodyV k f) ∧ Gro w w' := by
  unfold frA
  rw [hk]
  rcases is12 h1 h2 with rfl | rfl | rfl | rfl | rfl | rfl | rfl | rfl | rfl | rfl | rfl | rfl
  · exact body_1 f w
  · exact body_2 f w
  · exact body_3 f w
  · exact body_4 f w
  · exact body_5 f w
  · exact body_6 f w
  · exact body_7 f w
  · exact body_8 f w
  · exact body_9 f w
  · exact body_10 f w
  · exact body_11 f w
  · exact body_12 f w
theorem body_not (f : Fr) (hk : ¬ (1 ≤ f.kind ∧ f.kind ≤ 12)) (w : World) : Calls Try.prog 63 #[.agg (frA f)] w fun e w' => e = .returned .nilIface ∧ Gro w w' :=
  body_none f.kind (by omega) (by omega) (by omega) (by omega) (by omega) (by omega) (by omega) (by omega) (by omega) (by omega) (by omega) (by omega) f w
theorem bodyV_if (k : Nat) (h1 : 1 ≤ k) (h2 : k ≤ 12) (f : Fr) : ∃ t v, bodyV k f = .iface t v := by
  rcases is12 h1 h2 with rfl | rfl | rfl | rfl | rfl | rfl | rfl | rfl | rfl | rfl | rfl | rfl <;> exact ⟨_, _, rfl⟩
structure KindOK (b : Value) (k : Int) : Prop where
  run : ∀ w, ∃ f vs, (callMethod b "Kind" #[]).run Try.prog w = .ok (.enter f (List.toArray vs)) w ∧ Calls Try.prog f (List.toArray vs) w fun e w' => e = .returned (.int .i64 k) ∧ Gro w w'
theorem run_inv {P : Program} {o : Oper} {A : Act} {w : World} (x : Operand) (m : String) (ho : o.op = .call { callee := .invoke x m, args := #[], argTypes := #[] }) (b : Value) (hx : A.eval x = b) {n : Next} (h : (callMethod b m #[]).run P w = .ok n w) : (execOp A.eval o).run P w = .ok n w := by
  unfold execOp
  simp only [ho, resolve, Sem.run_bind, Sem.run_pure, Result.andThen_ok, hx]
  simp [invoke, h]
theorem s_invokeK {ops : Array Oper} {rest : List Oper} {o : Oper} {T : List Value} {ds : List Deferred} {w : World} {Q : Exit → Act → World → Prop} (dst : Nat) (hd : o.dst = some dst) (hgd : o.guard = none) (x : Operand) (ho : o.op = .call { callee := .invoke x "Kind", args := #[], argTypes := #[] }) (b : Value) (hx : (⟨T.toArray, ds⟩ : Act).eval x = b) (k : Int) (H : KindOK b k)
    (h : ∀ w', Gro w w' → wpList Try.prog ops Q rest ⟨(T.set dst (.int .i64 k)).toArray, ds⟩ w') : wpList Try.prog ops Q (o :: rest) ⟨T.toArray, ds⟩ w := by
  obtain ⟨f, vs, h1, h2⟩ := H.run w
  exact s_invoke dst hd hgd f vs (run_inv x "Kind" ho b hx h1) h2 h
end Go.Proofs.Ytkjnefgenffhcaa
