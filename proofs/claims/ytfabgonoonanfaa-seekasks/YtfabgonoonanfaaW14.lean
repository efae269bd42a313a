/- Walks. -/
import Derived.Test.YtfabgonoonanfaaBase
import Derived.Test.YtfabgonoonanfaaW6
import Derived.Test.YtfabgonoonanfaaLaw2
namespace Go.Proofs.Ytfabgonoonanfaa
open Go.RowKit

def threeA (a b c : Nat) : Array Value := idA a ++ idA b ++ idA c
def threeV (a b c : Nat) : Value := .agg (threeA a b c)
theorem threeA_size (a b c : Nat) : (threeA a b c).size = 48 := by simp [threeA, idA_size]
theorem part_0 (x y z : Array Value) (hx : x.size = 16) : (x ++ y ++ z).extract 0 (0 + 16) = x := by
  simp [hx]
theorem part_1 (x y z : Array Value) (hx : x.size = 16) (hy : y.size = 16) : (x ++ y ++ z).extract 16 (16 + 16) = y := by
  simp [hx, hy]
  have h1 : x.extract 16 16 = #[] := by simp; omega
  have : 16 = y.size := hy.symm
  rw [h1, Array.empty_append, this, Array.extract_size]
theorem part_2 (x y z : Array Value) (hx : x.size = 16) (hy : y.size = 16) (hz : z.size = 16) : (x ++ y ++ z).extract 32 (32 + 16) = z := by
  simp [hx, hy]
  have h1 : x.extract 32 16 = #[] := by simp; omega
  have h2 : y.extract 16 16 = #[] := by simp; omega
  have : 16 = z.size := hz.symm
  rw [h1, h2, Array.empty_append, Array.empty_append, this, Array.extract_size]
theorem three_0 (a b c : Nat) : (threeA a b c).extract 0 (0 + 16) = idA a := part_0 _ _ _ (idA_size a)
theorem three_1 (a b c : Nat) : (threeA a b c).extract 16 (16 + 16) = idA b := part_1 _ _ _ (idA_size a) (idA_size b)
theorem three_2 (a b c : Nat) : (threeA a b c).extract 32 (32 + 16) = idA c := part_2 _ _ _ (idA_size a) (idA_size b) (idA_size c)
theorem subN_inj (a b d : Nat) (ha : a < top) (hb : b < top) (hd : d < top) (h : subN a d = subN b d) : a = b := by
  unfold subN top at *
  omega
theorem near_irr (d a : Nat) : nearN d a a = false := by simp [nearN]
theorem near_not (d a b : Nat) (ha : a < top) (hb : b < top) (hd : d < top) (hab : a ≠ b) : nearN d b a = !nearN d a b := by
  have h1 := subN_inj a b d ha hb hd
  unfold nearN
  by_cases h2 : farN a d = farN b d
  · have h3 : subN a d ≠ subN b d := fun e => hab (h1 e)
    rw [if_pos h2, if_pos h2.symm]
    by_cases h4 : subN a d < subN b d
    · have h5 : ¬ subN b d < subN a d := by omega
      simp [h4, h5]
    · have h5 : subN b d < subN a d := by omega
      simp [h4, h5]
  · rw [if_neg h2, if_neg (Ne.symm h2)]
    by_cases h4 : farN a d < farN b d
    · have h5 : ¬ farN b d < farN a d := by omega
      simp [h4, h5]
    · have h5 : farN b d < farN a d := by omega
      simp [h4, h5]
theorem near_iff (d a b : Nat) : nearN d a b = true ↔ farN a d < farN b d ∨ (farN a d = farN b d ∧ subN a d < subN b d) := by
  unfold nearN
  split
  · rename_i h; simp [h]
  · rename_i h; simp [h]
theorem near_trans (d a b c : Nat) (h1 : nearN d a b = true) (h2 : nearN d b c = true) : nearN d a c = true := by
  rw [near_iff] at *
  omega

section
variable {ops : Array Oper} {o : Oper} {rest : List Oper} {A : Act} {w : World} {Q : Exit → Act → World → Prop}
theorem wl_load_id (hw : Region.wanted o (yielded ops A.tmps) = true) (x : Operand) (ho : o.op = .load 23 x) (g : Nat) (hx : A.eval x = .pointer (some ⟨g, 0, none⟩)) (n : Nat) (hg : w.heap[g]? = some (.cells (idA n) 23 (0, 0)))
    (h : wpList Try.prog ops Q rest (A.put o.dst (.agg (idA n))) w) : wpList Try.prog ops Q (o :: rest) A w :=
  BigFrame.wpList_want hw fun _ hK => by
    unfold Oper.wp execOp
    simp only [ho, hx, Instr.loadAt, Instr.sureAddr, Sem.run_bind, Sem.run_pure, Result.andThen_ok, run_loadVar_at w g 0 16 23 23 (idA n) (0, 0) _ hg Try.underlying23 rfl size23 (by rw [idA_size]; omega), extract_id]
    exact hK _ _ h
theorem wl_eql_id (hw : Region.wanted o (yielded ops A.tmps) = true) (x y : Operand) (t2 : TypeId) (ho : o.op = .binOp .eql 23 x y t2) (n m : Nat) (hx : A.eval x = .agg (idA n)) (hy : A.eval y = .agg (idA m)) (hn : n < top) (hm : m < top) (p : Bool) (hp : decide (n = m) = p)
    (h : wpList Try.prog ops Q rest (A.put o.dst (.bool p)) w) : wpList Try.prog ops Q (o :: rest) A w :=
  BigFrame.wpList_want hw fun _ hK => by
    unfold Oper.wp
    rw [run_eqlop_id x y t2 ho n m hx hy (.bool p) (fun w => by rw [run_eql_id n m hn hm w, hp])]
    exact hK _ _ h
end

end Go.Proofs.Ytfabgonoonanfaa
