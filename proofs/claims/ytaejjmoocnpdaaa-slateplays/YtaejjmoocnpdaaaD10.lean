/- Every script of calls (DiskPlays). -/
import Derived.Test.YtaejjmoocnpdaaaD9
namespace Go.Proofs.Ytaejjmoocnpdaaa
open Go.RowKit

theorem DK.below {w w' : World} {p sg n B : Nat} {L : List Nat} {pw dn : Int} (h : DK w p sg n L pw dn) (G : Below B w w') (h1 : p < B) (h2 : sg < B) : DK w' p sg n L pw dn := ⟨by rw [G.block p h1]; exact h.box, by rw [G.block sg h2]; exact h.sec, h.len, h.le, h.byte, h.ne⟩
theorem RK.below {w w' : World} {p sg n B : Nat} {L : List Nat} {pw dn : Int} (h : RK w p sg n L pw dn) (G : Below B w w') (h1 : p < B) (h2 : sg < B) : RK w' p sg n L pw dn := ⟨by rw [G.block p h1]; exact h.box, by rw [G.block sg h2]; exact h.sec, h.len, h.le, h.byte, h.ne⟩
theorem below_has {w w' : World} {B g : Nat} {x : Obj} (G : Below B w w') (h : w.heap[g]? = some x) (hg : g < B) : w'.heap[g]? = some x := by rw [G.block g hg]; exact h
theorem run_nes_op {P : Program} {o : Oper} {A : Act} (x y : Operand) (t2 : TypeId) (ho : o.op = .binOp .neq 9 x y t2) (a b : ByteArray) (hx : A.eval x = .string a) (hy : A.eval y = .string b) (p : Bool) (hp : decide (a = b) = !p) (w : World) : (execOp A.eval o).run P w = .ok (.value (.bool p)) w :=
  run_binop .neq 9 x y t2 ho _ _ _ hx hy (by simp [eqGuard, go_sem]) (by
    have := str_eq a b
    rw [hp] at this
    simp [go_sem, this])
theorem read_len (w : World) (p sg n : Nat) (L : List Nat) (pw dn : Int) (H : DK w p sg n L pw dn) (i : Nat) (hi : i < n) : Calls Try.prog 25 #[.pointer (some ⟨p, 0, none⟩), .int .i64 ((i : Nat) : Int)] w fun e w' => ∃ g, e = .returned (.tuple #[.slice (some ⟨g, 0, none⟩) (secL L i).length (secL L i).length, .int .i64 0]) ∧ Gro w w' ∧ w.heap.size ≤ g ∧ w'.heap[g]? = some (.cells (bv (secL L i)) 5 (0, 0)) := by
  rw [secL_len H.len hi]
  exact read_ok w p sg n L pw dn H i hi
theorem rwrite_go (w : World) (p sg n : Nat) (L : List Nat) (pw dn : Int) (H : RK w p sg n L pw dn) (ao : Option Addr) (cap : Nat) (l : List Nat) (HB : BS [p, sg] w ao cap l) (i : Nat) (hi : i < n) (hl : l.length ≤ 64) (h1 : pw = -1 ∨ 0 < pw) (h2 : pw < 9223372036854775808) (hd : 0 ≤ dn) (hd2 : dn < 9223372036854775807) : Calls Try.prog 34 #[.pointer (some ⟨p, 0, none⟩), .int .i64 ((i : Nat) : Int), .slice ao l.length cap] w fun e w' => e = .returned (.int .i64 0) ∧ GroS [p, sg] w w' ∧ RK w' p sg n (wr L (i * 64) (padS l)) (if pw = -1 then -1 else pw - 1) (dn + 1) := by
  rcases h1 with h1 | h1
  · rw [if_pos h1]
    have := rwrite_end w p sg n L pw dn H ao cap l HB i hi hl h1 hd hd2
    rwa [h1] at this
  · rw [if_neg (by omega)]
    exact rwrite_ok w p sg n L pw dn H ao cap l HB i hi hl h1 h2 hd hd2
theorem has_or (n : Nat) (i : Int) : hasB n i = false ∨ ∃ j : Nat, i = (j : Int) ∧ j < n := by
  cases hB : hasB n i
  · exact .inl rfl
  · exact .inr (hasB_nat hB)
def okP (pw : Int) : Prop := -1 ≤ pw ∧ pw < 9223372036854775808
theorem okP.next {pw : Int} (h : okP pw) (_h0 : pw ≠ 0) : okP (if pw = -1 then -1 else pw - 1) := by
  unfold okP at *
  split <;> omega
theorem okP.set {x : Int} (h : x < 9223372036854775808) : okP (max x (-1)) := by
  unfold okP
  omega
end Go.Proofs.Ytaejjmoocnpdaaa
