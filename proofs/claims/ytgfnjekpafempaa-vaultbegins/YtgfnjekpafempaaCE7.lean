/- Lists of bytes held against each other; the chapter's example (fixed); a nil log. -/
import Derived.Test.YtgfnjekpafempaaCE6
import Derived.Lib.SlBytesConst
namespace Go.Proofs.Ytgfnjekpafempaa
open Go.RowKit
theorem conv345 {o : Oper} {A : Act} (x : Operand) (ho : o.op = .convert 3 64 x) (z : Int) (hx : A.eval x = .int .i64 z) (w : World) : (execOp A.eval o).run Try.prog w = .ok (.value (.int .u64 ((uN z : Nat) : Int))) w := by
  unfold execOp
  simp only [ho, hx]
  simp [go_sem, uN_eq]
theorem conv453 {o : Oper} {A : Act} (x : Operand) (ho : o.op = .convert 64 3 x) (n : Nat) (hn : n < 9223372036854775808) (hx : A.eval x = .int .u64 (n : Int)) (w : World) : (execOp A.eval o).run Try.prog w = .ok (.value (.int .i64 (n : Int))) w := by
  have h : IntKind.i64.wrap (n : Int) = (n : Int) := wrap_in _ (by omega) (by omega)
  unfold execOp
  simp only [ho, hx]
  simp [go_sem, h]
theorem append_ok (w : World) (lp p : Nat) (h : Hd) (HK : LK w lp p h false) (sg n : Nat) (L : List Nat) (pw dn : Int) (HD : DK w p sg n L pw dn) (hu : h.u + 2 ≤ n) (ao : Option Addr) (cap : Nat) (l : List Nat) (HB : BS [p, sg] w ao cap l) (hl : l.length ≤ 1024) (hf : h.u + secN l.length + 2 ≤ n) (hP : okP pw) (hg : h.g + 1 < lim) (hc : h.c + 1 < lim) (hne1 : lp ≠ p) (hne2 : lp ≠ sg) (hd : 0 ≤ dn) (hd2 : dn < 9223372036854760000) (hA : apOK pw (secN l.length) = true) :
    Calls Try.prog 39 #[.pointer (some ⟨lp, 0, none⟩), .slice ao l.length cap] w fun e w' => ∃ dn', e = .returned (.int .i64 0) ∧ GroS [p, sg, lp] w w' ∧ dn ≤ dn' ∧ dn' ≤ dn + 20 ∧ DK w' p sg n (okL L h l) (apP pw (secN l.length)) dn' ∧ LK w' lp p (h.next (secN l.length)) false := by
  refine (append_go w lp p h HK sg n L pw dn HD hu ao cap l HB hl hf hP hg hc hne1 hne2 hd hd2).mono fun e w' H => ?_
  unfold AppendP apL apH at H
  rw [hA] at H
  exact H
theorem append_no (w : World) (lp p : Nat) (h : Hd) (HK : LK w lp p h false) (sg n : Nat) (L : List Nat) (pw dn : Int) (HD : DK w p sg n L pw dn) (hu : h.u + 2 ≤ n) (ao : Option Addr) (cap : Nat) (l : List Nat) (HB : BS [p, sg] w ao cap l) (hl : l.length ≤ 1024) (hf : h.u + secN l.length + 2 ≤ n) (hP : okP pw) (hg : h.g + 1 < lim) (hc : h.c + 1 < lim) (hne1 : lp ≠ p) (hne2 : lp ≠ sg) (hd : 0 ≤ dn) (hd2 : dn < 9223372036854760000) (hA : apOK pw (secN l.length) = false) :
    Calls Try.prog 39 #[.pointer (some ⟨lp, 0, none⟩), .slice ao l.length cap] w fun e w' => ∃ dn', e = .returned (.int .i64 8) ∧ GroS [p, sg, lp] w w' ∧ dn ≤ dn' ∧ dn' ≤ dn + 20 ∧ DK w' p sg n (apL L pw h l) (apP pw (secN l.length)) dn' ∧ LK w' lp p h true := by
  refine (append_go w lp p h HK sg n L pw dn HD hu ao cap l HB hl hf hP hg hc hne1 hne2 hd hd2).mono fun e w' H => ?_
  unfold AppendP apH at H
  rw [hA] at H
  exact H
end Go.Proofs.Ytgfnjekpafempaa
