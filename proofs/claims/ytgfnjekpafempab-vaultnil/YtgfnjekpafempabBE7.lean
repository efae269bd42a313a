/- Lists of bytes held against each other; the chapter's example (fixed); a nil log. -/
import Derived.Test.YtgfnjekpafempabBE6
import Derived.Lib.SlBytesConst
namespace Go.Proofs.Ytgfnjekpafempab
open Go.RowKit
theorem append_ok (w : World) (lp p : Nat) (h : Hd) (HK : LK w lp p h false) (sg n : Nat) (L : List Nat) (pw dn : Int) (HD : DK w p sg n L pw dn) (hu : h.u + 2 ≤ n) (ao : Option Addr) (cap : Nat) (l : List Nat) (HB : BS [p, sg] w ao cap l) (hl : l.length ≤ 1024) (hf : h.u + secN l.length + 2 ≤ n) (hP : okP pw) (hg : h.g + 1 < lim) (hc : h.c + 1 < lim) (hne1 : lp ≠ p) (hne2 : lp ≠ sg) (hd : 0 ≤ dn) (hd2 : dn < 9223372036854760000) (hA : apOK pw (secN l.length) = true) :
    Calls Try.prog 17 #[.pointer (some ⟨lp, 0, none⟩), .slice ao l.length cap] w fun e w' => ∃ dn', e = .returned (.int .i64 0) ∧ GroS [p, sg, lp] w w' ∧ dn ≤ dn' ∧ dn' ≤ dn + 20 ∧ DK w' p sg n (okL L h l) (apP pw (secN l.length)) dn' ∧ LK w' lp p (h.next (secN l.length)) false := by
  refine (append_go w lp p h HK sg n L pw dn HD hu ao cap l HB hl hf hP hg hc hne1 hne2 hd hd2).mono fun e w' H => ?_
  unfold AppendP apL apH at H
  rw [hA] at H
  exact H
theorem append_no (w : World) (lp p : Nat) (h : Hd) (HK : LK w lp p h false) (sg n : Nat) (L : List Nat) (pw dn : Int) (HD : DK w p sg n L pw dn) (hu : h.u + 2 ≤ n) (ao : Option Addr) (cap : Nat) (l : List Nat) (HB : BS [p, sg] w ao cap l) (hl : l.length ≤ 1024) (hf : h.u + secN l.length + 2 ≤ n) (hP : okP pw) (hg : h.g + 1 < lim) (hc : h.c + 1 < lim) (hne1 : lp ≠ p) (hne2 : lp ≠ sg) (hd : 0 ≤ dn) (hd2 : dn < 9223372036854760000) (hA : apOK pw (secN l.length) = false) :
    Calls Try.prog 17 #[.pointer (some ⟨lp, 0, none⟩), .slice ao l.length cap] w fun e w' => ∃ dn', e = .returned (.int .i64 8) ∧ GroS [p, sg, lp] w w' ∧ dn ≤ dn' ∧ dn' ≤ dn + 20 ∧ DK w' p sg n (apL L pw h l) (apP pw (secN l.length)) dn' ∧ LK w' lp p h true := by
  refine (append_go w lp p h HK sg n L pw dn HD hu ao cap l HB hl hf hP hg hc hne1 hne2 hd hd2).mono fun e w' H => ?_
  unfold AppendP apH at H
  rw [hA] at H
  exact H
end Go.Proofs.Ytgfnjekpafempab
