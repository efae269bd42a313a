import Derived.Test.YtgfnjekpafempaaGreatBE6
import Derived.Lib.SlBytesConst
namespace Go.Proofs.YtgfnjekpafempaaGreat
open Go.RowKit
theorem conv345 {o : Oper} {A : Act} (x : Operand) (ho : o.op = .convert 3 28 x) (z : Int) (hx : A.eval x = .int .i64 z) (w : World) : (execOp A.eval o).run Tryz.prog w = .ok (.value (.int .u64 ((uN z : Nat) : Int))) w := by
  unfold execOp
  simp only [ho, hx]
  simp [go_sem, uN_eq]
theorem conv453 {o : Oper} {A : Act} (x : Operand) (ho : o.op = .convert 28 3 x) (n : Nat) (hn : n < 9223372036854775808) (hx : A.eval x = .int .u64 (n : Int)) (w : World) : (execOp A.eval o).run Tryz.prog w = .ok (.value (.int .i64 (n : Int))) w := by
  have h : IntKind.i64.wrap (n : Int) = (n : Int) := ya _ (by omega) (by omega)
  unfold execOp
  simp only [ho, hx]
  simp [go_sem, h]
theorem YH (w : World) (lp p : Nat) (h : Hd) (HK : LK w lp p h false) (sg n : Nat) (L : List Nat) (pw dn : Int) (HD : DK w p sg n L pw dn) (hu : h.u + 2 ≤ n) (ao : Option Addr) (cap : Nat) (l : List Nat) (HB : BS [p, sg] w ao cap l) (hl : l.length ≤ 1024) (hf : h.u + secN l.length + 2 ≤ n) (hP : okP pw) (hg : h.g + 1 < lim) (hc : h.c + 1 < lim) (hne1 : lp ≠ p) (hne2 : lp ≠ sg) (hd : 0 ≤ dn) (hd2 : dn < 9223372036854760000) (hA : apOK pw (secN l.length) = true) :
    Calls Tryz.prog 27 #[.pointer (some ⟨lp, 0, none⟩), .slice ao l.length cap] w fun e w' => ∃ dn', e = .returned (.int .i64 0) ∧ GroS [p, sg, lp] w w' ∧ dn ≤ dn' ∧ dn' ≤ dn + 20 ∧ DK w' p sg n (okL L h l) (apP pw (secN l.length)) dn' ∧ LK w' lp p (h.next (secN l.length)) false := by
  refine (YJ w lp p h HK sg n L pw dn HD hu ao cap l HB hl hf hP hg hc hne1 hne2 hd hd2).mono fun e w' H => ?_
  unfold AppendP apL apH at H
  rw [hA] at H
  exact H
theorem YI (w : World) (lp p : Nat) (h : Hd) (HK : LK w lp p h false) (sg n : Nat) (L : List Nat) (pw dn : Int) (HD : DK w p sg n L pw dn) (hu : h.u + 2 ≤ n) (ao : Option Addr) (cap : Nat) (l : List Nat) (HB : BS [p, sg] w ao cap l) (hl : l.length ≤ 1024) (hf : h.u + secN l.length + 2 ≤ n) (hP : okP pw) (hg : h.g + 1 < lim) (hc : h.c + 1 < lim) (hne1 : lp ≠ p) (hne2 : lp ≠ sg) (hd : 0 ≤ dn) (hd2 : dn < 9223372036854760000) (hA : apOK pw (secN l.length) = false) :
    Calls Tryz.prog 27 #[.pointer (some ⟨lp, 0, none⟩), .slice ao l.length cap] w fun e w' => ∃ dn', e = .returned (.int .i64 8) ∧ GroS [p, sg, lp] w w' ∧ dn ≤ dn' ∧ dn' ≤ dn + 20 ∧ DK w' p sg n (apL L pw h l) (apP pw (secN l.length)) dn' ∧ LK w' lp p h true := by
  refine (YJ w lp p h HK sg n L pw dn HD hu ao cap l HB hl hf hP hg hc hne1 hne2 hd hd2).mono fun e w' H => ?_
  unfold AppendP apH at H
  rw [hA] at H
  exact H
structure LO (w : World) (B : Nat) (ao : Option Addr) (cap : Nat) (q : List RV) : Prop where
  ox : OX w 27 1 B ao cap q.length (q.map RV.v)
  row : ∀ x ∈ q, OB w 5 .u8 B x.ao x.cap x.l
theorem LO.nil (w : World) (B : Nat) : LO w B none 0 [] := ⟨OX.nil _ _ _ _, fun _ h => by cases h⟩
theorem LO.gro {w w' : World} {B : Nat} {ao : Option Addr} {cap : Nat} {q : List RV} (h : LO w B ao cap q) (G : Gro w w') : LO w' B ao cap q := ⟨h.ox.gro G, fun x hx => (h.row x hx).gro G⟩
theorem LO.app {w w' : World} {B : Nat} {ao : Option Addr} {cap : Nat} {q : List RV} (H : LO w B ao cap q) {ao2 : Option Addr} {cap2 : Nat} {x : RV} (h2 : OX w' 27 1 B ao2 cap2 (q.length + 1) (q.map RV.v ++ [x.v])) (G : GroS (blk ao) w w') (hx : OB w 5 .u8 B x.ao x.cap x.l) : LO w' B ao2 cap2 (q ++ [x]) := by
  have five : ∀ y : RV, OB w 5 .u8 B y.ao y.cap y.l → OB w' 5 .u8 B y.ao y.cap y.l := fun y hy => hy.gros G fun ad ha => by
    obtain ⟨cur, hc⟩ := hy.blk5 ha
    exact H.ox.ne hc (by decide)
  refine ⟨by simpa using h2, fun y hy => ?_⟩
  rcases List.mem_append.1 hy with hy | hy
  · exact five y (H.row y hy)
  · have : y = x := by simpa using hy
    subst this
    exact five y hx
theorem LO.lc {w : World} {B : Nat} {ao : Option Addr} {cap : Nat} {q : List RV} (h : LO w B ao cap q) : LC w ao cap (q.map (·.l)) := jdz h.ox.xc fun x hx => (h.row x hx).nc
def rvOf (x : Nat × List Nat) : RV := ⟨some ⟨x.1, 0, none⟩, x.2.length, x.2⟩
theorem RS.lc {w : World} {B : Nat} {ao : Option Addr} {cap : Nat} {q : List (Nat × List Nat)} (h : RS w B ao cap q) : LC w ao cap (q.map (·.2)) := by
  have e1 : q.map (·.2) = (q.map rvOf).map (·.l) := by rw [List.map_map]; rfl
  have e2 : (q.map rvOf).map RV.v = q.map rv := by rw [List.map_map]; rfl
  rw [e1]
  refine jdz (by rw [e2, List.length_map]; exact h.ox.xc) fun x hx => ?_
  obtain ⟨y, hy, rfl⟩ := List.mem_map.1 hx
  exact Qi (h.row y hy).2.1 (h.row y hy).2.2
theorem Vy {pw : Int} (h : okP pw) (k : Nat) : okP (apP pw k) := by
  unfold okP apP at *
  (repeat' split) <;> omega
end Go.Proofs.YtgfnjekpafempaaGreat
