/- Lists of records that are kept beside a log; a record is appended to a log that stands. -/
import Derived.Test.YtgfnjekpafempabBE7
namespace Go.Proofs.Ytgfnjekpafempab
open Go.RowKit
structure LO (w : World) (B : Nat) (ao : Option Addr) (cap : Nat) (q : List RV) : Prop where
  ox : OX w 26 1 B ao cap q.length (q.map RV.v)
  row : ∀ x ∈ q, OB w 5 .u8 B x.ao x.cap x.l
theorem LO.nil (w : World) (B : Nat) : LO w B none 0 [] := ⟨OX.nil _ _ _ _, fun _ h => by cases h⟩
theorem LO.gro {w w' : World} {B : Nat} {ao : Option Addr} {cap : Nat} {q : List RV} (h : LO w B ao cap q) (G : Gro w w') : LO w' B ao cap q := ⟨h.ox.gro G, fun x hx => (h.row x hx).gro G⟩
theorem LO.app {w w' : World} {B : Nat} {ao : Option Addr} {cap : Nat} {q : List RV} (H : LO w B ao cap q) {ao2 : Option Addr} {cap2 : Nat} {x : RV} (h2 : OX w' 26 1 B ao2 cap2 (q.length + 1) (q.map RV.v ++ [x.v])) (G : GroS (blk ao) w w') (hx : OB w 5 .u8 B x.ao x.cap x.l) : LO w' B ao2 cap2 (q ++ [x]) := by
  have five : ∀ y : RV, OB w 5 .u8 B y.ao y.cap y.l → OB w' 5 .u8 B y.ao y.cap y.l := fun y hy => hy.gros G fun ad ha => by
    obtain ⟨cur, hc⟩ := hy.blk5 ha
    exact H.ox.ne hc (by decide)
  refine ⟨by simpa using h2, fun y hy => ?_⟩
  rcases List.mem_append.1 hy with hy | hy
  · exact five y (H.row y hy)
  · have : y = x := by simpa using hy
    subst this
    exact five y hx
theorem LO.lc {w : World} {B : Nat} {ao : Option Addr} {cap : Nat} {q : List RV} (h : LO w B ao cap q) : LC w ao cap (q.map (·.l)) := lc_of h.ox.xc fun x hx => (h.row x hx).nc
def rvOf (x : Nat × List Nat) : RV := ⟨some ⟨x.1, 0, none⟩, x.2.length, x.2⟩
theorem RS.lc {w : World} {B : Nat} {ao : Option Addr} {cap : Nat} {q : List (Nat × List Nat)} (h : RS w B ao cap q) : LC w ao cap (q.map (·.2)) := by
  have e1 : q.map (·.2) = (q.map rvOf).map (·.l) := by rw [List.map_map]; rfl
  have e2 : (q.map rvOf).map RV.v = q.map rv := by rw [List.map_map]; rfl
  rw [e1]
  refine lc_of (by rw [e2, List.length_map]; exact h.ox.xc) fun x hx => ?_
  obtain ⟨y, hy, rfl⟩ := List.mem_map.1 hx
  exact nc_all (h.row y hy).2.1 (h.row y hy).2.2
theorem apP_ok {pw : Int} (h : okP pw) (k : Nat) : okP (apP pw k) := by
  unfold okP apP at *
  (repeat' split) <;> omega
end Go.Proofs.Ytgfnjekpafempab
