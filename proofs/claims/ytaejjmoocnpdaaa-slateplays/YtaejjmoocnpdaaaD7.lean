/- A disk of any bytes (DiskOf). -/
import Derived.Test.YtaejjmoocnpdaaaD6
namespace Go.Proofs.Ytaejjmoocnpdaaa
open Go.RowKit

def inc8 (x : Nat) : Nat := (x + 1) % 256
theorem inc8_le (x : Nat) : ((inc8 x : Nat) : Int) ≤ IntKind.u8.max := by
  rw [max_u8]
  have : inc8 x < 256 := Nat.mod_lt _ (by decide)
  omega
theorem run_inc8 {P : Program} {o : Oper} {A : Act} (x y : Operand) (t2 : TypeId) (ho : o.op = .binOp .add 5 x y t2) (n : Nat) (hx : A.eval x = .int .u8 (n : Int)) (hy : A.eval y = .int .u8 1) (w : World) : (execOp A.eval o).run P w = .ok (.value (.int .u8 ((inc8 n : Nat) : Int))) w := by
  refine run_binop .add 5 x y t2 ho _ _ _ hx hy (by simp [eqGuard]) ?_
  have h : IntKind.u8.wrap ((n : Int) + 1) = ((inc8 n : Nat) : Int) := by
    simp [IntKind.wrap, IntKind.bits, IntKind.signed, inc8]
  simp [go_sem, h]
theorem run_lens {P : Program} {o : Oper} {A : Act} {t : TypeId} (hu : P.underlying t = some .string) (x : Operand) (ho : o.op = .call { callee := .builtin .len, args := #[x], argTypes := #[t] }) (l : List Nat) (hx : A.eval x = .string (bas l)) (w : World) : (execOp A.eval o).run P w = .ok (.value (.int .i64 (l.length : Int))) w := by
  have hr := run_underlying hu w
  have hz : (bas l).size = l.length := by simp [bas, ByteArray.size]
  unfold execOp
  simp [ho, resolve, invoke, builtin, hx, Builtin.len_, hr, goInt, hz]
section
variable {w w' : World} {e : TypeId} {k : IntKind} {B : Nat} {ao : Option Addr} {cap : Nat} {l : List Nat}
theorem OB.blk (h : OB w e k B ao cap l) {j : Nat} (hj : j < l.length) : ∃ g cur, ao = some ⟨g, 0, none⟩ ∧ B ≤ g ∧ w.heap[g]? = some (.cells cur e (0, 0)) ∧ l.length ≤ cap ∧ cap ≤ maxLen ∧ cur.size = cap ∧ cur.toList.take l.length = l.map fun r : Nat => Value.int k (r : Int) := by
  rcases h.own.2 with ⟨h1, h2⟩ | ⟨g, c, cur, h1, hB, h2, h3, h4, h5, h6⟩
  · omega
  · injection h1 with e1 e2 e3
    subst e1 e3
    exact ⟨g, cur, rfl, hB, h2, h3, h4, by omega, by rwa [Nat.mul_one] at h6⟩
theorem OB.cellv (h : OB w e k B ao cap l) {g j : Nat} (hg : ao = some ⟨g, 0, none⟩) (hj : j < l.length) : w.cell? ⟨g, j, none⟩ = some (.int k (l.getD j 0 : Int)) := by
  have := h.nc.cell _ hg j hj
  rwa [add_at, Nat.zero_add] at this
theorem OB.put (h : OB w e k B ao cap l) {g j : Nat} {cur : Array Value} (hg : ao = some ⟨g, 0, none⟩) (hc : w.heap[g]? = some (.cells cur e (0, 0))) (hj : j < l.length) (y : Nat) (hy : (y : Int) ≤ k.max) (St : Stored w w' g (.cells (splice cur j #[.int k (y : Int)]) e (0, 0))) : OB w' e k B ao cap (l.set j y) := by
  subst hg
  obtain ⟨g2, cur2, h1, hB, h2, h3, h4, h5, h6⟩ := h.blk hj
  cases h1
  rw [hc] at h2
  cases h2
  refine OB.made St.new hB (by rw [List.length_set]; exact h3) h4 ?_ ?_ (fun x hx => ?_)
  · rw [splice_one _ _ _ (by omega)]
    simpa using h5
  · rw [splice_one _ _ _ (by omega), List.length_set, Array.toList_setIfInBounds, List.take_set, h6, List.map_set]
  · rcases List.mem_or_eq_of_mem_set hx with hx | hx
    · exact h.wf x hx
    · exact hx ▸ hy
end
theorem DK.st {w w' : World} {p sg n : Nat} {L : List Nat} {pw dn : Int} {g : Nat} {x : Obj} (h : DK w p sg n L pw dn) (S : Stored w w' g x) (h1 : g ≠ p) (h2 : g ≠ sg) : DK w' p sg n L pw dn := ⟨S.has (Ne.symm h1) h.box, S.has (Ne.symm h2) h.sec, h.len, h.le, h.byte, h.ne⟩
theorem RK.st {w w' : World} {p sg n : Nat} {L : List Nat} {pw dn : Int} {g : Nat} {x : Obj} (h : RK w p sg n L pw dn) (S : Stored w w' g x) (h1 : g ≠ p) (h2 : g ≠ sg) : RK w' p sg n L pw dn := ⟨S.has (Ne.symm h1) h.box, S.has (Ne.symm h2) h.sec, h.len, h.le, h.byte, h.ne⟩
theorem bytes_len (w : World) (p sg n : Nat) (L : List Nat) (pw dn : Int) (H : DK w p sg n L pw dn) : Calls Try.prog 15 #[.pointer (some ⟨p, 0, none⟩)] w fun e w' => ∃ g, e = .returned (.slice (some ⟨g, 0, none⟩) L.length L.length) ∧ Gro w w' ∧ w.heap.size ≤ g ∧ w'.heap[g]? = some (.cells (bv L) 5 (0, 0)) := by
  rw [H.len]
  exact bytes_any w p sg n L pw dn H
theorem ob_all {w : World} {g B : Nat} {L : List Nat} (hg : w.heap[g]? = some (.cells (bv L) 5 (0, 0))) (hB : B ≤ g) (hL : ∀ x ∈ L, x < 256) (hm : L.length ≤ maxLen) : OB w 5 .u8 B (some ⟨g, 0, none⟩) L.length L :=
  OB.made hg hB (Nat.le_refl _) hm (bv_size L) (by rw [bv, List.take_of_length_le (by simp)]) (fun x hx => by have := hL x hx; rw [max_u8]; omega)
end Go.Proofs.Ytaejjmoocnpdaaa
