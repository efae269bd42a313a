/- Disk: all bytes; a disk of bytes. -/
import Derived.Test.YtgfnjekpafempaaED3
namespace Go.Proofs.Ytgfnjekpafempaa
open Go.RowKit
theorem cut_at {o : Oper} {A : Act} (x y : Operand) (ho : o.op = .slice 30 x (some y) none none) (g n i : Nat) (hx : A.eval x = .slice (some ⟨g, 0, none⟩) n n) (hy : A.eval y = .int .i64 (i : Int)) (hi : i < n) (w : World) :
    (execOp A.eval o).run Try.prog w = .ok (.value (.slice (some ⟨g, i, none⟩) (n - i) (n - i))) w := by
  rw [run_cut bT x y ho (some ⟨g, 0, none⟩) n n i hx hy (by omega) w, if_neg (by omega), Option.map_some, add_at, Nat.zero_add]
end Go.Proofs.Ytgfnjekpafempaa
namespace Go.Proofs.Ytgfnjekpafempaa
open Go.RowKit
/-- The document's disk. -/
structure RDk (w : World) (p sg n : Nat) (L : List Nat) (pw dn : Int) : Prop where
  box : w.heap[p]? = some (.cells (c36 ⟨some ⟨sg, 0, none⟩, n * 64, n * 64⟩ pw dn) 36 (0, 0))
  sec : w.heap[sg]? = some (.cells (bv L) 5 (0, 0))
  len : L.length = n * 64
  le : n ≤ 4096
  byte : ∀ x ∈ L, x < 256
  ne : p ≠ sg
theorem RDk.gro {w w' : World} {p sg n : Nat} {L : List Nat} {pw dn : Int} (h : RDk w p sg n L pw dn) (G : Gro w w') : RDk w' p sg n L pw dn := ⟨G.has h.box, G.has h.sec, h.len, h.le, h.byte, h.ne⟩
theorem RDk.gros {S : List Nat} {w w' : World} {p sg n : Nat} {L : List Nat} {pw dn : Int} (h : RDk w p sg n L pw dn) (G : GroS S w w') (hp : p ∉ S) (hs : sg ∉ S) : RDk w' p sg n L pw dn := ⟨G.has h.box hp, G.has h.sec hs, h.len, h.le, h.byte, h.ne⟩
theorem cut2_at {o : Oper} {A : Act} (x y z : Operand) (ho : o.op = .slice 30 x (some y) (some z) none) (g n i m : Nat) (hx : A.eval x = .slice (some ⟨g, 0, none⟩) n n) (hy : A.eval y = .int .i64 (i : Int)) (hz : A.eval z = .int .i64 ((i + m : Nat) : Int)) (hi : i < n) (hm : i + m ≤ n) (w : World) :
    (execOp A.eval o).run Try.prog w = .ok (.value (.slice (some ⟨g, i, none⟩) m (n - i))) w := by
  rw [run_cut2 bT x y z ho (some ⟨g, 0, none⟩) n n i (i + m) hx hy hz (by omega) hm w, if_neg (by omega), Option.map_some, add_at, Nat.zero_add, Nat.add_sub_cancel_left]
theorem bat {o : Oper} {A : Act} (x y : Operand) (ho : o.op = .indexAddr 30 x y) (g n cap j : Nat) (hx : A.eval x = .slice (some ⟨g, 0, none⟩) n cap) (hy : A.eval y = .int .i64 (j : Int)) (hj : j < n) (w : World) :
    (execOp A.eval o).run Try.prog w = .ok (.value (.pointer (some ⟨g, j, none⟩))) w := by
  rw [run_idx bT x y ho ⟨g, 0, none⟩ n cap j hx hy hj w, add_at, Nat.zero_add]
theorem hasB_f {n : Nat} {i : Int} (h : hasB n i = false) : i < 0 ∨ (0 ≤ i ∧ (n : Int) ≤ i) := by
  unfold hasB at h
  cases h1 : decide (0 ≤ i)
  · left; have := of_decide_eq_false h1; omega
  · rw [h1] at h
    have h2 := of_decide_eq_true h1
    have h3 : ¬ i < (n : Int) := of_decide_eq_false h
    omega
end Go.Proofs.Ytgfnjekpafempaa
