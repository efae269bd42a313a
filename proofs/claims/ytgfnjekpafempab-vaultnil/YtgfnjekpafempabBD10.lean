/- Every script of calls (DiskPlays). -/
import Derived.Test.YtgfnjekpafempabBD9
namespace Go.Proofs.Ytgfnjekpafempab
open Go.RowKit
theorem DK.below {w w' : World} {p sg n B : Nat} {L : List Nat} {pw dn : Int} (h : DK w p sg n L pw dn) (G : Below B w w') (h1 : p < B) (h2 : sg < B) : DK w' p sg n L pw dn := ⟨by rw [G.block p h1]; exact h.box, by rw [G.block sg h2]; exact h.sec, h.len, h.le, h.byte, h.ne⟩
theorem read_len (w : World) (p sg n : Nat) (L : List Nat) (pw dn : Int) (H : DK w p sg n L pw dn) (i : Nat) (hi : i < n) : Calls Try.prog 45 #[.pointer (some ⟨p, 0, none⟩), .int .i64 ((i : Nat) : Int)] w fun e w' => ∃ g, e = .returned (.tuple #[.slice (some ⟨g, 0, none⟩) (secL L i).length (secL L i).length, .int .i64 0]) ∧ Gro w w' ∧ w.heap.size ≤ g ∧ w'.heap[g]? = some (.cells (bv (secL L i)) 5 (0, 0)) := by
  rw [secL_len H.len hi]
  exact read_ok w p sg n L pw dn H i hi
def okP (pw : Int) : Prop := -1 ≤ pw ∧ pw < 9223372036854775808
theorem okP.next {pw : Int} (h : okP pw) (_h0 : pw ≠ 0) : okP (if pw = -1 then -1 else pw - 1) := by
  unfold okP at *
  split <;> omega
theorem okP.set {x : Int} (h : x < 9223372036854775808) : okP (max x (-1)) := by
  unfold okP
  omega
end Go.Proofs.Ytgfnjekpafempab
