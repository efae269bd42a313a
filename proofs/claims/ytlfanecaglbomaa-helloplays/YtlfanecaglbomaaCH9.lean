/- An end that is down, or nil (HelloDown). -/
import Derived.Test.YtlfanecaglbomaaCH8
import Derived.Test.YtlfanecaglbomaaCGB1
namespace Go.Proofs.Ytlfanecaglbomaa
open Go.RowKit
def DownE (w : World) (p : Nat) (id : Nat → Nat) : Prop := ∃ wp B, EW w p wp B id false false 0 0 0 0 zF none 0 [] 0 0
theorem DownE.gro {w w' : World} {p : Nat} {id : Nat → Nat} (h : DownE w p id) (G : Gro w w') : DownE w' p id := by
  obtain ⟨wp, B, h⟩ := h
  exact ⟨wp, B, h.gro G⟩
theorem DownE.stT {w w' : World} {p : Nat} {id : Nat → Nat} (H : DownE w p id) {g : Nat} {t' : TypeId} (h98 : (98 : TypeId) ≠ t') (h121 : (121 : TypeId) ≠ t') (h36 : t' ≠ 36) (h5 : t' ≠ 5) {cs : Array Value} {x : Obj} (hg : w.heap[g]? = some (.cells cs t' (0, 0))) (St : Stored w w' g x) : DownE w' p id := by
  obtain ⟨wp, B, h⟩ := H
  exact ⟨wp, B, h.stT h98 h121 h36 h5 hg St⟩
section
variable (w : World) (p : Nat) (id : Nat → Nat)
end
theorem DownE.not {w : World} {p : Nat} {id : Nat → Nat} (H : DownE w p id) {g : Nat} {t' : TypeId} {cs : Array Value} (hg : w.heap[g]? = some (.cells cs t' (0, 0))) (h98 : t' ≠ 98) : g ∉ [p] := by
  obtain ⟨wp, B, h⟩ := H
  exact uw hg h.box h98
end Go.Proofs.Ytlfanecaglbomaa
