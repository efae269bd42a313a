/- A path begins, a Setup comes: the document's. -/
import Derived.Test.YtkjnefgenffhcaaGZ3
import Derived.Test.YtkjnefgenffhcaaGP12
namespace Go.Proofs.Ytkjnefgenffhcaa
open Go.RowKit Go.Maps
def boxZ (B : Nat) (t : TypeId) (cs : Array Value) : PostE := PostE.ex (fun v x => ∃ g, v = .pointer (some ⟨g, 0, none⟩) ∧ B ≤ g ∧ x.heap[g]? = some (.cells cs t (0, 0))) (fun _ _ _ G ⟨g, h1, h2, h3⟩ => ⟨g, h1, h2, G.has h3⟩)
theorem fill_boxZ (B : Nat) (t : TypeId) (cs : Array Value) (v : Value) : (boxZ B t cs).fill v = v := rfl
section
variable {room : Nat} {L : List En} {fr N : Int} {M : Msg} {o : List Bool} {ID : Nat}
theorem tk_mid' {q : Nat} (hm : forMe N fr M = true) (hq : plc M.l N = (q : Int)) (h : q + 1 < M.l.length) : tkE room L N ID fr M o = psE room L fr M (M.l.getD (q + 1) 0) o ∧ tkL room L N ID fr M o = psL room L fr M (M.l.getD (q + 1) 0) o := by
  have e : nxt N M = M.l.getD (q + 1) 0 := by
    unfold nxt
    rw [hq, Int.toNat_natCast]
  have hmid : mid N M = true := by unfold mid; rw [hq, Int.toNat_natCast]; exact decide_eq_true h
  rw [← e]
  exact ⟨(if_pos hm).trans (if_pos hmid), (if_pos hm).trans (if_pos hmid)⟩
end
end Go.Proofs.Ytkjnefgenffhcaa
