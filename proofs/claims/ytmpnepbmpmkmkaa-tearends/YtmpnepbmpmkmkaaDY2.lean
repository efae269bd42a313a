/- What is torn, counted (ahead of stage 15): pure. -/
import Derived.Test.YtmpnepbmpmkmkaaDY1
namespace Go.Proofs.Ytmpnepbmpmkmkaa
open Classical
open Go.RowKit Go.Maps
section
variable {L : List En} {x y : En} {n : Int} {p : Pa}
theorem sides_from : ∀ (l : List En) (a : Tn), l.foldl (fun a x => appT a (sideT (othS x n) x.p)) a = ⟨a.out ++ (l.filter fun x => !decide (othS x n < 0)).map fun x => (othS x n, x.p), a.lost ++ (l.filter fun x => decide (othS x n < 0)).map (·.p)⟩
  | [], a => by simp
  | x :: r, a => by
    rw [List.foldl_cons, sides_from r]
    by_cases h : othS x n < 0
    · rw [sideT_lost h]
      simp [appT, h]
    · rw [sideT_out h]
      simp [appT, h]
end
end Go.Proofs.Ytmpnepbmpmkmkaa
