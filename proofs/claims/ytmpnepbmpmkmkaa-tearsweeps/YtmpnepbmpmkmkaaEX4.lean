/- The document's calls: a Drop that came, a session that died, an end. -/
import Derived.Test.YtmpnepbmpmkmkaaEX3
import Derived.Test.YtmpnepbmpmkmkaaEP16
namespace Go.Proofs.Ytmpnepbmpmkmkaa
open Go.RowKit Go.Maps
section
variable {w w' v x : World} {B b g : Nat} {ao : Option Addr} {cap : Nat} {l : List En} {S : List Nat}
theorem OE.bb {B' : Nat} (h : OE w B' ao cap l) (G : BelB B b w w') (hb : ∀ k ∈ Go.Proofs.Ytmpnepbmpmkmkaa.blk ao, k < B ∧ k ≠ b) : OE w' B' ao cap l :=
  h.gros (S := ((List.range w.heap.size).filter fun k => decide (B ≤ k)) ++ [b]) ⟨G.os, G.tape, G.output, G.size, fun k hk hn => G.old k (by
    apply Nat.lt_of_not_le
    intro hle
    exact hn (List.mem_append_left _ (List.mem_filter.2 ⟨List.mem_range.2 hk, by simpa using hle⟩))) (fun e => hn (List.mem_append_right _ (by simp [e])))⟩ fun k hk hm => by
    have h1 := hb k hk
    rcases List.mem_append.1 hm with h2 | h2
    · have := (List.mem_filter.1 h2).2
      simp only [decide_eq_true_eq] at this
      omega
    · rw [List.mem_singleton] at h2
      exact h1.2 h2
end
end Go.Proofs.Ytmpnepbmpmkmkaa
