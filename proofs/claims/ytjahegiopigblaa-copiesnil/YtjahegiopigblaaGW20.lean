/- Lists of identities: who is nearest, copies, likeness. -/
import Derived.Test.YtjahegiopigblaaGW9
import Derived.Test.YtjahegiopigblaaGW14
import Derived.Laws.AppendOwn
import Derived.Laws.AppendOwnNone
namespace Go.Proofs.Ytjahegiopigblaa
open Go.RowKit
theorem near_false_iff (d a b : Nat) : nearN d a b = false ↔ farN b d < farN a d ∨ (farN a d = farN b d ∧ subN b d ≤ subN a d) := by
  have h := near_iff d a b
  cases hn : nearN d a b
  · rw [hn] at h
    simp at h
    simp
    omega
  · rw [hn] at h
    simp at h
    simp
    omega
/-- The best one of the first n is nearer than all ahead of it, and none is nearer than it. -/
theorem best_spec (d : Nat) (l : List Nat) : ∀ n, 0 < n → ∃ b : Nat, bestI d l n = b ∧ b < n ∧ (∀ j, j < n → nearN d (l.getD j 0) (l.getD b 0) = false) ∧ (∀ j, j < b → nearN d (l.getD b 0) (l.getD j 0) = true)
  | 0, h => by omega
  | n + 1, _ => by
    by_cases h0 : n = 0
    · subst h0
      refine ⟨0, by simp [bestI], by omega, fun j hj => ?_, fun j hj => by omega⟩
      have : j = 0 := by omega
      subst this
      exact near_irr d _
    · obtain ⟨b, h1, h2, h3, h4⟩ := best_spec d l n (by omega)
      unfold bestI
      rw [h1, if_neg (by omega)]
      have e : ((b : Int)).toNat = b := by omega
      rw [e]
      by_cases hn : nearN d (l.getD n 0) (l.getD b 0) = true
      · rw [if_pos hn]
        refine ⟨n, rfl, by omega, fun j hj => ?_, fun j hj => ?_⟩
        · by_cases hjn : j = n
          · subst hjn; exact near_irr d _
          · have := h3 j (by omega)
            rw [near_false_iff] at this ⊢
            rw [near_iff] at hn
            omega
        · have := h3 j hj
          rw [near_false_iff] at this
          rw [near_iff] at hn ⊢
          omega
      · rw [if_neg hn]
        refine ⟨b, rfl, by omega, fun j hj => ?_, h4⟩
        by_cases hjn : j = n
        · subst hjn; simpa using hn
        · exact h3 j (by omega)
/-- A slice of identities in memory. -/
structure SL (w : World) (v : Value) (l : List Nat) : Prop where
  lts : ∀ i, i < l.length → l.getD i 0 < top
  out : (l = [] ∧ ∃ a cap, v = .slice a 0 cap ∧ (a = none → cap = 0)) ∨ ∃ g off cap cs t fr, v = .slice (some ⟨g, off, none⟩) l.length cap ∧ w.heap[g]? = some (.cells cs t fr) ∧ ∀ i, i < l.length → off + i * 16 + 16 ≤ cs.size ∧ cs.extract (off + i * 16) (off + i * 16 + 16) = idA (l.getD i 0)
theorem SL.gro {w w' : World} {v : Value} {l : List Nat} (h : SL w v l) (G : Gro w w') : SL w' v l := by
  refine ⟨h.lts, ?_⟩
  rcases h.out with h0 | ⟨g, off, cap, cs, t, fr, h1, h2, h3⟩
  · exact .inl h0
  · exact .inr ⟨g, off, cap, cs, t, fr, h1, G.has h2, h3⟩
set_option maxHeartbeats 400000 in
theorem nearest_none (d : Nat) (a : Option Addr) (cap : Nat) (w : World) : Calls Try.prog 34 #[idV d, .slice a 0 cap] w fun e w' => e = .returned (.int .i64 (-1)) ∧ Gro w w' := by
  have GG : Gro w w := Gro.refl w
  unfold idV
  go_enter Try.func34, Try.ntmps34
  go_wp2_with (first | (with_reducible refine wpList_at ?_; first | (refine wpList_box_d 2 rfl rfl 23 _ rfl _ rfl ?_; intro w1 g1 G1 e1 k1; have b1 := size_base GG e1; replace GG := GG.trans G1; clear G1 e1; (try simp only [Act.put, List.setIfInBounds_toArray, List.set_cons_zero, List.set_cons_succ]))))
  refine wp_loop_rounds 1 ?_
  rw [rounds_succ]
  go_wp2
  go_ret
  exact ⟨rfl, GG⟩
theorem nearest_sl (d : Nat) (hd : d < top) (l : List Nat) (hn : l.length ≤ 1048576) (v : Value) (w : World) (h : SL w v l) : Calls Try.prog 34 #[idV d, v] w fun e w' => e = .returned (.int .i64 (bestI d l l.length)) ∧ Gro w w' := by
  rcases h.out with ⟨rfl, a, cap, rfl, _⟩ | ⟨g, off, cap, cs, t, fr, rfl, h2, h3⟩
  · exact nearest_none d a cap w
  · exact nearest_any d hd l h.lts hn g off cap cs t fr h3 w h2
end Go.Proofs.Ytjahegiopigblaa
