/- The program's Retain. -/
import Derived.Test.YtjahegiopigblaaGC6
import Derived.Test.YtjahegiopigblaaGC1
import Derived.Test.YtjahegiopigblaaGW2
import Derived.Test.YtjahegiopigblaaGI6
import Derived.Test.YtjahegiopigblaaGV1c
namespace Go.Proofs.Ytjahegiopigblaa
open Go.RowKit
set_option maxRecDepth 100000 in
set_option maxHeartbeats 4000000 in
theorem retain_nil (ao : Option Addr) (cap : Nat) (l : List Nat) (w : World) : Calls Try.prog 21 #[.pointer none, .slice ao l.length cap] w (fun e w' => e = .returned (.tuple #[]) ∧ Gro w w') := by
  refine s_enter Try.func21 rfl Try.ntmps21 [.pointer none, .slice ao l.length cap] [.pointer none, .slice ao l.length cap, undef, undef, undef, undef, undef, undef, undef, undef, undef, undef, undef, undef, undef, undef, undef, undef, undef, undef, undef, undef, undef, undef, undef, undef, undef, undef, undef, undef, undef, undef, undef, undef, undef, undef, undef] rfl ?_
  have GG := Gro.refl w
  refine wp_seq ?_
  refine wp_seq ?_
  refine wp_region_lit ?_
  refine s_val 8 rfl rfl (.pointer none) (rfl) ?_
  refine nr ?_; intro U h; simp only [z0, z1] at h; subst h
  refine s_val 9 rfl rfl (.bool true) (run_eqnn 32 _ _ _ rfl rfl rfl Try.underlying32 _) ?_
  refine nr ?_; intro U h; simp only [z0, z1] at h; subst h
  refine wpList_nil ?_
  refine then_n ?_
  refine wp_cond_true rfl ?_
  refine wp_ret ?_
  refine then_r ?_
  refine bodyPost_ret (results_none Try.results21 _ _ _) rfl ?_
  exact ⟨rfl, GG⟩
end Go.Proofs.Ytjahegiopigblaa
