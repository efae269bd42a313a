/- Walks. -/
import Derived.Test.YtaeiphdbdmaapaaBase
import Derived.Test.YtaeiphdbdmaapaaW11
namespace Go.Proofs.Ytaeiphdbdmaapaa
open Go.RowKit

set_option maxHeartbeats 1600000 in
theorem turns_any (a x b : Nat) (ha : a < top) (hx : x < top) (hb : b < top) (w : World) : Calls Try.prog 5 #[idV a, idV x, idV b] w fun e w' => e = .returned (.bool true) ∧ Gro w w' := by
  have GG : Gro w w := Gro.refl w
  cases hp : betN a x b
  all_goals
    unfold idV
    go_enter Try.func5, Try.ntmps5
    go_wp2_with (first | (with_reducible refine wpList_at ?_; first | (refine wpList_box_d 3 rfl rfl 23 _ rfl _ rfl ?_; intro w1 g1 G1 e1 k1; have b1 := size_base GG e1; replace GG := GG.trans G1; clear G1 e1; (try simp only [Act.put, List.setIfInBounds_toArray, List.set_cons_zero, List.set_cons_succ])) | (refine wpList_box_d 4 rfl rfl 23 _ rfl _ rfl ?_; intro w2 g2 G2 e2 k2; have b2 := size_base GG e2; have d12 := lt_new k1 e2; replace k1 := G2.has k1; replace GG := GG.trans G2; clear G2 e2; (try simp only [Act.put, List.setIfInBounds_toArray, List.set_cons_zero, List.set_cons_succ])) | (refine wpList_box_d 5 rfl rfl 23 _ rfl _ rfl ?_; intro w3 g3 G3 e3 k3; have b3 := size_base GG e3; have d13 := lt_new k1 e3; replace k1 := G3.has k1; have d23 := lt_new k2 e3; replace k2 := G3.has k2; replace GG := GG.trans G3; clear G3 e3; (try simp only [Act.put, List.setIfInBounds_toArray, List.set_cons_zero, List.set_cons_succ]))))
    try simp only [Act.put, List.setIfInBounds_toArray, List.set_cons_zero, List.set_cons_succ]
    refine wp_region_gro follows (by kernel_rfl) ?_
    refine wq_call rfl _ 9 Try.call9 rfl rfl _ rfl [] rfl _ (fun _ hw => Calls.gro hw (fixed_any _)) ?_; simp only [Act.put, List.setIfInBounds_toArray, List.set_cons_zero, List.set_cons_succ]
    (go_big_quiet_want; go_big_quiet_op; first | go_big_quiet_on | (refine ⟨_, fun _ _ => rfl, ?_⟩; go_big_quiet_on))
    refine wq_load_id rfl _ rfl g1 rfl _ (fun _ hw => Gro.has hw k1) ?_; simp only [Act.put, List.setIfInBounds_toArray, List.set_cons_zero, List.set_cons_succ]
    refine wq_load_id rfl _ rfl g2 rfl _ (fun _ hw => Gro.has hw k2) ?_; simp only [Act.put, List.setIfInBounds_toArray, List.set_cons_zero, List.set_cons_succ]
    refine wq_load_id rfl _ rfl g3 rfl _ (fun _ hw => Gro.has hw k3) ?_; simp only [Act.put, List.setIfInBounds_toArray, List.set_cons_zero, List.set_cons_succ]
    refine wq_call rfl _ 22 Try.call22 rfl rfl _ rfl [.agg (idA a), .agg (idA x), .agg (idA b)] rfl _ (fun _ hw => Calls.gro hw (Calls.bool (between_any a x b ha hx hb _) hp)) ?_; simp only [Act.put, List.setIfInBounds_toArray, List.set_cons_zero, List.set_cons_succ]
    refine wq_load_id rfl _ rfl g1 rfl _ (fun _ hw => Gro.has hw k1) ?_; simp only [Act.put, List.setIfInBounds_toArray, List.set_cons_zero, List.set_cons_succ]
    refine wq_load_id rfl _ rfl g2 rfl _ (fun _ hw => Gro.has hw k2) ?_; simp only [Act.put, List.setIfInBounds_toArray, List.set_cons_zero, List.set_cons_succ]
    refine wq_load_id rfl _ rfl g3 rfl _ (fun _ hw => Gro.has hw k3) ?_; simp only [Act.put, List.setIfInBounds_toArray, List.set_cons_zero, List.set_cons_succ]
    refine wq_call rfl _ 23 Try.call23 rfl rfl _ rfl [.agg (idA a), .agg (idA x), .agg (idA b)] rfl _ (fun _ hw => Calls.gro hw (Calls.bool (refbetween_any a x b ha hx hb _) hp)) ?_; simp only [Act.put, List.setIfInBounds_toArray, List.set_cons_zero, List.set_cons_succ]
    (go_big_quiet_want; go_big_quiet_op; first | go_big_quiet_on | (refine ⟨_, fun _ _ => rfl, ?_⟩; go_big_quiet_on))
    (go_big_quiet_want; go_big_quiet_op; first | go_big_quiet_on | (refine ⟨_, fun _ _ => rfl, ?_⟩; go_big_quiet_on))
    (go_big_quiet_want; go_big_quiet_op; first | go_big_quiet_on | (refine ⟨_, fun _ _ => rfl, ?_⟩; go_big_quiet_on))
    refine wpQuiet_nil ?_
    intro wq Gq0
    have Gq : Gro _ wq := Gq0
    clear Gq0
    replace GG := GG.trans Gq
    clear Gq
    go_wp2
    go_ret
    exact ⟨rfl, GG⟩
end Go.Proofs.Ytaeiphdbdmaapaa
