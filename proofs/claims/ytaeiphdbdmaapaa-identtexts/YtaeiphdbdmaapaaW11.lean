/- Walks. -/
import Derived.Test.YtaeiphdbdmaapaaBase
import Derived.Test.YtaeiphdbdmaapaaW10
namespace Go.Proofs.Ytaeiphdbdmaapaa
open Go.RowKit

set_option maxHeartbeats 1600000 in
theorem fixed_any (w : World) : Calls Try.prog 9 #[] w fun e w' => e = .returned (.bool true) ∧ Gro w w' := by
  have GG : Gro w w := Gro.refl w
  go_enter Try.func9, Try.ntmps9
  go_wp2_with fail
  refine (parse_zz _).mono ?_
  rintro e wN ⟨rfl, GN⟩
  replace GG := GG.trans GN
  clear GN
  
  go_wp2_with (with_reducible refine wpList_at ?_; first | (refine wpList_alloc_d 1 rfl rfl 23 rfl _ zero23 ?_; intro w1 g1 G1 e1 k1; have b1 := size_base GG e1; replace GG := GG.trans G1; clear G1 e1; (try simp only [Act.put, List.setIfInBounds_toArray, List.set_cons_zero, List.set_cons_succ])) | (refine wpList_store_agg rfl rfl 23 _ _ rfl _ rfl _ rfl 23 _ k1 (size23' _) (by simp only [idA_size]) (idA_one _) ?_; intro wN SN; replace k1 := SN.new; replace GG := GG.store SN b1; clear SN))
  refine (parse_00 _).mono ?_
  rintro e wN ⟨rfl, GN⟩
  replace k1 := GN.has k1
  replace GG := GG.trans GN
  clear GN
  
  go_wp2_with (with_reducible refine wpList_at ?_; first | (refine wpList_alloc_d 3 rfl rfl 23 rfl _ zero23 ?_; intro w2 g2 G2 e2 k2; have b2 := size_base GG e2; (try have d12 := lt_new k1 e2); (try replace k1 := G2.has k1); replace GG := GG.trans G2; clear G2 e2; (try simp only [Act.put, List.setIfInBounds_toArray, List.set_cons_zero, List.set_cons_succ])) | (refine wpList_store_agg rfl rfl 23 _ _ rfl _ rfl _ rfl 23 _ k2 (size23' _) (by simp only [idA_size]) (idA_one _) ?_; intro wN SN; (try replace k1 := SN.has (by omega) k1); replace k2 := SN.new; replace GG := GG.store SN b2; clear SN))
  clear k1 k2
  refine (n_any 3 (by decide) _).mono ?_
  rintro e wN ⟨rfl, GN⟩
  replace GG := GG.trans GN
  clear GN
  go_wp2_with fail
  refine (n_any 5 (by decide) _).mono ?_
  rintro e wN ⟨rfl, GN⟩
  replace GG := GG.trans GN
  clear GN
  go_wp2_with fail
  refine (far_35 _).mono ?_
  rintro e wN ⟨rfl, GN⟩
  replace GG := GG.trans GN
  clear GN
  go_wp2_with fail
  refine (n_any 2 (by decide) _).mono ?_
  rintro e wN ⟨rfl, GN⟩
  replace GG := GG.trans GN
  clear GN
  go_wp2_with (with_reducible refine wpList_at ?_; refine wpList_eql_id rfl _ _ _ rfl 2 2 rfl rfl (by decide) (by decide) true (by decide) ?_; (try simp only [Act.put, List.setIfInBounds_toArray, List.set_cons_zero, List.set_cons_succ]))
  refine (n_any 4 (by decide) _).mono ?_
  rintro e wN ⟨rfl, GN⟩
  replace GG := GG.trans GN
  clear GN
  go_wp2_with fail
  refine (n_any 5 (by decide) _).mono ?_
  rintro e wN ⟨rfl, GN⟩
  replace GG := GG.trans GN
  clear GN
  go_wp2_with fail
  refine (n_any 3 (by decide) _).mono ?_
  rintro e wN ⟨rfl, GN⟩
  replace GG := GG.trans GN
  clear GN
  go_wp2_with fail
  refine (nearer_453 _).mono ?_
  rintro e wN ⟨rfl, GN⟩
  replace GG := GG.trans GN
  clear GN
  go_wp2_with fail
  refine (n_any 4 (by decide) _).mono ?_
  rintro e wN ⟨rfl, GN⟩
  replace GG := GG.trans GN
  clear GN
  go_wp2_with fail
  refine (n_any 3 (by decide) _).mono ?_
  rintro e wN ⟨rfl, GN⟩
  replace GG := GG.trans GN
  clear GN
  go_wp2_with fail
  refine (n_any 5 (by decide) _).mono ?_
  rintro e wN ⟨rfl, GN⟩
  replace GG := GG.trans GN
  clear GN
  go_wp2_with (with_reducible refine wpList_at ?_; refine wpList_slice2 28 rfl rfl _ _ rfl rfl rfl ?_; intro wN g5 GN k5; replace GG := GG.trans GN; clear GN; (try simp only [Act.put, List.setIfInBounds_toArray, List.set_cons_zero, List.set_cons_succ]))
  refine (nearest_435 _ _ k5).mono ?_
  rintro e wN ⟨rfl, GN⟩
  replace GG := GG.trans GN
  clear GN
  go_wp2_with fail
  refine (n_any 9 (by decide) _).mono ?_
  rintro e wN ⟨rfl, GN⟩
  replace GG := GG.trans GN
  clear GN
  go_wp2_with fail
  refine (n_any 1 (by decide) _).mono ?_
  rintro e wN ⟨rfl, GN⟩
  replace GG := GG.trans GN
  clear GN
  go_wp2_with fail
  refine (n_any 3 (by decide) _).mono ?_
  rintro e wN ⟨rfl, GN⟩
  replace GG := GG.trans GN
  clear GN
  go_wp2_with fail
  refine (between_913 _).mono ?_
  rintro e wN ⟨rfl, GN⟩
  replace GG := GG.trans GN
  clear GN
  go_wp2_with fail
  refine (n_any 3 (by decide) _).mono ?_
  rintro e wN ⟨rfl, GN⟩
  replace GG := GG.trans GN
  clear GN
  go_wp2_with fail
  refine (n_any 3 (by decide) _).mono ?_
  rintro e wN ⟨rfl, GN⟩
  replace GG := GG.trans GN
  clear GN
  go_wp2_with fail
  refine (n_any 3 (by decide) _).mono ?_
  rintro e wN ⟨rfl, GN⟩
  replace GG := GG.trans GN
  clear GN
  go_wp2_with fail
  refine (between_333 _).mono ?_
  rintro e wN ⟨rfl, GN⟩
  replace GG := GG.trans GN
  clear GN
  go_wp2_with fail
  refine (n_any 171 (by decide) _).mono ?_
  rintro e wN ⟨rfl, GN⟩
  replace GG := GG.trans GN
  clear GN
  go_wp2_with fail
  refine (print_171 _).mono ?_
  rintro e wN ⟨rfl, GN⟩
  replace GG := GG.trans GN
  clear GN
  go_wp2_with fail
  
  go_ret
  exact ⟨rfl, GG⟩
end Go.Proofs.Ytaeiphdbdmaapaa
