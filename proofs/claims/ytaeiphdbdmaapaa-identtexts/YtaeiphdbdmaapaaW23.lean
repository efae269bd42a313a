/- Walks: texts. -/
import Derived.Test.YtaeiphdbdmaapaaW11
import Derived.Test.YtaeiphdbdmaapaaW13
import Derived.Test.YtaeiphdbdmaapaaW17
import Derived.Test.YtaeiphdbdmaapaaW18
import Derived.Test.YtaeiphdbdmaapaaW19
namespace Go.Proofs.Ytaeiphdbdmaapaa
open Go.RowKit

theorem run_eql_str {o : Oper} {A : Act} (x y : Operand) (t2 : TypeId) (ho : o.op = .binOp .eql 9 x y t2) (a : ByteArray) (hx : A.eval x = .string a) (hy : A.eval y = .string a) (w : World) : (execOp A.eval o).run Try.prog w = .ok (.value (.bool true)) w := by
  refine run_binop .eql 9 x y t2 ho _ _ _ hx hy (by simp [eqGuard, go_sem]) ?_
  simp [go_sem]
set_option maxHeartbeats 1600000 in
theorem texts_any (s : ByteArray) (hs : s.size ≤ 9223372036854775807) (a : Nat) (w : World) : Calls Try.prog 6 #[.string s, idV a] w fun e w' => e = .returned (.bool true) ∧ Gro w w' := by
  have GG : Gro w w := Gro.refl w
  have hy := resN_lt s
  obtain ⟨y, hyy⟩ : ∃ y, resN s = y := ⟨_, rfl⟩
  obtain ⟨f, hff⟩ : ∃ f, resE s = f := ⟨_, rfl⟩
  have H1 : Hid (∀ w, Calls Try.prog 24 #[.string s] w fun e w' => e = .returned (.tuple #[idV y, .int .i64 f]) ∧ Gro w w') := fun w => by
    have := parse_any s w
    rw [hyy, hff] at this
    exact this
  have H2 : Hid (∀ w, Calls Try.prog 25 #[.string s] w fun e w' => e = .returned (.tuple #[idV y, .int .i64 f]) ∧ Gro w w') := fun w => by
    have := refparse_any s hs w
    rw [hyy, hff] at this
    exact this
  rw [hyy] at hy
  clear hyy hff hs
  unfold idV
  go_enter Try.func6, Try.ntmps6
  go_wp2_with (with_reducible refine wpList_at ?_; first | (refine wpList_box_d 3 rfl rfl 23 _ rfl _ rfl ?_; intro w1 g1 G1 e1 k1; have b1 := size_base GG e1; replace GG := GG.trans G1; clear G1 e1; (try simp only [Act.put, List.setIfInBounds_toArray, List.set_cons_zero, List.set_cons_succ])))
  refine (H1.out _).mono ?_
  rintro e wN ⟨rfl, GN⟩
  replace k1 := GN.has k1
  replace GG := GG.trans GN
  clear GN
  go_wp2_with (with_reducible refine wpList_at ?_; first | (refine wpList_alloc_d 5 rfl rfl 23 rfl _ zero23 ?_; intro w2 g2 G2 e2 k2; have b2 := size_base GG e2; (try have d12 := lt_new k1 e2); (try replace k1 := G2.has k1); replace GG := GG.trans G2; clear G2 e2; (try simp only [Act.put, List.setIfInBounds_toArray, List.set_cons_zero, List.set_cons_succ])) | (refine wpList_store_agg rfl rfl 23 _ _ rfl _ rfl _ rfl 23 _ k2 (size23' _) (by simp only [idA_size]) (idA_one _) ?_; intro wN SN; (try replace k1 := SN.has (by omega) k1); replace k2 := SN.new; replace GG := GG.store SN b2; clear SN))
  refine (H2.out _).mono ?_
  rintro e wN ⟨rfl, GN⟩
  replace k1 := GN.has k1
  replace k2 := GN.has k2
  replace GG := GG.trans GN
  clear GN
  go_wp2_with (with_reducible refine wpList_at ?_; first | (refine wpList_alloc_d 7 rfl rfl 23 rfl _ zero23 ?_; intro w3 g3 G3 e3 k3; have b3 := size_base GG e3; (try have d13 := lt_new k1 e3); (try replace k1 := G3.has k1); (try have d23 := lt_new k2 e3); (try replace k2 := G3.has k2); replace GG := GG.trans G3; clear G3 e3; (try simp only [Act.put, List.setIfInBounds_toArray, List.set_cons_zero, List.set_cons_succ])) | (refine wpList_store_agg rfl rfl 23 _ _ rfl _ rfl _ rfl 23 _ k3 (size23' _) (by simp only [idA_size]) (idA_one _) ?_; intro wN SN; (try replace k1 := SN.has (by omega) k1); (try replace k2 := SN.has (by omega) k2); replace k3 := SN.new; replace GG := GG.store SN b3; clear SN))
  try simp only [Act.put, List.setIfInBounds_toArray, List.set_cons_zero, List.set_cons_succ]
  refine wp_region_gro follows (by kernel_rfl) ?_
  refine wq_call rfl _ 9 Try.call9 rfl rfl _ rfl [] rfl _ (fun _ hw => Calls.gro hw (fixed_any _)) ?_; simp only [Act.put, List.setIfInBounds_toArray, List.set_cons_zero, List.set_cons_succ]
  (go_big_quiet_want; go_big_quiet_op; first | go_big_quiet_on | (refine ⟨_, fun _ _ => rfl, ?_⟩; go_big_quiet_on))
  refine wq_load_id rfl _ rfl g2 rfl _ (fun _ hw => Gro.has hw k2) ?_; simp only [Act.put, List.setIfInBounds_toArray, List.set_cons_zero, List.set_cons_succ]
  refine wq_load_id rfl _ rfl g3 rfl _ (fun _ hw => Gro.has hw k3) ?_; simp only [Act.put, List.setIfInBounds_toArray, List.set_cons_zero, List.set_cons_succ]
  refine wq_eql_id rfl _ _ _ rfl y y rfl rfl hy hy _ (decide_eq_true rfl) ?_; simp only [Act.put, List.setIfInBounds_toArray, List.set_cons_zero, List.set_cons_succ]
  (go_big_quiet_want; go_big_quiet_op; first | go_big_quiet_on | (refine ⟨_, fun _ _ => rfl, ?_⟩; go_big_quiet_on))
  (go_big_quiet_want; go_big_quiet_op; first | go_big_quiet_on | (refine ⟨_, fun _ _ => rfl, ?_⟩; go_big_quiet_on))
  (go_big_quiet_want; go_big_quiet_op; first | go_big_quiet_on | (refine ⟨_, fun _ _ => rfl, ?_⟩; go_big_quiet_on))
  (go_big_quiet_want; go_big_quiet_op; first | go_big_quiet_on | (refine ⟨_, fun _ _ => rfl, ?_⟩; go_big_quiet_on))
  refine wq_eql_int rfl _ _ _ _ rfl _ _ _ rfl rfl true (by simp) ?_; simp only [Act.put, List.setIfInBounds_toArray, List.set_cons_zero, List.set_cons_succ]
  (go_big_quiet_want; go_big_quiet_op; first | go_big_quiet_on | (refine ⟨_, fun _ _ => rfl, ?_⟩; go_big_quiet_on))
  (go_big_quiet_want; go_big_quiet_op; first | go_big_quiet_on | (refine ⟨_, fun _ _ => rfl, ?_⟩; go_big_quiet_on))
  refine wq_load_id rfl _ rfl g1 rfl _ (fun _ hw => Gro.has hw k1) ?_; simp only [Act.put, List.setIfInBounds_toArray, List.set_cons_zero, List.set_cons_succ]
  refine wq_call rfl _ 26 Try.call26 rfl rfl _ rfl [.agg (idA a)] rfl _ (fun _ hw => Calls.gro hw (print_any a _)) ?_; simp only [Act.put, List.setIfInBounds_toArray, List.set_cons_zero, List.set_cons_succ]
  refine wq_load_id rfl _ rfl g1 rfl _ (fun _ hw => Gro.has hw k1) ?_; simp only [Act.put, List.setIfInBounds_toArray, List.set_cons_zero, List.set_cons_succ]
  refine wq_call rfl _ 27 Try.call27 rfl rfl _ rfl [.agg (idA a)] rfl _ (fun _ hw => Calls.gro hw (refprint_any a _)) ?_; simp only [Act.put, List.setIfInBounds_toArray, List.set_cons_zero, List.set_cons_succ]
  refine wq_value rfl (.bool true) (fun w => run_eql_str _ _ _ rfl (printB a) rfl rfl w) ?_; simp only [Act.put, List.setIfInBounds_toArray, List.set_cons_zero, List.set_cons_succ]
  (go_big_quiet_want; go_big_quiet_op; first | go_big_quiet_on | (refine ⟨_, fun _ _ => rfl, ?_⟩; go_big_quiet_on))
  (go_big_quiet_want; go_big_quiet_op; first | go_big_quiet_on | (refine ⟨_, fun _ _ => rfl, ?_⟩; go_big_quiet_on))
  refine wpQuiet_nil ?_
  intro wq Gq0
  have Gq : Gro _ wq := Gq0
  clear Gq0
  replace GG := GG.trans Gq
  clear Gq
  go_wp2
  go_ret
  exact ⟨rfl, GG⟩
end Go.Proofs.Ytaeiphdbdmaapaa
