/- Walks. -/
import Derived.Test.YtjahegiopigblaaHB4
import Derived.Test.YtjahegiopigblaaHW5
namespace Go.Proofs.Ytjahegiopigblaa
open Go.RowKit
theorem Calls.boolW {P : Program} {f : FuncId} {args : Array Value} {w : World} {p q : Bool} (h : Calls P f args w fun e w' => e = .returned (.bool p) ∧ Gro w w') (e : p = q) : Calls P f args w fun e w' => e = .returned (.bool q) ∧ Gro w w' := e ▸ h
set_option maxHeartbeats 400000 in
theorem refnearer_any (d a b : Nat) (hd : d < top) (ha : a < top) (hb : b < top) (w : World) :
    Calls Try.prog 28 #[idV d, idV a, idV b] w fun e w' => e = .returned (.bool (nearN d a b)) ∧ Gro w w' := by
  have s1 := subN_lt a d
  have s2 := subN_lt b d
  have f1 := farN_lt a d
  have f2 := farN_lt b d
  have GG : Gro w w := Gro.refl w
  have hf : Hid (nearN d a b = if farN a d = farN b d then decide (subN a d < subN b d) else decide (farN a d < farN b d)) := rfl
  unfold idV
  go_enter Try.func28, Try.ntmps28
  go_wp2_with (first | (refine wpList_box_d 3 rfl rfl 23 _ rfl _ rfl ?_; intro w1 g1 G1 e1 k1; have b1 := size_base GG e1; replace GG := GG.trans G1; clear G1 e1) | (refine wpList_box_d 4 rfl rfl 23 _ rfl _ rfl ?_; intro w2 g2 G2 e2 k2; have b2 := size_base GG e2; have d12 := lt_new k1 e2; replace k1 := G2.has k1; replace GG := GG.trans G2; clear G2 e2) | (refine wpList_box_d 5 rfl rfl 23 _ rfl _ rfl ?_; intro w3 g3 G3 e3 k3; have b3 := size_base GG e3; have d13 := lt_new k1 e3; replace k1 := G3.has k1; have d23 := lt_new k2 e3; replace k2 := G3.has k2; replace GG := GG.trans G3; clear G3 e3))
  try simp only [Act.put, List.setIfInBounds_toArray, List.set_cons_zero, List.set_cons_succ]
  refine wp_region_grow 8 [(0, 9), (1, 10), (2, 11), (3, 12), (4, 13), (5, 14), (6, 7), (7, 8)] [.val (.agg (idA a)), .val (.agg (idA d)), .val (.agg (idA (farN a d))), .val (.agg (idA b)), .val (.agg (idA d)), .val (.agg (idA (farN b d))), .new 23 (idA 0), .new 23 (idA 0)] follows (by kernel_rfl) rfl
    (opsOK_cons ?o0 (opsOK_cons ?o1 (opsOK_cons ?o2 (opsOK_cons ?o3 (opsOK_cons ?o4 (opsOK_cons ?o5 (opsOK_cons ?o6 (opsOK_cons ?o7 opsOK_nil)))))))) ?rest
  case o0 => exact fun _ _ hw _ => ok_load_id a rfl _ rfl g2 rfl (hw.has k2)
  case o1 => exact fun _ _ hw _ => ok_load_id d rfl _ rfl g1 rfl (hw.has k1)
  case o2 => exact fun _ _ hw _ => ok_call rfl _ 45 Try.call45 rfl rfl _ rfl [.agg (idA a), .agg (idA d)] rfl _ (reffar_any a d ha hd _)
  case o3 => exact fun _ _ hw _ => ok_load_id b rfl _ rfl g3 rfl (hw.has k3)
  case o4 => exact fun _ _ hw _ => ok_load_id d rfl _ rfl g1 rfl (hw.has k1)
  case o5 => exact fun _ _ hw _ => ok_call rfl _ 45 Try.call45 rfl rfl _ rfl [.agg (idA b), .agg (idA d)] rfl _ (reffar_any b d hb hd _)
  case o6 => exact fun _ _ hw _ => ok_alloc_id rfl rfl
  case o7 => exact fun _ _ hw _ => ok_alloc_id rfl rfl
  intro ptrs w5 G5 hn hap
  obtain ⟨⟨g4, p4, k4, c4⟩, ⟨g5, p5, k5, c5⟩, hz⟩ := hn
  have hap' : List.Pairwise (fun i j => ptrs i ≠ ptrs j) [6, 7] := hap
  simp [p4, p5] at hap'
  simp only [full, foldSlots, filled, postAt, List.foldl_cons, List.foldl_nil, List.getD_cons_zero, List.getD_cons_succ, PostK.fill, PostK.val, PostK.new, List.set_cons_zero, List.set_cons_succ, List.drop_succ_cons, List.drop_zero, p4, p5]
  have k4' : w5.heap[g4]? = some (.cells (idA 0) 23 (0, 0)) := k4
  clear k4
  have k4 := k4'
  clear k4'
  have d14 : g1 < g4 := Nat.lt_of_lt_of_le (lt_of_heap k1) c4
  have d24 : g2 < g4 := Nat.lt_of_lt_of_le (lt_of_heap k2) c4
  have d34 : g3 < g4 := Nat.lt_of_lt_of_le (lt_of_heap k3) c4
  have b4 : w.heap.size ≤ g4 := Nat.le_trans GG.size c4
  have k5' : w5.heap[g5]? = some (.cells (idA 0) 23 (0, 0)) := k5
  clear k5
  have k5 := k5'
  clear k5'
  have d15 : g1 < g5 := Nat.lt_of_lt_of_le (lt_of_heap k1) c5
  have d25 : g2 < g5 := Nat.lt_of_lt_of_le (lt_of_heap k2) c5
  have d35 : g3 < g5 := Nat.lt_of_lt_of_le (lt_of_heap k3) c5
  have b5 : w.heap.size ≤ g5 := Nat.le_trans GG.size c5
  replace k1 := G5.has k1
  replace k2 := G5.has k2
  replace k3 := G5.has k3
  replace GG := GG.drew.trans G5
  clear G5 c4 c5
  clear hz p4 p5 hap ptrs
  generalize farN a d = FA at *
  generalize farN b d = FB at *
  go_wp2_with (first | (refine wpList_store_agg rfl rfl 23 _ _ rfl _ rfl _ rfl 23 _ k4 (size23' _) (by rw [idA_size, idA_size]) (idA_one _) ?_; intro wN SN; (try replace k1 := SN.has (by omega) k1); (try replace k2 := SN.has (by omega) k2); (try replace k3 := SN.has (by omega) k3); (try replace k5 := SN.has (by omega) k5); replace k4 := SN.new; replace GG := GG.store SN b4; clear SN) | (refine wpList_store_agg rfl rfl 23 _ _ rfl _ rfl _ rfl 23 _ k5 (size23' _) (by rw [idA_size, idA_size]) (idA_one _) ?_; intro wN SN; (try replace k1 := SN.has (by omega) k1); (try replace k2 := SN.has (by omega) k2); (try replace k3 := SN.has (by omega) k3); (try replace k4 := SN.has (by omega) k4); replace k5 := SN.new; replace GG := GG.store SN b5; clear SN))
  cases hp : decide (FA < FB)
  · cases hq : decide (FA = FB)
    · try simp only [Act.put, List.setIfInBounds_toArray, List.set_cons_zero, List.set_cons_succ]
      refine wp_region_gro follows (by kernel_rfl) ?_
      refine wq_load_id rfl _ rfl g4 rfl _ (fun _ hw => Gro.has hw k4) ?_; simp only [Act.put, List.setIfInBounds_toArray, List.set_cons_zero, List.set_cons_succ]
      refine wq_load_id rfl _ rfl g5 rfl _ (fun _ hw => Gro.has hw k5) ?_; simp only [Act.put, List.setIfInBounds_toArray, List.set_cons_zero, List.set_cons_succ]
      refine wq_call rfl _ 43 Try.call43 rfl rfl _ rfl [.agg (idA FA), .agg (idA FB)] rfl _ (fun _ hw => Calls.gro hw (Calls.boolW (less_any FA FB f1 f2 _) hp)) ?_; simp only [Act.put, List.setIfInBounds_toArray, List.set_cons_zero, List.set_cons_succ]
      (go_big_quiet_want; go_big_quiet_op; first | go_big_quiet_on | (refine ⟨_, fun _ _ => rfl, ?_⟩; go_big_quiet_on))
      refine wq_load_id rfl _ rfl g4 rfl _ (fun _ hw => Gro.has hw k4) ?_; simp only [Act.put, List.setIfInBounds_toArray, List.set_cons_zero, List.set_cons_succ]
      refine wq_load_id rfl _ rfl g5 rfl _ (fun _ hw => Gro.has hw k5) ?_; simp only [Act.put, List.setIfInBounds_toArray, List.set_cons_zero, List.set_cons_succ]
      refine wq_eql_id rfl _ _ _ rfl FA FB rfl rfl f1 f2 _ hq ?_; simp only [Act.put, List.setIfInBounds_toArray, List.set_cons_zero, List.set_cons_succ]
      (go_big_quiet_want; go_big_quiet_op; first | go_big_quiet_on | (refine ⟨_, fun _ _ => rfl, ?_⟩; go_big_quiet_on))
      go_big_quiet_skip
      go_big_quiet_skip
      go_big_quiet_skip
      go_big_quiet_skip
      go_big_quiet_skip
      go_big_quiet_skip
      go_big_quiet_skip
      (go_big_quiet_want; go_big_quiet_op; first | go_big_quiet_on | (refine ⟨_, fun _ _ => rfl, ?_⟩; go_big_quiet_on))
      (go_big_quiet_want; go_big_quiet_op; first | go_big_quiet_on | (refine ⟨_, fun _ _ => rfl, ?_⟩; go_big_quiet_on))
      (go_big_quiet_want; go_big_quiet_op; first | go_big_quiet_on | (refine ⟨_, fun _ _ => rfl, ?_⟩; go_big_quiet_on))
      refine wpQuiet_nil ?_
      intro wq Gq0
      have Gq : Gro _ wq := Gq0
      clear Gq0
      replace k1 := Gq.has k1
      replace k2 := Gq.has k2
      replace k3 := Gq.has k3
      replace k4 := Gq.has k4
      replace k5 := Gq.has k5
      replace GG := GG.trans Gq
      clear Gq
      go_wp2
      go_ret
      refine ⟨ret_bool ?_, GG⟩
      rw [hf.out, if_neg (by simpa using hq), hp]
    · try simp only [Act.put, List.setIfInBounds_toArray, List.set_cons_zero, List.set_cons_succ]
      refine wp_region_gro follows (by kernel_rfl) ?_
      refine wq_load_id rfl _ rfl g4 rfl _ (fun _ hw => Gro.has hw k4) ?_; simp only [Act.put, List.setIfInBounds_toArray, List.set_cons_zero, List.set_cons_succ]
      refine wq_load_id rfl _ rfl g5 rfl _ (fun _ hw => Gro.has hw k5) ?_; simp only [Act.put, List.setIfInBounds_toArray, List.set_cons_zero, List.set_cons_succ]
      refine wq_call rfl _ 43 Try.call43 rfl rfl _ rfl [.agg (idA FA), .agg (idA FB)] rfl _ (fun _ hw => Calls.gro hw (Calls.boolW (less_any FA FB f1 f2 _) hp)) ?_; simp only [Act.put, List.setIfInBounds_toArray, List.set_cons_zero, List.set_cons_succ]
      (go_big_quiet_want; go_big_quiet_op; first | go_big_quiet_on | (refine ⟨_, fun _ _ => rfl, ?_⟩; go_big_quiet_on))
      refine wq_load_id rfl _ rfl g4 rfl _ (fun _ hw => Gro.has hw k4) ?_; simp only [Act.put, List.setIfInBounds_toArray, List.set_cons_zero, List.set_cons_succ]
      refine wq_load_id rfl _ rfl g5 rfl _ (fun _ hw => Gro.has hw k5) ?_; simp only [Act.put, List.setIfInBounds_toArray, List.set_cons_zero, List.set_cons_succ]
      refine wq_eql_id rfl _ _ _ rfl FA FB rfl rfl f1 f2 _ hq ?_; simp only [Act.put, List.setIfInBounds_toArray, List.set_cons_zero, List.set_cons_succ]
      (go_big_quiet_want; go_big_quiet_op; first | go_big_quiet_on | (refine ⟨_, fun _ _ => rfl, ?_⟩; go_big_quiet_on))
      refine wq_load_id rfl _ rfl g2 rfl _ (fun _ hw => Gro.has hw k2) ?_; simp only [Act.put, List.setIfInBounds_toArray, List.set_cons_zero, List.set_cons_succ]
      refine wq_load_id rfl _ rfl g1 rfl _ (fun _ hw => Gro.has hw k1) ?_; simp only [Act.put, List.setIfInBounds_toArray, List.set_cons_zero, List.set_cons_succ]
      refine wq_call rfl _ 44 Try.call44 rfl rfl _ rfl [.agg (idA a), .agg (idA d)] rfl _ (fun _ hw => Calls.gro hw (refsub_any a d ha hd _)) ?_; simp only [Act.put, List.setIfInBounds_toArray, List.set_cons_zero, List.set_cons_succ]
      refine wq_load_id rfl _ rfl g3 rfl _ (fun _ hw => Gro.has hw k3) ?_; simp only [Act.put, List.setIfInBounds_toArray, List.set_cons_zero, List.set_cons_succ]
      refine wq_load_id rfl _ rfl g1 rfl _ (fun _ hw => Gro.has hw k1) ?_; simp only [Act.put, List.setIfInBounds_toArray, List.set_cons_zero, List.set_cons_succ]
      refine wq_call rfl _ 44 Try.call44 rfl rfl _ rfl [.agg (idA b), .agg (idA d)] rfl _ (fun _ hw => Calls.gro hw (refsub_any b d hb hd _)) ?_; simp only [Act.put, List.setIfInBounds_toArray, List.set_cons_zero, List.set_cons_succ]
      refine wq_call rfl _ 43 Try.call43 rfl rfl _ rfl [.agg (idA (subN a d)), .agg (idA (subN b d))] rfl _ (fun _ hw => Calls.gro hw (less_any (subN a d) (subN b d) s1 s2 _)) ?_; simp only [Act.put, List.setIfInBounds_toArray, List.set_cons_zero, List.set_cons_succ]
      (go_big_quiet_want; go_big_quiet_op; first | go_big_quiet_on | (refine ⟨_, fun _ _ => rfl, ?_⟩; go_big_quiet_on))
      (go_big_quiet_want; go_big_quiet_op; first | go_big_quiet_on | (refine ⟨_, fun _ _ => rfl, ?_⟩; go_big_quiet_on))
      (go_big_quiet_want; go_big_quiet_op; first | go_big_quiet_on | (refine ⟨_, fun _ _ => rfl, ?_⟩; go_big_quiet_on))
      refine wpQuiet_nil ?_
      intro wq Gq0
      have Gq : Gro _ wq := Gq0
      clear Gq0
      replace k1 := Gq.has k1
      replace k2 := Gq.has k2
      replace k3 := Gq.has k3
      replace k4 := Gq.has k4
      replace k5 := Gq.has k5
      replace GG := GG.trans Gq
      clear Gq
      go_wp2
      go_ret
      refine ⟨ret_bool ?_, GG⟩
      rw [hf.out, if_pos (by simpa using hq)]
  · try simp only [Act.put, List.setIfInBounds_toArray, List.set_cons_zero, List.set_cons_succ]
    refine wp_region_gro follows (by kernel_rfl) ?_
    refine wq_load_id rfl _ rfl g4 rfl _ (fun _ hw => Gro.has hw k4) ?_; simp only [Act.put, List.setIfInBounds_toArray, List.set_cons_zero, List.set_cons_succ]
    refine wq_load_id rfl _ rfl g5 rfl _ (fun _ hw => Gro.has hw k5) ?_; simp only [Act.put, List.setIfInBounds_toArray, List.set_cons_zero, List.set_cons_succ]
    refine wq_call rfl _ 43 Try.call43 rfl rfl _ rfl [.agg (idA FA), .agg (idA FB)] rfl _ (fun _ hw => Calls.gro hw (Calls.boolW (less_any FA FB f1 f2 _) hp)) ?_; simp only [Act.put, List.setIfInBounds_toArray, List.set_cons_zero, List.set_cons_succ]
    (go_big_quiet_want; go_big_quiet_op; first | go_big_quiet_on | (refine ⟨_, fun _ _ => rfl, ?_⟩; go_big_quiet_on))
    go_big_quiet_skip
    go_big_quiet_skip
    go_big_quiet_skip
    go_big_quiet_skip
    go_big_quiet_skip
    go_big_quiet_skip
    go_big_quiet_skip
    go_big_quiet_skip
    go_big_quiet_skip
    go_big_quiet_skip
    go_big_quiet_skip
    go_big_quiet_skip
    (go_big_quiet_want; go_big_quiet_op; first | go_big_quiet_on | (refine ⟨_, fun _ _ => rfl, ?_⟩; go_big_quiet_on))
    (go_big_quiet_want; go_big_quiet_op; first | go_big_quiet_on | (refine ⟨_, fun _ _ => rfl, ?_⟩; go_big_quiet_on))
    refine wpQuiet_nil ?_
    intro wq Gq0
    have Gq : Gro _ wq := Gq0
    clear Gq0
    replace k1 := Gq.has k1
    replace k2 := Gq.has k2
    replace k3 := Gq.has k3
    replace k4 := Gq.has k4
    replace k5 := Gq.has k5
    replace GG := GG.trans Gq
    clear Gq
    go_wp2
    go_ret
    refine ⟨ret_bool ?_, GG⟩
    rw [hf.out, if_neg (by simp at hp; omega), hp]
theorem idA_low (x : Nat) (hx : x < 256) : (idA 0).setIfInBounds 15 (.int .u8 (x : Int)) = idA x := by
  have h := set_low x 15 (by omega)
  have e1 : x % 256 ^ (15 - 15) = 0 := by simp [Nat.mod_one]
  have e2 : x % 256 ^ (16 - 15) = x := Nat.mod_eq_of_lt (by simpa using hx)
  have e3 : byt x 15 = x := by unfold byt; simp; omega
  rw [e1, e2, e3] at h
  exact h
theorem run_build_n {o : Oper} {A : Act} (x : Operand) (ho : o.op = .build 23 #[(15, x)]) (n : Nat) (hx : A.eval x = .int .u8 (n : Int)) (hn : n < 256) (w : World) : (execOp A.eval o).run Try.prog w = .ok (.value (.agg (idA n))) w := by
  have h1 : (Instr.build 23 #[(15, .int .u8 (n : Int))]).run Try.prog w = .ok (.agg ((idA 0).setIfInBounds 15 (.int .u8 (n : Int)))) w := by kernel_rfl
  unfold execOp
  simp only [ho, List.map_toArray, List.map_cons, List.map_nil, hx, Sem.run_bind, h1, Result.andThen_ok, Sem.run_pure, idA_low n hn]
end Go.Proofs.Ytjahegiopigblaa
