/- Walks. -/
import Derived.Test.YtaeiphdbdmaapaaBase
import Derived.Test.YtaeiphdbdmaapaaW11
namespace Go.Proofs.Ytaeiphdbdmaapaa
open Go.RowKit

theorem run_eql_int_op {P : Program} {o : Oper} {A : Act} (t : TypeId) (x y : Operand) (t2 : TypeId) (ho : o.op = .binOp .eql t x y t2) (k : IntKind) (n m : Int) (hx : A.eval x = .int k n) (hy : A.eval y = .int k m) (w : World) :
    (execOp A.eval o).run P w = .ok (.value (.bool (n == m))) w := by
  unfold execOp
  simp only [ho, hx, hy]
  simp [go_sem]
theorem wq_eql_int {P : Program} {ops : Array Oper} {o : Oper} {rest : List Oper} {a : Act} {C : World → Prop} {Q : Act → Prop} (hw : Region.wanted o (yielded ops a.tmps) = true) (t : TypeId) (x y : Operand) (t2 : TypeId) (ho : o.op = .binOp .eql t x y t2) (k : IntKind) (n m : Int) (hx : a.eval x = .int k n) (hy : a.eval y = .int k m) (p : Bool) (hp : (n == m) = p)
    (h : wpQuiet P ops C Q rest (a.put o.dst (.bool p))) : wpQuiet P ops C Q (o :: rest) a :=
  wq_value hw _ (fun w => by rw [run_eql_int_op t x y t2 ho k n m hx hy w, hp]) h
set_option maxHeartbeats 1600000 in
theorem sums_any (a b : Nat) (ha : a < top) (hb : b < top) (w : World) : Calls Try.prog 3 #[idV a, idV b] w fun e w' => e = .returned (.bool true) ∧ Gro w w' := by
  have GG : Gro w w := Gro.refl w
  have s1 := subN_lt a b
  have f1 := farN_lt a b
  unfold idV
  go_enter Try.func3, Try.ntmps3
  go_wp2_with (first | (with_reducible refine wpList_at ?_; first | (refine wpList_box_d 2 rfl rfl 23 _ rfl _ rfl ?_; intro w1 g1 G1 e1 k1; have b1 := size_base GG e1; replace GG := GG.trans G1; clear G1 e1; (try simp only [Act.put, List.setIfInBounds_toArray, List.set_cons_zero, List.set_cons_succ])) | (refine wpList_box_d 3 rfl rfl 23 _ rfl _ rfl ?_; intro w2 g2 G2 e2 k2; have b2 := size_base GG e2; have d12 := lt_new k1 e2; replace k1 := G2.has k1; replace GG := GG.trans G2; clear G2 e2; (try simp only [Act.put, List.setIfInBounds_toArray, List.set_cons_zero, List.set_cons_succ]))))
  try simp only [Act.put, List.setIfInBounds_toArray, List.set_cons_zero, List.set_cons_succ]
  refine wp_region_gro follows (by kernel_rfl) ?_
  refine wq_call rfl _ 9 Try.call9 rfl rfl _ rfl [] rfl _ (fun _ hw => Calls.gro hw (fixed_any _)) ?_; simp only [Act.put, List.setIfInBounds_toArray, List.set_cons_zero, List.set_cons_succ]
  (go_big_quiet_want; go_big_quiet_op; first | go_big_quiet_on | (refine ⟨_, fun _ _ => rfl, ?_⟩; go_big_quiet_on))
  refine wq_load_id rfl _ rfl g1 rfl _ (fun _ hw => Gro.has hw k1) ?_; simp only [Act.put, List.setIfInBounds_toArray, List.set_cons_zero, List.set_cons_succ]
  refine wq_load_id rfl _ rfl g2 rfl _ (fun _ hw => Gro.has hw k2) ?_; simp only [Act.put, List.setIfInBounds_toArray, List.set_cons_zero, List.set_cons_succ]
  refine wq_call rfl _ 10 Try.call10 rfl rfl _ rfl [.agg (idA a), .agg (idA b)] rfl _ (fun _ hw => Calls.gro hw (cmp_any a b ha hb _)) ?_; simp only [Act.put, List.setIfInBounds_toArray, List.set_cons_zero, List.set_cons_succ]
  refine wq_load_id rfl _ rfl g1 rfl _ (fun _ hw => Gro.has hw k1) ?_; simp only [Act.put, List.setIfInBounds_toArray, List.set_cons_zero, List.set_cons_succ]
  refine wq_load_id rfl _ rfl g2 rfl _ (fun _ hw => Gro.has hw k2) ?_; simp only [Act.put, List.setIfInBounds_toArray, List.set_cons_zero, List.set_cons_succ]
  refine wq_call rfl _ 11 Try.call11 rfl rfl _ rfl [.agg (idA a), .agg (idA b)] rfl _ (fun _ hw => Calls.gro hw (refcmp_any a b ha hb _)) ?_; simp only [Act.put, List.setIfInBounds_toArray, List.set_cons_zero, List.set_cons_succ]
  refine wq_eql_int rfl _ _ _ _ rfl _ _ _ rfl rfl true (by simp) ?_; simp only [Act.put, List.setIfInBounds_toArray, List.set_cons_zero, List.set_cons_succ]
  (go_big_quiet_want; go_big_quiet_op; first | go_big_quiet_on | (refine ⟨_, fun _ _ => rfl, ?_⟩; go_big_quiet_on))
  (go_big_quiet_want; go_big_quiet_op; first | go_big_quiet_on | (refine ⟨_, fun _ _ => rfl, ?_⟩; go_big_quiet_on))
  refine wq_load_id rfl _ rfl g1 rfl _ (fun _ hw => Gro.has hw k1) ?_; simp only [Act.put, List.setIfInBounds_toArray, List.set_cons_zero, List.set_cons_succ]
  refine wq_load_id rfl _ rfl g2 rfl _ (fun _ hw => Gro.has hw k2) ?_; simp only [Act.put, List.setIfInBounds_toArray, List.set_cons_zero, List.set_cons_succ]
  refine wq_call rfl _ 12 Try.call12 rfl rfl _ rfl [.agg (idA a), .agg (idA b)] rfl _ (fun _ hw => Calls.gro hw (sub_any a b ha hb _)) ?_; simp only [Act.put, List.setIfInBounds_toArray, List.set_cons_zero, List.set_cons_succ]
  refine wq_load_id rfl _ rfl g1 rfl _ (fun _ hw => Gro.has hw k1) ?_; simp only [Act.put, List.setIfInBounds_toArray, List.set_cons_zero, List.set_cons_succ]
  refine wq_load_id rfl _ rfl g2 rfl _ (fun _ hw => Gro.has hw k2) ?_; simp only [Act.put, List.setIfInBounds_toArray, List.set_cons_zero, List.set_cons_succ]
  refine wq_call rfl _ 13 Try.call13 rfl rfl _ rfl [.agg (idA a), .agg (idA b)] rfl _ (fun _ hw => Calls.gro hw (refsub_any a b ha hb _)) ?_; simp only [Act.put, List.setIfInBounds_toArray, List.set_cons_zero, List.set_cons_succ]
  refine wq_eql_id rfl _ _ _ rfl (subN a b) (subN a b) rfl rfl s1 s1 _ (decide_eq_true rfl) ?_; simp only [Act.put, List.setIfInBounds_toArray, List.set_cons_zero, List.set_cons_succ]
  (go_big_quiet_want; go_big_quiet_op; first | go_big_quiet_on | (refine ⟨_, fun _ _ => rfl, ?_⟩; go_big_quiet_on))
  (go_big_quiet_want; go_big_quiet_op; first | go_big_quiet_on | (refine ⟨_, fun _ _ => rfl, ?_⟩; go_big_quiet_on))
  refine wq_load_id rfl _ rfl g1 rfl _ (fun _ hw => Gro.has hw k1) ?_; simp only [Act.put, List.setIfInBounds_toArray, List.set_cons_zero, List.set_cons_succ]
  refine wq_load_id rfl _ rfl g2 rfl _ (fun _ hw => Gro.has hw k2) ?_; simp only [Act.put, List.setIfInBounds_toArray, List.set_cons_zero, List.set_cons_succ]
  refine wq_call rfl _ 14 Try.call14 rfl rfl _ rfl [.agg (idA a), .agg (idA b)] rfl _ (fun _ hw => Calls.gro hw (far_any a b ha hb _)) ?_; simp only [Act.put, List.setIfInBounds_toArray, List.set_cons_zero, List.set_cons_succ]
  refine wq_load_id rfl _ rfl g1 rfl _ (fun _ hw => Gro.has hw k1) ?_; simp only [Act.put, List.setIfInBounds_toArray, List.set_cons_zero, List.set_cons_succ]
  refine wq_load_id rfl _ rfl g2 rfl _ (fun _ hw => Gro.has hw k2) ?_; simp only [Act.put, List.setIfInBounds_toArray, List.set_cons_zero, List.set_cons_succ]
  refine wq_call rfl _ 15 Try.call15 rfl rfl _ rfl [.agg (idA a), .agg (idA b)] rfl _ (fun _ hw => Calls.gro hw (reffar_any a b ha hb _)) ?_; simp only [Act.put, List.setIfInBounds_toArray, List.set_cons_zero, List.set_cons_succ]
  refine wq_eql_id rfl _ _ _ rfl (farN a b) (farN a b) rfl rfl f1 f1 _ (decide_eq_true rfl) ?_; simp only [Act.put, List.setIfInBounds_toArray, List.set_cons_zero, List.set_cons_succ]
  (go_big_quiet_want; go_big_quiet_op; first | go_big_quiet_on | (refine ⟨_, fun _ _ => rfl, ?_⟩; go_big_quiet_on))
  (go_big_quiet_want; go_big_quiet_op; first | go_big_quiet_on | (refine ⟨_, fun _ _ => rfl, ?_⟩; go_big_quiet_on))
  refine wpQuiet_nil ?_
  intro wq Gq0
  have Gq : Gro _ wq := Gq0
  clear Gq0
  replace GG := GG.trans Gq
  clear Gq
  go_wp2
  go_ret
  exact ⟨rfl, GG⟩
end Go.Proofs.Ytaeiphdbdmaapaa
