/- Walks: who is nearer, and nearest. -/
import Derived.Test.YtaeiphdbdmaapaaW13
import Derived.Test.YtaeiphdbdmaapaaW14
import Derived.Test.YtaeiphdbdmaapaaW21
namespace Go.Proofs.Ytaeiphdbdmaapaa
open Go.RowKit

theorem run_eqlb (p q : Bool) (w : World) : (binOp .eql 4 (.bool p) (.bool q)).run Try.prog w = .ok (.bool (p == q)) w := by
  cases p <;> cases q <;> kernel_rfl
theorem eqGuard_b (x y : Operand) (p q : Bool) (w : World) : (eqGuard .eql 4 x y (.bool p) (.bool q)).run Try.prog w = .ok () w := by
  simp [eqGuard, go_sem]
theorem run_eqlb_op {o : Oper} {A : Act} (x y : Operand) (t2 : TypeId) (ho : o.op = .binOp .eql 4 x y t2) (p q : Bool) (hx : A.eval x = .bool p) (hy : A.eval y = .bool q) (w : World) :
    (execOp A.eval o).run Try.prog w = .ok (.value (.bool (p == q))) w := by
  unfold execOp
  simp only [ho, hx, hy, Sem.run_bind, eqGuard_b, Result.andThen_ok, run_eqlb, Sem.run_pure]
theorem wq_eql_same {ops : Array Oper} {o : Oper} {rest : List Oper} {a : Act} {C : World → Prop} {Q : Act → Prop} (hw : Region.wanted o (yielded ops a.tmps) = true) (x y : Operand) (t2 : TypeId) (ho : o.op = .binOp .eql 4 x y t2) (p : Bool) (hx : a.eval x = .bool p) (hy : a.eval y = .bool p)
    (h : wpQuiet Try.prog ops C Q rest (a.put o.dst (.bool true))) : wpQuiet Try.prog ops C Q (o :: rest) a :=
  wq_value hw _ (fun w => by rw [run_eqlb_op x y t2 ho p p hx hy w, beq_self_eq_true]) h

def twoA (a b : Nat) : Array Value := idA a ++ idA b
def twoV (a b : Nat) : Value := .agg (twoA a b)
theorem twoA_size (a b : Nat) : (twoA a b).size = 32 := by simp [twoA, idA_size]
theorem half_0 (x y : Array Value) (hx : x.size = 16) : (x ++ y).extract 0 (0 + 16) = x := by
  simp [hx]
theorem half_1 (x y : Array Value) (hx : x.size = 16) (hy : y.size = 16) : (x ++ y).extract 16 (16 + 16) = y := by
  simp [hx]
  have h1 : x.extract 16 16 = #[] := by simp; omega
  have : 16 = y.size := hy.symm
  rw [h1, Array.empty_append, this, Array.extract_size]
theorem two_0 (a b : Nat) : (twoA a b).extract 0 (0 + 16) = idA a := half_0 _ _ (idA_size a)
theorem two_1 (a b : Nat) : (twoA a b).extract 16 (16 + 16) = idA b := half_1 _ _ (idA_size a) (idA_size b)
theorem ok_part28 {ops : Array Oper} {o : Oper} {A : Act} {w : World} (hgd : o.guard = none) (x : Operand) (j : Nat) (hj : j < 2) (ho : o.op = .indexAddr 28 x (.const (.int .i64 j))) (g : Nat) (hx : A.eval x = .pointer (some ⟨g, 0, none⟩)) :
    OpOK Try.prog ops (.val (.pointer (some ⟨g, 16 * j, none⟩))) o A w := by
  refine ok_value hgd ?_
  unfold execOp
  match j, hj with
  | 0, _ =>
    have hi : (Instr.indexAt 28 (.pointer (some ⟨g, 0, none⟩)) (.int .i64 ((0 : Nat) : Int))).run Try.prog w = .ok (.pointer (some ⟨g, 16 * 0, none⟩)) w := by kernel_rfl
    simp only [ho, hx, BigFrame.eval_const, Sem.run_bind, hi, Result.andThen_ok, Sem.run_pure]
  | 1, _ =>
    have hi : (Instr.indexAt 28 (.pointer (some ⟨g, 0, none⟩)) (.int .i64 ((1 : Nat) : Int))).run Try.prog w = .ok (.pointer (some ⟨g, 16 * 1, none⟩)) w := by kernel_rfl
    simp only [ho, hx, BigFrame.eval_const, Sem.run_bind, hi, Result.andThen_ok, Sem.run_pure]
theorem run_min {o : Oper} {A : Act} (x y : Operand) (ats : Array TypeId) (ho : o.op = .call { callee := .builtin .min, args := #[x, y], argTypes := ats }) (n m : Nat) (hm : Hid (min n 200 = m)) (hx : A.eval x = .int .i64 (n : Int)) (hy : A.eval y = .int .i64 200) (w : World) : (execOp A.eval o).run Try.prog w = .ok (.value (.int .i64 (m : Int))) w := by
  rw [← hm.out]
  unfold execOp
  simp only [ho, resolve, invoke, builtin, List.map_toArray, List.map_cons, List.map_nil, hx, hy]
  simp [go_sem]
  split <;> omega
theorem run_upto {o : Oper} {A : Act} (x y : Operand) (ho : o.op = .slice 29 x none (some y) none) (a : Option Addr) (n cap m : Nat) (hm : m ≤ cap) (hx : A.eval x = .slice a n cap) (hy : A.eval y = .int .i64 (m : Int)) (w : World) : (execOp A.eval o).run Try.prog w = .ok (.value (.slice a m cap)) w := by
  unfold execOp
  simp only [ho, hx, Option.map, hy]
  simp [Instr.sliceAt, go_sem]
  intro h
  omega

set_option maxHeartbeats 3200000 in
theorem nears_any (d a b : Nat) (hd : d < top) (ha : a < top) (hb : b < top) (av : Option Addr) (n cap m : Nat) (hmn : Hid (min n 200 = m)) (hmc : m ≤ cap) (l : List Nat) (hl2 : l.length ≤ 1048576) (w : World) (hS : SL w (.slice av m cap) l) :
    Calls Try.prog 4 #[idV d, twoV a b, .slice av n cap] w fun e w' => e = .returned (.bool true) ∧ Gro w w' := by
  have GG : Gro w w := Gro.refl w
  obtain ⟨p, hp⟩ : ∃ p, nearN d a b = p := ⟨_, rfl⟩
  unfold idV twoV
  go_enter Try.func4, Try.ntmps4
  go_wp2_with (first | (with_reducible refine wpList_at ?_; first | (refine wpList_box_d 3 rfl rfl 23 _ rfl _ rfl ?_; intro w1 g1 G1 e1 k1; have b1 := size_base GG e1; replace GG := GG.trans G1; clear G1 e1; (try simp only [Act.put, List.setIfInBounds_toArray, List.set_cons_zero, List.set_cons_succ])) | (refine wpList_box_d 4 rfl rfl 28 _ rfl _ rfl ?_; intro w2 g2 G2 e2 k2; have b2 := size_base GG e2; have d12 := lt_new k1 e2; replace k1 := G2.has k1; replace GG := GG.trans G2; clear G2 e2; (try simp only [Act.put, List.setIfInBounds_toArray, List.set_cons_zero, List.set_cons_succ]))))
  refine wp_region_grow2 8 [(0, 11), (1, 12), (2, 13), (3, 14), (4, 7), (5, 8)] [.val (.pointer (some ⟨g2, 0, none⟩)), .val (.agg (idA a)), .val (.pointer (some ⟨g2, 16, none⟩)), .val (.agg (idA b)), .new 23 (idA 0) (idA a) 6, .new 23 (idA 0) (idA b) 7, .put 4, .put 5] follows (by kernel_rfl) (by kernel_rfl) rfl
    (opsOK2_cons ?o0 (opsOK2_cons ?o1 (opsOK2_cons ?o2 (opsOK2_cons ?o3 (opsOK2_cons ?o4 (opsOK2_cons ?o5 (opsOK2_cons ?o6 (opsOK2_cons ?o7 (opsOK2_nil))))))))) ?rest
  case o0 => exact fun _ _ _ hw _ _ => OpOK2.of_val (ok_part28 rfl _ 0 (by omega) rfl g2 rfl)
  case o1 => exact fun _ _ _ hw _ _ => OpOK2.of_val (ok_load rfl 23 _ rfl g2 0 16 rfl 28 (twoA a b) (0, 0) _ (hw.has k2) Try.underlying23 rfl size23 (by rw [twoA_size]; omega) _ (two_0 a b))
  case o2 => exact fun _ _ _ hw _ _ => OpOK2.of_val (ok_part28 rfl _ 1 (by omega) rfl g2 rfl)
  case o3 => exact fun _ _ _ hw _ _ => OpOK2.of_val (ok_load rfl 23 _ rfl g2 16 16 rfl 28 (twoA a b) (0, 0) _ (hw.has k2) Try.underlying23 rfl size23 (by rw [twoA_size]; omega) _ (two_1 a b))
  case o4 => exact fun _ _ _ hw _ _ => OpOK2.of_new (ok_alloc_id rfl rfl)
  case o5 => exact fun _ _ _ hw _ _ => OpOK2.of_new (ok_alloc_id rfl rfl)
  case o6 => 
        intro ptrs L w hw hn hL
        obtain ⟨⟨g, p, k, cz⟩, hz⟩ := hn
        have hL' : L 6 = false := hL
        have p' : ptrs 4 = .pointer (some ⟨g, 0, none⟩) := p
        have k' : w.heap[g]? = some (.cells (if L 6 = true then (idA a) else (idA 0)) 23 (0, 0)) := k
        rw [hL'] at k'
        refine ok2_store rfl 23 _ _ rfl g ?_ (idA a) rfl (idA 0) k' (size23' _) (by rw [idA_size, idA_size]) (idA_one _) rfl p' _
        show ptrs 4 = _
        exact p'
  case o7 => 
        intro ptrs L w hw hn hL
        obtain ⟨⟨g, p, k, cz⟩, hz⟩ := hn
        have hL' : L 7 = false := hL
        have p' : ptrs 5 = .pointer (some ⟨g, 0, none⟩) := p
        have k' : w.heap[g]? = some (.cells (if L 7 = true then (idA b) else (idA 0)) 23 (0, 0)) := k
        rw [hL'] at k'
        refine ok2_store rfl 23 _ _ rfl g ?_ (idA b) rfl (idA 0) k' (size23' _) (by rw [idA_size, idA_size]) (idA_one _) rfl p' _
        show ptrs 5 = _
        exact p'
  intro ptrs L w3 G3 hL hn hap
  obtain ⟨⟨g4, p4, k4, c4⟩, ⟨g5, p5, k5, c5⟩, hz⟩ := hn
  have hap' : List.Pairwise (fun i j => ptrs i ≠ ptrs j) [4, 5] := hap
  simp [p4, p5] at hap'
  simp only [full, foldSlots, filled2, postAt2, List.foldl_cons, List.foldl_nil, List.getD_cons_zero, List.getD_cons_succ, PostS.fill, PostS.val, PostS.new, PostS.put, List.set_cons_zero, List.set_cons_succ, List.drop_succ_cons, List.drop_zero, p4, p5]
  have k4' : w3.heap[g4]? = some (.cells (idA a) 23 (0, 0)) := by
    have hL' : L 6 = true := by rw [hL]; rfl
    have kk : w3.heap[g4]? = some (.cells (if L 6 = true then (idA a) else (idA 0)) 23 (0, 0)) := k4
    rw [hL'] at kk
    exact kk
  clear k4
  have k4 := k4'
  clear k4'
  have d14 : g1 < g4 := Nat.lt_of_lt_of_le (lt_of_heap k1) c4
  have d24 : g2 < g4 := Nat.lt_of_lt_of_le (lt_of_heap k2) c4
  have b4 : w.heap.size ≤ g4 := Nat.le_trans GG.size c4
  have k5' : w3.heap[g5]? = some (.cells (idA b) 23 (0, 0)) := by
    have hL' : L 7 = true := by rw [hL]; rfl
    have kk : w3.heap[g5]? = some (.cells (if L 7 = true then (idA b) else (idA 0)) 23 (0, 0)) := k5
    rw [hL'] at kk
    exact kk
  clear k5
  have k5 := k5'
  clear k5'
  have d15 : g1 < g5 := Nat.lt_of_lt_of_le (lt_of_heap k1) c5
  have d25 : g2 < g5 := Nat.lt_of_lt_of_le (lt_of_heap k2) c5
  have b5 : w.heap.size ≤ g5 := Nat.le_trans GG.size c5
  replace k1 := G3.has k1
  replace k2 := G3.has k2
  replace GG := GG.drew.trans G3
  clear G3 c4 c5
  clear hz hL p4 p5 hap ptrs

  clear k2 hap'
  go_wp2_with (with_reducible refine wpList_at ?_; first | (refine wpList_value_d 18 rfl rfl (.int .i64 (m : Int)) (run_min _ _ _ rfl n m hmn rfl rfl _) ?_; (try simp only [Act.put, List.setIfInBounds_toArray, List.set_cons_zero, List.set_cons_succ])) | (refine wpList_value_d 19 rfl rfl (.slice av m cap) (run_upto _ _ rfl av n cap m hmc rfl rfl _) ?_; (try simp only [Act.put, List.setIfInBounds_toArray, List.set_cons_zero, List.set_cons_succ])))
  replace hS := hS.gro GG
  refine (copy_sl l hl2 _ _ hS).mono ?_
  rintro e wN ⟨v3, rfl, hS3, GN⟩
  replace k1 := GN.has k1
  replace k4 := GN.has k4
  replace k5 := GN.has k5
  replace hS := hS.gro GN
  replace GG := GG.trans GN
  clear GN
  go_wp2_with (with_reducible refine wpList_at ?_; (refine wl_load_id rfl _ rfl g1 rfl _ k1 ?_; (try simp only [Act.put, List.setIfInBounds_toArray, List.set_cons_zero, List.set_cons_succ])))
  refine (nearest_sl d hd l hl2 _ _ hS).mono ?_
  rintro e wN ⟨rfl, GN⟩
  replace k1 := GN.has k1
  replace k4 := GN.has k4
  replace k5 := GN.has k5
  replace hS := hS.gro GN
  replace hS3 := hS3.gro GN
  replace GG := GG.trans GN
  clear GN
  go_wp2_with fail
  try simp only [Act.put, List.setIfInBounds_toArray, List.set_cons_zero, List.set_cons_succ]
  refine wp_region_gro follows (by kernel_rfl) ?_
  refine wq_call rfl _ 9 Try.call9 rfl rfl _ rfl [] rfl _ (fun _ hw => Calls.gro hw (fixed_any _)) ?_; simp only [Act.put, List.setIfInBounds_toArray, List.set_cons_zero, List.set_cons_succ]
  (go_big_quiet_want; go_big_quiet_op; first | go_big_quiet_on | (refine ⟨_, fun _ _ => rfl, ?_⟩; go_big_quiet_on))
  refine wq_load_id rfl _ rfl g1 rfl _ (fun _ hw => Gro.has hw k1) ?_; simp only [Act.put, List.setIfInBounds_toArray, List.set_cons_zero, List.set_cons_succ]
  refine wq_load_id rfl _ rfl g4 rfl _ (fun _ hw => Gro.has hw k4) ?_; simp only [Act.put, List.setIfInBounds_toArray, List.set_cons_zero, List.set_cons_succ]
  refine wq_load_id rfl _ rfl g5 rfl _ (fun _ hw => Gro.has hw k5) ?_; simp only [Act.put, List.setIfInBounds_toArray, List.set_cons_zero, List.set_cons_succ]
  refine wq_call rfl _ 18 Try.call18 rfl rfl _ rfl [.agg (idA d), .agg (idA a), .agg (idA b)] rfl _ (fun _ hw => Calls.gro hw (Calls.bool (nearer_any d a b hd ha hb _) hp)) ?_; simp only [Act.put, List.setIfInBounds_toArray, List.set_cons_zero, List.set_cons_succ]
  refine wq_load_id rfl _ rfl g1 rfl _ (fun _ hw => Gro.has hw k1) ?_; simp only [Act.put, List.setIfInBounds_toArray, List.set_cons_zero, List.set_cons_succ]
  refine wq_load_id rfl _ rfl g4 rfl _ (fun _ hw => Gro.has hw k4) ?_; simp only [Act.put, List.setIfInBounds_toArray, List.set_cons_zero, List.set_cons_succ]
  refine wq_load_id rfl _ rfl g5 rfl _ (fun _ hw => Gro.has hw k5) ?_; simp only [Act.put, List.setIfInBounds_toArray, List.set_cons_zero, List.set_cons_succ]
  refine wq_call rfl _ 19 Try.call19 rfl rfl _ rfl [.agg (idA d), .agg (idA a), .agg (idA b)] rfl _ (fun _ hw => Calls.gro hw (Calls.bool (refnearer_any d a b hd ha hb _) hp)) ?_; simp only [Act.put, List.setIfInBounds_toArray, List.set_cons_zero, List.set_cons_succ]
  refine wq_eql_same rfl _ _ _ rfl _ rfl rfl ?_; simp only [Act.put, List.setIfInBounds_toArray, List.set_cons_zero, List.set_cons_succ]
  (go_big_quiet_want; go_big_quiet_op; first | go_big_quiet_on | (refine ⟨_, fun _ _ => rfl, ?_⟩; go_big_quiet_on))
  (go_big_quiet_want; go_big_quiet_op; first | go_big_quiet_on | (refine ⟨_, fun _ _ => rfl, ?_⟩; go_big_quiet_on))
  (go_big_quiet_want; go_big_quiet_op; first | go_big_quiet_on | (refine ⟨_, fun _ _ => rfl, ?_⟩; go_big_quiet_on))
  refine wq_load_id rfl _ rfl g1 rfl _ (fun _ hw => Gro.has hw k1) ?_; simp only [Act.put, List.setIfInBounds_toArray, List.set_cons_zero, List.set_cons_succ]
  (go_big_quiet_want; go_big_quiet_op; first | go_big_quiet_on | (refine ⟨_, fun _ _ => rfl, ?_⟩; go_big_quiet_on))
  refine wq_call rfl _ 20 Try.call20 rfl rfl _ rfl [.agg (idA d), v3] rfl _ (fun _ hw => Calls.gro hw (refnearest_sl d hd l hl2 v3 _ (hS3.gro hw))) ?_; simp only [Act.put, List.setIfInBounds_toArray, List.set_cons_zero, List.set_cons_succ]
  refine wq_eql_int rfl _ _ _ _ rfl _ _ _ rfl rfl true (by simp) ?_; simp only [Act.put, List.setIfInBounds_toArray, List.set_cons_zero, List.set_cons_succ]
  (go_big_quiet_want; go_big_quiet_op; first | go_big_quiet_on | (refine ⟨_, fun _ _ => rfl, ?_⟩; go_big_quiet_on))
  (go_big_quiet_want; go_big_quiet_op; first | go_big_quiet_on | (refine ⟨_, fun _ _ => rfl, ?_⟩; go_big_quiet_on))
  (go_big_quiet_want; go_big_quiet_op; first | go_big_quiet_on | (refine ⟨_, fun _ _ => rfl, ?_⟩; go_big_quiet_on))
  (go_big_quiet_want; go_big_quiet_op; first | go_big_quiet_on | (refine ⟨_, fun _ _ => rfl, ?_⟩; go_big_quiet_on))
  refine wq_call rfl _ 21 Try.call21 rfl rfl _ rfl [.slice av m cap, v3] rfl _ (fun _ hw => Calls.gro hw (same_sl l hl2 (.slice av m cap) v3 _ (hS.gro hw) (hS3.gro hw))) ?_; simp only [Act.put, List.setIfInBounds_toArray, List.set_cons_zero, List.set_cons_succ]
  (go_big_quiet_want; go_big_quiet_op; first | go_big_quiet_on | (refine ⟨_, fun _ _ => rfl, ?_⟩; go_big_quiet_on))
  (go_big_quiet_want; go_big_quiet_op; first | go_big_quiet_on | (refine ⟨_, fun _ _ => rfl, ?_⟩; go_big_quiet_on))
  refine wpQuiet_nil ?_
  intro wq Gq0
  have Gq : Gro _ wq := Gq0
  clear Gq0
  replace GG := GG.trans Gq
  clear Gq
  go_wp2
  go_ret
  exact ⟨rfl, GG⟩
end Go.Proofs.Ytaeiphdbdmaapaa
