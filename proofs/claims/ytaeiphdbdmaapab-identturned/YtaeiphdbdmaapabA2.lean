/- Walks. -/
import Derived.Test.YtaeiphdbdmaapabBase
import Derived.Test.YtaeiphdbdmaapabA1
namespace Go.Proofs.Ytaeiphdbdmaapab
open Go.RowKit
def threeA (a b c : Nat) : Array Value := idA a ++ idA b ++ idA c
def threeV (a b c : Nat) : Value := .agg (threeA a b c)
theorem threeA_size (a b c : Nat) : (threeA a b c).size = 48 := by simp [threeA, idA_size]
theorem part_0 (x y z : Array Value) (hx : x.size = 16) : (x ++ y ++ z).extract 0 (0 + 16) = x := by
  simp [hx]
theorem part_1 (x y z : Array Value) (hx : x.size = 16) (hy : y.size = 16) : (x ++ y ++ z).extract 16 (16 + 16) = y := by
  simp [hx, hy]
  have h1 : x.extract 16 16 = #[] := by simp; omega
  have : 16 = y.size := hy.symm
  rw [h1, Array.empty_append, this, Array.extract_size]
theorem part_2 (x y z : Array Value) (hx : x.size = 16) (hy : y.size = 16) (hz : z.size = 16) : (x ++ y ++ z).extract 32 (32 + 16) = z := by
  simp [hx, hy]
  have h1 : x.extract 32 16 = #[] := by simp; omega
  have h2 : y.extract 16 16 = #[] := by simp; omega
  have : 16 = z.size := hz.symm
  rw [h1, h2, Array.empty_append, Array.empty_append, this, Array.extract_size]
theorem three_0 (a b c : Nat) : (threeA a b c).extract 0 (0 + 16) = idA a := part_0 _ _ _ (idA_size a)
theorem three_1 (a b c : Nat) : (threeA a b c).extract 16 (16 + 16) = idA b := part_1 _ _ _ (idA_size a) (idA_size b)
theorem three_2 (a b c : Nat) : (threeA a b c).extract 32 (32 + 16) = idA c := part_2 _ _ _ (idA_size a) (idA_size b) (idA_size c)
/-- The address of a part of a block of arrays. -/
theorem ok_part27 {ops : Array Oper} {o : Oper} {A : Act} {w : World} (hgd : o.guard = none) (x : Operand) (j : Nat) (hj : j < 3) (ho : o.op = .indexAddr 27 x (.const (.int .i64 j))) (g : Nat) (hx : A.eval x = .pointer (some ⟨g, 0, none⟩)) :
    OpOK Try.prog ops (.val (.pointer (some ⟨g, 16 * j, none⟩))) o A w := by
  refine ok_value hgd ?_
  unfold execOp
  match j, hj with
  | 0, _ => 
    have hi : (Instr.indexAt 27 (.pointer (some ⟨g, 0, none⟩)) (.int .i64 ((0 : Nat) : Int))).run Try.prog w = .ok (.pointer (some ⟨g, 16 * 0, none⟩)) w := by kernel_rfl
    simp only [ho, hx, BigFrame.eval_const, Sem.run_bind, hi, Result.andThen_ok, Sem.run_pure]
  | 1, _ => 
    have hi : (Instr.indexAt 27 (.pointer (some ⟨g, 0, none⟩)) (.int .i64 ((1 : Nat) : Int))).run Try.prog w = .ok (.pointer (some ⟨g, 16 * 1, none⟩)) w := by kernel_rfl
    simp only [ho, hx, BigFrame.eval_const, Sem.run_bind, hi, Result.andThen_ok, Sem.run_pure]
  | 2, _ => 
    have hi : (Instr.indexAt 27 (.pointer (some ⟨g, 0, none⟩)) (.int .i64 ((2 : Nat) : Int))).run Try.prog w = .ok (.pointer (some ⟨g, 16 * 2, none⟩)) w := by kernel_rfl
    simp only [ho, hx, BigFrame.eval_const, Sem.run_bind, hi, Result.andThen_ok, Sem.run_pure]


theorem sub_turned (x z y : Nat) (hx : x < top) (hz : z < top) : subN (addN x y) (addN z y) = subN x z := by
  unfold subN addN top at *
  omega
theorem add_inj (x z y : Nat) (hx : x < top) (hz : z < top) : (addN x y = addN z y) = (x = z) := by
  apply propext
  unfold addN top at *
  omega
theorem far_turned (x z y : Nat) (hx : x < top) (hz : z < top) : farN (addN x y) (addN z y) = farN x z := by
  unfold farN
  rw [sub_turned x z y hx hz, sub_turned z x y hz hx]
theorem near_turned (d a b y : Nat) (hd : d < top) (ha : a < top) (hb : b < top) : nearN (addN d y) (addN a y) (addN b y) = nearN d a b := by
  unfold nearN
  rw [far_turned a d y ha hd, far_turned b d y hb hd, sub_turned a d y ha hd, sub_turned b d y hb hd]
theorem bet_turned (a x b y : Nat) (ha : a < top) (hx : x < top) (hb : b < top) : betN (addN a y) (addN x y) (addN b y) = betN a x b := by
  unfold betN
  simp only [add_inj x a y hx ha, add_inj a b y ha hb, sub_turned x a y hx ha, sub_turned b a y hb ha]

set_option maxHeartbeats 1600000 in
theorem turn_any (g : Nat) (x y : Nat) (hx : x < top) (hy : y < top) (w : World) (k9 : w.heap[g]? = some (.cells (idA y) 23 (0, 0))) : Calls Try.prog 9 #[idV x, .pointer (some ⟨g, 0, none⟩)] w fun e w' => e = .returned (idV (addN x y)) ∧ Gro w w' := by
  have GG : Gro w w := Gro.refl w
  unfold idV
  go_enter Try.func9, Try.ntmps9
  go_wp2_with (first | (go_at_call 5; refine (add_any x y hx hy _).mono ?_; rintro e wN ⟨rfl, GN⟩; (try replace k2 := GN.has k2); replace GG := GG.trans GN; clear GN) | (with_reducible refine wpList_at ?_; first | (refine wpList_box_d 2 rfl rfl 23 _ rfl _ rfl ?_; intro w1 g1 G1 e1 k1; have b1 := size_base GG e1; have d91 := lt_new k9 e1; replace k9 := G1.has k9; replace GG := GG.trans G1; clear G1 e1; (try simp only [Act.put, List.setIfInBounds_toArray, List.set_cons_zero, List.set_cons_succ])) | (refine wpList_alloc_d 3 rfl rfl 23 rfl _ zero23 ?_; intro w2 g2 G2 e2 k2; have b2 := size_base GG e2; (try have d12 := lt_new k1 e2); (try replace k1 := G2.has k1); (try have d92 := lt_new k9 e2); (try replace k9 := G2.has k9); replace GG := GG.trans G2; clear G2 e2; (try simp only [Act.put, List.setIfInBounds_toArray, List.set_cons_zero, List.set_cons_succ])) | (first | (refine wpList_load_row rfl 23 _ rfl _ rfl 23 _ (0, 0) _ k1 Try.underlying23 rfl (size23' _) ?_; (try simp only [Act.put, List.setIfInBounds_toArray, List.set_cons_zero, List.set_cons_succ])) | (refine wpList_load_row rfl 23 _ rfl _ rfl 23 _ (0, 0) _ k9 Try.underlying23 rfl (size23' _) ?_; (try simp only [Act.put, List.setIfInBounds_toArray, List.set_cons_zero, List.set_cons_succ]))) | (refine wpList_store_agg rfl rfl 23 _ _ rfl _ rfl _ rfl 23 _ k2 (size23' _) (by simp only [idA_size]) (idA_one _) ?_; intro wN SN; replace k2 := SN.new; replace GG := GG.store SN b2; clear SN)))
  exact bodyPost_ret (v := .agg (idA (addN x y))) (results_cell_row Try.results9 _ _ g2 23 _ (0, 0) _ rfl k2 Try.underlying23 rfl (size23' _)) rfl ⟨rfl, GG⟩
theorem run_callv {P : Program} {o : Oper} {A : Act} {w : World} (c : Call) (x : Operand) (f : FuncId) (cap : Array Value) (hen : ∀ args w, (callFunc f args).run P w = .ok (.enter f args) w) (ho : o.op = .call c) (hc : c.callee = .value x) (hx : A.eval x = .func (.func f) #[] cap) :
    (execOp A.eval o).run P w = .ok (.enter f (c.args.map A.eval ++ cap)) w := by
  unfold execOp
  simp only [ho, resolve, hc, hx]
  simp [go_sem, hen]
theorem wq_callv {P : Program} {ops : Array Oper} {o : Oper} {rest : List Oper} {a : Act} {C : World → Prop} {Q : Act → Prop} (hw : Region.wanted o (yielded ops a.tmps) = true) (c : Call) (y : Operand) (f : FuncId) (cap : List Value) (hen : ∀ args w, (callFunc f args).run P w = .ok (.enter f args) w) (ho : o.op = .call c) (hc : c.callee = .value y) (hy : a.eval y = .func (.func f) #[] cap.toArray) (xs : List Operand) (hxs : c.args = xs.toArray) (vs : List Value) (hvs : xs.map a.eval = vs) (v : Value)
    (H : ∀ w, C w → Calls P f (vs ++ cap).toArray w fun e w' => e = .returned v ∧ C w') (h : wpQuiet P ops C Q rest (a.put o.dst v)) : wpQuiet P ops C Q (o :: rest) a :=
  BigFrame.wpQuiet_want hw fun _ hK => ⟨v, fun w hw => by
    unfold Oper.quietAt
    rw [run_callv c y f cap.toArray hen ho hc hy, hxs, List.map_toArray, hvs, List.append_toArray]
    exact ⟨rfl, H w hw⟩, hK _ h⟩

theorem run_eqlb (p q : Bool) (w : World) : (binOp .eql 4 (.bool p) (.bool q)).run Try.prog w = .ok (.bool (p == q)) w := by
  cases p <;> cases q <;> kernel_rfl
theorem eqGuard_b (x y : Operand) (p q : Bool) (w : World) : (eqGuard .eql 4 x y (.bool p) (.bool q)).run Try.prog w = .ok () w := by
  simp [eqGuard, go_sem]
theorem run_eqlb_op {o : Oper} {A : Act} (x y : Operand) (t2 : TypeId) (ho : o.op = .binOp .eql 4 x y t2) (p q : Bool) (hx : A.eval x = .bool p) (hy : A.eval y = .bool q) (w : World) :
    (execOp A.eval o).run Try.prog w = .ok (.value (.bool (p == q))) w := by
  unfold execOp
  simp only [ho, hx, hy, Sem.run_bind, eqGuard_b, Result.andThen_ok, run_eqlb, Sem.run_pure]
theorem wq_eql_same {ops : Array Oper} {o : Oper} {rest : List Oper} {a : Act} {C : World → Prop} {Q : Act → Prop} (hw : Region.wanted o (yielded ops a.tmps) = true) (x y : Operand) (t2 : TypeId) (ho : o.op = .binOp .eql 4 x y t2) (p : Bool) (hx : a.eval x = .bool p) (hy : a.eval y = .bool p)
    (h : wpQuiet Try.prog ops C Q rest (a.put o.dst (.bool true))) : wpQuiet Try.prog ops C Q (o :: rest) a :=
  wq_value hw _ (fun w => by rw [run_eqlb_op x y t2 ho p p hx hy w, beq_self_eq_true]) h

set_option maxHeartbeats 3200000 in
theorem turned_any (d a b y : Nat) (hd : d < top) (ha : a < top) (hb : b < top) (hy : y < top) (w : World) : Calls Try.prog 4 #[threeV d a b, idV y] w fun e w' => e = .returned (.bool true) ∧ Gro w w' := by
  have GG : Gro w w := Gro.refl w
  have t1 := addN_lt d y
  have t2 := addN_lt a y
  have t3 := addN_lt b y
  have f1 := farN_lt (addN a y) (addN b y)
  have f2 := farN_lt a b
  obtain ⟨p, hp⟩ : ∃ p, nearN d a b = p := ⟨_, rfl⟩
  obtain ⟨q, hq⟩ : ∃ q, betN a d b = q := ⟨_, rfl⟩
  have hp1 := (near_turned d a b y hd ha hb).trans hp
  have hq1 := (bet_turned a d b y ha hd hb).trans hq
  have hmf : ∀ (fn : Fn) (first cap : Array Value) (w : World), (Instr.makeFunc fn first cap).run Try.prog w = .ok (.func fn first cap) w := fun _ _ _ _ => rfl
  unfold idV threeV
  go_enter Try.func4, Try.ntmps4
  go_wp2_with (first | (with_reducible refine wpList_at ?_; first | (refine wpList_box_d 2 rfl rfl 27 _ rfl _ rfl ?_; intro w1 g1 G1 e1 k1; have b1 := size_base GG e1; replace GG := GG.trans G1; clear G1 e1; (try simp only [Act.put, List.setIfInBounds_toArray, List.set_cons_zero, List.set_cons_succ])) | (refine wpList_box_d 3 rfl rfl 23 _ rfl _ rfl ?_; intro w2 g2 G2 e2 k2; have b2 := size_base GG e2; have d12 := lt_new k1 e2; replace k1 := G2.has k1; replace GG := GG.trans G2; clear G2 e2; (try simp only [Act.put, List.setIfInBounds_toArray, List.set_cons_zero, List.set_cons_succ]))))
  refine wp_region_grow2 12 [(0, 9), (1, 10), (2, 11), (3, 12), (4, 13), (5, 14), (6, 5), (7, 6), (8, 7)] [.val (.pointer (some ⟨g1, 0, none⟩)), .val (.agg (idA d)), .val (.pointer (some ⟨g1, 16, none⟩)), .val (.agg (idA a)), .val (.pointer (some ⟨g1, 32, none⟩)), .val (.agg (idA b)), .new 23 (idA 0) (idA d) 9, .new 23 (idA 0) (idA a) 10, .new 23 (idA 0) (idA b) 11, .put 6, .put 7, .put 8] follows (by kernel_rfl) (by kernel_rfl) rfl
    (opsOK2_cons ?o0 (opsOK2_cons ?o1 (opsOK2_cons ?o2 (opsOK2_cons ?o3 (opsOK2_cons ?o4 (opsOK2_cons ?o5 (opsOK2_cons ?o6 (opsOK2_cons ?o7 (opsOK2_cons ?o8 (opsOK2_cons ?o9 (opsOK2_cons ?o10 (opsOK2_cons ?o11 (opsOK2_nil))))))))))))) ?rest
  case o0 => exact fun _ _ _ hw _ _ => OpOK2.of_val (ok_part27 rfl _ 0 (by omega) rfl g1 rfl)
  case o1 => exact fun _ _ _ hw _ _ => OpOK2.of_val (ok_load rfl 23 _ rfl g1 0 16 rfl 27 (threeA d a b) (0, 0) _ (hw.has k1) Try.underlying23 rfl size23 (by rw [threeA_size]; omega) _ (three_0 d a b))
  case o2 => exact fun _ _ _ hw _ _ => OpOK2.of_val (ok_part27 rfl _ 1 (by omega) rfl g1 rfl)
  case o3 => exact fun _ _ _ hw _ _ => OpOK2.of_val (ok_load rfl 23 _ rfl g1 16 16 rfl 27 (threeA d a b) (0, 0) _ (hw.has k1) Try.underlying23 rfl size23 (by rw [threeA_size]; omega) _ (three_1 d a b))
  case o4 => exact fun _ _ _ hw _ _ => OpOK2.of_val (ok_part27 rfl _ 2 (by omega) rfl g1 rfl)
  case o5 => exact fun _ _ _ hw _ _ => OpOK2.of_val (ok_load rfl 23 _ rfl g1 32 16 rfl 27 (threeA d a b) (0, 0) _ (hw.has k1) Try.underlying23 rfl size23 (by rw [threeA_size]; omega) _ (three_2 d a b))
  case o6 => exact fun _ _ _ hw _ _ => OpOK2.of_new (ok_alloc_id rfl rfl)
  case o7 => exact fun _ _ _ hw _ _ => OpOK2.of_new (ok_alloc_id rfl rfl)
  case o8 => exact fun _ _ _ hw _ _ => OpOK2.of_new (ok_alloc_id rfl rfl)
  case o9 => 
        intro ptrs L w hw hn hL
        obtain ⟨⟨g, p, k, cz⟩, hz⟩ := hn
        have hL' : L 9 = false := hL
        have p' : ptrs 6 = .pointer (some ⟨g, 0, none⟩) := p
        have k' : w.heap[g]? = some (.cells (if L 9 = true then (idA d) else (idA 0)) 23 (0, 0)) := k
        rw [hL'] at k'
        refine ok2_store rfl 23 _ _ rfl g ?_ (idA d) rfl (idA 0) k' (size23' _) (by rw [idA_size, idA_size]) (idA_one _) rfl p' _
        show ptrs 6 = _
        exact p'
  case o10 => 
        intro ptrs L w hw hn hL
        obtain ⟨⟨g, p, k, cz⟩, hz⟩ := hn
        have hL' : L 10 = false := hL
        have p' : ptrs 7 = .pointer (some ⟨g, 0, none⟩) := p
        have k' : w.heap[g]? = some (.cells (if L 10 = true then (idA a) else (idA 0)) 23 (0, 0)) := k
        rw [hL'] at k'
        refine ok2_store rfl 23 _ _ rfl g ?_ (idA a) rfl (idA 0) k' (size23' _) (by rw [idA_size, idA_size]) (idA_one _) rfl p' _
        show ptrs 7 = _
        exact p'
  case o11 => 
        intro ptrs L w hw hn hL
        obtain ⟨⟨g, p, k, cz⟩, hz⟩ := hn
        have hL' : L 11 = false := hL
        have p' : ptrs 8 = .pointer (some ⟨g, 0, none⟩) := p
        have k' : w.heap[g]? = some (.cells (if L 11 = true then (idA b) else (idA 0)) 23 (0, 0)) := k
        rw [hL'] at k'
        refine ok2_store rfl 23 _ _ rfl g ?_ (idA b) rfl (idA 0) k' (size23' _) (by rw [idA_size, idA_size]) (idA_one _) rfl p' _
        show ptrs 8 = _
        exact p'
  intro ptrs L w3 G3 hL hn hap
  obtain ⟨⟨g4, p4, k4, c4⟩, ⟨g5, p5, k5, c5⟩, ⟨g6, p6, k6, c6⟩, hz⟩ := hn
  have hap' : List.Pairwise (fun i j => ptrs i ≠ ptrs j) [6, 7, 8] := hap
  simp [p4, p5, p6] at hap'
  simp only [full, foldSlots, filled2, postAt2, List.foldl_cons, List.foldl_nil, List.getD_cons_zero, List.getD_cons_succ, PostS.fill, PostS.val, PostS.new, PostS.put, List.set_cons_zero, List.set_cons_succ, List.drop_succ_cons, List.drop_zero, p4, p5, p6]
  have k4' : w3.heap[g4]? = some (.cells (idA d) 23 (0, 0)) := by
    have hL' : L 9 = true := by rw [hL]; rfl
    have kk : w3.heap[g4]? = some (.cells (if L 9 = true then (idA d) else (idA 0)) 23 (0, 0)) := k4
    rw [hL'] at kk
    exact kk
  clear k4
  have k4 := k4'
  clear k4'
  have d14 : g1 < g4 := Nat.lt_of_lt_of_le (lt_of_heap k1) c4
  have d24 : g2 < g4 := Nat.lt_of_lt_of_le (lt_of_heap k2) c4
  have b4 : w.heap.size ≤ g4 := Nat.le_trans GG.size c4
  have k5' : w3.heap[g5]? = some (.cells (idA a) 23 (0, 0)) := by
    have hL' : L 10 = true := by rw [hL]; rfl
    have kk : w3.heap[g5]? = some (.cells (if L 10 = true then (idA a) else (idA 0)) 23 (0, 0)) := k5
    rw [hL'] at kk
    exact kk
  clear k5
  have k5 := k5'
  clear k5'
  have d15 : g1 < g5 := Nat.lt_of_lt_of_le (lt_of_heap k1) c5
  have d25 : g2 < g5 := Nat.lt_of_lt_of_le (lt_of_heap k2) c5
  have b5 : w.heap.size ≤ g5 := Nat.le_trans GG.size c5
  have k6' : w3.heap[g6]? = some (.cells (idA b) 23 (0, 0)) := by
    have hL' : L 11 = true := by rw [hL]; rfl
    have kk : w3.heap[g6]? = some (.cells (if L 11 = true then (idA b) else (idA 0)) 23 (0, 0)) := k6
    rw [hL'] at kk
    exact kk
  clear k6
  have k6 := k6'
  clear k6'
  have d16 : g1 < g6 := Nat.lt_of_lt_of_le (lt_of_heap k1) c6
  have d26 : g2 < g6 := Nat.lt_of_lt_of_le (lt_of_heap k2) c6
  have b6 : w.heap.size ≤ g6 := Nat.le_trans GG.size c6
  replace k1 := G3.has k1
  replace k2 := G3.has k2
  replace GG := GG.drew.trans G3
  clear G3 c4 c5 c6
  clear hz hL p4 p5 p6 hap ptrs

  clear k1 hap'
  go_wp2_with fail
  try simp only [Act.put, List.setIfInBounds_toArray, List.set_cons_zero, List.set_cons_succ]
  refine wp_region_gro follows (by kernel_rfl) ?_
  refine wq_call rfl _ 7 Try.call7 rfl rfl _ rfl [] rfl _ (fun _ hw => Calls.gro hw (fixed_any _)) ?_; simp only [Act.put, List.setIfInBounds_toArray, List.set_cons_zero, List.set_cons_succ]
  (go_big_quiet_want; go_big_quiet_op; first | go_big_quiet_on | (refine ⟨_, fun _ _ => rfl, ?_⟩; go_big_quiet_on))
  refine wq_value rfl (.func (.func 9) #[] #[.pointer (some ⟨g2, 0, none⟩)]) (fun w => rfl) ?_; simp only [Act.put, List.setIfInBounds_toArray, List.set_cons_zero, List.set_cons_succ]
  refine wq_load_id rfl _ rfl g4 rfl _ (fun _ hw => Gro.has hw k4) ?_; simp only [Act.put, List.setIfInBounds_toArray, List.set_cons_zero, List.set_cons_succ]
  refine wq_callv rfl _ _ 9 [.pointer (some ⟨g2, 0, none⟩)] Try.call9 rfl rfl rfl _ rfl [.agg (idA d)] rfl _ (fun _ hw => Calls.gro hw (turn_any g2 d y hd hy _ (Gro.has hw k2))) ?_; simp only [Act.put, List.setIfInBounds_toArray, List.set_cons_zero, List.set_cons_succ]
  refine wq_value rfl (.func (.func 9) #[] #[.pointer (some ⟨g2, 0, none⟩)]) (fun w => rfl) ?_; simp only [Act.put, List.setIfInBounds_toArray, List.set_cons_zero, List.set_cons_succ]
  refine wq_load_id rfl _ rfl g5 rfl _ (fun _ hw => Gro.has hw k5) ?_; simp only [Act.put, List.setIfInBounds_toArray, List.set_cons_zero, List.set_cons_succ]
  refine wq_callv rfl _ _ 9 [.pointer (some ⟨g2, 0, none⟩)] Try.call9 rfl rfl rfl _ rfl [.agg (idA a)] rfl _ (fun _ hw => Calls.gro hw (turn_any g2 a y ha hy _ (Gro.has hw k2))) ?_; simp only [Act.put, List.setIfInBounds_toArray, List.set_cons_zero, List.set_cons_succ]
  refine wq_value rfl (.func (.func 9) #[] #[.pointer (some ⟨g2, 0, none⟩)]) (fun w => rfl) ?_; simp only [Act.put, List.setIfInBounds_toArray, List.set_cons_zero, List.set_cons_succ]
  refine wq_load_id rfl _ rfl g6 rfl _ (fun _ hw => Gro.has hw k6) ?_; simp only [Act.put, List.setIfInBounds_toArray, List.set_cons_zero, List.set_cons_succ]
  refine wq_callv rfl _ _ 9 [.pointer (some ⟨g2, 0, none⟩)] Try.call9 rfl rfl rfl _ rfl [.agg (idA b)] rfl _ (fun _ hw => Calls.gro hw (turn_any g2 b y hb hy _ (Gro.has hw k2))) ?_; simp only [Act.put, List.setIfInBounds_toArray, List.set_cons_zero, List.set_cons_succ]
  refine wq_call rfl _ 10 Try.call10 rfl rfl _ rfl [.agg (idA (addN d y)), .agg (idA (addN a y)), .agg (idA (addN b y))] rfl _ (fun _ hw => Calls.gro hw (Calls.bool (nearer_any (addN d y) (addN a y) (addN b y) t1 t2 t3 _) hp1)) ?_; simp only [Act.put, List.setIfInBounds_toArray, List.set_cons_zero, List.set_cons_succ]
  refine wq_load_id rfl _ rfl g4 rfl _ (fun _ hw => Gro.has hw k4) ?_; simp only [Act.put, List.setIfInBounds_toArray, List.set_cons_zero, List.set_cons_succ]
  refine wq_load_id rfl _ rfl g5 rfl _ (fun _ hw => Gro.has hw k5) ?_; simp only [Act.put, List.setIfInBounds_toArray, List.set_cons_zero, List.set_cons_succ]
  refine wq_load_id rfl _ rfl g6 rfl _ (fun _ hw => Gro.has hw k6) ?_; simp only [Act.put, List.setIfInBounds_toArray, List.set_cons_zero, List.set_cons_succ]
  refine wq_call rfl _ 10 Try.call10 rfl rfl _ rfl [.agg (idA d), .agg (idA a), .agg (idA b)] rfl _ (fun _ hw => Calls.gro hw (Calls.bool (nearer_any d a b hd ha hb _) hp)) ?_; simp only [Act.put, List.setIfInBounds_toArray, List.set_cons_zero, List.set_cons_succ]
  refine wq_eql_same rfl _ _ _ rfl _ rfl rfl ?_; simp only [Act.put, List.setIfInBounds_toArray, List.set_cons_zero, List.set_cons_succ]
  (go_big_quiet_want; go_big_quiet_op; first | go_big_quiet_on | (refine ⟨_, fun _ _ => rfl, ?_⟩; go_big_quiet_on))
  (go_big_quiet_want; go_big_quiet_op; first | go_big_quiet_on | (refine ⟨_, fun _ _ => rfl, ?_⟩; go_big_quiet_on))
  refine wq_value rfl (.func (.func 9) #[] #[.pointer (some ⟨g2, 0, none⟩)]) (fun w => rfl) ?_; simp only [Act.put, List.setIfInBounds_toArray, List.set_cons_zero, List.set_cons_succ]
  refine wq_load_id rfl _ rfl g5 rfl _ (fun _ hw => Gro.has hw k5) ?_; simp only [Act.put, List.setIfInBounds_toArray, List.set_cons_zero, List.set_cons_succ]
  refine wq_callv rfl _ _ 9 [.pointer (some ⟨g2, 0, none⟩)] Try.call9 rfl rfl rfl _ rfl [.agg (idA a)] rfl _ (fun _ hw => Calls.gro hw (turn_any g2 a y ha hy _ (Gro.has hw k2))) ?_; simp only [Act.put, List.setIfInBounds_toArray, List.set_cons_zero, List.set_cons_succ]
  refine wq_value rfl (.func (.func 9) #[] #[.pointer (some ⟨g2, 0, none⟩)]) (fun w => rfl) ?_; simp only [Act.put, List.setIfInBounds_toArray, List.set_cons_zero, List.set_cons_succ]
  refine wq_load_id rfl _ rfl g6 rfl _ (fun _ hw => Gro.has hw k6) ?_; simp only [Act.put, List.setIfInBounds_toArray, List.set_cons_zero, List.set_cons_succ]
  refine wq_callv rfl _ _ 9 [.pointer (some ⟨g2, 0, none⟩)] Try.call9 rfl rfl rfl _ rfl [.agg (idA b)] rfl _ (fun _ hw => Calls.gro hw (turn_any g2 b y hb hy _ (Gro.has hw k2))) ?_; simp only [Act.put, List.setIfInBounds_toArray, List.set_cons_zero, List.set_cons_succ]
  refine wq_call rfl _ 8 Try.call8 rfl rfl _ rfl [.agg (idA (addN a y)), .agg (idA (addN b y))] rfl _ (fun _ hw => Calls.gro hw (far_any (addN a y) (addN b y) t2 t3 _)) ?_; simp only [Act.put, List.setIfInBounds_toArray, List.set_cons_zero, List.set_cons_succ]
  refine wq_load_id rfl _ rfl g5 rfl _ (fun _ hw => Gro.has hw k5) ?_; simp only [Act.put, List.setIfInBounds_toArray, List.set_cons_zero, List.set_cons_succ]
  refine wq_load_id rfl _ rfl g6 rfl _ (fun _ hw => Gro.has hw k6) ?_; simp only [Act.put, List.setIfInBounds_toArray, List.set_cons_zero, List.set_cons_succ]
  refine wq_call rfl _ 8 Try.call8 rfl rfl _ rfl [.agg (idA a), .agg (idA b)] rfl _ (fun _ hw => Calls.gro hw (far_any a b ha hb _)) ?_; simp only [Act.put, List.setIfInBounds_toArray, List.set_cons_zero, List.set_cons_succ]
  refine wq_eql_id rfl _ _ _ rfl (farN (addN a y) (addN b y)) (farN a b) rfl rfl f1 f2 _ (decide_eq_true (far_turned a b y ha hb)) ?_; simp only [Act.put, List.setIfInBounds_toArray, List.set_cons_zero, List.set_cons_succ]
  (go_big_quiet_want; go_big_quiet_op; first | go_big_quiet_on | (refine ⟨_, fun _ _ => rfl, ?_⟩; go_big_quiet_on))
  (go_big_quiet_want; go_big_quiet_op; first | go_big_quiet_on | (refine ⟨_, fun _ _ => rfl, ?_⟩; go_big_quiet_on))
  refine wq_value rfl (.func (.func 9) #[] #[.pointer (some ⟨g2, 0, none⟩)]) (fun w => rfl) ?_; simp only [Act.put, List.setIfInBounds_toArray, List.set_cons_zero, List.set_cons_succ]
  refine wq_load_id rfl _ rfl g5 rfl _ (fun _ hw => Gro.has hw k5) ?_; simp only [Act.put, List.setIfInBounds_toArray, List.set_cons_zero, List.set_cons_succ]
  refine wq_callv rfl _ _ 9 [.pointer (some ⟨g2, 0, none⟩)] Try.call9 rfl rfl rfl _ rfl [.agg (idA a)] rfl _ (fun _ hw => Calls.gro hw (turn_any g2 a y ha hy _ (Gro.has hw k2))) ?_; simp only [Act.put, List.setIfInBounds_toArray, List.set_cons_zero, List.set_cons_succ]
  refine wq_value rfl (.func (.func 9) #[] #[.pointer (some ⟨g2, 0, none⟩)]) (fun w => rfl) ?_; simp only [Act.put, List.setIfInBounds_toArray, List.set_cons_zero, List.set_cons_succ]
  refine wq_load_id rfl _ rfl g4 rfl _ (fun _ hw => Gro.has hw k4) ?_; simp only [Act.put, List.setIfInBounds_toArray, List.set_cons_zero, List.set_cons_succ]
  refine wq_callv rfl _ _ 9 [.pointer (some ⟨g2, 0, none⟩)] Try.call9 rfl rfl rfl _ rfl [.agg (idA d)] rfl _ (fun _ hw => Calls.gro hw (turn_any g2 d y hd hy _ (Gro.has hw k2))) ?_; simp only [Act.put, List.setIfInBounds_toArray, List.set_cons_zero, List.set_cons_succ]
  refine wq_value rfl (.func (.func 9) #[] #[.pointer (some ⟨g2, 0, none⟩)]) (fun w => rfl) ?_; simp only [Act.put, List.setIfInBounds_toArray, List.set_cons_zero, List.set_cons_succ]
  refine wq_load_id rfl _ rfl g6 rfl _ (fun _ hw => Gro.has hw k6) ?_; simp only [Act.put, List.setIfInBounds_toArray, List.set_cons_zero, List.set_cons_succ]
  refine wq_callv rfl _ _ 9 [.pointer (some ⟨g2, 0, none⟩)] Try.call9 rfl rfl rfl _ rfl [.agg (idA b)] rfl _ (fun _ hw => Calls.gro hw (turn_any g2 b y hb hy _ (Gro.has hw k2))) ?_; simp only [Act.put, List.setIfInBounds_toArray, List.set_cons_zero, List.set_cons_succ]
  refine wq_call rfl _ 11 Try.call11 rfl rfl _ rfl [.agg (idA (addN a y)), .agg (idA (addN d y)), .agg (idA (addN b y))] rfl _ (fun _ hw => Calls.gro hw (Calls.bool (between_any (addN a y) (addN d y) (addN b y) t2 t1 t3 _) hq1)) ?_; simp only [Act.put, List.setIfInBounds_toArray, List.set_cons_zero, List.set_cons_succ]
  refine wq_load_id rfl _ rfl g5 rfl _ (fun _ hw => Gro.has hw k5) ?_; simp only [Act.put, List.setIfInBounds_toArray, List.set_cons_zero, List.set_cons_succ]
  refine wq_load_id rfl _ rfl g4 rfl _ (fun _ hw => Gro.has hw k4) ?_; simp only [Act.put, List.setIfInBounds_toArray, List.set_cons_zero, List.set_cons_succ]
  refine wq_load_id rfl _ rfl g6 rfl _ (fun _ hw => Gro.has hw k6) ?_; simp only [Act.put, List.setIfInBounds_toArray, List.set_cons_zero, List.set_cons_succ]
  refine wq_call rfl _ 11 Try.call11 rfl rfl _ rfl [.agg (idA a), .agg (idA d), .agg (idA b)] rfl _ (fun _ hw => Calls.gro hw (Calls.bool (between_any a d b ha hd hb _) hq)) ?_; simp only [Act.put, List.setIfInBounds_toArray, List.set_cons_zero, List.set_cons_succ]
  refine wq_eql_same rfl _ _ _ rfl _ rfl rfl ?_; simp only [Act.put, List.setIfInBounds_toArray, List.set_cons_zero, List.set_cons_succ]
  (go_big_quiet_want; go_big_quiet_op; first | go_big_quiet_on | (refine ⟨_, fun _ _ => rfl, ?_⟩; go_big_quiet_on))
  (go_big_quiet_want; go_big_quiet_op; first | go_big_quiet_on | (refine ⟨_, fun _ _ => rfl, ?_⟩; go_big_quiet_on))
  refine wpQuiet_nil ?_
  intro wq Gq0
  have Gq : Gro _ wq := Gq0
  clear Gq0
  replace GG := GG.trans Gq
  clear Gq
  go_wp2
  go_ret
  exact ⟨rfl, GG⟩
end Go.Proofs.Ytaeiphdbdmaapab
