/- Walks. -/
import Derived.Test.YtaeiphdbdmaapaaBase
import Derived.Test.YtaeiphdbdmaapaaW11
import Derived.Test.YtaeiphdbdmaapaaLaw2
namespace Go.Proofs.Ytaeiphdbdmaapaa
open Go.RowKit

def threeA (a b c : Nat) : Array Value := idA a ++ idA b ++ idA c
def threeV (a b c : Nat) : Value := .agg (threeA a b c)
theorem threeA_size (a b c : Nat) : (threeA a b c).size = 48 := by simp [threeA, idA_size]
theorem part_0 (x y z : Array Value) (hx : x.size = 16) : (x ++ y ++ z).extract 0 (0 + 16) = x := by
  simp [hx]
theorem part_1 (x y z : Array Value) (hx : x.size = 16) (hy : y.size = 16) : (x ++ y ++ z).extract 16 (16 + 16) = y := by
  simp [hx, hy]
  have h1 : x.extract 16 16 = #[] := by simp; omega
  have : 16 = y.size := hy.symm
  rw [h1, Array.empty_append, this, Array.extract_size]
theorem part_2 (x y z : Array Value) (hx : x.size = 16) (hy : y.size = 16) (hz : z.size = 16) : (x ++ y ++ z).extract 32 (32 + 16) = z := by
  simp [hx, hy]
  have h1 : x.extract 32 16 = #[] := by simp; omega
  have h2 : y.extract 16 16 = #[] := by simp; omega
  have : 16 = z.size := hz.symm
  rw [h1, h2, Array.empty_append, Array.empty_append, this, Array.extract_size]
theorem three_0 (a b c : Nat) : (threeA a b c).extract 0 (0 + 16) = idA a := part_0 _ _ _ (idA_size a)
theorem three_1 (a b c : Nat) : (threeA a b c).extract 16 (16 + 16) = idA b := part_1 _ _ _ (idA_size a) (idA_size b)
theorem three_2 (a b c : Nat) : (threeA a b c).extract 32 (32 + 16) = idA c := part_2 _ _ _ (idA_size a) (idA_size b) (idA_size c)
/-- The address of a part of a block of arrays. -/
theorem ok_part41 {ops : Array Oper} {o : Oper} {A : Act} {w : World} (hgd : o.guard = none) (x : Operand) (j : Nat) (hj : j < 3) (ho : o.op = .indexAddr 41 x (.const (.int .i64 j))) (g : Nat) (hx : A.eval x = .pointer (some ⟨g, 0, none⟩)) :
    OpOK Try.prog ops (.val (.pointer (some ⟨g, 16 * j, none⟩))) o A w := by
  refine ok_value hgd ?_
  unfold execOp
  match j, hj with
  | 0, _ => 
    have hi : (Instr.indexAt 41 (.pointer (some ⟨g, 0, none⟩)) (.int .i64 ((0 : Nat) : Int))).run Try.prog w = .ok (.pointer (some ⟨g, 16 * 0, none⟩)) w := by kernel_rfl
    simp only [ho, hx, BigFrame.eval_const, Sem.run_bind, hi, Result.andThen_ok, Sem.run_pure]
  | 1, _ => 
    have hi : (Instr.indexAt 41 (.pointer (some ⟨g, 0, none⟩)) (.int .i64 ((1 : Nat) : Int))).run Try.prog w = .ok (.pointer (some ⟨g, 16 * 1, none⟩)) w := by kernel_rfl
    simp only [ho, hx, BigFrame.eval_const, Sem.run_bind, hi, Result.andThen_ok, Sem.run_pure]
  | 2, _ => 
    have hi : (Instr.indexAt 41 (.pointer (some ⟨g, 0, none⟩)) (.int .i64 ((2 : Nat) : Int))).run Try.prog w = .ok (.pointer (some ⟨g, 16 * 2, none⟩)) w := by kernel_rfl
    simp only [ho, hx, BigFrame.eval_const, Sem.run_bind, hi, Result.andThen_ok, Sem.run_pure]

theorem subN_inj (a b d : Nat) (ha : a < top) (hb : b < top) (hd : d < top) (h : subN a d = subN b d) : a = b := by
  unfold subN top at *
  omega
theorem near_irr (d a : Nat) : nearN d a a = false := by simp [nearN]
theorem near_not (d a b : Nat) (ha : a < top) (hb : b < top) (hd : d < top) (hab : a ≠ b) : nearN d b a = !nearN d a b := by
  have h1 := subN_inj a b d ha hb hd
  unfold nearN
  by_cases h2 : farN a d = farN b d
  · have h3 : subN a d ≠ subN b d := fun e => hab (h1 e)
    rw [if_pos h2, if_pos h2.symm]
    by_cases h4 : subN a d < subN b d
    · have h5 : ¬ subN b d < subN a d := by omega
      simp [h4, h5]
    · have h5 : subN b d < subN a d := by omega
      simp [h4, h5]
  · rw [if_neg h2, if_neg (Ne.symm h2)]
    by_cases h4 : farN a d < farN b d
    · have h5 : ¬ farN b d < farN a d := by omega
      simp [h4, h5]
    · have h5 : farN b d < farN a d := by omega
      simp [h4, h5]
theorem near_iff (d a b : Nat) : nearN d a b = true ↔ farN a d < farN b d ∨ (farN a d = farN b d ∧ subN a d < subN b d) := by
  unfold nearN
  split
  · rename_i h; simp [h]
  · rename_i h; simp [h]
theorem near_trans (d a b c : Nat) (h1 : nearN d a b = true) (h2 : nearN d b c = true) : nearN d a c = true := by
  rw [near_iff] at *
  omega

section
variable {ops : Array Oper} {o : Oper} {rest : List Oper} {A : Act} {w : World} {Q : Exit → Act → World → Prop}
theorem wl_load_id (hw : Region.wanted o (yielded ops A.tmps) = true) (x : Operand) (ho : o.op = .load 23 x) (g : Nat) (hx : A.eval x = .pointer (some ⟨g, 0, none⟩)) (n : Nat) (hg : w.heap[g]? = some (.cells (idA n) 23 (0, 0)))
    (h : wpList Try.prog ops Q rest (A.put o.dst (.agg (idA n))) w) : wpList Try.prog ops Q (o :: rest) A w :=
  BigFrame.wpList_want hw fun _ hK => by
    unfold Oper.wp execOp
    simp only [ho, hx, Instr.loadAt, Instr.sureAddr, Sem.run_bind, Sem.run_pure, Result.andThen_ok, run_loadVar_at w g 0 16 23 23 (idA n) (0, 0) _ hg Try.underlying23 rfl size23 (by rw [idA_size]; omega), extract_id]
    exact hK _ _ h
theorem wl_eql_id (hw : Region.wanted o (yielded ops A.tmps) = true) (x y : Operand) (t2 : TypeId) (ho : o.op = .binOp .eql 23 x y t2) (n m : Nat) (hx : A.eval x = .agg (idA n)) (hy : A.eval y = .agg (idA m)) (hn : n < top) (hm : m < top) (p : Bool) (hp : decide (n = m) = p)
    (h : wpList Try.prog ops Q rest (A.put o.dst (.bool p)) w) : wpList Try.prog ops Q (o :: rest) A w :=
  BigFrame.wpList_want hw fun _ hK => by
    unfold Oper.wp
    rw [run_eqlop_id x y t2 ho n m hx hy (.bool p) (fun w => by rw [run_eql_id n m hn hm w, hp])]
    exact hK _ _ h
end

set_option maxHeartbeats 2000000 in
theorem one_any (d a b c : Nat) (hd : d < top) (ha : a < top) (hb : b < top) (hc : c < top) (w : World) : Calls Try.prog 7 #[idV d, threeV a b c] w fun e w' => e = .returned (.bool true) ∧ Gro w w' := by
  have GG : Gro w w := Gro.refl w
  obtain ⟨p, he⟩ : ∃ p, decide (a = b) = p := ⟨_, rfl⟩
  unfold idV threeV
  go_enter Try.func7, Try.ntmps7
  go_wp2_with (first | (with_reducible refine wpList_at ?_; first | (refine wpList_box_d 2 rfl rfl 23 _ rfl _ rfl ?_; intro w1 g1 G1 e1 k1; have b1 := size_base GG e1; replace GG := GG.trans G1; clear G1 e1; (try simp only [Act.put, List.setIfInBounds_toArray, List.set_cons_zero, List.set_cons_succ])) | (refine wpList_box_d 3 rfl rfl 41 _ rfl _ rfl ?_; intro w2 g2 G2 e2 k2; have b2 := size_base GG e2; have d12 := lt_new k1 e2; replace k1 := G2.has k1; replace GG := GG.trans G2; clear G2 e2; (try simp only [Act.put, List.setIfInBounds_toArray, List.set_cons_zero, List.set_cons_succ]))))
  refine wp_region_grow2 12 [(0, 11), (1, 12), (2, 13), (3, 14), (4, 15), (5, 16), (6, 5), (7, 6), (8, 7)] [.val (.pointer (some ⟨g2, 0, none⟩)), .val (.agg (idA a)), .val (.pointer (some ⟨g2, 16, none⟩)), .val (.agg (idA b)), .val (.pointer (some ⟨g2, 32, none⟩)), .val (.agg (idA c)), .new 23 (idA 0) (idA a) 9, .new 23 (idA 0) (idA b) 10, .new 23 (idA 0) (idA c) 11, .put 6, .put 7, .put 8] follows (by kernel_rfl) (by kernel_rfl) rfl
    (opsOK2_cons ?o0 (opsOK2_cons ?o1 (opsOK2_cons ?o2 (opsOK2_cons ?o3 (opsOK2_cons ?o4 (opsOK2_cons ?o5 (opsOK2_cons ?o6 (opsOK2_cons ?o7 (opsOK2_cons ?o8 (opsOK2_cons ?o9 (opsOK2_cons ?o10 (opsOK2_cons ?o11 (opsOK2_nil))))))))))))) ?rest
  case o0 => exact fun _ _ _ hw _ _ => OpOK2.of_val (ok_part41 rfl _ 0 (by omega) rfl g2 rfl)
  case o1 => exact fun _ _ _ hw _ _ => OpOK2.of_val (ok_load rfl 23 _ rfl g2 0 16 rfl 41 (threeA a b c) (0, 0) _ (hw.has k2) Try.underlying23 rfl size23 (by rw [threeA_size]; omega) _ (three_0 a b c))
  case o2 => exact fun _ _ _ hw _ _ => OpOK2.of_val (ok_part41 rfl _ 1 (by omega) rfl g2 rfl)
  case o3 => exact fun _ _ _ hw _ _ => OpOK2.of_val (ok_load rfl 23 _ rfl g2 16 16 rfl 41 (threeA a b c) (0, 0) _ (hw.has k2) Try.underlying23 rfl size23 (by rw [threeA_size]; omega) _ (three_1 a b c))
  case o4 => exact fun _ _ _ hw _ _ => OpOK2.of_val (ok_part41 rfl _ 2 (by omega) rfl g2 rfl)
  case o5 => exact fun _ _ _ hw _ _ => OpOK2.of_val (ok_load rfl 23 _ rfl g2 32 16 rfl 41 (threeA a b c) (0, 0) _ (hw.has k2) Try.underlying23 rfl size23 (by rw [threeA_size]; omega) _ (three_2 a b c))
  case o6 => exact fun _ _ _ hw _ _ => OpOK2.of_new (ok_alloc_id rfl rfl)
  case o7 => exact fun _ _ _ hw _ _ => OpOK2.of_new (ok_alloc_id rfl rfl)
  case o8 => exact fun _ _ _ hw _ _ => OpOK2.of_new (ok_alloc_id rfl rfl)
  case o9 => 
        intro ptrs L w hw hn hL
        obtain ⟨⟨g, p, k, cz⟩, hz⟩ := hn
        have hL' : L 9 = false := hL
        have p' : ptrs 6 = .pointer (some ⟨g, 0, none⟩) := p
        have k' : w.heap[g]? = some (.cells (if L 9 = true then (idA a) else (idA 0)) 23 (0, 0)) := k
        rw [hL'] at k'
        refine ok2_store rfl 23 _ _ rfl g ?_ (idA a) rfl (idA 0) k' (size23' _) (by rw [idA_size, idA_size]) (idA_one _) rfl p' _
        show ptrs 6 = _
        exact p'
  case o10 => 
        intro ptrs L w hw hn hL
        obtain ⟨⟨g, p, k, cz⟩, hz⟩ := hn
        have hL' : L 10 = false := hL
        have p' : ptrs 7 = .pointer (some ⟨g, 0, none⟩) := p
        have k' : w.heap[g]? = some (.cells (if L 10 = true then (idA b) else (idA 0)) 23 (0, 0)) := k
        rw [hL'] at k'
        refine ok2_store rfl 23 _ _ rfl g ?_ (idA b) rfl (idA 0) k' (size23' _) (by rw [idA_size, idA_size]) (idA_one _) rfl p' _
        show ptrs 7 = _
        exact p'
  case o11 => 
        intro ptrs L w hw hn hL
        obtain ⟨⟨g, p, k, cz⟩, hz⟩ := hn
        have hL' : L 11 = false := hL
        have p' : ptrs 8 = .pointer (some ⟨g, 0, none⟩) := p
        have k' : w.heap[g]? = some (.cells (if L 11 = true then (idA c) else (idA 0)) 23 (0, 0)) := k
        rw [hL'] at k'
        refine ok2_store rfl 23 _ _ rfl g ?_ (idA c) rfl (idA 0) k' (size23' _) (by rw [idA_size, idA_size]) (idA_one _) rfl p' _
        show ptrs 8 = _
        exact p'
  intro ptrs L w3 G3 hL hn hap
  obtain ⟨⟨g4, p4, k4, c4⟩, ⟨g5, p5, k5, c5⟩, ⟨g6, p6, k6, c6⟩, hz⟩ := hn
  have hap' : List.Pairwise (fun i j => ptrs i ≠ ptrs j) [6, 7, 8] := hap
  simp [p4, p5, p6] at hap'
  simp only [full, foldSlots, filled2, postAt2, List.foldl_cons, List.foldl_nil, List.getD_cons_zero, List.getD_cons_succ, PostS.fill, PostS.val, PostS.new, PostS.put, List.set_cons_zero, List.set_cons_succ, List.drop_succ_cons, List.drop_zero, p4, p5, p6]
  have k4' : w3.heap[g4]? = some (.cells (idA a) 23 (0, 0)) := by
    have hL' : L 9 = true := by rw [hL]; rfl
    have kk : w3.heap[g4]? = some (.cells (if L 9 = true then (idA a) else (idA 0)) 23 (0, 0)) := k4
    rw [hL'] at kk
    exact kk
  clear k4
  have k4 := k4'
  clear k4'
  have d14 : g1 < g4 := Nat.lt_of_lt_of_le (lt_of_heap k1) c4
  have d24 : g2 < g4 := Nat.lt_of_lt_of_le (lt_of_heap k2) c4
  have b4 : w.heap.size ≤ g4 := Nat.le_trans GG.size c4
  have k5' : w3.heap[g5]? = some (.cells (idA b) 23 (0, 0)) := by
    have hL' : L 10 = true := by rw [hL]; rfl
    have kk : w3.heap[g5]? = some (.cells (if L 10 = true then (idA b) else (idA 0)) 23 (0, 0)) := k5
    rw [hL'] at kk
    exact kk
  clear k5
  have k5 := k5'
  clear k5'
  have d15 : g1 < g5 := Nat.lt_of_lt_of_le (lt_of_heap k1) c5
  have d25 : g2 < g5 := Nat.lt_of_lt_of_le (lt_of_heap k2) c5
  have b5 : w.heap.size ≤ g5 := Nat.le_trans GG.size c5
  have k6' : w3.heap[g6]? = some (.cells (idA c) 23 (0, 0)) := by
    have hL' : L 11 = true := by rw [hL]; rfl
    have kk : w3.heap[g6]? = some (.cells (if L 11 = true then (idA c) else (idA 0)) 23 (0, 0)) := k6
    rw [hL'] at kk
    exact kk
  clear k6
  have k6 := k6'
  clear k6'
  have d16 : g1 < g6 := Nat.lt_of_lt_of_le (lt_of_heap k1) c6
  have d26 : g2 < g6 := Nat.lt_of_lt_of_le (lt_of_heap k2) c6
  have b6 : w.heap.size ≤ g6 := Nat.le_trans GG.size c6
  replace k1 := G3.has k1
  replace k2 := G3.has k2
  replace GG := GG.drew.trans G3
  clear G3 c4 c5 c6
  clear hz hL p4 p5 p6 hap ptrs

  clear k2
  go_wp2_with fail
  refine (fixed_any _).mono ?_
  rintro e wN ⟨rfl, GN⟩
  replace k1 := GN.has k1
  replace k4 := GN.has k4
  replace k5 := GN.has k5
  replace k6 := GN.has k6
  replace GG := GG.trans GN
  clear GN
  
  go_wp2_with (with_reducible refine wpList_at ?_; first | (first | (refine wl_load_id rfl _ rfl g4 rfl _ k4 ?_; (try simp only [Act.put, List.setIfInBounds_toArray, List.set_cons_zero, List.set_cons_succ])) | (refine wl_load_id rfl _ rfl g5 rfl _ k5 ?_; (try simp only [Act.put, List.setIfInBounds_toArray, List.set_cons_zero, List.set_cons_succ])) | (refine wl_load_id rfl _ rfl g6 rfl _ k6 ?_; (try simp only [Act.put, List.setIfInBounds_toArray, List.set_cons_zero, List.set_cons_succ])) | (refine wl_load_id rfl _ rfl g1 rfl _ k1 ?_; (try simp only [Act.put, List.setIfInBounds_toArray, List.set_cons_zero, List.set_cons_succ]))) | (refine wl_eql_id rfl _ _ _ rfl a b rfl rfl ha hb _ he ?_; (try simp only [Act.put, List.setIfInBounds_toArray, List.set_cons_zero, List.set_cons_succ])))
  · clear he
    refine (fixed_any _).mono ?_
    rintro e wN ⟨rfl, GN⟩
    replace k1 := GN.has k1
    replace k4 := GN.has k4
    replace k5 := GN.has k5
    replace k6 := GN.has k6
    replace GG := GG.trans GN
    clear GN
    go_wp2_with (with_reducible refine wpList_at ?_; first | (first | (refine wl_load_id rfl _ rfl g1 rfl _ k1 ?_; (try simp only [Act.put, List.setIfInBounds_toArray, List.set_cons_zero, List.set_cons_succ])) | (refine wl_load_id rfl _ rfl g4 rfl _ k4 ?_; (try simp only [Act.put, List.setIfInBounds_toArray, List.set_cons_zero, List.set_cons_succ]))))
    refine (Calls.bool (nearer_any d a a hd ha ha _) (near_irr d a)).mono ?_
    rintro e wN ⟨rfl, GN⟩
    replace k1 := GN.has k1
    replace k4 := GN.has k4
    replace k5 := GN.has k5
    replace k6 := GN.has k6
    replace GG := GG.trans GN
    clear GN
    
    go_wp2
    go_ret
    exact ⟨rfl, GG⟩
  · have hpf : p = false := by assumption
    have hab : a ≠ b := by rw [hpf] at he; simpa using he
    have h2 := near_not d a b ha hb hd hab
    obtain ⟨x, hx⟩ : ∃ x, nearN d a b = x := ⟨_, rfl⟩
    obtain ⟨y, hy⟩ : ∃ y, nearN d b c = y := ⟨_, rfl⟩
    obtain ⟨z, hz⟩ : ∃ z, nearN d a c = z := ⟨_, rfl⟩
    have h3 : x = true → y = true → z = true := fun h4 h5 => by rw [← hz]; exact near_trans d a b c (hx.trans h4) (hy.trans h5)
    rw [hx] at h2
    try simp only [Act.put, List.setIfInBounds_toArray, List.set_cons_zero, List.set_cons_succ]
    refine wp_region_gro follows (by kernel_rfl) ?_
    refine wq_load_id rfl _ rfl g1 rfl _ (fun _ hw => Gro.has hw k1) ?_; simp only [Act.put, List.setIfInBounds_toArray, List.set_cons_zero, List.set_cons_succ]
    refine wq_load_id rfl _ rfl g4 rfl _ (fun _ hw => Gro.has hw k4) ?_; simp only [Act.put, List.setIfInBounds_toArray, List.set_cons_zero, List.set_cons_succ]
    refine wq_load_id rfl _ rfl g5 rfl _ (fun _ hw => Gro.has hw k5) ?_; simp only [Act.put, List.setIfInBounds_toArray, List.set_cons_zero, List.set_cons_succ]
    refine wq_call rfl _ 18 Try.call18 rfl rfl _ rfl [.agg (idA d), .agg (idA a), .agg (idA b)] rfl _ (fun _ hw => Calls.gro hw (Calls.bool (nearer_any d a b hd ha hb _) hx)) ?_; simp only [Act.put, List.setIfInBounds_toArray, List.set_cons_zero, List.set_cons_succ]
    refine wq_load_id rfl _ rfl g1 rfl _ (fun _ hw => Gro.has hw k1) ?_; simp only [Act.put, List.setIfInBounds_toArray, List.set_cons_zero, List.set_cons_succ]
    refine wq_load_id rfl _ rfl g5 rfl _ (fun _ hw => Gro.has hw k5) ?_; simp only [Act.put, List.setIfInBounds_toArray, List.set_cons_zero, List.set_cons_succ]
    refine wq_load_id rfl _ rfl g6 rfl _ (fun _ hw => Gro.has hw k6) ?_; simp only [Act.put, List.setIfInBounds_toArray, List.set_cons_zero, List.set_cons_succ]
    refine wq_call rfl _ 18 Try.call18 rfl rfl _ rfl [.agg (idA d), .agg (idA b), .agg (idA c)] rfl _ (fun _ hw => Calls.gro hw (Calls.bool (nearer_any d b c hd hb hc _) hy)) ?_; simp only [Act.put, List.setIfInBounds_toArray, List.set_cons_zero, List.set_cons_succ]
    refine wq_load_id rfl _ rfl g1 rfl _ (fun _ hw => Gro.has hw k1) ?_; simp only [Act.put, List.setIfInBounds_toArray, List.set_cons_zero, List.set_cons_succ]
    refine wq_load_id rfl _ rfl g4 rfl _ (fun _ hw => Gro.has hw k4) ?_; simp only [Act.put, List.setIfInBounds_toArray, List.set_cons_zero, List.set_cons_succ]
    refine wq_load_id rfl _ rfl g6 rfl _ (fun _ hw => Gro.has hw k6) ?_; simp only [Act.put, List.setIfInBounds_toArray, List.set_cons_zero, List.set_cons_succ]
    refine wq_call rfl _ 18 Try.call18 rfl rfl _ rfl [.agg (idA d), .agg (idA a), .agg (idA c)] rfl _ (fun _ hw => Calls.gro hw (Calls.bool (nearer_any d a c hd ha hc _) hz)) ?_; simp only [Act.put, List.setIfInBounds_toArray, List.set_cons_zero, List.set_cons_succ]
    (go_big_quiet_want; go_big_quiet_op; first | go_big_quiet_on | (refine ⟨_, fun _ _ => rfl, ?_⟩; go_big_quiet_on))
    (go_big_quiet_want; go_big_quiet_op; first | go_big_quiet_on | (refine ⟨_, fun _ _ => rfl, ?_⟩; go_big_quiet_on))
    (go_big_quiet_want; go_big_quiet_op; first | go_big_quiet_on | (refine ⟨_, fun _ _ => rfl, ?_⟩; go_big_quiet_on))
    refine wpQuiet_nil ?_
    intro wq Gq0
    have Gq : Gro _ wq := Gq0
    clear Gq0
    replace k1 := Gq.has k1
    replace k4 := Gq.has k4
    replace k5 := Gq.has k5
    replace k6 := Gq.has k6
    replace GG := GG.trans Gq
    clear Gq
    have H3 : Hid (x = true → y = true → z = true) := h3
    have H2 : Hid (nearN d b a = !x) := h2
    clear h2 h3 hx hy hz
    cases x
    · go_wp2_with (with_reducible refine wpList_at ?_; first | (first | (refine wl_load_id rfl _ rfl g1 rfl _ k1 ?_; (try simp only [Act.put, List.setIfInBounds_toArray, List.set_cons_zero, List.set_cons_succ])) | (refine wl_load_id rfl _ rfl g4 rfl _ k4 ?_; (try simp only [Act.put, List.setIfInBounds_toArray, List.set_cons_zero, List.set_cons_succ])) | (refine wl_load_id rfl _ rfl g5 rfl _ k5 ?_; (try simp only [Act.put, List.setIfInBounds_toArray, List.set_cons_zero, List.set_cons_succ]))))
      refine (Calls.bool (nearer_any d b a hd hb ha _) H2.out).mono ?_
      rintro e wN ⟨rfl, GN⟩
      replace k1 := GN.has k1
      replace k4 := GN.has k4
      replace k5 := GN.has k5
      replace k6 := GN.has k6
      replace GG := GG.trans GN
      clear GN
      
      go_wp2
      go_ret
      exact ⟨rfl, GG⟩
    · cases y
      · go_wp2_with (with_reducible refine wpList_at ?_; first | (first | (refine wl_load_id rfl _ rfl g1 rfl _ k1 ?_; (try simp only [Act.put, List.setIfInBounds_toArray, List.set_cons_zero, List.set_cons_succ])) | (refine wl_load_id rfl _ rfl g4 rfl _ k4 ?_; (try simp only [Act.put, List.setIfInBounds_toArray, List.set_cons_zero, List.set_cons_succ])) | (refine wl_load_id rfl _ rfl g5 rfl _ k5 ?_; (try simp only [Act.put, List.setIfInBounds_toArray, List.set_cons_zero, List.set_cons_succ]))))
        refine (Calls.bool (nearer_any d b a hd hb ha _) H2.out).mono ?_
        rintro e wN ⟨rfl, GN⟩
        replace k1 := GN.has k1
        replace k4 := GN.has k4
        replace k5 := GN.has k5
        replace k6 := GN.has k6
        replace GG := GG.trans GN
        clear GN
        
        go_wp2
        go_ret
        exact ⟨rfl, GG⟩
      · have := H3.out rfl rfl
        subst this
        go_wp2_with (with_reducible refine wpList_at ?_; first | (first | (refine wl_load_id rfl _ rfl g1 rfl _ k1 ?_; (try simp only [Act.put, List.setIfInBounds_toArray, List.set_cons_zero, List.set_cons_succ])) | (refine wl_load_id rfl _ rfl g4 rfl _ k4 ?_; (try simp only [Act.put, List.setIfInBounds_toArray, List.set_cons_zero, List.set_cons_succ])) | (refine wl_load_id rfl _ rfl g5 rfl _ k5 ?_; (try simp only [Act.put, List.setIfInBounds_toArray, List.set_cons_zero, List.set_cons_succ]))))
        refine (Calls.bool (nearer_any d b a hd hb ha _) H2.out).mono ?_
        rintro e wN ⟨rfl, GN⟩
        replace k1 := GN.has k1
        replace k4 := GN.has k4
        replace k5 := GN.has k5
        replace k6 := GN.has k6
        replace GG := GG.trans GN
        clear GN
        
        go_wp2
        go_ret
        exact ⟨rfl, GG⟩
end Go.Proofs.Ytaeiphdbdmaapaa
