/- What slices.IndexFunc, DeleteFunc and Compact do to a row of identities. -/
import Derived.Test.YtjahegiopigblaaHI8
namespace Go.Proofs.Ytjahegiopigblaa
open Go.RowKit
section
variable {P : Program} {ops : Array Oper} {rest : List Oper} {o : Oper} {T : List Value} {ds : List Deferred} {w : World} {Q : Exit → Act → World → Prop}
theorem run_callFi {A : Act} (c : Call) (f : FuncId) (cb : Array Value) (hen : ∀ args w, (callFunc f args).run P w = .ok (.enter f args) w) (ho : o.op = .call c) (x : Operand) (hc : c.callee = .value x) (hx : A.eval x = .func (.func f) #[] cb) :
    (execOp A.eval o).run P w = .ok (.enter f (c.args.map A.eval ++ cb)) w := by
  unfold execOp
  simp only [ho, resolve, hc, hx]
  simp [go_sem, hen, Deferred.ofValue]
/-- A call of a function value. -/
theorem s_callFi (dst : Nat) (hd : o.dst = some dst) (hgd : o.guard = none) (c : Call) (f : FuncId) (cb : Array Value) (hen : ∀ args w, (callFunc f args).run P w = .ok (.enter f args) w) (ho : o.op = .call c) (x : Operand) (hc : c.callee = .value x) (hx : (⟨T.toArray, ds⟩ : Act).eval x = .func (.func f) #[] cb) (xs : List Operand) (hxs : c.args = xs.toArray) (vs : List Value) (hvs : xs.map (Act.eval ⟨T.toArray, ds⟩) = vs)
    {v : Value} {R : World → Prop} (H : Calls P f (vs.toArray ++ cb) w fun e w' => e = .returned v ∧ R w')
    (h : ∀ w', R w' → wpList P ops Q rest ⟨(T.set dst v).toArray, ds⟩ w') : wpList P ops Q (o :: rest) ⟨T.toArray, ds⟩ w :=
  wpList_plain hgd fun _ hK => by
    unfold Oper.wp
    rw [run_callFi c f cb hen ho x hc hx, hxs, List.map_toArray, hvs, Oper.upon_enter]
    refine H.mono fun e w' hR => ?_
    obtain ⟨rfl, hR⟩ := hR
    have := h w' hR
    rw [← put_list, ← hd] at this
    exact hK _ _ this
end
section
variable {o : Oper} {A : Act} {w : World} {ao : Option Addr} {cap n : Nat} {l : List Nat}
theorem run_ixN (h : RC w ao cap l) (hn : l.length = n) (x y : Operand) (ho : o.op = .indexAddr 24 x y) (hx : A.eval x = .slice ao n cap) (j : Nat) (hy : A.eval y = .int .i64 (j : Int)) (hj : j < n) :
    (execOp A.eval o).run Try.prog w = .ok (.value (.pointer (pA ao j))) w := by
  subst hn
  exact run_ixI h x y ho hx j hy hj
end
theorem run_mkFi {P : Program} {o : Oper} {A : Act} {w : World} (f : FuncId) (x : Operand) (ho : o.op = .makeFunc (.func f) #[] #[x]) (v : Value) (hx : A.eval x = v) : (execOp A.eval o).run P w = .ok (.value (.func (.func f) #[] #[v])) w := by
  unfold execOp
  simp only [ho, List.map_toArray, List.map_cons, List.map_nil, hx]
  rfl
section
variable {P : Program} {o : Oper} {A : Act} {t e : TypeId} {sz b : Nat} {z : Value}
theorem run_cut0X (T : RowT P t e sz b z) (x z : Operand) (ho : o.op = .slice t x none (some z) none) (ao : Option Addr) (n cap j : Nat) (hx : A.eval x = .slice ao n cap) (hz : A.eval z = .int .i64 (j : Int)) (hj : j ≤ cap) (w : World) :
    (execOp A.eval o).run P w = .ok (.value (.slice ao j cap)) w := by
  have h : (Instr.slice t (.slice ao n cap) none (some (.int .i64 (j : Int))) none).run P w = .ok (.slice ao j cap) w := by
    simp only [Instr.slice, Sem.run_bind, run_underlying T.und, Result.andThen_ok, Instr.sliceBounds, Instr.sliceBound, asIntOf, Sem.run_pure, run_sizeX T]
    have h3 : (0 : Int) ≤ (j : Int) ∧ (j : Int) ≤ (cap : Int) := by omega
    simp [h3]
    intro _
    cases ao <;> simp [add_zero]
  unfold execOp
  simp only [ho, hx, hz, Option.map_some, Option.map_none, Sem.run_bind, sliceAtX_run T, h, Result.andThen_ok, Sem.run_pure]
end
theorem take_set (Z : List Nat) (i v : Nat) (hi : i < Z.length) : (Z.set i v).take (i + 1) = Z.take i ++ [v] := by
  rw [List.set_eq_take_append_cons_drop, if_pos hi, List.take_append, List.length_take, Nat.min_eq_left (by omega)]
  simp [List.take_take]
theorem drop_set (Z : List Nat) (i v j : Nat) (hij : i < j) : (Z.set i v).drop j = Z.drop j := List.drop_set_of_lt hij
theorem all_set {Z : List Nat} (h : All Z) {i v : Nat} (hv : v < top) : All (Z.set i v) := fun x hx => (List.mem_or_eq_of_mem_set hx).elim (h x) (fun e => e ▸ hv)
theorem getD_drop (Z l : List Nat) (j q : Nat) (h : Z.drop j = l.drop j) (hq : j ≤ q) : Z.getD q 0 = l.getD q 0 := by
  have := congrArg (fun L => L[q - j]?) h
  simp only [List.getElem?_drop] at this
  rw [show j + (q - j) = q by omega] at this
  rw [List.getD_eq_getElem?_getD, List.getD_eq_getElem?_getD, this]
theorem drop_step (Z l : List Nat) (j : Nat) (h : Z.drop j = l.drop j) : Z.drop (j + 1) = l.drop (j + 1) := by
  rw [← List.drop_drop, ← List.drop_drop, h]
theorem drop_le {Z l : List Nat} {i j : Nat} (h : Z.drop i = l.drop i) (hij : i ≤ j) : Z.drop j = l.drop j := by
  obtain ⟨k, rfl⟩ : ∃ k, j = i + k := ⟨j - i, by omega⟩
  rw [← List.drop_drop, ← List.drop_drop, h]
/-- Those that are left. -/
def fil (wo : Nat) (l : List Nat) : List Nat := l.filter fun x => !decide (x = wo)
theorem fil_stepi (wo : Nat) (l : List Nat) (j : Nat) (hj : j < l.length) : fil wo (l.take (j + 1)) = fil wo (l.take j) ++ if l.getD j 0 = wo then [] else [l.getD j 0] := by
  have hg : l.getD j 0 = l[j] := by simp [List.getD_eq_getElem?_getD, hj]
  unfold fil
  rw [List.take_add_one, List.getElem?_eq_getElem hj, Option.toList_some, List.filter_append, hg]
  by_cases e : l[j] = wo
  · simp [e]
  · simp [e]
theorem fil_len (wo : Nat) (l : List Nat) (j : Nat) : (fil wo (l.take j)).length ≤ j := Nat.le_trans (List.length_filter_le _ _) (by rw [List.length_take]; omega)
theorem fil_first (wo : Nat) (l : List Nat) : ∀ i, i ≤ l.length → (∀ k, k < i → l.getD k 0 ≠ wo) → fil wo (l.take i) = l.take i
  | 0, _, _ => by simp [fil]
  | i + 1, hi, h => by
    rw [fil_stepi wo l i (by omega), fil_first wo l i (by omega) (fun k hk => h k (by omega)), if_neg (h i (by omega)), List.take_add_one, List.getElem?_eq_getElem (by omega)]
    simp [List.getD_eq_getElem?_getD, show i < l.length by omega]
theorem fil_none {wo : Nat} {l : List Nat} (h : wo ∉ l) : fil wo l = l := List.filter_eq_self.2 fun x hx => by
  have : x ≠ wo := fun e => h (e ▸ hx)
  simp [this]
set_option maxRecDepth 100000 in
set_option maxHeartbeats 4000000 in
theorem pred_any (w : World) (x wo h : Nat) (hx : x < top) (hwo : wo < top) (kh : w.heap[h]? = some (.cells (idA wo) 23 (0, 0))) : Calls Try.prog 57 #[.agg (idA x), .pointer (some ⟨h, 0, none⟩)] w (fun e w' => e = .returned (.bool (decide (x = wo))) ∧ Gro w w') := by
  refine s_enter Try.func57 rfl Try.ntmps57 [.agg (idA x), .pointer (some ⟨h, 0, none⟩)] [.agg (idA x), .pointer (some ⟨h, 0, none⟩), undef, undef, undef, undef, undef] rfl ?_
  have GG := Gro.refl w
  refine wp_seq ?_
  refine wp_region_lit ?_
  refine s_box 2 rfl rfl 23 _ rfl _ rfl (idA x) rfl ?_
  intro w1 g1 G eg1 kg1
  have bg1 := size_base GG eg1
  have dhg1 := lt_new kh eg1
  replace kh := G.has kh
  replace GG := GG.trans G
  clear G
  clear eg1
  refine nr ?_; intro U h; simp only [z0, z1] at h; subst h
  refine s_val 3 rfl rfl (.bool false) (rfl) ?_
  refine nr ?_; intro U h; simp only [z0, z1] at h; subst h
  refine wpList_nil ?_
  refine then_n ?_
  refine wp_seq ?_
  refine wp_region_lit ?_
  refine s_val 4 rfl rfl (.agg (idA x)) (run_ldB _ rfl g1 _ rfl (kg1)) ?_
  refine nr ?_; intro U h; simp only [z0, z1] at h; subst h
  refine s_val 5 rfl rfl (.agg (idA wo)) (run_ldB _ rfl h _ rfl (kh)) ?_
  refine nr ?_; intro U h; simp only [z0, z1] at h; subst h
  cases hq : decide (x = wo)
  · refine s_val 6 rfl rfl (.bool false) (run_eqIi _ _ _ rfl _ _ rfl rfl hx hwo false hq) ?_
    refine nr ?_; intro U h; simp only [z0, z1] at h; subst h
    refine s_val 3 rfl rfl (.bool false) (rfl) ?_
    refine nr ?_; intro U h; simp only [z0, z1] at h; subst h
    refine wpList_nil ?_
    refine then_n ?_
    refine wp_ret ?_
    refine bodyPost_ret (results_tmp Try.results57 _ _ _) rfl ?_
    exact ⟨rfl, GG⟩
  · refine s_val 6 rfl rfl (.bool true) (run_eqIi _ _ _ rfl _ _ rfl rfl hx hwo true hq) ?_
    refine nr ?_; intro U h; simp only [z0, z1] at h; subst h
    refine s_val 3 rfl rfl (.bool true) (rfl) ?_
    refine nr ?_; intro U h; simp only [z0, z1] at h; subst h
    refine wpList_nil ?_
    refine then_n ?_
    refine wp_ret ?_
    refine bodyPost_ret (results_tmp Try.results57 _ _ _) rfl ?_
    exact ⟨rfl, GG⟩
set_option maxRecDepth 100000 in
set_option maxHeartbeats 4000000 in
theorem indexf_any (w : World) (ao : Option Addr) (cap : Nat) (l : List Nat) (H : RC w ao cap l) (hl : l.length ≤ 1000000) (wo h : Nat) (hwo : wo < top) (kh : w.heap[h]? = some (.cells (idA wo) 23 (0, 0))) : Calls Try.prog 46 #[.slice ao l.length cap, .func (.func 57) #[] #[.pointer (some ⟨h, 0, none⟩)]] w (fun e w' => ∃ r : Int, e = .returned (.int .i64 r) ∧ Gro w w' ∧ ((r = -1 ∧ wo ∉ l) ∨ ∃ i : Nat, r = (i : Int) ∧ i < l.length ∧ l.getD i 0 = wo ∧ ∀ k, k < i → l.getD k 0 ≠ wo)) := by
  refine s_enter Try.func46 rfl Try.ntmps46 [.slice ao l.length cap, .func (.func 57) #[] #[.pointer (some ⟨h, 0, none⟩)]] [.slice ao l.length cap, .func (.func 57) #[] #[.pointer (some ⟨h, 0, none⟩)], undef, undef, undef, undef, undef, undef, undef, undef, undef, undef, undef, undef, undef, undef, undef, undef, undef] rfl ?_
  have GG := Gro.refl w
  refine wp_seq ?_
  refine wp_region_lit ?_
  refine s_val 4 rfl rfl (.int .i64 0) (rfl) ?_
  refine nr ?_; intro U h; simp only [z0, z1] at h; subst h
  refine wpList_nil ?_
  refine then_n ?_
  refine wp_seq ?_
  refine wp_seq ?_
  refine wp_region_lit ?_
  refine s_val 6 rfl rfl (.slice ao l.length cap) (rfl) ?_
  refine nr ?_; intro U h; simp only [z0, z1] at h; subst h
  refine s_val 7 rfl rfl (.int .i64 ((l.length : Nat) : Int)) (run_len Try.underlying24 _ rfl _ _ _ rfl _) ?_
  refine nr ?_; intro U h; simp only [z0, z1] at h; subst h
  refine s_val 8 rfl rfl (.int .i64 0) (rfl) ?_
  refine nr ?_; intro U h; simp only [z0, z1] at h; subst h
  refine wpList_nil ?_
  refine then_n ?_
  refine wp_block ?_
  refine wp_loopN (fun mz az wv => ∃ (j : Nat) (us1 : Nat → Value), mz = l.length - j ∧ az = ⟨[.slice ao l.length cap, .func (.func 57) #[] #[.pointer (some ⟨h, 0, none⟩)], undef, undef, us1 0, us1 1, .slice ao l.length cap, .int .i64 ((l.length : Nat) : Int), .int .i64 ((j : Nat) : Int), us1 2, us1 3, us1 4, us1 5, us1 6, us1 7, us1 8, us1 9, us1 10, us1 11].toArray, []⟩ ∧ j ≤ l.length ∧ (∀ i, i < j → l.getD i 0 ≠ wo) ∧ Gro w wv ∧ wv.heap[h]? = some (.cells (idA wo) 23 (0, 0))) ?_ _ ⟨0, (fun kz => ([.int .i64 0, undef, undef, undef, undef, undef, undef, undef, undef, undef, undef, undef] : List Value).getD kz undef), rfl, rfl, Nat.zero_le _, (fun i hi => absurd hi (Nat.not_lt_zero i)), GG, kh⟩
  clear GG kh
  rintro mz az wv ⟨j, us1, rfl, rfl, hj, hnot, GG, kh⟩
  refine wp_seq ?_
  refine wp_region_lit ?_
  cases hj1 : decide (((j : Nat) : Int) < ((l.length : Nat) : Int))
  · have hje : j = l.length := by have := of_decide_eq_false hj1; omega
    refine s_val 9 rfl rfl (.bool false) (run_lssT 3 _ _ _ rfl ((j : Nat) : Int) ((l.length : Nat) : Int) rfl rfl false hj1 _) ?_
    refine nr ?_; intro U h; simp only [z0, z1] at h; subst h
    refine wpList_nil ?_
    refine then_n ?_
    refine wp_seq ?_
    refine wp_cond_false rfl ?_
    refine wp_exit ?_
    refine then_x ?_
    refine then_x ?_
    refine blk_x ?_
    refine then_n ?_
    refine wp_seq ?_
    refine wp_region_lit ?_
    refine s_val 4 rfl rfl (.int .i64 (-1)) (rfl) ?_
    refine nr ?_; intro U h; simp only [z0, z1] at h; subst h
    refine wpList_nil ?_
    refine then_n ?_
    refine wp_ret ?_
    refine bodyPost_ret (results_tmp Try.results46 _ _ _) rfl ?_
    subst hje
    exact ⟨_, rfl, GG, .inl ⟨rfl, not_mem_of hnot⟩⟩
  · have hjl : j < l.length := by have := of_decide_eq_true hj1; omega
    refine s_val 9 rfl rfl (.bool true) (run_lssT 3 _ _ _ rfl ((j : Nat) : Int) ((l.length : Nat) : Int) rfl rfl true hj1 _) ?_
    refine nr ?_; intro U h; simp only [z0, z1] at h; subst h
    refine wpList_nil ?_
    refine then_n ?_
    refine wp_seq ?_
    refine wp_cond_true rfl ?_
    refine wp_skip ?_
    refine then_n ?_
    refine wp_seq ?_
    refine wp_block ?_
    refine wp_seq ?_
    refine wp_region_lit ?_
    refine s_val 10 rfl rfl (.int .i64 ((j : Nat) : Int)) (rfl) ?_
    refine nr ?_; intro U h; simp only [z0, z1] at h; subst h
    refine s_val 5 rfl rfl (.int .i64 ((j : Nat) : Int)) (rfl) ?_
    refine nr ?_; intro U h; simp only [z0, z1] at h; subst h
    refine wpList_nil ?_
    refine then_n ?_
    refine wp_seq ?_
    refine wp_region_lit ?_
    refine s_val 11 rfl rfl (.func (.func 57) #[] #[.pointer (some ⟨h, 0, none⟩)]) (rfl) ?_
    refine nr ?_; intro U h; simp only [z0, z1] at h; subst h
    refine s_val 12 rfl rfl (.slice ao l.length cap) (rfl) ?_
    refine nr ?_; intro U h; simp only [z0, z1] at h; subst h
    refine s_val 13 rfl rfl (.int .i64 ((j : Nat) : Int)) (rfl) ?_
    refine nr ?_; intro U h; simp only [z0, z1] at h; subst h
    refine s_val 14 rfl rfl (.pointer (pA ao j)) (run_ixI (H.gro GG) _ _ rfl rfl j rfl hjl) ?_
    refine nr ?_; intro U h; simp only [z0, z1] at h; subst h
    refine s_val 15 rfl rfl (.agg (idA (l.getD j 0))) (run_ldI (H.gro GG) _ rfl j rfl hjl) ?_
    refine nr ?_; intro U h; simp only [z0, z1] at h; subst h
    cases hq : decide ((l.getD j 0) = wo)
    · refine s_callFi 16 rfl rfl _ 57 #[.pointer (some ⟨h, 0, none⟩)] Try.call57 rfl _ rfl rfl _ rfl [.agg (idA (l.getD j 0))] rfl (Calls.boolW (pred_any _ (l.getD j 0) wo h (H.at hjl) hwo kh) hq) ?_
      intro w1 G
      replace kh := G.has kh
      replace GG := GG.trans G
      clear G
      refine nr ?_; intro U h; simp only [z0, z1] at h; subst h
      refine wpList_nil ?_
      refine then_n ?_
      refine wp_cond_false rfl ?_
      refine wp_skip ?_
      refine blk_n ?_
      refine then_n ?_
      refine wp_region_lit ?_
      refine s_val 18 rfl rfl (.int .i64 ((j + 1 : Nat) : Int)) (run_addIi 3 _ _ _ rfl ((j : Nat) : Int) 1 ((j + 1 : Nat) : Int) rfl rfl (by omega) (by omega) (by omega) _) ?_
      refine nr ?_; intro U h; simp only [z0, z1] at h; subst h
      refine s_val 8 rfl rfl (.int .i64 ((j + 1 : Nat) : Int)) (rfl) ?_
      refine nr ?_; intro U h; simp only [z0, z1] at h; subst h
      refine wpList_nil ?_
      refine then_n ?_
      exact ⟨_, (by omega : l.length - (j + 1) < l.length - j), j + 1, (fun kz => ([us1 0, .int .i64 ((j : Nat) : Int), .bool true, .int .i64 ((j : Nat) : Int), .func (.func 57) #[] #[.pointer (some ⟨h, 0, none⟩)], .slice ao l.length cap, .int .i64 ((j : Nat) : Int), .pointer (pA ao j), .agg (idA (l.getD j 0)), .bool false, us1 10, .int .i64 ((j + 1 : Nat) : Int)] : List Value).getD kz undef), rfl, rfl, hjl, (upto_succ hnot (of_decide_eq_false hq)), GG, kh⟩
    · refine s_callFi 16 rfl rfl _ 57 #[.pointer (some ⟨h, 0, none⟩)] Try.call57 rfl _ rfl rfl _ rfl [.agg (idA (l.getD j 0))] rfl (Calls.boolW (pred_any _ (l.getD j 0) wo h (H.at hjl) hwo kh) hq) ?_
      intro w1 G
      replace kh := G.has kh
      replace GG := GG.trans G
      clear G
      refine nr ?_; intro U h; simp only [z0, z1] at h; subst h
      refine wpList_nil ?_
      refine then_n ?_
      refine wp_cond_true rfl ?_
      refine wp_seq ?_
      refine wp_region_lit ?_
      refine s_val 17 rfl rfl (.int .i64 ((j : Nat) : Int)) (rfl) ?_
      refine nr ?_; intro U h; simp only [z0, z1] at h; subst h
      refine s_val 4 rfl rfl (.int .i64 ((j : Nat) : Int)) (rfl) ?_
      refine nr ?_; intro U h; simp only [z0, z1] at h; subst h
      refine wpList_nil ?_
      refine then_n ?_
      refine wp_ret ?_
      refine blk_r ?_
      refine then_r ?_
      refine then_r ?_
      refine blk_r ?_
      refine then_r ?_
      refine bodyPost_ret (results_tmp Try.results46 _ _ _) rfl ?_
      exact ⟨_, rfl, GG, .inr ⟨j, rfl, hjl, of_decide_eq_true hq, hnot⟩⟩
/-- A row that is the first part of a block. -/
def BlkP (w : World) (g cap : Nat) (K : List Nat) (N : Nat) (e : Ending) (w' : World) : Prop := ∃ Z i, e = .returned (.slice (some ⟨g, 0, none⟩) i cap) ∧ GroS [g] w w' ∧ w'.heap[g]? = some (.cells (fl Z).toArray 23 (0, 0)) ∧ i ≤ Z.length ∧ i ≤ cap ∧ Z.take i = K ∧ All Z ∧ Z.length = N
set_option maxRecDepth 100000 in
set_option maxHeartbeats 4000000 in
theorem delete_any (w : World) (g h wo : Nat) (l : List Nat) (hl : l.length ≤ 1000000) (hwo : wo < top) (hhg : h ≠ g) (hal : All l) (kh : w.heap[h]? = some (.cells (idA wo) 23 (0, 0))) (kg : w.heap[g]? = some (.cells (fl l).toArray 23 (0, 0))) : Calls Try.prog 56 #[.slice (some ⟨g, 0, none⟩) l.length l.length, .func (.func 57) #[] #[.pointer (some ⟨h, 0, none⟩)]] w (BlkP w g l.length (fil wo l) l.length) := by
  refine s_enter Try.func56 rfl Try.ntmps56 [.slice (some ⟨g, 0, none⟩) l.length l.length, .func (.func 57) #[] #[.pointer (some ⟨h, 0, none⟩)]] [.slice (some ⟨g, 0, none⟩) l.length l.length, .func (.func 57) #[] #[.pointer (some ⟨h, 0, none⟩)], undef, undef, undef, undef, undef, undef, undef, undef, undef, undef, undef, undef, undef, undef, undef, undef, undef, undef, undef, undef, undef, undef, undef, undef, undef, undef, undef, undef, undef, undef, undef, undef, undef, undef, undef, undef, undef, undef, undef, undef] rfl ?_
  have GG := GroS.refl [g] w
  refine wp_seq ?_
  refine wp_region_lit ?_
  refine s_val 4 rfl rfl (.slice none 0 0) (rfl) ?_
  refine nr ?_; intro U h; simp only [z0, z1] at h; subst h
  refine wpList_nil ?_
  refine then_n ?_
  refine wp_seq ?_
  refine wp_region_lit ?_
  refine s_val 8 rfl rfl (.slice (some ⟨g, 0, none⟩) l.length l.length) (rfl) ?_
  refine nr ?_; intro U h; simp only [z0, z1] at h; subst h
  refine s_val 9 rfl rfl (.func (.func 57) #[] #[.pointer (some ⟨h, 0, none⟩)]) (rfl) ?_
  refine nr ?_; intro U h; simp only [z0, z1] at h; subst h
  refine s_callx 10 rfl rfl _ 46 Try.call46 rfl rfl _ rfl [.slice (some ⟨g, 0, none⟩) l.length l.length, .func (.func 57) #[] #[.pointer (some ⟨h, 0, none⟩)]] rfl (indexf_any _ _ _ l (RC.all_blk kg hal (Nat.le_refl _)) hl wo h hwo kh) (fun _ _ ⟨_, he, _⟩ => ⟨_, he⟩) ?_
  rintro v w1 ⟨r, he, G, hr⟩
  cases he
  replace kh := G.has kh
  replace kg := G.has kg
  replace GG := GG.tg G
  clear G
  rcases hr with ⟨rfl, hno⟩ | ⟨i0, rfl, hi0, hio, hin⟩
  · refine nr ?_; intro U h; simp only [z0, z1] at h; subst h
    refine s_val 5 rfl rfl (.int .i64 (-1)) (rfl) ?_
    refine nr ?_; intro U h; simp only [z0, z1] at h; subst h
    refine wpList_nil ?_
    refine then_n ?_
    refine wp_seq ?_
    refine wp_seq ?_
    refine wp_region_lit ?_
    refine s_val 11 rfl rfl (.int .i64 (-1)) (rfl) ?_
    refine nr ?_; intro U h; simp only [z0, z1] at h; subst h
    refine s_val 12 rfl rfl (.bool true) (run_eq_k 3 .i64 _ _ _ rfl Try.underlying3 (-1) (-1) rfl rfl true rfl _) ?_
    refine nr ?_; intro U h; simp only [z0, z1] at h; subst h
    refine wpList_nil ?_
    refine then_n ?_
    refine wp_cond_true rfl ?_
    refine wp_seq ?_
    refine wp_region_lit ?_
    refine s_val 13 rfl rfl (.slice (some ⟨g, 0, none⟩) l.length l.length) (rfl) ?_
    refine nr ?_; intro U h; simp only [z0, z1] at h; subst h
    refine s_val 4 rfl rfl (.slice (some ⟨g, 0, none⟩) l.length l.length) (rfl) ?_
    refine nr ?_; intro U h; simp only [z0, z1] at h; subst h
    refine wpList_nil ?_
    refine then_n ?_
    refine wp_ret ?_
    refine then_r ?_
    refine bodyPost_ret (results_tmp Try.results56 _ _ _) rfl ?_
    exact ⟨l, l.length, rfl, GG, kg, Nat.le_refl _, Nat.le_refl _, by rw [List.take_length, fil_none hno], hal, rfl⟩
  · refine nr ?_; intro U h; simp only [z0, z1] at h; subst h
    refine s_val 5 rfl rfl (.int .i64 ((i0 : Nat) : Int)) (rfl) ?_
    refine nr ?_; intro U h; simp only [z0, z1] at h; subst h
    refine wpList_nil ?_
    refine then_n ?_
    refine wp_seq ?_
    refine wp_seq ?_
    refine wp_region_lit ?_
    refine s_val 11 rfl rfl (.int .i64 ((i0 : Nat) : Int)) (rfl) ?_
    refine nr ?_; intro U h; simp only [z0, z1] at h; subst h
    refine s_val 12 rfl rfl (.bool false) (run_eq_k 3 .i64 _ _ _ rfl Try.underlying3 ((i0 : Nat) : Int) (-1) rfl rfl false (decide_eq_false (by omega)) _) ?_
    refine nr ?_; intro U h; simp only [z0, z1] at h; subst h
    refine wpList_nil ?_
    refine then_n ?_
    refine wp_cond_false rfl ?_
    refine wp_skip ?_
    refine then_n ?_
    refine wp_seq ?_
    refine wp_seq ?_
    refine wp_region_lit ?_
    refine s_val 14 rfl rfl (.int .i64 ((i0 : Nat) : Int)) (rfl) ?_
    refine nr ?_; intro U h; simp only [z0, z1] at h; subst h
    refine s_val 15 rfl rfl (.int .i64 ((i0 + 1 : Nat) : Int)) (run_addIi 3 _ _ _ rfl ((i0 : Nat) : Int) 1 ((i0 + 1 : Nat) : Int) rfl rfl (by omega) (by omega) (by omega) _) ?_
    refine nr ?_; intro U h; simp only [z0, z1] at h; subst h
    refine s_val 6 rfl rfl (.int .i64 ((i0 + 1 : Nat) : Int)) (rfl) ?_
    refine nr ?_; intro U h; simp only [z0, z1] at h; subst h
    refine wpList_nil ?_
    refine then_n ?_
    refine wp_block ?_
    have hf0 : fil wo (l.take (i0 + 1)) = l.take i0 := by rw [fil_stepi wo l i0 hi0, if_pos hio, List.append_nil]; exact fil_first wo l i0 (by omega) hin
    refine wp_loopN (fun mz az wv => ∃ (j : Nat) (i : Nat) (Z : List Nat) (us1 : Nat → Value), mz = l.length - j ∧ az = ⟨[.slice (some ⟨g, 0, none⟩) l.length l.length, .func (.func 57) #[] #[.pointer (some ⟨h, 0, none⟩)], undef, undef, .slice none 0 0, .int .i64 ((i : Nat) : Int), .int .i64 ((j : Nat) : Int), us1 0, .slice (some ⟨g, 0, none⟩) l.length l.length, .func (.func 57) #[] #[.pointer (some ⟨h, 0, none⟩)], .int .i64 ((i0 : Nat) : Int), .int .i64 ((i0 : Nat) : Int), .bool false, undef, .int .i64 ((i0 : Nat) : Int), .int .i64 ((i0 + 1 : Nat) : Int), us1 1, us1 2, us1 3, us1 4, us1 5, us1 6, us1 7, us1 8, us1 9, us1 10, us1 11, us1 12, us1 13, us1 14, us1 15, us1 16, us1 17, us1 18, us1 19, us1 20, undef, undef, undef, undef, undef, undef].toArray, []⟩ ∧ j ≤ l.length ∧ i = (fil wo (l.take j)).length ∧ Z.length = l.length ∧ Z.take i = fil wo (l.take j) ∧ Z.drop j = l.drop j ∧ All Z ∧ GroS [g] w wv ∧ wv.heap[h]? = some (.cells (idA wo) 23 (0, 0)) ∧ wv.heap[g]? = some (.cells (fl Z).toArray 23 (0, 0))) ?_ _ ⟨i0 + 1, i0, l, (fun kz => ([undef, undef, undef, undef, undef, undef, undef, undef, undef, undef, undef, undef, undef, undef, undef, undef, undef, undef, undef, undef, undef] : List Value).getD kz undef), rfl, rfl, hi0, (by rw [hf0, List.length_take]; omega), rfl, hf0.symm, rfl, hal, GG, kh, kg⟩
    clear GG kh kg
    rintro mz az wv ⟨j, i, Z, us1, rfl, rfl, hj, hi, hZl, hZt, hZd, HZ, GG, kh, kg⟩
    have hij := fil_len wo l j
    refine wp_seq ?_
    refine wp_seq ?_
    refine wp_region_lit ?_
    refine s_val 16 rfl rfl (.int .i64 ((j : Nat) : Int)) (rfl) ?_
    refine nr ?_; intro U h; simp only [z0, z1] at h; subst h
    refine s_val 17 rfl rfl (.slice (some ⟨g, 0, none⟩) l.length l.length) (rfl) ?_
    refine nr ?_; intro U h; simp only [z0, z1] at h; subst h
    refine s_val 18 rfl rfl (.int .i64 ((l.length : Nat) : Int)) (run_len Try.underlying24 _ rfl _ _ _ rfl _) ?_
    refine nr ?_; intro U h; simp only [z0, z1] at h; subst h
    cases hj1 : decide (((j : Nat) : Int) < ((l.length : Nat) : Int))
    · have hje : j = l.length := by have := of_decide_eq_false hj1; omega
      refine s_val 19 rfl rfl (.bool false) (run_lssT 3 _ _ _ rfl ((j : Nat) : Int) ((l.length : Nat) : Int) rfl rfl false hj1 _) ?_
      refine nr ?_; intro U h; simp only [z0, z1] at h; subst h
      refine wpList_nil ?_
      refine then_n ?_
      refine wp_cond_false rfl ?_
      refine wp_exit ?_
      refine then_x ?_
      refine then_x ?_
      refine blk_x ?_
      refine then_n ?_
      refine wp_seq ?_
      refine wp_region_lit ?_
      refine s_val 36 rfl rfl (.slice (some ⟨g, 0, none⟩) l.length l.length) (rfl) ?_
      refine nr ?_; intro U h; simp only [z0, z1] at h; subst h
      refine s_val 37 rfl rfl (.int .i64 ((i : Nat) : Int)) (rfl) ?_
      refine nr ?_; intro U h; simp only [z0, z1] at h; subst h
      refine s_val 38 rfl rfl (.slice (if l.length = i then some ⟨g, 0, none⟩ else (some ⟨g, 0, none⟩ : Option Addr).map (·.add (i * 16))) (l.length - i) (l.length - i)) (run_cutX rI _ _ rfl (some ⟨g, 0, none⟩) l.length l.length i rfl rfl (by omega) _) ?_
      refine nr ?_; intro U h; simp only [z0, z1] at h; subst h
      refine s_clI rfl rfl _ rfl g l.length l.length i rfl kg (by omega) (by omega) (Nat.le_refl _) ?_
      intro w2 St
      replace kh := St.has hhg kh
      replace GG := GG.st St (.inr (by simp))
      replace kg := St.new
      clear St
      refine wpList_nil ?_
      refine then_n ?_
      refine wp_seq ?_
      refine wp_region_lit ?_
      refine s_val 39 rfl rfl (.slice (some ⟨g, 0, none⟩) l.length l.length) (rfl) ?_
      refine nr ?_; intro U h; simp only [z0, z1] at h; subst h
      refine s_val 40 rfl rfl (.int .i64 ((i : Nat) : Int)) (rfl) ?_
      refine nr ?_; intro U h; simp only [z0, z1] at h; subst h
      refine s_val 41 rfl rfl (.slice (some ⟨g, 0, none⟩) i l.length) (run_cut0X rI _ _ rfl (some ⟨g, 0, none⟩) l.length l.length i rfl rfl (by omega) _) ?_
      refine nr ?_; intro U h; simp only [z0, z1] at h; subst h
      refine s_val 4 rfl rfl (.slice (some ⟨g, 0, none⟩) i l.length) (rfl) ?_
      refine nr ?_; intro U h; simp only [z0, z1] at h; subst h
      refine wpList_nil ?_
      refine then_n ?_
      refine wp_ret ?_
      refine bodyPost_ret (results_tmp Try.results56 _ _ _) rfl ?_
      subst hje
      rw [List.take_length] at hZt
      refine ⟨_, i, rfl, GG, kg, ?_, by omega, ?_, ?_, ?_⟩
      · simp; omega
      · rw [List.append_assoc, List.take_left' (by simp; omega), hZt]
      · intro x hx
        rcases List.mem_append.1 hx with hx | hx
        · rcases List.mem_append.1 hx with hx | hx
          · exact HZ x (List.mem_of_mem_take hx)
          · rw [List.eq_of_mem_replicate hx]; exact top_0i
        · exact HZ x (List.mem_of_mem_drop hx)
      · simp; omega
    · have hjl : j < l.length := by have := of_decide_eq_true hj1; omega
      have hjZ : j < Z.length := by omega
      have hvj : Z.getD j 0 = l.getD j 0 := getD_drop Z l j j hZd (Nat.le_refl _)
      have hvt : Z.getD j 0 < top := (RC.all_blk (cap := l.length) kg HZ (by omega)).at hjZ
      refine s_val 19 rfl rfl (.bool true) (run_lssT 3 _ _ _ rfl ((j : Nat) : Int) ((l.length : Nat) : Int) rfl rfl true hj1 _) ?_
      refine nr ?_; intro U h; simp only [z0, z1] at h; subst h
      refine wpList_nil ?_
      refine then_n ?_
      refine wp_cond_true rfl ?_
      refine wp_skip ?_
      refine then_n ?_
      refine wp_seq ?_
      refine wp_block ?_
      refine wp_seq ?_
      refine wp_region_lit ?_
      refine s_val 22 rfl rfl (.slice (some ⟨g, 0, none⟩) l.length l.length) (rfl) ?_
      refine nr ?_; intro U h; simp only [z0, z1] at h; subst h
      refine s_val 23 rfl rfl (.int .i64 ((j : Nat) : Int)) (rfl) ?_
      refine nr ?_; intro U h; simp only [z0, z1] at h; subst h
      refine s_val 24 rfl rfl (.pointer (pA (some ⟨g, 0, none⟩) j)) (run_ixN (RC.all_blk kg HZ (by omega)) hZl _ _ rfl rfl j rfl hjl) ?_
      refine nr ?_; intro U h; simp only [z0, z1] at h; subst h
      refine s_val 25 rfl rfl (.agg (idA (Z.getD j 0))) (run_ldI (RC.all_blk (cap := l.length) kg HZ (by omega)) _ rfl j rfl hjZ) ?_
      refine nr ?_; intro U h; simp only [z0, z1] at h; subst h
      refine s_alloc 7 rfl rfl 23 rfl _ zero23 (idA 0) rfl ?_
      intro w2 g1 G eg1 kg1
      have bg1 := size_basS GG eg1
      have dhg1 := lt_new kh eg1
      have dgg1 := lt_new kg eg1
      replace kh := G.has kh
      replace kg := G.has kg
      replace GG := GG.tg G
      clear G
      clear eg1
      refine nr ?_; intro U h; simp only [z0, z1] at h; subst h
      refine s_store rfl rfl 23 _ _ rfl g1 0 rfl (.agg (idA (Z.getD j 0))) rfl 23 _ kg1 (idA (Z.getD j 0)) rfl (size23' _) (idA_fiti _ _) (idA_one _) (idA (Z.getD j 0)) (splice_whole _ _ (idA_szi _ _)) ?_
      intro w3 St
      replace kh := St.has (by omega) kh
      replace kg := St.has (by omega) kg
      replace GG := GG.st St (.inl bg1)
      replace kg1 := St.new
      clear St
      refine wpList_nil ?_
      refine then_n ?_
      refine wp_seq ?_
      refine wp_region_lit ?_
      refine s_val 26 rfl rfl (.func (.func 57) #[] #[.pointer (some ⟨h, 0, none⟩)]) (rfl) ?_
      refine nr ?_; intro U h; simp only [z0, z1] at h; subst h
      refine s_val 27 rfl rfl (.agg (idA (Z.getD j 0))) (run_ldB _ rfl g1 _ rfl (kg1)) ?_
      refine nr ?_; intro U h; simp only [z0, z1] at h; subst h
      cases hq : decide ((Z.getD j 0) = wo)
      · refine s_callFi 28 rfl rfl _ 57 #[.pointer (some ⟨h, 0, none⟩)] Try.call57 rfl _ rfl rfl _ rfl [.agg (idA (Z.getD j 0))] rfl (Calls.boolW (pred_any _ (Z.getD j 0) wo h hvt hwo kh) hq) ?_
        intro w4 G
        replace kh := G.has kh
        replace kg := G.has kg
        replace kg1 := G.has kg1
        replace GG := GG.tg G
        clear G
        refine nr ?_; intro U h; simp only [z0, z1] at h; subst h
        refine s_val 29 rfl rfl (.bool true) (run_nt _ _ rfl false rfl) ?_
        refine nr ?_; intro U h; simp only [z0, z1] at h; subst h
        refine wpList_nil ?_
        refine then_n ?_
        refine wp_cond_true rfl ?_
        refine wp_seq ?_
        have hil : i < l.length := by omega
        refine wp_region_lit ?_
        refine s_val 30 rfl rfl (.slice (some ⟨g, 0, none⟩) l.length l.length) (rfl) ?_
        refine nr ?_; intro U h; simp only [z0, z1] at h; subst h
        refine s_val 31 rfl rfl (.int .i64 ((i : Nat) : Int)) (rfl) ?_
        refine nr ?_; intro U h; simp only [z0, z1] at h; subst h
        refine s_val 32 rfl rfl (.agg (idA (Z.getD j 0))) (run_ldB _ rfl g1 _ rfl (kg1)) ?_
        refine nr ?_; intro U h; simp only [z0, z1] at h; subst h
        refine s_val 33 rfl rfl (.pointer (pA (some ⟨g, 0, none⟩) i)) (run_ixN (RC.all_blk kg HZ (by omega)) hZl _ _ rfl rfl i rfl hil) ?_
        refine nr ?_; intro U h; simp only [z0, z1] at h; subst h
        refine s_store rfl rfl 23 _ _ rfl g (i * 16) (by rw [← pA_0]; rfl) (.agg (idA (Z.getD j 0))) rfl 23 _ kg (idA (Z.getD j 0)) rfl (size23' _) (by rw [idA_size]; simp [fl_len]; omega) (idA_one _) _ (fl_set Z i (Z.getD j 0) (by omega)) ?_
        intro w5 St
        replace kh := St.has hhg kh
        replace GG := GG.st St (.inr (by simp))
        replace kg := St.new
        clear St
        refine wpList_nil ?_
        refine then_n ?_
        refine wp_region_lit ?_
        refine s_val 34 rfl rfl (.int .i64 ((i : Nat) : Int)) (rfl) ?_
        refine nr ?_; intro U h; simp only [z0, z1] at h; subst h
        refine s_val 35 rfl rfl (.int .i64 ((i + 1 : Nat) : Int)) (run_addIi 3 _ _ _ rfl ((i : Nat) : Int) 1 ((i + 1 : Nat) : Int) rfl rfl (by omega) (by omega) (by omega) _) ?_
        refine nr ?_; intro U h; simp only [z0, z1] at h; subst h
        refine s_val 5 rfl rfl (.int .i64 ((i + 1 : Nat) : Int)) (rfl) ?_
        refine nr ?_; intro U h; simp only [z0, z1] at h; subst h
        refine wpList_nil ?_
        refine blk_n ?_
        refine then_n ?_
        refine wp_region_lit ?_
        refine s_val 20 rfl rfl (.int .i64 ((j : Nat) : Int)) (rfl) ?_
        refine nr ?_; intro U h; simp only [z0, z1] at h; subst h
        refine s_val 21 rfl rfl (.int .i64 ((j + 1 : Nat) : Int)) (run_addIi 3 _ _ _ rfl ((j : Nat) : Int) 1 ((j + 1 : Nat) : Int) rfl rfl (by omega) (by omega) (by omega) _) ?_
        refine nr ?_; intro U h; simp only [z0, z1] at h; subst h
        refine s_val 6 rfl rfl (.int .i64 ((j + 1 : Nat) : Int)) (rfl) ?_
        refine nr ?_; intro U h; simp only [z0, z1] at h; subst h
        refine wpList_nil ?_
        refine then_n ?_
        have hs := fil_stepi wo l j hjl
        rw [if_neg (fun e => of_decide_eq_false hq (hvj.trans e))] at hs
        refine ⟨_, (by omega : l.length - (j + 1) < l.length - j), j + 1, i + 1, Z.set i (Z.getD j 0), (fun kz => ([.pointer (some ⟨g1, 0, none⟩), .int .i64 ((j : Nat) : Int), .slice (some ⟨g, 0, none⟩) l.length l.length, .int .i64 ((l.length : Nat) : Int), .bool true, .int .i64 ((j : Nat) : Int), .int .i64 ((j + 1 : Nat) : Int), .slice (some ⟨g, 0, none⟩) l.length l.length, .int .i64 ((j : Nat) : Int), .pointer (pA (some ⟨g, 0, none⟩) j), .agg (idA (Z.getD j 0)), .func (.func 57) #[] #[.pointer (some ⟨h, 0, none⟩)], .agg (idA (Z.getD j 0)), .bool false, .bool true, .slice (some ⟨g, 0, none⟩) l.length l.length, .int .i64 ((i : Nat) : Int), .agg (idA (Z.getD j 0)), .pointer (pA (some ⟨g, 0, none⟩) i), .int .i64 ((i : Nat) : Int), .int .i64 ((i + 1 : Nat) : Int)] : List Value).getD kz undef), rfl, rfl, hjl, (by rw [hs, List.length_append, ← hi]; rfl), (by rw [List.length_set]; exact hZl), ?_, ?_, all_set HZ hvt, GG, kh, kg⟩
        · rw [take_set Z i _ (by omega), hZt, hs, hvj]
        · rw [drop_set Z i _ _ (by omega)]; exact drop_step Z l j hZd
      · refine s_callFi 28 rfl rfl _ 57 #[.pointer (some ⟨h, 0, none⟩)] Try.call57 rfl _ rfl rfl _ rfl [.agg (idA (Z.getD j 0))] rfl (Calls.boolW (pred_any _ (Z.getD j 0) wo h hvt hwo kh) hq) ?_
        intro w4 G
        replace kh := G.has kh
        replace kg := G.has kg
        replace kg1 := G.has kg1
        replace GG := GG.tg G
        clear G
        refine nr ?_; intro U h; simp only [z0, z1] at h; subst h
        refine s_val 29 rfl rfl (.bool false) (run_nt _ _ rfl true rfl) ?_
        refine nr ?_; intro U h; simp only [z0, z1] at h; subst h
        refine wpList_nil ?_
        refine then_n ?_
        refine wp_cond_false rfl ?_
        refine wp_skip ?_
        refine blk_n ?_
        refine then_n ?_
        refine wp_region_lit ?_
        refine s_val 20 rfl rfl (.int .i64 ((j : Nat) : Int)) (rfl) ?_
        refine nr ?_; intro U h; simp only [z0, z1] at h; subst h
        refine s_val 21 rfl rfl (.int .i64 ((j + 1 : Nat) : Int)) (run_addIi 3 _ _ _ rfl ((j : Nat) : Int) 1 ((j + 1 : Nat) : Int) rfl rfl (by omega) (by omega) (by omega) _) ?_
        refine nr ?_; intro U h; simp only [z0, z1] at h; subst h
        refine s_val 6 rfl rfl (.int .i64 ((j + 1 : Nat) : Int)) (rfl) ?_
        refine nr ?_; intro U h; simp only [z0, z1] at h; subst h
        refine wpList_nil ?_
        refine then_n ?_
        have hs := fil_stepi wo l j hjl
        rw [if_pos (hvj.symm.trans (of_decide_eq_true hq)), List.append_nil] at hs
        exact ⟨_, (by omega : l.length - (j + 1) < l.length - j), j + 1, i, Z, (fun kz => ([.pointer (some ⟨g1, 0, none⟩), .int .i64 ((j : Nat) : Int), .slice (some ⟨g, 0, none⟩) l.length l.length, .int .i64 ((l.length : Nat) : Int), .bool true, .int .i64 ((j : Nat) : Int), .int .i64 ((j + 1 : Nat) : Int), .slice (some ⟨g, 0, none⟩) l.length l.length, .int .i64 ((j : Nat) : Int), .pointer (pA (some ⟨g, 0, none⟩) j), .agg (idA (Z.getD j 0)), .func (.func 57) #[] #[.pointer (some ⟨h, 0, none⟩)], .agg (idA (Z.getD j 0)), .bool true, .bool false, us1 15, us1 16, us1 17, us1 18, us1 19, us1 20] : List Value).getD kz undef), rfl, rfl, hjl, (by rw [hs]; exact hi), hZl, (by rw [hs]; exact hZt), drop_step Z l j hZd, HZ, GG, kh, kg⟩
end Go.Proofs.Ytjahegiopigblaa
