/- The order of keys, and entries sorted by it. -/
import Derived.Test.YtmpnepbmpmkmkabBP6
namespace Go.Proofs.Ytmpnepbmpmkmkab.D
open Go.RowKit
/-- Two numbers compared. -/
def cmpI (a b : Int) : Int := if a < b then -1 else if b < a then 1 else 0
def orI (x y : Int) : Int := if x ≠ 0 then x else y
def sel (x y : Int) (i : Nat) : Int := if i = 0 then x else y
def cmpP (p q : Pa) : Int := orI (cmpN p.who q.who) (cmpI p.n q.n)
theorem cmpP_lt {p q : Pa} (hp : p.ok) (hq : q.ok) : cmpP p q < 0 ↔ ky p < ky q := by
  rw [ky_lt hp hq]
  unfold cmpP orI cmpN cmpI
  by_cases h1 : p.who < q.who
  · simp [h1]
  by_cases h2 : q.who < p.who
  · simp [h1, h2]
    omega
  have h3 : p.who = q.who := by omega
  simp [h3]
  by_cases h4 : p.n < q.n
  · simp [h4]
  by_cases h5 : q.n < p.n
  · simp [h4, h5]
  simp [h4, h5]
theorem rZ : RowT Try.prog 22 3 1 8 (.int .i64 0) := ⟨Try.underlying22, info_of (by kernel_rfl), rfl, by decide⟩
theorem run_ixB {o : Oper} {A : Act} {w : World} (x y : Operand) (ho : o.op = .indexAddr 22 x y) (g n c j : Nat) (hx : A.eval x = .slice (some ⟨g, 0, none⟩) n c) (hy : A.eval y = .int .i64 (j : Int)) (hj : j < n) :
    (execOp A.eval o).run Try.prog w = .ok (.value (.pointer (some ⟨g, j, none⟩))) w := by
  rw [run_idxX rZ x y ho ⟨g, 0, none⟩ n c j hx hy hj w, add_at, Nat.zero_add, Nat.mul_one]
theorem sel_at (x y : Int) (i : Nat) (h : i < 2) : (#[Value.int .i64 x, .int .i64 y])[i]? = some (.int .i64 (sel x y i)) := by
  match i, h with
  | 0, _ => rfl
  | 1, _ => rfl
  | i + 2, h => omega
theorem bz2 (x y : Int) (w : World) : (Instr.buildSlice 22 2 #[(0, .int .i64 x), (1, .int .i64 y)]).run Try.prog w = .ok (.slice (some ⟨w.heap.size, 0, none⟩) 2 2) (w.alloc (.cells #[.int .i64 x, .int .i64 y] 3)) := by kernel_rfl
section
variable {P : Program} {ops : Array Oper} {rest : List Oper} {o : Oper} {T : List Value} {ds : List Deferred} {w : World} {Q : Exit → Act → World → Prop}
theorem s_box (dst : Nat) (hd : o.dst = some dst) (hgd : o.guard = none) (ty : TypeId) (x : Operand) (ho : o.op = .box ty x) (v : Value) (hx : (⟨T.toArray, ds⟩ : Act).eval x = v) (cs : Array Value) (hc : v.cells = cs)
    (h : ∀ w' g, Gro w w' → w.heap.size = g → w'.heap[g]? = some (.cells cs ty (0, 0)) → wpList P ops Q rest ⟨(T.set dst (.pointer (some ⟨g, 0, none⟩))).toArray, ds⟩ w') : wpList P ops Q (o :: rest) ⟨T.toArray, ds⟩ w := by
  subst hc
  refine wpList_box hgd ty x ho v hx ?_
  intro w' g G e k
  rw [hd, put_list]
  exact h w' g G e k
theorem s_bsl (dst : Nat) (hd : o.dst = some dst) (hgd : o.guard = none) (t : TypeId) (n : Nat) (l : List (Nat × Operand)) (ho : o.op = .buildSlice t n l.toArray) (vals : List (Nat × Value)) (hv : (l.map fun p => (p.1, (⟨T.toArray, ds⟩ : Act).eval p.2)) = vals) (cs : Array Value) (e : TypeId)
    (hr : (Instr.buildSlice t n vals.toArray).run P w = .ok (.slice (some ⟨w.heap.size, 0, none⟩) n n) (w.alloc (.cells cs e)))
    (h : ∀ w' g, Gro w w' → w.heap.size = g → w'.heap[g]? = some (.cells cs e (0, 0)) → wpList P ops Q rest ⟨(T.set dst (.slice (some ⟨g, 0, none⟩) n n)).toArray, ds⟩ w') : wpList P ops Q (o :: rest) ⟨T.toArray, ds⟩ w := by
  refine wpList_plain hgd fun _ hK => ?_
  have he := run_bsl (A := ⟨T.toArray, ds⟩) t n l ho vals hv hr
  unfold Oper.wp
  rw [he, Oper.upon_value, hd, put_list]
  exact hK _ _ (h _ _ (gro_alloc _ _) rfl (heap_alloc_new _ _))
end
set_option maxRecDepth 100000 in
set_option maxHeartbeats 4000000 in
theorem isNaN_any (a : Int) (w : World) : Calls Try.prog 52 #[.int .i64 a] w (fun e w' => e = .returned (.bool false) ∧ Gro w w') := by
  refine s_enter Try.func52 rfl Try.ntmps52 [.int .i64 a] [.int .i64 a, undef, undef, undef, undef, undef] rfl ?_
  have GG := Gro.refl w
  refine wp_seq ?_
  refine wp_region_lit ?_
  refine s_val 2 rfl rfl (.bool false) (rfl) ?_
  refine nr ?_; intro U h; simp only [z0, z1] at h; subst h
  refine wpList_nil ?_
  refine then_n ?_
  refine wp_seq ?_
  refine wp_region_lit ?_
  refine s_val 3 rfl rfl (.int .i64 a) (rfl) ?_
  refine nr ?_; intro U h; simp only [z0, z1] at h; subst h
  refine s_val 4 rfl rfl (.int .i64 a) (rfl) ?_
  refine nr ?_; intro U h; simp only [z0, z1] at h; subst h
  refine s_val 5 rfl rfl (.bool false) (run_neq_k 2 .i64 _ _ _ rfl Try.underlying2 a a rfl rfl false (decide_eq_true rfl) _) ?_
  refine nr ?_; intro U h; simp only [z0, z1] at h; subst h
  refine s_val 2 rfl rfl (.bool false) (rfl) ?_
  refine nr ?_; intro U h; simp only [z0, z1] at h; subst h
  refine wpList_nil ?_
  refine then_n ?_
  refine wp_ret ?_
  refine bodyPost_ret (results_tmp Try.results52 _ _ _) rfl ?_
  exact ⟨rfl, GG⟩
set_option maxRecDepth 100000 in
set_option maxHeartbeats 4000000 in
theorem cmpI_any (a b : Int) (w : World) : Calls Try.prog 37 #[.int .i64 a, .int .i64 b] w (fun e w' => e = .returned (.int .i64 (cmpI a b)) ∧ Gro w w') := by
  refine s_enter Try.func37 rfl Try.ntmps37 [.int .i64 a, .int .i64 b] [.int .i64 a, .int .i64 b, undef, undef, undef, undef, undef, undef, undef, undef, undef, undef, undef, undef, undef, undef, undef, undef, undef, undef] rfl ?_
  have GG := Gro.refl w
  refine wp_seq ?_
  refine wp_region_lit ?_
  refine s_val 4 rfl rfl (.int .i64 0) (rfl) ?_
  refine nr ?_; intro U h; simp only [z0, z1] at h; subst h
  refine wpList_nil ?_
  refine then_n ?_
  refine wp_seq ?_
  refine wp_region_lit ?_
  refine s_val 7 rfl rfl (.int .i64 a) (rfl) ?_
  refine nr ?_; intro U h; simp only [z0, z1] at h; subst h
  refine s_callv 8 rfl rfl _ 52 Try.call52 rfl rfl _ rfl [.int .i64 a] rfl (isNaN_any a _) ?_
  intro w1 G
  replace GG := GG.trans G
  clear G
  refine nr ?_; intro U h; simp only [z0, z1] at h; subst h
  refine s_val 5 rfl rfl (.bool false) (rfl) ?_
  refine nr ?_; intro U h; simp only [z0, z1] at h; subst h
  refine wpList_nil ?_
  refine then_n ?_
  refine wp_seq ?_
  refine wp_region_lit ?_
  refine s_val 9 rfl rfl (.int .i64 b) (rfl) ?_
  refine nr ?_; intro U h; simp only [z0, z1] at h; subst h
  refine s_callv 10 rfl rfl _ 52 Try.call52 rfl rfl _ rfl [.int .i64 b] rfl (isNaN_any b _) ?_
  intro w2 G
  replace GG := GG.trans G
  clear G
  refine nr ?_; intro U h; simp only [z0, z1] at h; subst h
  refine s_val 6 rfl rfl (.bool false) (rfl) ?_
  refine nr ?_; intro U h; simp only [z0, z1] at h; subst h
  refine wpList_nil ?_
  refine then_n ?_
  refine wp_seq ?_
  refine wp_seq ?_
  refine wp_region_lit ?_
  refine s_val 11 rfl rfl (.bool false) (rfl) ?_
  refine nr ?_; intro U h; simp only [z0, z1] at h; subst h
  refine wpList_nil ?_
  refine then_n ?_
  refine wp_cond_false rfl ?_
  refine wp_skip ?_
  refine then_n ?_
  refine wp_seq ?_
  refine wp_seq ?_
  refine wp_region_lit ?_
  refine s_val 13 rfl rfl (.bool false) (rfl) ?_
  refine nr ?_; intro U h; simp only [z0, z1] at h; subst h
  refine wpList_nil ?_
  refine then_n ?_
  refine wp_cond_false rfl ?_
  refine wp_skip ?_
  refine then_n ?_
  refine wp_seq ?_
  refine wp_seq ?_
  refine wp_region_lit ?_
  refine s_val 14 rfl rfl (.int .i64 a) (rfl) ?_
  refine nr ?_; intro U h; simp only [z0, z1] at h; subst h
  refine s_val 15 rfl rfl (.int .i64 b) (rfl) ?_
  refine nr ?_; intro U h; simp only [z0, z1] at h; subst h
  cases h1 : decide (a < b)
  · refine s_val 16 rfl rfl (.bool false) (run_lssT 2 _ _ _ rfl a b rfl rfl false h1 _) ?_
    refine nr ?_; intro U h; simp only [z0, z1] at h; subst h
    refine wpList_nil ?_
    refine then_n ?_
    refine wp_cond_false rfl ?_
    refine wp_skip ?_
    refine then_n ?_
    refine wp_seq ?_
    refine wp_seq ?_
    refine wp_region_lit ?_
    refine s_val 17 rfl rfl (.int .i64 a) (rfl) ?_
    refine nr ?_; intro U h; simp only [z0, z1] at h; subst h
    refine s_val 18 rfl rfl (.int .i64 b) (rfl) ?_
    refine nr ?_; intro U h; simp only [z0, z1] at h; subst h
    cases h2 : decide (b < a)
    · refine s_val 19 rfl rfl (.bool false) (run_gtrT 2 _ _ _ rfl a b rfl rfl false h2 _) ?_
      refine nr ?_; intro U h; simp only [z0, z1] at h; subst h
      refine wpList_nil ?_
      refine then_n ?_
      refine wp_cond_false rfl ?_
      refine wp_skip ?_
      refine then_n ?_
      refine wp_seq ?_
      refine wp_region_lit ?_
      refine s_val 4 rfl rfl (.int .i64 0) (rfl) ?_
      refine nr ?_; intro U h; simp only [z0, z1] at h; subst h
      refine wpList_nil ?_
      refine then_n ?_
      refine wp_ret ?_
      refine bodyPost_ret (results_tmp Try.results37 _ _ _) rfl ?_
      exact ⟨congrArg (fun z => Ending.returned (.int .i64 z)) ((if_neg (of_decide_eq_false h1)).trans (if_neg (of_decide_eq_false h2))).symm, GG⟩
    · refine s_val 19 rfl rfl (.bool true) (run_gtrT 2 _ _ _ rfl a b rfl rfl true h2 _) ?_
      refine nr ?_; intro U h; simp only [z0, z1] at h; subst h
      refine wpList_nil ?_
      refine then_n ?_
      refine wp_cond_true rfl ?_
      refine wp_seq ?_
      refine wp_region_lit ?_
      refine s_val 4 rfl rfl (.int .i64 1) (rfl) ?_
      refine nr ?_; intro U h; simp only [z0, z1] at h; subst h
      refine wpList_nil ?_
      refine then_n ?_
      refine wp_ret ?_
      refine then_r ?_
      refine bodyPost_ret (results_tmp Try.results37 _ _ _) rfl ?_
      exact ⟨congrArg (fun z => Ending.returned (.int .i64 z)) ((if_neg (of_decide_eq_false h1)).trans (if_pos (of_decide_eq_true h2))).symm, GG⟩
  · refine s_val 16 rfl rfl (.bool true) (run_lssT 2 _ _ _ rfl a b rfl rfl true h1 _) ?_
    refine nr ?_; intro U h; simp only [z0, z1] at h; subst h
    refine wpList_nil ?_
    refine then_n ?_
    refine wp_cond_true rfl ?_
    refine wp_seq ?_
    refine wp_region_lit ?_
    refine s_val 4 rfl rfl (.int .i64 (-1)) (rfl) ?_
    refine nr ?_; intro U h; simp only [z0, z1] at h; subst h
    refine wpList_nil ?_
    refine then_n ?_
    refine wp_ret ?_
    refine then_r ?_
    refine bodyPost_ret (results_tmp Try.results37 _ _ _) rfl ?_
    exact ⟨congrArg (fun z => Ending.returned (.int .i64 z)) (if_pos (of_decide_eq_true h1)).symm, GG⟩
set_option maxRecDepth 100000 in
set_option maxHeartbeats 4000000 in
theorem or_any (x y : Int) (q : Nat) (w : World) (kq : w.heap[q]? = some (.cells #[.int .i64 x, .int .i64 y] 3 (0, 0))) : Calls Try.prog 35 #[.slice (some ⟨q, 0, none⟩) 2 2] w (fun e w' => e = .returned (.int .i64 (orI x y)) ∧ Gro w w') := by
  refine s_enter Try.func35 rfl Try.ntmps35 [.slice (some ⟨q, 0, none⟩) 2 2] [.slice (some ⟨q, 0, none⟩) 2 2, undef, undef, undef, undef, undef, undef, undef, undef, undef, undef, undef, undef, undef, undef, undef, undef, undef] rfl ?_
  have GG := Gro.refl w
  refine wp_seq ?_
  refine wp_region_lit ?_
  refine s_val 2 rfl rfl (.int .i64 0) (rfl) ?_
  refine nr ?_; intro U h; simp only [z0, z1] at h; subst h
  refine wpList_nil ?_
  refine then_n ?_
  refine wp_seq ?_
  refine wp_region_lit ?_
  refine s_val 3 rfl rfl (.int .i64 0) (rfl) ?_
  refine nr ?_; intro U h; simp only [z0, z1] at h; subst h
  refine wpList_nil ?_
  refine then_n ?_
  refine wp_seq ?_
  refine wp_seq ?_
  refine wp_region_lit ?_
  refine s_val 6 rfl rfl (.slice (some ⟨q, 0, none⟩) 2 2) (rfl) ?_
  refine nr ?_; intro U h; simp only [z0, z1] at h; subst h
  refine s_val 7 rfl rfl (.int .i64 2) (run_len Try.underlying22 _ rfl _ _ _ rfl _) ?_
  refine nr ?_; intro U h; simp only [z0, z1] at h; subst h
  refine s_val 8 rfl rfl (.int .i64 0) (rfl) ?_
  refine nr ?_; intro U h; simp only [z0, z1] at h; subst h
  refine wpList_nil ?_
  refine then_n ?_
  refine wp_block ?_
  refine wp_loopN (fun mz az wv => ∃ (i : Nat) (us1 : Nat → Value), mz = 2 - i ∧ az = ⟨[.slice (some ⟨q, 0, none⟩) 2 2, undef, us1 0, .int .i64 0, undef, us1 1, .slice (some ⟨q, 0, none⟩) 2 2, .int .i64 2, .int .i64 ((i : Nat) : Int), us1 2, us1 3, us1 4, us1 5, us1 6, us1 7, us1 8, us1 9, undef].toArray, []⟩ ∧ i ≤ 2 ∧ (∀ k, k < i → sel x y k = 0) ∧ Gro w wv ∧ wv.heap[q]? = some (.cells #[.int .i64 x, .int .i64 y] 3 (0, 0))) ?_ _ ⟨0, (fun kz => ([.int .i64 0, undef, undef, undef, undef, undef, undef, undef, undef, undef] : List Value).getD kz undef), rfl, rfl, by omega, fun k hk => absurd hk (by omega), GG, kq⟩
  clear GG kq
  rintro mz az wv ⟨i, us1, rfl, rfl, hi, hz, GG, kq⟩
  refine wp_seq ?_
  refine wp_region_lit ?_
  cases hlt : decide (((i : Nat) : Int) < 2)
  · have hie : i = 2 := by have := of_decide_eq_false hlt; omega
    refine s_val 9 rfl rfl (.bool false) (run_lssT 3 _ _ _ rfl ((i : Nat) : Int) 2 rfl rfl false hlt _) ?_
    refine nr ?_; intro U h; simp only [z0, z1] at h; subst h
    refine wpList_nil ?_
    refine then_n ?_
    refine wp_seq ?_
    refine wp_cond_false rfl ?_
    refine wp_exit ?_
    refine then_x ?_
    refine then_x ?_
    refine blk_x ?_
    refine then_n ?_
    refine wp_seq ?_
    refine wp_region_lit ?_
    refine s_val 17 rfl rfl (.int .i64 0) (rfl) ?_
    refine nr ?_; intro U h; simp only [z0, z1] at h; subst h
    refine s_val 2 rfl rfl (.int .i64 0) (rfl) ?_
    refine nr ?_; intro U h; simp only [z0, z1] at h; subst h
    refine wpList_nil ?_
    refine then_n ?_
    refine wp_ret ?_
    refine bodyPost_ret (results_tmp Try.results35 _ _ _) rfl ?_
    exact ⟨congrArg (fun z => Ending.returned (.int .i64 z)) (by unfold orI; rw [if_neg (by have := hz 0 (by omega); simpa [sel] using this)]; exact (hz 1 (by omega)).symm), GG⟩
  · have hil : i < 2 := by have := of_decide_eq_true hlt; omega
    refine s_val 9 rfl rfl (.bool true) (run_lssT 3 _ _ _ rfl ((i : Nat) : Int) 2 rfl rfl true hlt _) ?_
    refine nr ?_; intro U h; simp only [z0, z1] at h; subst h
    refine wpList_nil ?_
    refine then_n ?_
    refine wp_seq ?_
    refine wp_cond_true rfl ?_
    refine wp_skip ?_
    refine then_n ?_
    refine wp_seq ?_
    refine wp_block ?_
    refine wp_seq ?_
    refine wp_region_lit ?_
    refine s_val 10 rfl rfl (.pointer (some ⟨q, i, none⟩)) (run_ixB _ _ rfl q 2 2 i rfl rfl hil) ?_
    refine nr ?_; intro U h; simp only [z0, z1] at h; subst h
    refine s_val 11 rfl rfl (.int .i64 (sel x y i)) (run_ldc 3 _ rfl q i rfl 3 _ kq (na3 _) _ (sel_at x y i hil)) ?_
    refine nr ?_; intro U h; simp only [z0, z1] at h; subst h
    refine s_val 5 rfl rfl (.int .i64 (sel x y i)) (rfl) ?_
    refine nr ?_; intro U h; simp only [z0, z1] at h; subst h
    refine wpList_nil ?_
    refine then_n ?_
    refine wp_seq ?_
    refine wp_region_lit ?_
    refine s_val 12 rfl rfl (.int .i64 (sel x y i)) (rfl) ?_
    refine nr ?_; intro U h; simp only [z0, z1] at h; subst h
    refine s_val 13 rfl rfl (.int .i64 0) (rfl) ?_
    refine nr ?_; intro U h; simp only [z0, z1] at h; subst h
    cases hz0 : decide (sel x y i = 0)
    · refine s_val 14 rfl rfl (.bool true) (run_neq_k 3 .i64 _ _ _ rfl Try.underlying3 (sel x y i) 0 rfl rfl true hz0 _) ?_
      refine nr ?_; intro U h; simp only [z0, z1] at h; subst h
      refine wpList_nil ?_
      refine then_n ?_
      refine wp_cond_true rfl ?_
      refine wp_seq ?_
      refine wp_region_lit ?_
      refine s_val 15 rfl rfl (.int .i64 (sel x y i)) (rfl) ?_
      refine nr ?_; intro U h; simp only [z0, z1] at h; subst h
      refine s_val 2 rfl rfl (.int .i64 (sel x y i)) (rfl) ?_
      refine nr ?_; intro U h; simp only [z0, z1] at h; subst h
      refine wpList_nil ?_
      refine then_n ?_
      refine wp_ret ?_
      refine blk_r ?_
      refine then_r ?_
      refine then_r ?_
      refine blk_r ?_
      refine then_r ?_
      refine bodyPost_ret (results_tmp Try.results35 _ _ _) rfl ?_
      refine ⟨congrArg (fun z => Ending.returned (.int .i64 z)) ?_, GG⟩
      have hz1 := of_decide_eq_false hz0
      unfold orI
      by_cases e : i = 0
      · rw [e] at hz1 ⊢
        exact (if_pos hz1).symm
      · have e1 : i = 1 := by omega
        rw [e1]
        exact (if_neg (by have := hz 0 (by omega); simpa [sel] using this)).symm
    · refine s_val 14 rfl rfl (.bool false) (run_neq_k 3 .i64 _ _ _ rfl Try.underlying3 (sel x y i) 0 rfl rfl false hz0 _) ?_
      refine nr ?_; intro U h; simp only [z0, z1] at h; subst h
      refine wpList_nil ?_
      refine then_n ?_
      refine wp_cond_false rfl ?_
      refine wp_skip ?_
      refine blk_n ?_
      refine then_n ?_
      refine wp_region_lit ?_
      refine s_val 16 rfl rfl (.int .i64 ((i + 1 : Nat) : Int)) (run_addI 3 _ _ _ rfl ((i : Nat) : Int) 1 ((i + 1 : Nat) : Int) rfl rfl (by omega) (by omega) (by omega) _) ?_
      refine nr ?_; intro U h; simp only [z0, z1] at h; subst h
      refine s_val 8 rfl rfl (.int .i64 ((i + 1 : Nat) : Int)) (rfl) ?_
      refine nr ?_; intro U h; simp only [z0, z1] at h; subst h
      refine wpList_nil ?_
      refine then_n ?_
      exact ⟨2 - (i + 1), by omega, i + 1, (fun kz => ([us1 0, .int .i64 (sel x y i), .bool true, .pointer (some ⟨q, i, none⟩), .int .i64 (sel x y i), .int .i64 (sel x y i), .int .i64 0, .bool false, us1 8, .int .i64 ((i + 1 : Nat) : Int)] : List Value).getD kz undef), rfl, rfl, by omega, fun k hk => (Nat.lt_succ_iff_lt_or_eq.1 hk).elim (hz k) (fun e => e ▸ of_decide_eq_true hz0), GG, kq⟩
set_option maxRecDepth 100000 in
set_option maxHeartbeats 4000000 in
theorem order_any (p q : Pa) (hp : p.ok) (hq : q.ok) (w : World) : Calls Try.prog 29 #[.agg (paA p), .agg (paA q)] w (fun e w' => e = .returned (.int .i64 (cmpP p q)) ∧ Gro w w') := by
  refine s_enter Try.func29 rfl Try.ntmps29 [.agg (paA p), .agg (paA q)] [.agg (paA p), .agg (paA q), undef, undef, undef, undef, undef, undef, undef, undef, undef, undef, undef, undef, undef, undef, undef] rfl ?_
  have GG := Gro.refl w
  refine wp_seq ?_
  refine wp_region_lit ?_
  refine s_box 2 rfl rfl 26 _ rfl _ rfl (paA p) rfl ?_
  intro w1 g1 G eg1 kg1
  have bg1 := size_base GG eg1
  replace GG := GG.trans G
  clear G
  clear eg1
  refine nr ?_; intro U h; simp only [z0, z1] at h; subst h
  refine s_box 3 rfl rfl 26 _ rfl _ rfl (paA q) rfl ?_
  intro w2 g2 G eg2 kg2
  have bg2 := size_base GG eg2
  have dg1g2 := lt_new kg1 eg2
  replace kg1 := G.has kg1
  replace GG := GG.trans G
  clear G
  clear eg2
  refine nr ?_; intro U h; simp only [z0, z1] at h; subst h
  refine s_val 4 rfl rfl (.int .i64 0) (rfl) ?_
  refine nr ?_; intro U h; simp only [z0, z1] at h; subst h
  refine wpList_nil ?_
  refine then_n ?_
  refine wp_seq ?_
  refine wp_region_exA (A := ?Ax1) 9 [(0, 5), (1, 6), (2, 7), (3, 8), (4, 9), (5, 10), (6, 11), (7, 12), (8, 13)] [.val (.pointer (some ⟨g1, 0, none⟩)), .val (.agg (idA p.who)), .val (.pointer (some ⟨g2, 0, none⟩)), .val (.agg (idA q.who)), .val (.int .i64 (cmpN p.who q.who)), .val (.pointer (some ⟨g1, 16, none⟩)), .val (.int .i64 p.n), .val (.pointer (some ⟨g2, 16, none⟩)), .val (.int .i64 q.n)] follows (by kernel_rfl) rfl ?hAx1 (opsA_cons ?o0x1 (opsA_cons ?o1x1 (opsA_cons ?o2x1 (opsA_cons ?o3x1 (opsA_cons ?o4x1 (opsA_cons ?o5x1 (opsA_cons ?o6x1 (opsA_cons ?o7x1 (opsA_cons ?o8x1 opsA_nil))))))))) ?restx1
  case hAx1 =>
    intro ptrs
    simp only [full, foldSlots, filledE, postE, List.foldl_cons, List.foldl_nil, List.getD_cons_zero, List.getD_cons_succ, List.set_cons_zero, List.set_cons_succ]
    exact rfl
  case o0x1 => exact fun _ _ _ _ => opE_value (v := .pointer (some ⟨g1, 0, none⟩)) rfl (run_fld 26 _ 0 rfl g1 0 rfl 0 (by kernel_rfl))
  case o1x1 => exact fun _ _ hw _ => opE_value (v := .agg (idA p.who)) rfl (ldPw _ rfl g1 rfl (hw.has kg1))
  case o2x1 => exact fun _ _ _ _ => opE_value (v := .pointer (some ⟨g2, 0, none⟩)) rfl (run_fld 26 _ 0 rfl g2 0 rfl 0 (by kernel_rfl))
  case o3x1 => exact fun _ _ hw _ => opE_value (v := .agg (idA q.who)) rfl (ldPw _ rfl g2 rfl (hw.has kg2))
  case o4x1 =>
    intro ptrs w' hw hE
    exact opE_call (.val (.int .i64 (cmpN p.who q.who))) rfl _ 36 Try.call36 rfl rfl _ rfl [.agg (idA p.who), .agg (idA q.who)] rfl ((cmp_any p.who q.who hp.who hq.who _).mono fun e w' ⟨he, hg⟩ => ⟨_, he, hg, rfl⟩)
  case o5x1 => exact fun _ _ _ _ => opE_value (v := .pointer (some ⟨g1, 16, none⟩)) rfl (run_fld 26 _ 1 rfl g1 0 rfl 16 (by kernel_rfl))
  case o6x1 => exact fun _ _ hw _ => opE_value (v := .int .i64 p.n) rfl (ldPn _ rfl g1 rfl (hw.has kg1))
  case o7x1 => exact fun _ _ _ _ => opE_value (v := .pointer (some ⟨g2, 16, none⟩)) rfl (run_fld 26 _ 1 rfl g2 0 rfl 16 (by kernel_rfl))
  case o8x1 => exact fun _ _ hw _ => opE_value (v := .int .i64 q.n) rfl (ldPn _ rfl g2 rfl (hw.has kg2))
  intro ptrs w3 GD hxE
  simp only [List.drop_succ_cons, List.drop_zero]
  replace kg1 := GD.has kg1
  replace kg2 := GD.has kg2
  replace GG := GG.drew.trans GD
  clear GD
  refine s_callv 14 rfl rfl _ 37 Try.call37 rfl rfl _ rfl [.int .i64 p.n, .int .i64 q.n] rfl (cmpI_any p.n q.n _) ?_
  intro w4 G
  replace kg1 := G.has kg1
  replace kg2 := G.has kg2
  replace GG := GG.trans G
  clear G
  refine nr ?_; intro U h; simp only [z0, z1] at h; subst h
  refine s_bsl 15 rfl rfl 22 2 _ rfl [(0, .int .i64 (cmpN p.who q.who)), (1, .int .i64 (cmpI p.n q.n))] rfl #[.int .i64 (cmpN p.who q.who), .int .i64 (cmpI p.n q.n)] 3 (bz2 _ _ _) ?_
  intro w5 gz G egz kgz
  replace kg1 := G.has kg1
  replace kg2 := G.has kg2
  replace GG := GG.trans G
  clear G
  clear egz
  refine nr ?_; intro U h; simp only [z0, z1] at h; subst h
  refine s_callv 16 rfl rfl _ 35 Try.call35 rfl rfl _ rfl [.slice (some ⟨gz, 0, none⟩) 2 2] rfl (or_any (cmpN p.who q.who) (cmpI p.n q.n) gz _ kgz) ?_
  intro w6 G
  replace kg1 := G.has kg1
  replace kg2 := G.has kg2
  replace GG := GG.trans G
  clear G
  refine nr ?_; intro U h; simp only [z0, z1] at h; subst h
  refine s_val 4 rfl rfl (.int .i64 (cmpP p q)) (rfl) ?_
  refine nr ?_; intro U h; simp only [z0, z1] at h; subst h
  refine wpList_nil ?_
  refine then_n ?_
  refine wp_ret ?_
  refine bodyPost_ret (results_tmp Try.results29 _ _ _) rfl ?_
  exact ⟨rfl, GG⟩
set_option maxRecDepth 100000 in
set_option maxHeartbeats 4000000 in
theorem clo_any (x y : En) (hx : x.ok) (hy : y.ok) (w : World) : Calls Try.prog 28 #[.agg (enA x), .agg (enA y)] w (fun e w' => e = .returned (.int .i64 (cmpP x.p y.p)) ∧ Gro w w') := by
  refine s_enter Try.func28 rfl Try.ntmps28 [.agg (enA x), .agg (enA y)] [.agg (enA x), .agg (enA y), undef, undef, undef, undef, undef, undef, undef, undef] rfl ?_
  have GG := Gro.refl w
  refine wp_seq ?_
  refine wp_region_lit ?_
  refine s_box 2 rfl rfl 39 _ rfl _ rfl (enA x) rfl ?_
  intro w1 g1 G eg1 kg1
  have bg1 := size_base GG eg1
  replace GG := GG.trans G
  clear G
  clear eg1
  refine nr ?_; intro U h; simp only [z0, z1] at h; subst h
  refine s_box 3 rfl rfl 39 _ rfl _ rfl (enA y) rfl ?_
  intro w2 g2 G eg2 kg2
  have bg2 := size_base GG eg2
  have dg1g2 := lt_new kg1 eg2
  replace kg1 := G.has kg1
  replace GG := GG.trans G
  clear G
  clear eg2
  refine nr ?_; intro U h; simp only [z0, z1] at h; subst h
  refine s_val 4 rfl rfl (.int .i64 0) (rfl) ?_
  refine nr ?_; intro U h; simp only [z0, z1] at h; subst h
  refine wpList_nil ?_
  refine then_n ?_
  refine wp_seq ?_
  refine wp_region_lit ?_
  refine s_val 5 rfl rfl (.pointer (some ⟨g1, 0, none⟩)) (run_fld 39 _ 0 rfl g1 0 rfl 0 (by kernel_rfl)) ?_
  refine nr ?_; intro U h; simp only [z0, z1] at h; subst h
  refine s_val 6 rfl rfl (.agg (paA x.p)) (ldEp _ rfl g1 rfl (kg1)) ?_
  refine nr ?_; intro U h; simp only [z0, z1] at h; subst h
  refine s_val 7 rfl rfl (.pointer (some ⟨g2, 0, none⟩)) (run_fld 39 _ 0 rfl g2 0 rfl 0 (by kernel_rfl)) ?_
  refine nr ?_; intro U h; simp only [z0, z1] at h; subst h
  refine s_val 8 rfl rfl (.agg (paA y.p)) (ldEp _ rfl g2 rfl (kg2)) ?_
  refine nr ?_; intro U h; simp only [z0, z1] at h; subst h
  refine s_callv 9 rfl rfl _ 29 Try.call29 rfl rfl _ rfl [.agg (paA x.p), .agg (paA y.p)] rfl (order_any x.p y.p hx.p hy.p _) ?_
  intro w3 G
  replace kg1 := G.has kg1
  replace kg2 := G.has kg2
  replace GG := GG.trans G
  clear G
  refine nr ?_; intro U h; simp only [z0, z1] at h; subst h
  refine s_val 4 rfl rfl (.int .i64 (cmpP x.p y.p)) (rfl) ?_
  refine nr ?_; intro U h; simp only [z0, z1] at h; subst h
  refine wpList_nil ?_
  refine then_n ?_
  refine wp_ret ?_
  refine bodyPost_ret (results_tmp Try.results28 _ _ _) rfl ?_
  exact ⟨rfl, GG⟩
end Go.Proofs.Ytmpnepbmpmkmkab.D
