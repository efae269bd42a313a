/- The orders of candidates. -/
import Derived.Test.YtfabgonoonanfaaEA1
import Derived.Test.YtfabgonoonanfaaEG4
import Derived.Test.YtfabgonoonanfaaEW2
namespace Go.Proofs.Ytfabgonoonanfaa
open Go.RowKit
theorem siIl (n : Nat) : (Try.prog.info? 23).map (·.size) = some (idA n).toList.length := by rw [idA_len]; exact size23
def kN : Kd Int := ⟨fun x => [.int .i64 x], 1, I64, 0, fun _ => rfl, fun x v hv => by rw [List.mem_singleton.1 hv]; rfl⟩
theorem rN : RowT Try.prog 97 3 kN.sz 8 (.int .i64 0) := ⟨Try.underlying97, info_of (by kernel_rfl), rfl, by decide⟩
theorem run_ldKN {o : Oper} {A : Act} {w : World} {ao : Option Addr} {cap : Nat} {l : List Int} (h : RK kN w ao cap l) (x : Operand) (ho : o.op = .load 3 x) (j : Nat) (hx : A.eval x = .pointer (pK kN ao j 0)) (hj : j < l.length) : (execOp A.eval o).run Try.prog w = .ok (.value (.int .i64 (l.getD j 0))) w :=
  run_ldKc h 3 (na3 w) 0 (by decide) x ho j hx hj _ rfl
theorem bsN2 (a b : Int) (w : World) : (Instr.buildSlice 97 2 #[(0, .int .i64 a), (1, .int .i64 b)]).run Try.prog w = .ok (.slice (some ⟨w.heap.size, 0, none⟩) 2 2) (w.alloc (.cells ([a, b].flatMap kN.E).toArray 3)) := by kernel_rfl
theorem two_all {α : Type} {p : α → Prop} {x y : α} (h : p x) (k : p y) : ∀ z ∈ [x, y], p z := fun z hz => by
  simp only [List.mem_cons, List.not_mem_nil, or_false] at hz
  rcases hz with rfl | rfl
  · exact h
  · exact k
theorem dec_b (b : Bool) : b = decide (b = true) := by cases b <;> rfl
def cmpZ (a b : Int) : Int := if a < b then -1 else if b < a then 1 else 0
theorem cmpZ_ok (a b : Int) : I64 (cmpZ a b) := by
  unfold cmpZ I64
  split
  · omega
  · split <;> omega
theorem cmpN_ok (a b : Nat) : I64 (cmpN a b) := by
  unfold cmpN I64
  split
  · omega
  · split <;> omega
def orI : List Int → Int
  | [] => 0
  | x :: l => if x ≠ 0 then x else orI l
theorem orI_at : ∀ (l : List Int) (i : Nat), (∀ k, k < i → l.getD k 0 = 0) → i < l.length → l.getD i 0 ≠ 0 → orI l = l.getD i 0
  | [], _, _, h, _ => absurd h (by simp)
  | x :: l, 0, _, _, h => by rw [orI, if_pos (by simpa using h)]; rfl
  | x :: l, i + 1, hz, hi, h => by
    have h0 : x = 0 := by simpa using hz 0 (by omega)
    rw [orI, if_neg (by simpa using h0), orI_at l i (fun k hk => by simpa using hz (k + 1) (by omega)) (by simpa using hi) (by simpa using h)]
    simp
theorem orI_none : ∀ (l : List Int), (∀ k, k < l.length → l.getD k 0 = 0) → orI l = 0
  | [], _ => rfl
  | x :: l, hz => by
    have h0 : x = 0 := by simpa using hz 0 (by simp)
    rw [orI, if_neg (by simpa using h0), orI_none l fun k hk => by simpa using hz (k + 1) (by simpa using hk)]
theorem uptoZ {p : Nat → Prop} {j : Nat} (h : ∀ i, i < j → p i) (hj : p j) : ∀ i, i < j + 1 → p i := fun i hi => by
  by_cases e : i = j
  · rw [e]; exact hj
  · exact h i (by omega)
/-- The order of keys. -/
def cmpK (p q : Pa) : Int := orI [cmpN p.who q.who, cmpZ p.n q.n]
def lessB (p q : Pa) : Bool := decide (ky p < ky q)
theorem cmpK_neg {p q : Pa} (hp : p.ok) (hq : q.ok) : decide (cmpK p q < 0) = lessB p q := by
  unfold lessB
  rw [decide_eq_decide, ky_lt hp hq]
  unfold cmpK orI orI orI cmpN cmpZ
  by_cases h1 : p.who < q.who
  · simp [h1]
  · by_cases h2 : q.who < p.who
    · have : p.who ≠ q.who := by omega
      simp [h1, h2, this]
    · have : p.who = q.who := by omega
      by_cases h3 : p.n < q.n
      · simp [this, h3]
      · by_cases h4 : q.n < p.n <;> simp [this, h3, h4]
/-- The ways in which candidates are put in order, one behind the other. -/
def pathC (a b : Cd) : Int := if lessB a.p b.p = true then -1 else if lessB b.p a.p = true then 1 else 0
def wayC (a b : Cd) : Int := if a.leg = 1 then pathC a b else cmpZ a.n b.n
def ordc (i : Nat) (a b : Cd) : Int := if i = 0 then cmpN a.id b.id else if i = 1 then cmpZ a.leg b.leg else wayC a b
def cmpC (a b : Cd) : Int := orI [ordc 0 a b, ordc 1 a b, ordc 2 a b]
theorem cmpC_neg (a b : Cd) : decide (cmpC a b < 0) = ltC a b := by
  rw [Bool.eq_iff_iff, ltC_iff, decide_eq_true_eq]
  unfold cmpC orI orI orI orI ordc
  simp only [if_true, if_false, Nat.one_ne_zero, show ((2 : Nat) = 0) = False by simp, show ((2 : Nat) = 1) = False by simp]
  unfold cmpN cmpZ wayC pathC lessB
  simp only [decide_eq_true_eq]
  by_cases h1 : a.id < b.id
  · simp [h1]
  by_cases h2 : b.id < a.id
  · have : a.id ≠ b.id := by omega
    simp [h1, h2, this]
  have e1 : a.id = b.id := by omega
  by_cases h3 : a.leg < b.leg
  · simp [e1, h3]
  by_cases h4 : b.leg < a.leg
  · have : a.leg ≠ b.leg := by omega
    simp [e1, h3, h4, this]
  have e2 : a.leg = b.leg := by omega
  by_cases h5 : b.leg = 1
  · simp only [e1, e2, h5, Int.lt_irrefl, Nat.lt_irrefl, if_false, if_true]
    by_cases h6 : ky a.p < ky b.p
    · simp [h6]
    · by_cases h7 : ky b.p < ky a.p <;> simp [h6, h7]
  · simp only [e1, e2, h5, Int.lt_irrefl, Nat.lt_irrefl, if_false]
    unfold cmpZ
    by_cases h6 : a.n < b.n
    · simp [h6, h5]
    · by_cases h7 : b.n < a.n <;> simp [h6, h7]
set_option maxRecDepth 100000 in
set_option maxHeartbeats 4000000 in
theorem nan_any (a : Int) (w : World) : Calls Try.prog 52 #[.int .i64 a] w (fun e w' => e = .returned (.bool false) ∧ Gro w w') := by
  refine s_enter Try.func52 rfl Try.ntmps52 [.int .i64 a] [.int .i64 a, undef, undef, undef, undef, undef] rfl ?_
  have GG := Gro.refl w
  refine wp_seq ?_
  refine wp_region_lit ?_
  refine s_val 2 rfl rfl (.bool false) (rfl) ?_
  refine nr ?_; intro U h; simp only [z0, z1] at h; subst h
  refine wpList_nil ?_
  refine then_n ?_
  refine wp_seq ?_
  refine wp_region_lit ?_
  refine s_val 3 rfl rfl (.int .i64 a) (rfl) ?_
  refine nr ?_; intro U h; simp only [z0, z1] at h; subst h
  refine s_val 4 rfl rfl (.int .i64 a) (rfl) ?_
  refine nr ?_; intro U h; simp only [z0, z1] at h; subst h
  refine s_val 5 rfl rfl (.bool false) (run_neq_k 3 .i64 _ _ _ rfl Try.underlying3 a a rfl rfl false (decide_eq_true rfl) _) ?_
  refine nr ?_; intro U h; simp only [z0, z1] at h; subst h
  refine s_val 2 rfl rfl (.bool false) (rfl) ?_
  refine nr ?_; intro U h; simp only [z0, z1] at h; subst h
  refine wpList_nil ?_
  refine then_n ?_
  refine wp_ret ?_
  refine bodyPost_ret (results_tmp Try.results52 _ _ _) rfl ?_
  exact ⟨rfl, GG⟩
set_option maxRecDepth 100000 in
set_option maxHeartbeats 4000000 in
theorem nan64_any (a : Int) (w : World) : Calls Try.prog 76 #[.int .i64 a] w (fun e w' => e = .returned (.bool false) ∧ Gro w w') := by
  refine s_enter Try.func76 rfl Try.ntmps76 [.int .i64 a] [.int .i64 a, undef, undef, undef, undef, undef] rfl ?_
  have GG := Gro.refl w
  refine wp_seq ?_
  refine wp_region_lit ?_
  refine s_val 2 rfl rfl (.bool false) (rfl) ?_
  refine nr ?_; intro U h; simp only [z0, z1] at h; subst h
  refine wpList_nil ?_
  refine then_n ?_
  refine wp_seq ?_
  refine wp_region_lit ?_
  refine s_val 3 rfl rfl (.int .i64 a) (rfl) ?_
  refine nr ?_; intro U h; simp only [z0, z1] at h; subst h
  refine s_val 4 rfl rfl (.int .i64 a) (rfl) ?_
  refine nr ?_; intro U h; simp only [z0, z1] at h; subst h
  refine s_val 5 rfl rfl (.bool false) (run_neq_k 2 .i64 _ _ _ rfl Try.underlying2 a a rfl rfl false (decide_eq_true rfl) _) ?_
  refine nr ?_; intro U h; simp only [z0, z1] at h; subst h
  refine s_val 2 rfl rfl (.bool false) (rfl) ?_
  refine nr ?_; intro U h; simp only [z0, z1] at h; subst h
  refine wpList_nil ?_
  refine then_n ?_
  refine wp_ret ?_
  refine bodyPost_ret (results_tmp Try.results76 _ _ _) rfl ?_
  exact ⟨rfl, GG⟩
set_option maxRecDepth 100000 in
set_option maxHeartbeats 4000000 in
theorem cmpz_any (a b : Int) (w : World) : Calls Try.prog 41 #[.int .i64 a, .int .i64 b] w (fun e w' => e = .returned (.int .i64 (cmpZ a b)) ∧ Gro w w') := by
  refine s_enter Try.func41 rfl Try.ntmps41 [.int .i64 a, .int .i64 b] [.int .i64 a, .int .i64 b, undef, undef, undef, undef, undef, undef, undef, undef, undef, undef, undef, undef, undef, undef, undef, undef, undef, undef] rfl ?_
  have GG := Gro.refl w
  refine wp_seq ?_
  refine wp_region_lit ?_
  refine s_val 4 rfl rfl (.int .i64 0) (rfl) ?_
  refine nr ?_; intro U h; simp only [z0, z1] at h; subst h
  refine wpList_nil ?_
  refine then_n ?_
  refine wp_seq ?_
  refine wp_region_lit ?_
  refine s_val 7 rfl rfl (.int .i64 a) (rfl) ?_
  refine nr ?_; intro U h; simp only [z0, z1] at h; subst h
  refine s_callv 8 rfl rfl _ 52 Try.call52 rfl rfl _ rfl [.int .i64 a] rfl (nan_any a _) ?_
  intro w1 G
  replace GG := GG.trans G
  clear G
  refine nr ?_; intro U h; simp only [z0, z1] at h; subst h
  refine s_val 5 rfl rfl (.bool false) (rfl) ?_
  refine nr ?_; intro U h; simp only [z0, z1] at h; subst h
  refine wpList_nil ?_
  refine then_n ?_
  refine wp_seq ?_
  refine wp_region_lit ?_
  refine s_val 9 rfl rfl (.int .i64 b) (rfl) ?_
  refine nr ?_; intro U h; simp only [z0, z1] at h; subst h
  refine s_callv 10 rfl rfl _ 52 Try.call52 rfl rfl _ rfl [.int .i64 b] rfl (nan_any b _) ?_
  intro w2 G
  replace GG := GG.trans G
  clear G
  refine nr ?_; intro U h; simp only [z0, z1] at h; subst h
  refine s_val 6 rfl rfl (.bool false) (rfl) ?_
  refine nr ?_; intro U h; simp only [z0, z1] at h; subst h
  refine wpList_nil ?_
  refine then_n ?_
  refine wp_seq ?_
  refine wp_seq ?_
  refine wp_region_lit ?_
  refine s_val 11 rfl rfl (.bool false) (rfl) ?_
  refine nr ?_; intro U h; simp only [z0, z1] at h; subst h
  refine wpList_nil ?_
  refine then_n ?_
  refine wp_cond_false rfl ?_
  refine wp_skip ?_
  refine then_n ?_
  refine wp_seq ?_
  refine wp_seq ?_
  refine wp_region_lit ?_
  refine s_val 13 rfl rfl (.bool false) (rfl) ?_
  refine nr ?_; intro U h; simp only [z0, z1] at h; subst h
  refine wpList_nil ?_
  refine then_n ?_
  refine wp_cond_false rfl ?_
  refine wp_skip ?_
  refine then_n ?_
  refine wp_seq ?_
  refine wp_seq ?_
  cases h1 : decide (a < b)
  · refine wp_region_lit ?_
    refine s_val 14 rfl rfl (.int .i64 a) (rfl) ?_
    refine nr ?_; intro U h; simp only [z0, z1] at h; subst h
    refine s_val 15 rfl rfl (.int .i64 b) (rfl) ?_
    refine nr ?_; intro U h; simp only [z0, z1] at h; subst h
    refine s_val 16 rfl rfl (.bool false) (run_lssT 3 _ _ _ rfl a b rfl rfl false h1 _) ?_
    refine nr ?_; intro U h; simp only [z0, z1] at h; subst h
    refine wpList_nil ?_
    refine then_n ?_
    refine wp_cond_false rfl ?_
    refine wp_skip ?_
    refine then_n ?_
    refine wp_seq ?_
    refine wp_seq ?_
    cases h2 : decide (b < a)
    · refine wp_region_lit ?_
      refine s_val 17 rfl rfl (.int .i64 a) (rfl) ?_
      refine nr ?_; intro U h; simp only [z0, z1] at h; subst h
      refine s_val 18 rfl rfl (.int .i64 b) (rfl) ?_
      refine nr ?_; intro U h; simp only [z0, z1] at h; subst h
      refine s_val 19 rfl rfl (.bool false) (run_gtrT 3 _ _ _ rfl a b rfl rfl false h2 _) ?_
      refine nr ?_; intro U h; simp only [z0, z1] at h; subst h
      refine wpList_nil ?_
      refine then_n ?_
      refine wp_cond_false rfl ?_
      refine wp_skip ?_
      refine then_n ?_
      refine wp_seq ?_
      refine wp_region_lit ?_
      refine s_val 4 rfl rfl (.int .i64 0) (rfl) ?_
      refine nr ?_; intro U h; simp only [z0, z1] at h; subst h
      refine wpList_nil ?_
      refine then_n ?_
      refine wp_ret ?_
      refine bodyPost_ret (results_tmp Try.results41 _ _ _) rfl ?_
      exact ⟨congrArg (fun v => Ending.returned (.int .i64 v)) (show cmpZ a b = 0 from (if_neg (of_decide_eq_false h1)).trans (if_neg (of_decide_eq_false h2))).symm, GG⟩
    · refine wp_region_lit ?_
      refine s_val 17 rfl rfl (.int .i64 a) (rfl) ?_
      refine nr ?_; intro U h; simp only [z0, z1] at h; subst h
      refine s_val 18 rfl rfl (.int .i64 b) (rfl) ?_
      refine nr ?_; intro U h; simp only [z0, z1] at h; subst h
      refine s_val 19 rfl rfl (.bool true) (run_gtrT 3 _ _ _ rfl a b rfl rfl true h2 _) ?_
      refine nr ?_; intro U h; simp only [z0, z1] at h; subst h
      refine wpList_nil ?_
      refine then_n ?_
      refine wp_cond_true rfl ?_
      refine wp_seq ?_
      refine wp_region_lit ?_
      refine s_val 4 rfl rfl (.int .i64 1) (rfl) ?_
      refine nr ?_; intro U h; simp only [z0, z1] at h; subst h
      refine wpList_nil ?_
      refine then_n ?_
      refine wp_ret ?_
      refine then_r ?_
      refine bodyPost_ret (results_tmp Try.results41 _ _ _) rfl ?_
      exact ⟨congrArg (fun v => Ending.returned (.int .i64 v)) (show cmpZ a b = 1 from (if_neg (of_decide_eq_false h1)).trans (if_pos (of_decide_eq_true h2))).symm, GG⟩
  · refine wp_region_lit ?_
    refine s_val 14 rfl rfl (.int .i64 a) (rfl) ?_
    refine nr ?_; intro U h; simp only [z0, z1] at h; subst h
    refine s_val 15 rfl rfl (.int .i64 b) (rfl) ?_
    refine nr ?_; intro U h; simp only [z0, z1] at h; subst h
    refine s_val 16 rfl rfl (.bool true) (run_lssT 3 _ _ _ rfl a b rfl rfl true h1 _) ?_
    refine nr ?_; intro U h; simp only [z0, z1] at h; subst h
    refine wpList_nil ?_
    refine then_n ?_
    refine wp_cond_true rfl ?_
    refine wp_seq ?_
    refine wp_region_lit ?_
    refine s_val 4 rfl rfl (.int .i64 (-1)) (rfl) ?_
    refine nr ?_; intro U h; simp only [z0, z1] at h; subst h
    refine wpList_nil ?_
    refine then_n ?_
    refine wp_ret ?_
    refine then_r ?_
    refine bodyPost_ret (results_tmp Try.results41 _ _ _) rfl ?_
    exact ⟨congrArg (fun v => Ending.returned (.int .i64 v)) (show cmpZ a b = -1 from if_pos (of_decide_eq_true h1)).symm, GG⟩
set_option maxRecDepth 100000 in
set_option maxHeartbeats 4000000 in
theorem cmpz64_any (a b : Int) (w : World) : Calls Try.prog 65 #[.int .i64 a, .int .i64 b] w (fun e w' => e = .returned (.int .i64 (cmpZ a b)) ∧ Gro w w') := by
  refine s_enter Try.func65 rfl Try.ntmps65 [.int .i64 a, .int .i64 b] [.int .i64 a, .int .i64 b, undef, undef, undef, undef, undef, undef, undef, undef, undef, undef, undef, undef, undef, undef, undef, undef, undef, undef] rfl ?_
  have GG := Gro.refl w
  refine wp_seq ?_
  refine wp_region_lit ?_
  refine s_val 4 rfl rfl (.int .i64 0) (rfl) ?_
  refine nr ?_; intro U h; simp only [z0, z1] at h; subst h
  refine wpList_nil ?_
  refine then_n ?_
  refine wp_seq ?_
  refine wp_region_lit ?_
  refine s_val 7 rfl rfl (.int .i64 a) (rfl) ?_
  refine nr ?_; intro U h; simp only [z0, z1] at h; subst h
  refine s_callv 8 rfl rfl _ 76 Try.call76 rfl rfl _ rfl [.int .i64 a] rfl (nan64_any a _) ?_
  intro w1 G
  replace GG := GG.trans G
  clear G
  refine nr ?_; intro U h; simp only [z0, z1] at h; subst h
  refine s_val 5 rfl rfl (.bool false) (rfl) ?_
  refine nr ?_; intro U h; simp only [z0, z1] at h; subst h
  refine wpList_nil ?_
  refine then_n ?_
  refine wp_seq ?_
  refine wp_region_lit ?_
  refine s_val 9 rfl rfl (.int .i64 b) (rfl) ?_
  refine nr ?_; intro U h; simp only [z0, z1] at h; subst h
  refine s_callv 10 rfl rfl _ 76 Try.call76 rfl rfl _ rfl [.int .i64 b] rfl (nan64_any b _) ?_
  intro w2 G
  replace GG := GG.trans G
  clear G
  refine nr ?_; intro U h; simp only [z0, z1] at h; subst h
  refine s_val 6 rfl rfl (.bool false) (rfl) ?_
  refine nr ?_; intro U h; simp only [z0, z1] at h; subst h
  refine wpList_nil ?_
  refine then_n ?_
  refine wp_seq ?_
  refine wp_seq ?_
  refine wp_region_lit ?_
  refine s_val 11 rfl rfl (.bool false) (rfl) ?_
  refine nr ?_; intro U h; simp only [z0, z1] at h; subst h
  refine wpList_nil ?_
  refine then_n ?_
  refine wp_cond_false rfl ?_
  refine wp_skip ?_
  refine then_n ?_
  refine wp_seq ?_
  refine wp_seq ?_
  refine wp_region_lit ?_
  refine s_val 13 rfl rfl (.bool false) (rfl) ?_
  refine nr ?_; intro U h; simp only [z0, z1] at h; subst h
  refine wpList_nil ?_
  refine then_n ?_
  refine wp_cond_false rfl ?_
  refine wp_skip ?_
  refine then_n ?_
  refine wp_seq ?_
  refine wp_seq ?_
  cases h1 : decide (a < b)
  · refine wp_region_lit ?_
    refine s_val 14 rfl rfl (.int .i64 a) (rfl) ?_
    refine nr ?_; intro U h; simp only [z0, z1] at h; subst h
    refine s_val 15 rfl rfl (.int .i64 b) (rfl) ?_
    refine nr ?_; intro U h; simp only [z0, z1] at h; subst h
    refine s_val 16 rfl rfl (.bool false) (run_lssT 2 _ _ _ rfl a b rfl rfl false h1 _) ?_
    refine nr ?_; intro U h; simp only [z0, z1] at h; subst h
    refine wpList_nil ?_
    refine then_n ?_
    refine wp_cond_false rfl ?_
    refine wp_skip ?_
    refine then_n ?_
    refine wp_seq ?_
    refine wp_seq ?_
    cases h2 : decide (b < a)
    · refine wp_region_lit ?_
      refine s_val 17 rfl rfl (.int .i64 a) (rfl) ?_
      refine nr ?_; intro U h; simp only [z0, z1] at h; subst h
      refine s_val 18 rfl rfl (.int .i64 b) (rfl) ?_
      refine nr ?_; intro U h; simp only [z0, z1] at h; subst h
      refine s_val 19 rfl rfl (.bool false) (run_gtrT 2 _ _ _ rfl a b rfl rfl false h2 _) ?_
      refine nr ?_; intro U h; simp only [z0, z1] at h; subst h
      refine wpList_nil ?_
      refine then_n ?_
      refine wp_cond_false rfl ?_
      refine wp_skip ?_
      refine then_n ?_
      refine wp_seq ?_
      refine wp_region_lit ?_
      refine s_val 4 rfl rfl (.int .i64 0) (rfl) ?_
      refine nr ?_; intro U h; simp only [z0, z1] at h; subst h
      refine wpList_nil ?_
      refine then_n ?_
      refine wp_ret ?_
      refine bodyPost_ret (results_tmp Try.results65 _ _ _) rfl ?_
      exact ⟨congrArg (fun v => Ending.returned (.int .i64 v)) (show cmpZ a b = 0 from (if_neg (of_decide_eq_false h1)).trans (if_neg (of_decide_eq_false h2))).symm, GG⟩
    · refine wp_region_lit ?_
      refine s_val 17 rfl rfl (.int .i64 a) (rfl) ?_
      refine nr ?_; intro U h; simp only [z0, z1] at h; subst h
      refine s_val 18 rfl rfl (.int .i64 b) (rfl) ?_
      refine nr ?_; intro U h; simp only [z0, z1] at h; subst h
      refine s_val 19 rfl rfl (.bool true) (run_gtrT 2 _ _ _ rfl a b rfl rfl true h2 _) ?_
      refine nr ?_; intro U h; simp only [z0, z1] at h; subst h
      refine wpList_nil ?_
      refine then_n ?_
      refine wp_cond_true rfl ?_
      refine wp_seq ?_
      refine wp_region_lit ?_
      refine s_val 4 rfl rfl (.int .i64 1) (rfl) ?_
      refine nr ?_; intro U h; simp only [z0, z1] at h; subst h
      refine wpList_nil ?_
      refine then_n ?_
      refine wp_ret ?_
      refine then_r ?_
      refine bodyPost_ret (results_tmp Try.results65 _ _ _) rfl ?_
      exact ⟨congrArg (fun v => Ending.returned (.int .i64 v)) (show cmpZ a b = 1 from (if_neg (of_decide_eq_false h1)).trans (if_pos (of_decide_eq_true h2))).symm, GG⟩
  · refine wp_region_lit ?_
    refine s_val 14 rfl rfl (.int .i64 a) (rfl) ?_
    refine nr ?_; intro U h; simp only [z0, z1] at h; subst h
    refine s_val 15 rfl rfl (.int .i64 b) (rfl) ?_
    refine nr ?_; intro U h; simp only [z0, z1] at h; subst h
    refine s_val 16 rfl rfl (.bool true) (run_lssT 2 _ _ _ rfl a b rfl rfl true h1 _) ?_
    refine nr ?_; intro U h; simp only [z0, z1] at h; subst h
    refine wpList_nil ?_
    refine then_n ?_
    refine wp_cond_true rfl ?_
    refine wp_seq ?_
    refine wp_region_lit ?_
    refine s_val 4 rfl rfl (.int .i64 (-1)) (rfl) ?_
    refine nr ?_; intro U h; simp only [z0, z1] at h; subst h
    refine wpList_nil ?_
    refine then_n ?_
    refine wp_ret ?_
    refine then_r ?_
    refine bodyPost_ret (results_tmp Try.results65 _ _ _) rfl ?_
    exact ⟨congrArg (fun v => Ending.returned (.int .i64 v)) (show cmpZ a b = -1 from if_pos (of_decide_eq_true h1)).symm, GG⟩
set_option maxRecDepth 100000 in
set_option maxHeartbeats 4000000 in
theorem or_any (w : World) (ao : Option Addr) (cap : Nat) (l : List Int) (HL : RK kN w ao cap l) (hl : l.length ≤ 1000000) : Calls Try.prog 64 #[.slice ao l.length cap] w (fun e w' => e = .returned (.int .i64 (orI l)) ∧ Gro w w') := by
  refine s_enter Try.func64 rfl Try.ntmps64 [.slice ao l.length cap] [.slice ao l.length cap, undef, undef, undef, undef, undef, undef, undef, undef, undef, undef, undef, undef, undef, undef, undef, undef, undef] rfl ?_
  have GG := Gro.refl w
  refine wp_seq ?_
  refine wp_region_lit ?_
  refine s_val 2 rfl rfl (.int .i64 0) (rfl) ?_
  refine nr ?_; intro U h; simp only [z0, z1] at h; subst h
  refine wpList_nil ?_
  refine then_n ?_
  refine wp_seq ?_
  refine wp_region_lit ?_
  refine s_val 3 rfl rfl (.int .i64 0) (rfl) ?_
  refine nr ?_; intro U h; simp only [z0, z1] at h; subst h
  refine wpList_nil ?_
  refine then_n ?_
  refine wp_seq ?_
  refine wp_seq ?_
  refine wp_region_lit ?_
  refine s_val 6 rfl rfl (.slice ao l.length cap) (rfl) ?_
  refine nr ?_; intro U h; simp only [z0, z1] at h; subst h
  refine s_val 7 rfl rfl (.int .i64 ((l.length : Nat) : Int)) (run_len Try.underlying97 _ rfl _ _ _ rfl _) ?_
  refine nr ?_; intro U h; simp only [z0, z1] at h; subst h
  refine s_val 8 rfl rfl (.int .i64 0) (rfl) ?_
  refine nr ?_; intro U h; simp only [z0, z1] at h; subst h
  refine wpList_nil ?_
  refine then_n ?_
  refine wp_block ?_
  refine wp_loopN (fun mz az wv => ∃ (i : Nat) (us1 : Nat → Value), mz = l.length + 1 - i ∧ az = ⟨[.slice ao l.length cap, undef, us1 0, .int .i64 0, undef, us1 1, .slice ao l.length cap, .int .i64 ((l.length : Nat) : Int), .int .i64 ((i : Nat) : Int), us1 2, us1 3, us1 4, us1 5, us1 6, us1 7, us1 8, us1 9, undef].toArray, []⟩ ∧ i ≤ l.length ∧ (∀ k, k < i → l.getD k 0 = 0) ∧ Gro w wv) ?_ _ ⟨0, (fun kz => ([.int .i64 0, undef, undef, undef, undef, undef, undef, undef, undef, undef] : List Value).getD kz undef), rfl, rfl, Nat.zero_le _, fun _ h => absurd h (by omega), GG⟩
  clear GG
  rintro mz az wv ⟨i, us1, rfl, rfl, hi, hz, GG⟩
  refine wp_seq ?_
  refine wp_region_lit ?_
  cases hi1 : decide (((i : Nat) : Int) < ((l.length : Nat) : Int))
  · have hie : i = l.length := by have := of_decide_eq_false hi1; omega
    refine s_val 9 rfl rfl (.bool false) (run_lssT 3 _ _ _ rfl ((i : Nat) : Int) ((l.length : Nat) : Int) rfl rfl false hi1 _) ?_
    refine nr ?_; intro U h; simp only [z0, z1] at h; subst h
    refine wpList_nil ?_
    refine then_n ?_
    refine wp_seq ?_
    refine wp_cond_false rfl ?_
    refine wp_exit ?_
    refine then_x ?_
    refine then_x ?_
    refine blk_x ?_
    refine then_n ?_
    refine wp_seq ?_
    refine wp_region_lit ?_
    refine s_val 17 rfl rfl (.int .i64 0) (rfl) ?_
    refine nr ?_; intro U h; simp only [z0, z1] at h; subst h
    refine s_val 2 rfl rfl (.int .i64 0) (rfl) ?_
    refine nr ?_; intro U h; simp only [z0, z1] at h; subst h
    refine wpList_nil ?_
    refine then_n ?_
    refine wp_ret ?_
    refine bodyPost_ret (results_tmp Try.results64 _ _ _) rfl ?_
    exact ⟨congrArg (fun v => Ending.returned (.int .i64 v)) (orI_none l fun k hk => hz k (by omega)).symm, GG⟩
  · have hil : i < l.length := by have := of_decide_eq_true hi1; omega
    refine s_val 9 rfl rfl (.bool true) (run_lssT 3 _ _ _ rfl ((i : Nat) : Int) ((l.length : Nat) : Int) rfl rfl true hi1 _) ?_
    refine nr ?_; intro U h; simp only [z0, z1] at h; subst h
    refine wpList_nil ?_
    refine then_n ?_
    refine wp_seq ?_
    refine wp_cond_true rfl ?_
    refine wp_skip ?_
    refine then_n ?_
    refine wp_seq ?_
    refine wp_block ?_
    refine wp_seq ?_
    refine wp_region_lit ?_
    refine s_val 10 rfl rfl (.pointer (pK kN ao i 0)) (run_ixK rN (HL.gro GG) _ _ rfl rfl i rfl (by omega)) ?_
    refine nr ?_; intro U h; simp only [z0, z1] at h; subst h
    refine s_val 11 rfl rfl (.int .i64 (l.getD i 0)) (run_ldKN (HL.gro GG) _ rfl i rfl (by omega)) ?_
    refine nr ?_; intro U h; simp only [z0, z1] at h; subst h
    refine s_val 5 rfl rfl (.int .i64 (l.getD i 0)) (rfl) ?_
    refine nr ?_; intro U h; simp only [z0, z1] at h; subst h
    refine wpList_nil ?_
    refine then_n ?_
    refine wp_seq ?_
    cases hn : decide (l.getD i 0 = 0)
    · refine wp_region_lit ?_
      refine s_val 12 rfl rfl (.int .i64 (l.getD i 0)) (rfl) ?_
      refine nr ?_; intro U h; simp only [z0, z1] at h; subst h
      refine s_val 13 rfl rfl (.int .i64 0) (rfl) ?_
      refine nr ?_; intro U h; simp only [z0, z1] at h; subst h
      refine s_val 14 rfl rfl (.bool true) (run_neq_k 3 .i64 _ _ _ rfl Try.underlying3 (l.getD i 0) 0 rfl rfl true hn _) ?_
      refine nr ?_; intro U h; simp only [z0, z1] at h; subst h
      refine wpList_nil ?_
      refine then_n ?_
      refine wp_cond_true rfl ?_
      refine wp_seq ?_
      refine wp_region_lit ?_
      refine s_val 15 rfl rfl (.int .i64 (l.getD i 0)) (rfl) ?_
      refine nr ?_; intro U h; simp only [z0, z1] at h; subst h
      refine s_val 2 rfl rfl (.int .i64 (l.getD i 0)) (rfl) ?_
      refine nr ?_; intro U h; simp only [z0, z1] at h; subst h
      refine wpList_nil ?_
      refine then_n ?_
      refine wp_ret ?_
      refine blk_r ?_
      refine then_r ?_
      refine then_r ?_
      refine blk_r ?_
      refine then_r ?_
      refine bodyPost_ret (results_tmp Try.results64 _ _ _) rfl ?_
      exact ⟨congrArg (fun v => Ending.returned (.int .i64 v)) (orI_at l i hz hil (of_decide_eq_false hn)).symm, GG⟩
    · refine wp_region_lit ?_
      refine s_val 12 rfl rfl (.int .i64 (l.getD i 0)) (rfl) ?_
      refine nr ?_; intro U h; simp only [z0, z1] at h; subst h
      refine s_val 13 rfl rfl (.int .i64 0) (rfl) ?_
      refine nr ?_; intro U h; simp only [z0, z1] at h; subst h
      refine s_val 14 rfl rfl (.bool false) (run_neq_k 3 .i64 _ _ _ rfl Try.underlying3 (l.getD i 0) 0 rfl rfl false hn _) ?_
      refine nr ?_; intro U h; simp only [z0, z1] at h; subst h
      refine wpList_nil ?_
      refine then_n ?_
      refine wp_cond_false rfl ?_
      refine wp_skip ?_
      refine blk_n ?_
      refine then_n ?_
      refine wp_region_lit ?_
      refine s_val 16 rfl rfl (.int .i64 ((i + 1 : Nat) : Int)) (run_addI 3 _ _ _ rfl ((i : Nat) : Int) 1 ((i + 1 : Nat) : Int) rfl rfl (by omega) (by omega) (by omega) _) ?_
      refine nr ?_; intro U h; simp only [z0, z1] at h; subst h
      refine s_val 8 rfl rfl (.int .i64 ((i + 1 : Nat) : Int)) (rfl) ?_
      refine nr ?_; intro U h; simp only [z0, z1] at h; subst h
      refine wpList_nil ?_
      refine then_n ?_
      exact ⟨l.length + 1 - (i + 1), by omega, i + 1, (fun kz => ([us1 0, .int .i64 (l.getD i 0), .bool true, .pointer (pK kN ao i 0), .int .i64 (l.getD i 0), .int .i64 (l.getD i 0), .int .i64 0, .bool false, us1 8, .int .i64 ((i + 1 : Nat) : Int)] : List Value).getD kz undef), rfl, rfl, by omega, uptoZ hz (of_decide_eq_true hn), GG⟩
set_option maxRecDepth 100000 in
set_option maxHeartbeats 4000000 in
theorem order_any (p q : Pa) (hp : p.ok) (hq : q.ok) (w : World) : Calls Try.prog 60 #[.agg (paA p), .agg (paA q)] w (fun e w' => e = .returned (.int .i64 (cmpK p q)) ∧ Gro w w') := by
  refine s_enter Try.func60 rfl Try.ntmps60 [.agg (paA p), .agg (paA q)] [.agg (paA p), .agg (paA q), undef, undef, undef, undef, undef, undef, undef, undef, undef, undef, undef, undef, undef, undef, undef] rfl ?_
  have GG := Gro.refl w
  refine wp_seq ?_
  refine wp_region_lit ?_
  refine s_box 2 rfl rfl 31 _ rfl _ rfl (paA p) rfl ?_
  intro w1 g1 G eg1 kg1
  have bg1 := size_base GG eg1
  replace GG := GG.trans G
  clear G
  clear eg1
  refine nr ?_; intro U h; simp only [z0, z1] at h; subst h
  refine s_box 3 rfl rfl 31 _ rfl _ rfl (paA q) rfl ?_
  intro w2 g2 G eg2 kg2
  have bg2 := size_base GG eg2
  have dg1g2 := lt_new kg1 eg2
  replace kg1 := G.has kg1
  replace GG := GG.trans G
  clear G
  clear eg2
  refine nr ?_; intro U h; simp only [z0, z1] at h; subst h
  refine s_val 4 rfl rfl (.int .i64 0) (rfl) ?_
  refine nr ?_; intro U h; simp only [z0, z1] at h; subst h
  refine wpList_nil ?_
  refine then_n ?_
  refine wp_seq ?_
  refine wp_region_exA (A := ?Ax1) 9 [(0, 5), (1, 6), (2, 7), (3, 8), (4, 9), (5, 10), (6, 11), (7, 12), (8, 13)] [.val (.pointer (some ⟨g1, 0, none⟩)), .val (.agg (idA p.who)), .val (.pointer (some ⟨g2, 0, none⟩)), .val (.agg (idA q.who)), .val (.int .i64 (cmpN p.who q.who)), .val (.pointer (some ⟨g1, 16, none⟩)), .val (.int .i64 p.n), .val (.pointer (some ⟨g2, 16, none⟩)), .val (.int .i64 q.n)] follows (by kernel_rfl) rfl ?hAx1 (opsA_cons ?o0x1 (opsA_cons ?o1x1 (opsA_cons ?o2x1 (opsA_cons ?o3x1 (opsA_cons ?o4x1 (opsA_cons ?o5x1 (opsA_cons ?o6x1 (opsA_cons ?o7x1 (opsA_cons ?o8x1 opsA_nil))))))))) ?restx1
  case hAx1 =>
    intro ptrs
    simp only [full, foldSlots, filledE, postE, List.foldl_cons, List.foldl_nil, List.getD_cons_zero, List.getD_cons_succ, fill_val, List.set_cons_zero, List.set_cons_succ]
    exact rfl
  case o0x1 => exact fun _ _ _ _ => opE_value (v := .pointer (some ⟨g1, 0, none⟩)) rfl (run_fld 31 _ 0 rfl g1 0 rfl 0 (by kernel_rfl))
  case o1x1 => exact fun _ _ hw _ => opE_value (v := .agg (idA p.who)) rfl (ldPw _ rfl g1 rfl (hw.has kg1))
  case o2x1 => exact fun _ _ _ _ => opE_value (v := .pointer (some ⟨g2, 0, none⟩)) rfl (run_fld 31 _ 0 rfl g2 0 rfl 0 (by kernel_rfl))
  case o3x1 => exact fun _ _ hw _ => opE_value (v := .agg (idA q.who)) rfl (ldPw _ rfl g2 rfl (hw.has kg2))
  case o4x1 =>
    intro ptrs w' hw hE
    exact opE_call (.val (.int .i64 (cmpN p.who q.who))) rfl _ 38 Try.call38 rfl rfl _ rfl [.agg (idA p.who), .agg (idA q.who)] rfl ((cmp_any p.who q.who hp.who hq.who _).mono fun e w' ⟨he, hg⟩ => ⟨_, he, hg, rfl⟩)
  case o5x1 => exact fun _ _ _ _ => opE_value (v := .pointer (some ⟨g1, 16, none⟩)) rfl (run_fld 31 _ 1 rfl g1 0 rfl 16 (by kernel_rfl))
  case o6x1 => exact fun _ _ hw _ => opE_value (v := .int .i64 p.n) rfl (ldPn _ rfl g1 rfl (hw.has kg1))
  case o7x1 => exact fun _ _ _ _ => opE_value (v := .pointer (some ⟨g2, 16, none⟩)) rfl (run_fld 31 _ 1 rfl g2 0 rfl 16 (by kernel_rfl))
  case o8x1 => exact fun _ _ hw _ => opE_value (v := .int .i64 q.n) rfl (ldPn _ rfl g2 rfl (hw.has kg2))
  intro ptrs w3 GD hxE
  simp only [List.drop_succ_cons, List.drop_zero]
  replace kg1 := GD.has kg1
  replace kg2 := GD.has kg2
  replace GG := GG.drew.trans GD
  clear GD
  refine s_callv 14 rfl rfl _ 65 Try.call65 rfl rfl _ rfl [.int .i64 p.n, .int .i64 q.n] rfl (cmpz64_any p.n q.n _) ?_
  intro w4 G
  replace kg1 := G.has kg1
  replace kg2 := G.has kg2
  replace GG := GG.trans G
  clear G
  refine nr ?_; intro U h; simp only [z0, z1] at h; subst h
  refine s_bsl 15 rfl rfl 97 2 _ rfl [(0, .int .i64 (cmpN p.who q.who)), (1, .int .i64 (cmpZ p.n q.n))] rfl ([(cmpN p.who q.who), (cmpZ p.n q.n)].flatMap kN.E).toArray 3 (bsN2 (cmpN p.who q.who) (cmpZ p.n q.n) _) ?_
  intro w5 q1 G eq1 kq1
  have bq1 := size_base GG eq1
  replace kg1 := G.has kg1
  replace kg2 := G.has kg2
  replace GG := GG.trans G
  clear G
  have HR1 : RK kN _ (some ⟨q1, 0, none⟩) 2 [(cmpN p.who q.who), (cmpZ p.n q.n)] := RK.blk kq1 (two_all (cmpN_ok _ _) (cmpZ_ok _ _)) (Nat.le_refl _)
  clear eq1
  refine nr ?_; intro U h; simp only [z0, z1] at h; subst h
  refine s_callv 16 rfl rfl _ 64 Try.call64 rfl rfl _ rfl [.slice (some ⟨q1, 0, none⟩) 2 2] rfl (or_any _ _ _ [cmpN p.who q.who, cmpZ p.n q.n] HR1 (by simp)) ?_
  intro w6 G
  replace kg1 := G.has kg1
  replace kg2 := G.has kg2
  replace HR1 := HR1.gro G
  replace GG := GG.trans G
  clear G
  refine nr ?_; intro U h; simp only [z0, z1] at h; subst h
  refine s_val 4 rfl rfl (.int .i64 (orI [cmpN p.who q.who, cmpZ p.n q.n])) (rfl) ?_
  refine nr ?_; intro U h; simp only [z0, z1] at h; subst h
  refine wpList_nil ?_
  refine then_n ?_
  refine wp_ret ?_
  refine bodyPost_ret (results_tmp Try.results60 _ _ _) rfl ?_
  exact ⟨rfl, GG⟩
set_option maxRecDepth 100000 in
set_option maxHeartbeats 4000000 in
theorem less_t (p q : Pa) (hp : p.ok) (hq : q.ok) (w : World) : Calls Try.prog 53 #[.agg (paA p), .agg (paA q)] w (fun e w' => e = .returned (.bool (lessB p q)) ∧ Gro w w') := by
  refine s_enter Try.func53 rfl Try.ntmps53 [.agg (paA p), .agg (paA q)] [.agg (paA p), .agg (paA q), undef, undef, undef, undef, undef, undef, undef] rfl ?_
  have GG := Gro.refl w
  refine wp_seq ?_
  refine wp_region_lit ?_
  refine s_box 2 rfl rfl 31 _ rfl _ rfl (paA p) rfl ?_
  intro w1 g1 G eg1 kg1
  have bg1 := size_base GG eg1
  replace GG := GG.trans G
  clear G
  clear eg1
  refine nr ?_; intro U h; simp only [z0, z1] at h; subst h
  refine s_box 3 rfl rfl 31 _ rfl _ rfl (paA q) rfl ?_
  intro w2 g2 G eg2 kg2
  have bg2 := size_base GG eg2
  have dg1g2 := lt_new kg1 eg2
  replace kg1 := G.has kg1
  replace GG := GG.trans G
  clear G
  clear eg2
  refine nr ?_; intro U h; simp only [z0, z1] at h; subst h
  refine s_val 4 rfl rfl (.bool false) (rfl) ?_
  refine nr ?_; intro U h; simp only [z0, z1] at h; subst h
  refine wpList_nil ?_
  refine then_n ?_
  refine wp_seq ?_
  refine wp_region_lit ?_
  refine s_val 5 rfl rfl (.agg (paA p)) (ldP0 _ rfl g1 rfl (kg1)) ?_
  refine nr ?_; intro U h; simp only [z0, z1] at h; subst h
  refine s_val 6 rfl rfl (.agg (paA q)) (ldP0 _ rfl g2 rfl (kg2)) ?_
  refine nr ?_; intro U h; simp only [z0, z1] at h; subst h
  refine s_callv 7 rfl rfl _ 60 Try.call60 rfl rfl _ rfl [.agg (paA p), .agg (paA q)] rfl (order_any p q hp hq _) ?_
  intro w3 G
  replace kg1 := G.has kg1
  replace kg2 := G.has kg2
  replace GG := GG.trans G
  clear G
  refine nr ?_; intro U h; simp only [z0, z1] at h; subst h
  refine s_val 8 rfl rfl (.bool (lessB p q)) (run_lssT 3 _ _ _ rfl (cmpK p q) 0 rfl rfl _ (cmpK_neg hp hq) _) ?_
  refine nr ?_; intro U h; simp only [z0, z1] at h; subst h
  refine s_val 4 rfl rfl (.bool (lessB p q)) (rfl) ?_
  refine nr ?_; intro U h; simp only [z0, z1] at h; subst h
  refine wpList_nil ?_
  refine then_n ?_
  refine wp_ret ?_
  refine bodyPost_ret (results_tmp Try.results53 _ _ _) rfl ?_
  exact ⟨rfl, GG⟩
set_option maxRecDepth 100000 in
set_option maxHeartbeats 4000000 in
theorem byID_any (a b : Cd) (ha : a.ok) (hb : b.ok) (w : World) : Calls Try.prog 22 #[.agg (cdA a), .agg (cdA b)] w (fun e w' => e = .returned (.int .i64 (cmpN a.id b.id)) ∧ Gro w w') := by
  refine s_enter Try.func22 rfl Try.ntmps22 [.agg (cdA a), .agg (cdA b)] [.agg (cdA a), .agg (cdA b), undef, undef, undef, undef, undef, undef, undef, undef] rfl ?_
  have GG := Gro.refl w
  refine wp_seq ?_
  refine wp_region_lit ?_
  refine s_box 2 rfl rfl 33 _ rfl _ rfl (cdA a) rfl ?_
  intro w1 g1 G eg1 kg1
  have bg1 := size_base GG eg1
  replace GG := GG.trans G
  clear G
  clear eg1
  refine nr ?_; intro U h; simp only [z0, z1] at h; subst h
  refine s_box 3 rfl rfl 33 _ rfl _ rfl (cdA b) rfl ?_
  intro w2 g2 G eg2 kg2
  have bg2 := size_base GG eg2
  have dg1g2 := lt_new kg1 eg2
  replace kg1 := G.has kg1
  replace GG := GG.trans G
  clear G
  clear eg2
  refine nr ?_; intro U h; simp only [z0, z1] at h; subst h
  refine s_val 4 rfl rfl (.int .i64 0) (rfl) ?_
  refine nr ?_; intro U h; simp only [z0, z1] at h; subst h
  refine wpList_nil ?_
  refine then_n ?_
  refine wp_seq ?_
  refine wp_region_lit ?_
  refine s_val 5 rfl rfl (.pointer (some ⟨g1, 0, none⟩)) (run_fld 33 _ 0 rfl g1 0 rfl 0 (by kernel_rfl)) ?_
  refine nr ?_; intro U h; simp only [z0, z1] at h; subst h
  refine s_val 6 rfl rfl (.agg (idA a.id)) (ldCi _ rfl g1 rfl (kg1)) ?_
  refine nr ?_; intro U h; simp only [z0, z1] at h; subst h
  refine s_val 7 rfl rfl (.pointer (some ⟨g2, 0, none⟩)) (run_fld 33 _ 0 rfl g2 0 rfl 0 (by kernel_rfl)) ?_
  refine nr ?_; intro U h; simp only [z0, z1] at h; subst h
  refine s_val 8 rfl rfl (.agg (idA b.id)) (ldCi _ rfl g2 rfl (kg2)) ?_
  refine nr ?_; intro U h; simp only [z0, z1] at h; subst h
  refine s_callv 9 rfl rfl _ 38 Try.call38 rfl rfl _ rfl [.agg (idA a.id), .agg (idA b.id)] rfl (cmp_any a.id b.id ha.id hb.id _) ?_
  intro w3 G
  replace kg1 := G.has kg1
  replace kg2 := G.has kg2
  replace GG := GG.trans G
  clear G
  refine nr ?_; intro U h; simp only [z0, z1] at h; subst h
  refine s_val 4 rfl rfl (.int .i64 (cmpN a.id b.id)) (rfl) ?_
  refine nr ?_; intro U h; simp only [z0, z1] at h; subst h
  refine wpList_nil ?_
  refine then_n ?_
  refine wp_ret ?_
  refine bodyPost_ret (results_tmp Try.results22 _ _ _) rfl ?_
  exact ⟨rfl, GG⟩
set_option maxRecDepth 100000 in
set_option maxHeartbeats 4000000 in
theorem byLeg_any (a b : Cd) (w : World) : Calls Try.prog 23 #[.agg (cdA a), .agg (cdA b)] w (fun e w' => e = .returned (.int .i64 (cmpZ a.leg b.leg)) ∧ Gro w w') := by
  refine s_enter Try.func23 rfl Try.ntmps23 [.agg (cdA a), .agg (cdA b)] [.agg (cdA a), .agg (cdA b), undef, undef, undef, undef, undef, undef, undef, undef] rfl ?_
  have GG := Gro.refl w
  refine wp_seq ?_
  refine wp_region_lit ?_
  refine s_box 2 rfl rfl 33 _ rfl _ rfl (cdA a) rfl ?_
  intro w1 g1 G eg1 kg1
  have bg1 := size_base GG eg1
  replace GG := GG.trans G
  clear G
  clear eg1
  refine nr ?_; intro U h; simp only [z0, z1] at h; subst h
  refine s_box 3 rfl rfl 33 _ rfl _ rfl (cdA b) rfl ?_
  intro w2 g2 G eg2 kg2
  have bg2 := size_base GG eg2
  have dg1g2 := lt_new kg1 eg2
  replace kg1 := G.has kg1
  replace GG := GG.trans G
  clear G
  clear eg2
  refine nr ?_; intro U h; simp only [z0, z1] at h; subst h
  refine s_val 4 rfl rfl (.int .i64 0) (rfl) ?_
  refine nr ?_; intro U h; simp only [z0, z1] at h; subst h
  refine wpList_nil ?_
  refine then_n ?_
  refine wp_seq ?_
  refine wp_region_lit ?_
  refine s_val 5 rfl rfl (.pointer (some ⟨g1, 16, none⟩)) (run_fld 33 _ 1 rfl g1 0 rfl 16 (by kernel_rfl)) ?_
  refine nr ?_; intro U h; simp only [z0, z1] at h; subst h
  refine s_val 6 rfl rfl (.int .i64 a.leg) (ldCl _ rfl g1 rfl (kg1)) ?_
  refine nr ?_; intro U h; simp only [z0, z1] at h; subst h
  refine s_val 7 rfl rfl (.pointer (some ⟨g2, 16, none⟩)) (run_fld 33 _ 1 rfl g2 0 rfl 16 (by kernel_rfl)) ?_
  refine nr ?_; intro U h; simp only [z0, z1] at h; subst h
  refine s_val 8 rfl rfl (.int .i64 b.leg) (ldCl _ rfl g2 rfl (kg2)) ?_
  refine nr ?_; intro U h; simp only [z0, z1] at h; subst h
  refine s_callv 9 rfl rfl _ 41 Try.call41 rfl rfl _ rfl [.int .i64 a.leg, .int .i64 b.leg] rfl (cmpz_any a.leg b.leg _) ?_
  intro w3 G
  replace kg1 := G.has kg1
  replace kg2 := G.has kg2
  replace GG := GG.trans G
  clear G
  refine nr ?_; intro U h; simp only [z0, z1] at h; subst h
  refine s_val 4 rfl rfl (.int .i64 (cmpZ a.leg b.leg)) (rfl) ?_
  refine nr ?_; intro U h; simp only [z0, z1] at h; subst h
  refine wpList_nil ?_
  refine then_n ?_
  refine wp_ret ?_
  refine bodyPost_ret (results_tmp Try.results23 _ _ _) rfl ?_
  exact ⟨rfl, GG⟩
set_option maxRecDepth 100000 in
set_option maxHeartbeats 4000000 in
theorem byPlace_any (a b : Cd) (w : World) : Calls Try.prog 43 #[.agg (cdA a), .agg (cdA b)] w (fun e w' => e = .returned (.int .i64 (cmpZ a.n b.n)) ∧ Gro w w') := by
  refine s_enter Try.func43 rfl Try.ntmps43 [.agg (cdA a), .agg (cdA b)] [.agg (cdA a), .agg (cdA b), undef, undef, undef, undef, undef, undef, undef, undef] rfl ?_
  have GG := Gro.refl w
  refine wp_seq ?_
  refine wp_region_lit ?_
  refine s_box 2 rfl rfl 33 _ rfl _ rfl (cdA a) rfl ?_
  intro w1 g1 G eg1 kg1
  have bg1 := size_base GG eg1
  replace GG := GG.trans G
  clear G
  clear eg1
  refine nr ?_; intro U h; simp only [z0, z1] at h; subst h
  refine s_box 3 rfl rfl 33 _ rfl _ rfl (cdA b) rfl ?_
  intro w2 g2 G eg2 kg2
  have bg2 := size_base GG eg2
  have dg1g2 := lt_new kg1 eg2
  replace kg1 := G.has kg1
  replace GG := GG.trans G
  clear G
  clear eg2
  refine nr ?_; intro U h; simp only [z0, z1] at h; subst h
  refine s_val 4 rfl rfl (.int .i64 0) (rfl) ?_
  refine nr ?_; intro U h; simp only [z0, z1] at h; subst h
  refine wpList_nil ?_
  refine then_n ?_
  refine wp_seq ?_
  refine wp_region_lit ?_
  refine s_val 5 rfl rfl (.pointer (some ⟨g1, 17, none⟩)) (run_fld 33 _ 2 rfl g1 0 rfl 17 (by kernel_rfl)) ?_
  refine nr ?_; intro U h; simp only [z0, z1] at h; subst h
  refine s_val 6 rfl rfl (.int .i64 a.n) (ldCn _ rfl g1 rfl (kg1)) ?_
  refine nr ?_; intro U h; simp only [z0, z1] at h; subst h
  refine s_val 7 rfl rfl (.pointer (some ⟨g2, 17, none⟩)) (run_fld 33 _ 2 rfl g2 0 rfl 17 (by kernel_rfl)) ?_
  refine nr ?_; intro U h; simp only [z0, z1] at h; subst h
  refine s_val 8 rfl rfl (.int .i64 b.n) (ldCn _ rfl g2 rfl (kg2)) ?_
  refine nr ?_; intro U h; simp only [z0, z1] at h; subst h
  refine s_callv 9 rfl rfl _ 41 Try.call41 rfl rfl _ rfl [.int .i64 a.n, .int .i64 b.n] rfl (cmpz_any a.n b.n _) ?_
  intro w3 G
  replace kg1 := G.has kg1
  replace kg2 := G.has kg2
  replace GG := GG.trans G
  clear G
  refine nr ?_; intro U h; simp only [z0, z1] at h; subst h
  refine s_val 4 rfl rfl (.int .i64 (cmpZ a.n b.n)) (rfl) ?_
  refine nr ?_; intro U h; simp only [z0, z1] at h; subst h
  refine wpList_nil ?_
  refine then_n ?_
  refine wp_ret ?_
  refine bodyPost_ret (results_tmp Try.results43 _ _ _) rfl ?_
  exact ⟨rfl, GG⟩
set_option maxRecDepth 100000 in
set_option maxHeartbeats 4000000 in
theorem byPath_any (a b : Cd) (ha : a.ok) (hb : b.ok) (w : World) : Calls Try.prog 42 #[.agg (cdA a), .agg (cdA b)] w (fun e w' => e = .returned (.int .i64 (pathC a b)) ∧ Gro w w') := by
  refine s_enter Try.func42 rfl Try.ntmps42 [.agg (cdA a), .agg (cdA b)] [.agg (cdA a), .agg (cdA b), undef, undef, undef, undef, undef, undef, undef, undef, undef, undef, undef, undef, undef, undef, undef] rfl ?_
  have GG := Gro.refl w
  refine wp_seq ?_
  refine wp_region_lit ?_
  refine s_box 2 rfl rfl 33 _ rfl _ rfl (cdA a) rfl ?_
  intro w1 g1 G eg1 kg1
  have bg1 := size_base GG eg1
  replace GG := GG.trans G
  clear G
  clear eg1
  refine nr ?_; intro U h; simp only [z0, z1] at h; subst h
  refine s_box 3 rfl rfl 33 _ rfl _ rfl (cdA b) rfl ?_
  intro w2 g2 G eg2 kg2
  have bg2 := size_base GG eg2
  have dg1g2 := lt_new kg1 eg2
  replace kg1 := G.has kg1
  replace GG := GG.trans G
  clear G
  clear eg2
  refine nr ?_; intro U h; simp only [z0, z1] at h; subst h
  refine s_val 4 rfl rfl (.int .i64 0) (rfl) ?_
  refine nr ?_; intro U h; simp only [z0, z1] at h; subst h
  refine wpList_nil ?_
  refine then_n ?_
  refine wp_seq ?_
  refine wp_block ?_
  refine wp_seq ?_
  cases h1 : decide (lessB a.p b.p = true)
  · refine wp_region_lit ?_
    refine s_val 6 rfl rfl (.pointer (some ⟨g1, 18, none⟩)) (run_fld 33 _ 3 rfl g1 0 rfl 18 (by kernel_rfl)) ?_
    refine nr ?_; intro U h; simp only [z0, z1] at h; subst h
    refine s_val 7 rfl rfl (.agg (paA a.p)) (ldCp _ rfl g1 rfl (kg1)) ?_
    refine nr ?_; intro U h; simp only [z0, z1] at h; subst h
    refine s_val 8 rfl rfl (.pointer (some ⟨g2, 18, none⟩)) (run_fld 33 _ 3 rfl g2 0 rfl 18 (by kernel_rfl)) ?_
    refine nr ?_; intro U h; simp only [z0, z1] at h; subst h
    refine s_val 9 rfl rfl (.agg (paA b.p)) (ldCp _ rfl g2 rfl (kg2)) ?_
    refine nr ?_; intro U h; simp only [z0, z1] at h; subst h
    refine s_callv 10 rfl rfl _ 53 Try.call53 rfl rfl _ rfl [.agg (paA a.p), .agg (paA b.p)] rfl (Calls.bool (less_t a.p b.p ha.p hb.p _) ((dec_b _).trans h1)) ?_
    intro w3 G
    replace kg1 := G.has kg1
    replace kg2 := G.has kg2
    replace GG := GG.trans G
    clear G
    refine nr ?_; intro U h; simp only [z0, z1] at h; subst h
    refine s_val 5 rfl rfl (.bool false) (rfl) ?_
    refine nr ?_; intro U h; simp only [z0, z1] at h; subst h
    refine wpList_nil ?_
    refine then_n ?_
    refine wp_cond_false rfl ?_
    refine wp_seq ?_
    cases h2 : decide (lessB b.p a.p = true)
    · refine wp_region_lit ?_
      refine s_val 12 rfl rfl (.pointer (some ⟨g2, 18, none⟩)) (run_fld 33 _ 3 rfl g2 0 rfl 18 (by kernel_rfl)) ?_
      refine nr ?_; intro U h; simp only [z0, z1] at h; subst h
      refine s_val 13 rfl rfl (.agg (paA b.p)) (ldCp _ rfl g2 rfl (kg2)) ?_
      refine nr ?_; intro U h; simp only [z0, z1] at h; subst h
      refine s_val 14 rfl rfl (.pointer (some ⟨g1, 18, none⟩)) (run_fld 33 _ 3 rfl g1 0 rfl 18 (by kernel_rfl)) ?_
      refine nr ?_; intro U h; simp only [z0, z1] at h; subst h
      refine s_val 15 rfl rfl (.agg (paA a.p)) (ldCp _ rfl g1 rfl (kg1)) ?_
      refine nr ?_; intro U h; simp only [z0, z1] at h; subst h
      refine s_callv 16 rfl rfl _ 53 Try.call53 rfl rfl _ rfl [.agg (paA b.p), .agg (paA a.p)] rfl (Calls.bool (less_t b.p a.p hb.p ha.p _) ((dec_b _).trans h2)) ?_
      intro w4 G
      replace kg1 := G.has kg1
      replace kg2 := G.has kg2
      replace GG := GG.trans G
      clear G
      refine nr ?_; intro U h; simp only [z0, z1] at h; subst h
      refine s_val 11 rfl rfl (.bool false) (rfl) ?_
      refine nr ?_; intro U h; simp only [z0, z1] at h; subst h
      refine wpList_nil ?_
      refine then_n ?_
      refine wp_cond_false rfl ?_
      refine wp_skip ?_
      refine blk_n ?_
      refine then_n ?_
      refine wp_seq ?_
      refine wp_region_lit ?_
      refine s_val 4 rfl rfl (.int .i64 0) (rfl) ?_
      refine nr ?_; intro U h; simp only [z0, z1] at h; subst h
      refine wpList_nil ?_
      refine then_n ?_
      refine wp_ret ?_
      refine bodyPost_ret (results_tmp Try.results42 _ _ _) rfl ?_
      exact ⟨congrArg (fun v => Ending.returned (.int .i64 v)) (show pathC a b = 0 from (if_neg (of_decide_eq_false h1)).trans (if_neg (of_decide_eq_false h2))).symm, GG⟩
    · refine wp_region_lit ?_
      refine s_val 12 rfl rfl (.pointer (some ⟨g2, 18, none⟩)) (run_fld 33 _ 3 rfl g2 0 rfl 18 (by kernel_rfl)) ?_
      refine nr ?_; intro U h; simp only [z0, z1] at h; subst h
      refine s_val 13 rfl rfl (.agg (paA b.p)) (ldCp _ rfl g2 rfl (kg2)) ?_
      refine nr ?_; intro U h; simp only [z0, z1] at h; subst h
      refine s_val 14 rfl rfl (.pointer (some ⟨g1, 18, none⟩)) (run_fld 33 _ 3 rfl g1 0 rfl 18 (by kernel_rfl)) ?_
      refine nr ?_; intro U h; simp only [z0, z1] at h; subst h
      refine s_val 15 rfl rfl (.agg (paA a.p)) (ldCp _ rfl g1 rfl (kg1)) ?_
      refine nr ?_; intro U h; simp only [z0, z1] at h; subst h
      refine s_callv 16 rfl rfl _ 53 Try.call53 rfl rfl _ rfl [.agg (paA b.p), .agg (paA a.p)] rfl (Calls.bool (less_t b.p a.p hb.p ha.p _) ((dec_b _).trans h2)) ?_
      intro w4 G
      replace kg1 := G.has kg1
      replace kg2 := G.has kg2
      replace GG := GG.trans G
      clear G
      refine nr ?_; intro U h; simp only [z0, z1] at h; subst h
      refine s_val 11 rfl rfl (.bool true) (rfl) ?_
      refine nr ?_; intro U h; simp only [z0, z1] at h; subst h
      refine wpList_nil ?_
      refine then_n ?_
      refine wp_cond_true rfl ?_
      refine wp_seq ?_
      refine wp_region_lit ?_
      refine s_val 4 rfl rfl (.int .i64 1) (rfl) ?_
      refine nr ?_; intro U h; simp only [z0, z1] at h; subst h
      refine wpList_nil ?_
      refine then_n ?_
      refine wp_ret ?_
      refine blk_r ?_
      refine then_r ?_
      refine bodyPost_ret (results_tmp Try.results42 _ _ _) rfl ?_
      exact ⟨congrArg (fun v => Ending.returned (.int .i64 v)) (show pathC a b = 1 from (if_neg (of_decide_eq_false h1)).trans (if_pos (of_decide_eq_true h2))).symm, GG⟩
  · refine wp_region_lit ?_
    refine s_val 6 rfl rfl (.pointer (some ⟨g1, 18, none⟩)) (run_fld 33 _ 3 rfl g1 0 rfl 18 (by kernel_rfl)) ?_
    refine nr ?_; intro U h; simp only [z0, z1] at h; subst h
    refine s_val 7 rfl rfl (.agg (paA a.p)) (ldCp _ rfl g1 rfl (kg1)) ?_
    refine nr ?_; intro U h; simp only [z0, z1] at h; subst h
    refine s_val 8 rfl rfl (.pointer (some ⟨g2, 18, none⟩)) (run_fld 33 _ 3 rfl g2 0 rfl 18 (by kernel_rfl)) ?_
    refine nr ?_; intro U h; simp only [z0, z1] at h; subst h
    refine s_val 9 rfl rfl (.agg (paA b.p)) (ldCp _ rfl g2 rfl (kg2)) ?_
    refine nr ?_; intro U h; simp only [z0, z1] at h; subst h
    refine s_callv 10 rfl rfl _ 53 Try.call53 rfl rfl _ rfl [.agg (paA a.p), .agg (paA b.p)] rfl (Calls.bool (less_t a.p b.p ha.p hb.p _) ((dec_b _).trans h1)) ?_
    intro w3 G
    replace kg1 := G.has kg1
    replace kg2 := G.has kg2
    replace GG := GG.trans G
    clear G
    refine nr ?_; intro U h; simp only [z0, z1] at h; subst h
    refine s_val 5 rfl rfl (.bool true) (rfl) ?_
    refine nr ?_; intro U h; simp only [z0, z1] at h; subst h
    refine wpList_nil ?_
    refine then_n ?_
    refine wp_cond_true rfl ?_
    refine wp_seq ?_
    refine wp_region_lit ?_
    refine s_val 4 rfl rfl (.int .i64 (-1)) (rfl) ?_
    refine nr ?_; intro U h; simp only [z0, z1] at h; subst h
    refine wpList_nil ?_
    refine then_n ?_
    refine wp_ret ?_
    refine blk_r ?_
    refine then_r ?_
    refine bodyPost_ret (results_tmp Try.results42 _ _ _) rfl ?_
    exact ⟨congrArg (fun v => Ending.returned (.int .i64 v)) (show pathC a b = -1 from if_pos (of_decide_eq_true h1)).symm, GG⟩
set_option maxRecDepth 100000 in
set_option maxHeartbeats 4000000 in
theorem byWay_any (a b : Cd) (ha : a.ok) (hb : b.ok) (w : World) : Calls Try.prog 24 #[.agg (cdA a), .agg (cdA b)] w (fun e w' => e = .returned (.int .i64 (wayC a b)) ∧ Gro w w') := by
  refine s_enter Try.func24 rfl Try.ntmps24 [.agg (cdA a), .agg (cdA b)] [.agg (cdA a), .agg (cdA b), undef, undef, undef, undef, undef, undef, undef, undef, undef, undef, undef, undef] rfl ?_
  have GG := Gro.refl w
  refine wp_seq ?_
  refine wp_region_lit ?_
  refine s_box 2 rfl rfl 33 _ rfl _ rfl (cdA a) rfl ?_
  intro w1 g1 G eg1 kg1
  have bg1 := size_base GG eg1
  replace GG := GG.trans G
  clear G
  clear eg1
  refine nr ?_; intro U h; simp only [z0, z1] at h; subst h
  refine s_box 3 rfl rfl 33 _ rfl _ rfl (cdA b) rfl ?_
  intro w2 g2 G eg2 kg2
  have bg2 := size_base GG eg2
  have dg1g2 := lt_new kg1 eg2
  replace kg1 := G.has kg1
  replace GG := GG.trans G
  clear G
  clear eg2
  refine nr ?_; intro U h; simp only [z0, z1] at h; subst h
  refine s_val 4 rfl rfl (.int .i64 0) (rfl) ?_
  refine nr ?_; intro U h; simp only [z0, z1] at h; subst h
  refine wpList_nil ?_
  refine then_n ?_
  refine wp_seq ?_
  refine wp_seq ?_
  cases h1 : decide (a.leg = 1)
  · refine wp_region_lit ?_
    refine s_val 5 rfl rfl (.pointer (some ⟨g1, 16, none⟩)) (run_fld 33 _ 1 rfl g1 0 rfl 16 (by kernel_rfl)) ?_
    refine nr ?_; intro U h; simp only [z0, z1] at h; subst h
    refine s_val 6 rfl rfl (.int .i64 a.leg) (ldCl _ rfl g1 rfl (kg1)) ?_
    refine nr ?_; intro U h; simp only [z0, z1] at h; subst h
    refine s_val 7 rfl rfl (.bool false) (run_eq_k 3 .i64 _ _ _ rfl Try.underlying3 a.leg 1 rfl rfl false h1 _) ?_
    refine nr ?_; intro U h; simp only [z0, z1] at h; subst h
    refine wpList_nil ?_
    refine then_n ?_
    refine wp_cond_false rfl ?_
    refine wp_skip ?_
    refine then_n ?_
    refine wp_seq ?_
    refine wp_region_lit ?_
    refine s_val 11 rfl rfl (.agg (cdA a)) (ldC0 _ rfl g1 rfl (kg1)) ?_
    refine nr ?_; intro U h; simp only [z0, z1] at h; subst h
    refine s_val 12 rfl rfl (.agg (cdA b)) (ldC0 _ rfl g2 rfl (kg2)) ?_
    refine nr ?_; intro U h; simp only [z0, z1] at h; subst h
    refine s_callv 13 rfl rfl _ 43 Try.call43 rfl rfl _ rfl [.agg (cdA a), .agg (cdA b)] rfl (byPlace_any a b _) ?_
    intro w3 G
    replace kg1 := G.has kg1
    replace kg2 := G.has kg2
    replace GG := GG.trans G
    clear G
    refine nr ?_; intro U h; simp only [z0, z1] at h; subst h
    refine s_val 4 rfl rfl (.int .i64 (cmpZ a.n b.n)) (rfl) ?_
    refine nr ?_; intro U h; simp only [z0, z1] at h; subst h
    refine wpList_nil ?_
    refine then_n ?_
    refine wp_ret ?_
    refine bodyPost_ret (results_tmp Try.results24 _ _ _) rfl ?_
    exact ⟨congrArg (fun v => Ending.returned (.int .i64 v)) (show wayC a b = _ from if_neg (of_decide_eq_false h1)).symm, GG⟩
  · refine wp_region_lit ?_
    refine s_val 5 rfl rfl (.pointer (some ⟨g1, 16, none⟩)) (run_fld 33 _ 1 rfl g1 0 rfl 16 (by kernel_rfl)) ?_
    refine nr ?_; intro U h; simp only [z0, z1] at h; subst h
    refine s_val 6 rfl rfl (.int .i64 a.leg) (ldCl _ rfl g1 rfl (kg1)) ?_
    refine nr ?_; intro U h; simp only [z0, z1] at h; subst h
    refine s_val 7 rfl rfl (.bool true) (run_eq_k 3 .i64 _ _ _ rfl Try.underlying3 a.leg 1 rfl rfl true h1 _) ?_
    refine nr ?_; intro U h; simp only [z0, z1] at h; subst h
    refine wpList_nil ?_
    refine then_n ?_
    refine wp_cond_true rfl ?_
    refine wp_seq ?_
    refine wp_region_lit ?_
    refine s_val 8 rfl rfl (.agg (cdA a)) (ldC0 _ rfl g1 rfl (kg1)) ?_
    refine nr ?_; intro U h; simp only [z0, z1] at h; subst h
    refine s_val 9 rfl rfl (.agg (cdA b)) (ldC0 _ rfl g2 rfl (kg2)) ?_
    refine nr ?_; intro U h; simp only [z0, z1] at h; subst h
    refine s_callv 10 rfl rfl _ 42 Try.call42 rfl rfl _ rfl [.agg (cdA a), .agg (cdA b)] rfl (byPath_any a b ha hb _) ?_
    intro w3 G
    replace kg1 := G.has kg1
    replace kg2 := G.has kg2
    replace GG := GG.trans G
    clear G
    refine nr ?_; intro U h; simp only [z0, z1] at h; subst h
    refine s_val 4 rfl rfl (.int .i64 (pathC a b)) (rfl) ?_
    refine nr ?_; intro U h; simp only [z0, z1] at h; subst h
    refine wpList_nil ?_
    refine then_n ?_
    refine wp_ret ?_
    refine then_r ?_
    refine bodyPost_ret (results_tmp Try.results24 _ _ _) rfl ?_
    exact ⟨congrArg (fun v => Ending.returned (.int .i64 v)) (show wayC a b = _ from if_pos (of_decide_eq_true h1)).symm, GG⟩
set_option maxRecDepth 100000 in
set_option maxHeartbeats 4000000 in
theorem sameID_any (a b : Cd) (ha : a.ok) (hb : b.ok) (w : World) : Calls Try.prog 26 #[.agg (cdA a), .agg (cdA b)] w (fun e w' => e = .returned (.bool (decide (a.id = b.id))) ∧ Gro w w') := by
  refine s_enter Try.func26 rfl Try.ntmps26 [.agg (cdA a), .agg (cdA b)] [.agg (cdA a), .agg (cdA b), undef, undef, undef, undef, undef, undef, undef, undef] rfl ?_
  have GG := Gro.refl w
  refine wp_seq ?_
  refine wp_region_lit ?_
  refine s_box 2 rfl rfl 33 _ rfl _ rfl (cdA a) rfl ?_
  intro w1 g1 G eg1 kg1
  have bg1 := size_base GG eg1
  replace GG := GG.trans G
  clear G
  clear eg1
  refine nr ?_; intro U h; simp only [z0, z1] at h; subst h
  refine s_box 3 rfl rfl 33 _ rfl _ rfl (cdA b) rfl ?_
  intro w2 g2 G eg2 kg2
  have bg2 := size_base GG eg2
  have dg1g2 := lt_new kg1 eg2
  replace kg1 := G.has kg1
  replace GG := GG.trans G
  clear G
  clear eg2
  refine nr ?_; intro U h; simp only [z0, z1] at h; subst h
  refine s_val 4 rfl rfl (.bool false) (rfl) ?_
  refine nr ?_; intro U h; simp only [z0, z1] at h; subst h
  refine wpList_nil ?_
  refine then_n ?_
  refine wp_seq ?_
  refine wp_region_lit ?_
  refine s_val 5 rfl rfl (.pointer (some ⟨g1, 0, none⟩)) (run_fld 33 _ 0 rfl g1 0 rfl 0 (by kernel_rfl)) ?_
  refine nr ?_; intro U h; simp only [z0, z1] at h; subst h
  refine s_val 6 rfl rfl (.agg (idA a.id)) (ldCi _ rfl g1 rfl (kg1)) ?_
  refine nr ?_; intro U h; simp only [z0, z1] at h; subst h
  refine s_val 7 rfl rfl (.pointer (some ⟨g2, 0, none⟩)) (run_fld 33 _ 0 rfl g2 0 rfl 0 (by kernel_rfl)) ?_
  refine nr ?_; intro U h; simp only [z0, z1] at h; subst h
  refine s_val 8 rfl rfl (.agg (idA b.id)) (ldCi _ rfl g2 rfl (kg2)) ?_
  refine nr ?_; intro U h; simp only [z0, z1] at h; subst h
  refine s_val 9 rfl rfl (.bool (decide (a.id = b.id))) (run_eqI _ _ _ rfl a.id b.id rfl rfl ha.id hb.id _ rfl) ?_
  refine nr ?_; intro U h; simp only [z0, z1] at h; subst h
  refine s_val 4 rfl rfl (.bool (decide (a.id = b.id))) (rfl) ?_
  refine nr ?_; intro U h; simp only [z0, z1] at h; subst h
  refine wpList_nil ?_
  refine then_n ?_
  refine wp_ret ?_
  refine bodyPost_ret (results_tmp Try.results26 _ _ _) rfl ?_
  exact ⟨rfl, GG⟩
/-- One of the three. -/
theorem ord_any (i : Nat) (hi : i < 3) (a b : Cd) (ha : a.ok) (hb : b.ok) (w : World) : Calls Try.prog (22 + i) #[.agg (cdA a), .agg (cdA b)] w fun e w' => e = .returned (.int .i64 (ordc i a b)) ∧ Gro w w' := by
  rcases (by omega : i = 0 ∨ i = 1 ∨ i = 2) with rfl | rfl | rfl
  · exact byID_any a b ha hb w
  · exact byLeg_any a b w
  · exact byWay_any a b ha hb w
theorem ord_call (i : Nat) (hi : i < 3) (args : Array Value) (w : World) : (callFunc (22 + i) args).run Try.prog w = .ok (.enter (22 + i) args) w := by
  rcases (by omega : i = 0 ∨ i = 1 ∨ i = 2) with rfl | rfl | rfl
  · exact Try.call22 args w
  · exact Try.call23 args w
  · exact Try.call24 args w
/-- The order's closure: its box, and the row of orders. -/
def ordV : Array Value := #[.func (.func 22) #[] #[], .func (.func 23) #[] #[], .func (.func 24) #[] #[]]
structure CloC (w : World) (c : Nat) : Prop where
  out : ∃ q, w.heap[c]? = some (.cells #[.slice (some ⟨q, 0, none⟩) 3 3] 68 (0, 0)) ∧ w.heap[q]? = some (.cells ordV 49 (0, 0))
theorem CloC.gro {w w' : World} {c : Nat} (h : CloC w c) (G : Gro w w') : CloC w' c := by
  obtain ⟨q, h3, h4⟩ := h.out
  exact ⟨q, G.has h3, G.has h4⟩
theorem CloC.gros {w w' : World} {c : Nat} (h : CloC w c) {sz B : Nat} {ao : Option Addr} {cap n : Nat} {cs : List Value} (G : GroS (Go.Proofs.Ytfabgonoonanfaa.blk ao) w w') (ho : OY w 33 sz B ao cap n cs) : CloC w' c := by
  obtain ⟨q, h3, h4⟩ := h.out
  exact ⟨q, G.has h3 (ho.ne h3 (by decide)), G.has h4 (ho.ne h4 (by decide))⟩
theorem run_ixF {o : Oper} {A : Act} {w : World} (x y : Operand) (ho : o.op = .indexAddr 68 x y) (q : Nat) (hx : A.eval x = .slice (some ⟨q, 0, none⟩) 3 3) (j : Nat) (hy : A.eval y = .int .i64 (j : Int)) (hj : j < 3) : (execOp A.eval o).run Try.prog w = .ok (.value (.pointer (some ⟨q, j, none⟩))) w := by
  have R : RowT Try.prog 68 49 1 8 .nilFunc := ⟨Try.underlying68, info_of (by kernel_rfl), rfl, by decide⟩
  have := run_idxX R x y ho ⟨q, 0, none⟩ 3 3 j hx hy hj w
  simpa [add_at] using this
theorem run_ldF {o : Oper} {A : Act} {w : World} (x : Operand) (ho : o.op = .load 49 x) (q j : Nat) (hx : A.eval x = .pointer (some ⟨q, j, none⟩)) (hq : w.heap[q]? = some (.cells ordV 49 (0, 0))) (hj : j < 3) : (execOp A.eval o).run Try.prog w = .ok (.value (.func (.func (22 + j)) #[] #[])) w :=
  run_ldc 49 x ho q j hx 49 _ hq (na49 w) _ (by rcases (by omega : j = 0 ∨ j = 1 ∨ j = 2) with rfl | rfl | rfl <;> rfl)
theorem ordc_zero {a b : Cd} {i : Nat} (hz : ∀ k, k < i → ordc k a b = 0) (hi : i < 3) (h : ordc i a b ≠ 0) : cmpC a b = ordc i a b := by
  unfold cmpC
  rcases (by omega : i = 0 ∨ i = 1 ∨ i = 2) with rfl | rfl | rfl
  · rw [orI, if_pos h]
  · rw [orI, if_neg (by simp [hz 0]), orI, if_pos h]
  · rw [orI, if_neg (by simp [hz 0]), orI, if_neg (by simp [hz 1]), orI, if_pos h]
theorem ordc_none {a b : Cd} (hz : ∀ k, k < 3 → ordc k a b = 0) : cmpC a b = 0 := by
  unfold cmpC
  rw [orI, if_neg (by simp [hz 0]), orI, if_neg (by simp [hz 1]), orI, if_neg (by simp [hz 2])]
  rfl
set_option maxRecDepth 100000 in
set_option maxHeartbeats 4000000 in
theorem cmp40_any (a b : Cd) (ha : a.ok) (hb : b.ok) (c : Nat) (w : World) (CK : CloC w c) : Calls Try.prog 40 #[.agg (cdA a), .agg (cdA b), .pointer (some ⟨c, 0, none⟩)] w (fun e w' => e = .returned (.int .i64 (cmpC a b)) ∧ Gro w w') := by
  refine s_enter Try.func40 rfl Try.ntmps40 [.agg (cdA a), .agg (cdA b), .pointer (some ⟨c, 0, none⟩)] [.agg (cdA a), .agg (cdA b), .pointer (some ⟨c, 0, none⟩), undef, undef, undef, undef, undef, undef, undef, undef, undef, undef, undef, undef, undef, undef, undef, undef, undef, undef, undef, undef] rfl ?_
  have GG := Gro.refl w
  obtain ⟨q, kc, kq⟩ := CK.out
  refine wp_seq ?_
  refine wp_region_lit ?_
  refine s_box 3 rfl rfl 33 _ rfl _ rfl (cdA a) rfl ?_
  intro w1 g1 G eg1 kg1
  have bg1 := size_base GG eg1
  have dcg1 := lt_new kc eg1
  have dqg1 := lt_new kq eg1
  replace kc := G.has kc
  replace kq := G.has kq
  replace GG := GG.trans G
  clear G
  clear eg1
  refine nr ?_; intro U h; simp only [z0, z1] at h; subst h
  refine s_box 4 rfl rfl 33 _ rfl _ rfl (cdA b) rfl ?_
  intro w2 g2 G eg2 kg2
  have bg2 := size_base GG eg2
  have dcg2 := lt_new kc eg2
  have dqg2 := lt_new kq eg2
  have dg1g2 := lt_new kg1 eg2
  replace kc := G.has kc
  replace kq := G.has kq
  replace kg1 := G.has kg1
  replace GG := GG.trans G
  clear G
  clear eg2
  refine nr ?_; intro U h; simp only [z0, z1] at h; subst h
  refine s_val 5 rfl rfl (.int .i64 0) (rfl) ?_
  refine nr ?_; intro U h; simp only [z0, z1] at h; subst h
  refine wpList_nil ?_
  refine then_n ?_
  refine wp_seq ?_
  refine wp_seq ?_
  refine wp_region_lit ?_
  refine s_val 9 rfl rfl (.slice (some ⟨q, 0, none⟩) 3 3) (run_ldc 68 _ rfl c 0 rfl 68 _ kc (na68 _) _ rfl) ?_
  refine nr ?_; intro U h; simp only [z0, z1] at h; subst h
  refine s_val 10 rfl rfl (.int .i64 3) (run_len Try.underlying68 _ rfl _ _ _ rfl _) ?_
  refine nr ?_; intro U h; simp only [z0, z1] at h; subst h
  refine s_val 11 rfl rfl (.int .i64 0) (rfl) ?_
  refine nr ?_; intro U h; simp only [z0, z1] at h; subst h
  refine wpList_nil ?_
  refine then_n ?_
  refine wp_block ?_
  refine wp_loopN (fun mz az wv => ∃ (i : Nat) (us1 : Nat → Value), mz = 4 - i ∧ az = ⟨[.agg (cdA a), .agg (cdA b), .pointer (some ⟨c, 0, none⟩), .pointer (some ⟨g1, 0, none⟩), .pointer (some ⟨g2, 0, none⟩), us1 0, undef, us1 1, us1 2, .slice (some ⟨q, 0, none⟩) 3 3, .int .i64 3, .int .i64 ((i : Nat) : Int), us1 3, us1 4, us1 5, us1 6, us1 7, us1 8, us1 9, us1 10, us1 11, us1 12, us1 13].toArray, []⟩ ∧ i ≤ 3 ∧ (∀ k, k < i → ordc k a b = 0) ∧ Gro w wv ∧ wv.heap[c]? = some (.cells #[.slice (some ⟨q, 0, none⟩) 3 3] 68 (0, 0)) ∧ wv.heap[q]? = some (.cells ordV 49 (0, 0)) ∧ wv.heap[g1]? = some (.cells (cdA a) 33 (0, 0)) ∧ wv.heap[g2]? = some (.cells (cdA b) 33 (0, 0))) ?_ _ ⟨0, (fun kz => ([.int .i64 0, undef, undef, undef, undef, undef, undef, undef, undef, undef, undef, undef, undef, undef] : List Value).getD kz undef), rfl, rfl, Nat.zero_le _, fun _ h => absurd h (by omega), GG, kc, kq, kg1, kg2⟩
  clear GG kc kq kg1 kg2
  rintro mz az wv ⟨i, us1, rfl, rfl, hi, hz, GG, kc, kq, kg1, kg2⟩
  refine wp_seq ?_
  refine wp_region_lit ?_
  cases hi1 : decide (((i : Nat) : Int) < (3 : Int))
  · have hie : i = 3 := by have := of_decide_eq_false hi1; omega
    refine s_val 12 rfl rfl (.bool false) (run_lssT 3 _ _ _ rfl ((i : Nat) : Int) 3 rfl rfl false hi1 _) ?_
    refine nr ?_; intro U h; simp only [z0, z1] at h; subst h
    refine wpList_nil ?_
    refine then_n ?_
    refine wp_seq ?_
    refine wp_cond_false rfl ?_
    refine wp_exit ?_
    refine then_x ?_
    refine then_x ?_
    refine blk_x ?_
    refine then_n ?_
    refine wp_seq ?_
    refine wp_region_lit ?_
    refine s_val 5 rfl rfl (.int .i64 0) (rfl) ?_
    refine nr ?_; intro U h; simp only [z0, z1] at h; subst h
    refine wpList_nil ?_
    refine then_n ?_
    refine wp_ret ?_
    refine bodyPost_ret (results_tmp Try.results40 _ _ _) rfl ?_
    exact ⟨congrArg (fun v => Ending.returned (.int .i64 v)) (ordc_none fun k hk => hz k (by omega)).symm, GG⟩
  · have hil : i < 3 := by have := of_decide_eq_true hi1; omega
    refine s_val 12 rfl rfl (.bool true) (run_lssT 3 _ _ _ rfl ((i : Nat) : Int) 3 rfl rfl true hi1 _) ?_
    refine nr ?_; intro U h; simp only [z0, z1] at h; subst h
    refine wpList_nil ?_
    refine then_n ?_
    refine wp_seq ?_
    refine wp_cond_true rfl ?_
    refine wp_skip ?_
    refine then_n ?_
    refine wp_seq ?_
    refine wp_block ?_
    refine wp_seq ?_
    refine wp_region_lit ?_
    refine s_val 13 rfl rfl (.pointer (some ⟨q, i, none⟩)) (run_ixF _ _ rfl q rfl i rfl hil) ?_
    refine nr ?_; intro U h; simp only [z0, z1] at h; subst h
    refine s_val 14 rfl rfl (.func (.func (22 + i)) #[] #[]) (run_ldF _ rfl q i rfl kq hil) ?_
    refine nr ?_; intro U h; simp only [z0, z1] at h; subst h
    refine s_val 7 rfl rfl (.func (.func (22 + i)) #[] #[]) (rfl) ?_
    refine nr ?_; intro U h; simp only [z0, z1] at h; subst h
    refine wpList_nil ?_
    refine then_n ?_
    refine wp_seq ?_
    refine wp_region_lit ?_
    refine s_val 15 rfl rfl (.func (.func (22 + i)) #[] #[]) (rfl) ?_
    refine nr ?_; intro U h; simp only [z0, z1] at h; subst h
    refine s_val 16 rfl rfl (.agg (cdA a)) (ldC0 _ rfl g1 rfl (kg1)) ?_
    refine nr ?_; intro U h; simp only [z0, z1] at h; subst h
    refine s_val 17 rfl rfl (.agg (cdA b)) (ldC0 _ rfl g2 rfl (kg2)) ?_
    refine nr ?_; intro U h; simp only [z0, z1] at h; subst h
    refine s_callF 18 rfl rfl _ (22 + i) #[] (ord_call i hil) rfl _ rfl rfl _ rfl [.agg (cdA a), .agg (cdA b)] rfl (ord_any i hil a b ha hb _) ?_
    intro w3 G
    replace kc := G.has kc
    replace kq := G.has kq
    replace kg1 := G.has kg1
    replace kg2 := G.has kg2
    replace GG := GG.trans G
    clear G
    refine nr ?_; intro U h; simp only [z0, z1] at h; subst h
    refine s_val 8 rfl rfl (.int .i64 (ordc i a b)) (rfl) ?_
    refine nr ?_; intro U h; simp only [z0, z1] at h; subst h
    refine wpList_nil ?_
    refine then_n ?_
    refine wp_seq ?_
    cases hn : decide (ordc i a b = 0)
    · refine wp_region_lit ?_
      refine s_val 19 rfl rfl (.int .i64 (ordc i a b)) (rfl) ?_
      refine nr ?_; intro U h; simp only [z0, z1] at h; subst h
      refine s_val 20 rfl rfl (.bool true) (run_neq_k 3 .i64 _ _ _ rfl Try.underlying3 (ordc i a b) 0 rfl rfl true hn _) ?_
      refine nr ?_; intro U h; simp only [z0, z1] at h; subst h
      refine wpList_nil ?_
      refine then_n ?_
      refine wp_cond_true rfl ?_
      refine wp_seq ?_
      refine wp_region_lit ?_
      refine s_val 21 rfl rfl (.int .i64 (ordc i a b)) (rfl) ?_
      refine nr ?_; intro U h; simp only [z0, z1] at h; subst h
      refine s_val 5 rfl rfl (.int .i64 (ordc i a b)) (rfl) ?_
      refine nr ?_; intro U h; simp only [z0, z1] at h; subst h
      refine wpList_nil ?_
      refine then_n ?_
      refine wp_ret ?_
      refine blk_r ?_
      refine then_r ?_
      refine then_r ?_
      refine blk_r ?_
      refine then_r ?_
      refine bodyPost_ret (results_tmp Try.results40 _ _ _) rfl ?_
      exact ⟨congrArg (fun v => Ending.returned (.int .i64 v)) (ordc_zero hz hil (of_decide_eq_false hn)).symm, GG⟩
    · refine wp_region_lit ?_
      refine s_val 19 rfl rfl (.int .i64 (ordc i a b)) (rfl) ?_
      refine nr ?_; intro U h; simp only [z0, z1] at h; subst h
      refine s_val 20 rfl rfl (.bool false) (run_neq_k 3 .i64 _ _ _ rfl Try.underlying3 (ordc i a b) 0 rfl rfl false hn _) ?_
      refine nr ?_; intro U h; simp only [z0, z1] at h; subst h
      refine wpList_nil ?_
      refine then_n ?_
      refine wp_cond_false rfl ?_
      refine wp_skip ?_
      refine blk_n ?_
      refine then_n ?_
      refine wp_region_lit ?_
      refine s_val 22 rfl rfl (.int .i64 ((i + 1 : Nat) : Int)) (run_addI 3 _ _ _ rfl ((i : Nat) : Int) 1 ((i + 1 : Nat) : Int) rfl rfl (by omega) (by omega) (by omega) _) ?_
      refine nr ?_; intro U h; simp only [z0, z1] at h; subst h
      refine s_val 11 rfl rfl (.int .i64 ((i + 1 : Nat) : Int)) (rfl) ?_
      refine nr ?_; intro U h; simp only [z0, z1] at h; subst h
      refine wpList_nil ?_
      refine then_n ?_
      exact ⟨4 - (i + 1), by omega, i + 1, (fun kz => ([us1 0, .func (.func (22 + i)) #[] #[], .int .i64 (ordc i a b), .bool true, .pointer (some ⟨q, i, none⟩), .func (.func (22 + i)) #[] #[], .func (.func (22 + i)) #[] #[], .agg (cdA a), .agg (cdA b), .int .i64 (ordc i a b), .int .i64 (ordc i a b), .bool false, us1 12, .int .i64 ((i + 1 : Nat) : Int)] : List Value).getD kz undef), rfl, rfl, by omega, uptoZ hz (of_decide_eq_true hn), GG, kc, kq, kg1, kg2⟩
end Go.Proofs.Ytfabgonoonanfaa
