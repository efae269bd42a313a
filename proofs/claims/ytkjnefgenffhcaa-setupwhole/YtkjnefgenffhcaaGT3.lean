/- Calls over rows of numbers: likeness, places, the way back, where each stands last, rounds taken out. -/
import Derived.Test.YtkjnefgenffhcaaGT2
namespace Go.Proofs.Ytkjnefgenffhcaa
open Go.RowKit Go.Maps
theorem Calls.boolt {P : Program} {f : FuncId} {args : Array Value} {w : World} {p q : Bool} (h : Calls P f args w fun e w' => e = .returned (.bool p) ∧ Gro w w') (e : p = q) : Calls P f args w fun e w' => e = .returned (.bool q) ∧ Gro w w' := e ▸ h
theorem Calls.valVt {P : Program} {f : FuncId} {args : Array Value} {w : World} {u v : Value} (h : Calls P f args w fun e w' => e = .returned u ∧ Gro w w') (e : u = v) : Calls P f args w fun e w' => e = .returned v ∧ Gro w w' := e ▸ h
/-- A call that answers where each stands last. -/
def MapP (w : World) (t : List Int) (e : Ending) (w' : World) : Prop := ∃ b n, e = .returned (.map (some b)) ∧ Gro w w' ∧ w.heap.size ≤ b ∧ MX 3 (Value.int .i64) I64t w' b n (lstF t t.length) t.reverse
theorem MX.below {κ : Type} [DecidableEq κ] {k : TypeId} {kv : κ → Value} {ok : κ → Prop} {w w' : World} {b n B : Nat} {f : κ → Int} {S : List κ} (h : MX k kv ok w b n f S) (G : Below B w w') (hb : b < B) : MX k kv ok w' b n f S := by
  obtain ⟨D, ⟨es, c, h1, h2⟩, h3⟩ := h.out
  exact ⟨D, ⟨es, c, by rw [G.block b hb]; exact h1, h2⟩, h3⟩
set_option maxRecDepth 100000 in
set_option maxHeartbeats 4000000 in
theorem refplace_any (w : World) (ao : Option Addr) (cap : Nat) (l : List Int) (H : RC w ao cap l) (hl : l.length ≤ 17592186044416) (x : Int) : Calls Try.prog 21 #[.slice ao l.length cap, .int .i64 x] w (fun e w' => e = .returned (.int .i64 (plc l x)) ∧ Gro w w') := by
  refine s_enter Try.func21 rfl Try.ntmps21 [.slice ao l.length cap, .int .i64 x] [.slice ao l.length cap, .int .i64 x, undef, undef, undef, undef, undef, undef, undef, undef, undef, undef, undef, undef, undef, undef, undef, undef, undef] rfl ?_
  have GG := Gro.refl w
  refine wp_seq ?_
  refine wp_region_lit ?_
  refine s_val 4 rfl rfl (.int .i64 0) (rfl) ?_
  refine nr ?_; intro U h; simp only [z0, z1] at h; subst h
  refine wpList_nil ?_
  refine then_n ?_
  refine wp_seq ?_
  refine wp_seq ?_
  refine wp_region_lit ?_
  refine s_val 5 rfl rfl (.int .i64 0) (rfl) ?_
  refine nr ?_; intro U h; simp only [z0, z1] at h; subst h
  refine wpList_nil ?_
  refine then_n ?_
  refine wp_block ?_
  refine wp_loopN (fun mz az wv => ∃ (j : Nat) (us1 : Nat → Value), mz = l.length - j ∧ az = ⟨[.slice ao l.length cap, .int .i64 x, undef, undef, us1 0, .int .i64 ((j : Nat) : Int), us1 1, us1 2, us1 3, us1 4, us1 5, us1 6, us1 7, us1 8, us1 9, us1 10, us1 11, us1 12, us1 13].toArray, []⟩ ∧ j ≤ l.length ∧ (∀ i, i < j → l.getD i 0 ≠ x) ∧ Gro w wv) ?_ _ ⟨0, (fun kz => ([.int .i64 0, undef, undef, undef, undef, undef, undef, undef, undef, undef, undef, undef, undef, undef] : List Value).getD kz undef), rfl, rfl, Nat.zero_le _, (fun i hi => absurd hi (Nat.not_lt_zero i)), GG⟩
  clear GG
  rintro mz az wv ⟨j, us1, rfl, rfl, hj, hnot, GG⟩
  refine wp_seq ?_
  refine wp_seq ?_
  refine wp_region_lit ?_
  refine s_val 6 rfl rfl (.int .i64 ((j : Nat) : Int)) (rfl) ?_
  refine nr ?_; intro U h; simp only [z0, z1] at h; subst h
  refine s_val 7 rfl rfl (.slice ao l.length cap) (rfl) ?_
  refine nr ?_; intro U h; simp only [z0, z1] at h; subst h
  refine s_val 8 rfl rfl (.int .i64 ((l.length : Nat) : Int)) (run_len Try.underlying32 _ rfl _ _ _ rfl _) ?_
  refine nr ?_; intro U h; simp only [z0, z1] at h; subst h
  cases hj1 : decide (((j : Nat) : Int) < ((l.length : Nat) : Int))
  · have hje : j = l.length := by have := of_decide_eq_false hj1; omega
    refine s_val 9 rfl rfl (.bool false) (run_lssT 3 _ _ _ rfl ((j : Nat) : Int) ((l.length : Nat) : Int) rfl rfl false hj1 _) ?_
    refine nr ?_; intro U h; simp only [z0, z1] at h; subst h
    refine wpList_nil ?_
    refine then_n ?_
    refine wp_cond_false rfl ?_
    refine wp_exit ?_
    refine then_x ?_
    refine then_x ?_
    refine blk_x ?_
    refine then_n ?_
    refine wp_seq ?_
    refine wp_region_lit ?_
    refine s_val 4 rfl rfl (.int .i64 (-1)) (rfl) ?_
    refine nr ?_; intro U h; simp only [z0, z1] at h; subst h
    refine wpList_nil ?_
    refine then_n ?_
    refine wp_ret ?_
    refine bodyPost_ret (results_tmp Try.results21 _ _ _) rfl ?_
    subst hje
    exact ⟨congrArg (fun z => Ending.returned (.int .i64 z)) (plc_none hnot).symm, GG⟩
  · have hjl : j < l.length := by have := of_decide_eq_true hj1; omega
    refine s_val 9 rfl rfl (.bool true) (run_lssT 3 _ _ _ rfl ((j : Nat) : Int) ((l.length : Nat) : Int) rfl rfl true hj1 _) ?_
    refine nr ?_; intro U h; simp only [z0, z1] at h; subst h
    refine wpList_nil ?_
    refine then_n ?_
    refine wp_cond_true rfl ?_
    refine wp_skip ?_
    refine then_n ?_
    refine wp_seq ?_
    refine wp_block ?_
    refine wp_seq ?_
    refine wp_region_lit ?_
    refine s_val 12 rfl rfl (.slice ao l.length cap) (rfl) ?_
    refine nr ?_; intro U h; simp only [z0, z1] at h; subst h
    refine s_val 13 rfl rfl (.int .i64 ((j : Nat) : Int)) (rfl) ?_
    refine nr ?_; intro U h; simp only [z0, z1] at h; subst h
    refine s_val 14 rfl rfl (.pointer (pA ao j)) (run_ixI (H.gro GG) _ _ rfl rfl j rfl hjl) ?_
    refine nr ?_; intro U h; simp only [z0, z1] at h; subst h
    refine s_val 15 rfl rfl (.int .i64 (l.getD j 0)) (run_ldI (H.gro GG) _ rfl j rfl hjl) ?_
    refine nr ?_; intro U h; simp only [z0, z1] at h; subst h
    refine s_val 16 rfl rfl (.int .i64 x) (rfl) ?_
    refine nr ?_; intro U h; simp only [z0, z1] at h; subst h
    cases hq : decide ((l.getD j 0) = x)
    · refine s_val 17 rfl rfl (.bool false) (run_eq_k 3 .i64 _ _ _ rfl Try.underlying3 (l.getD j 0) x rfl rfl false hq _) ?_
      refine nr ?_; intro U h; simp only [z0, z1] at h; subst h
      refine wpList_nil ?_
      refine then_n ?_
      refine wp_cond_false rfl ?_
      refine wp_skip ?_
      refine blk_n ?_
      refine then_n ?_
      refine wp_region_lit ?_
      refine s_val 10 rfl rfl (.int .i64 ((j : Nat) : Int)) (rfl) ?_
      refine nr ?_; intro U h; simp only [z0, z1] at h; subst h
      refine s_val 11 rfl rfl (.int .i64 ((j + 1 : Nat) : Int)) (run_addIt 3 _ _ _ rfl ((j : Nat) : Int) 1 ((j + 1 : Nat) : Int) rfl rfl (by omega) (by omega) (by omega) _) ?_
      refine nr ?_; intro U h; simp only [z0, z1] at h; subst h
      refine s_val 5 rfl rfl (.int .i64 ((j + 1 : Nat) : Int)) (rfl) ?_
      refine nr ?_; intro U h; simp only [z0, z1] at h; subst h
      refine wpList_nil ?_
      refine then_n ?_
      exact ⟨_, (by omega : l.length - (j + 1) < l.length - j), j + 1, (fun kz => ([us1 0, .int .i64 ((j : Nat) : Int), .slice ao l.length cap, .int .i64 ((l.length : Nat) : Int), .bool true, .int .i64 ((j : Nat) : Int), .int .i64 ((j + 1 : Nat) : Int), .slice ao l.length cap, .int .i64 ((j : Nat) : Int), .pointer (pA ao j), .int .i64 (l.getD j 0), .int .i64 x, .bool false, us1 13] : List Value).getD kz undef), rfl, rfl, hjl, (upto_succ hnot (of_decide_eq_false hq)), GG⟩
    · refine s_val 17 rfl rfl (.bool true) (run_eq_k 3 .i64 _ _ _ rfl Try.underlying3 (l.getD j 0) x rfl rfl true hq _) ?_
      refine nr ?_; intro U h; simp only [z0, z1] at h; subst h
      refine wpList_nil ?_
      refine then_n ?_
      refine wp_cond_true rfl ?_
      refine wp_seq ?_
      refine wp_region_lit ?_
      refine s_val 18 rfl rfl (.int .i64 ((j : Nat) : Int)) (rfl) ?_
      refine nr ?_; intro U h; simp only [z0, z1] at h; subst h
      refine s_val 4 rfl rfl (.int .i64 ((j : Nat) : Int)) (rfl) ?_
      refine nr ?_; intro U h; simp only [z0, z1] at h; subst h
      refine wpList_nil ?_
      refine then_n ?_
      refine wp_ret ?_
      refine blk_r ?_
      refine then_r ?_
      refine then_r ?_
      refine blk_r ?_
      refine then_r ?_
      refine bodyPost_ret (results_tmp Try.results21 _ _ _) rfl ?_
      exact ⟨congrArg (fun z => Ending.returned (.int .i64 z)) (plc_at hjl (of_decide_eq_true hq) hnot).symm, GG⟩
set_option maxRecDepth 100000 in
set_option maxHeartbeats 4000000 in
theorem index_any (w : World) (ao : Option Addr) (cap : Nat) (l : List Int) (H : RC w ao cap l) (hl : l.length ≤ 17592186044416) (x : Int) : Calls Try.prog 50 #[.slice ao l.length cap, .int .i64 x] w (fun e w' => e = .returned (.int .i64 (plc l x)) ∧ Gro w w') := by
  refine s_enter Try.func50 rfl Try.ntmps50 [.slice ao l.length cap, .int .i64 x] [.slice ao l.length cap, .int .i64 x, undef, undef, undef, undef, undef, undef, undef, undef, undef, undef, undef, undef, undef, undef, undef, undef, undef] rfl ?_
  have GG := Gro.refl w
  refine wp_seq ?_
  refine wp_region_lit ?_
  refine s_val 4 rfl rfl (.int .i64 0) (rfl) ?_
  refine nr ?_; intro U h; simp only [z0, z1] at h; subst h
  refine wpList_nil ?_
  refine then_n ?_
  refine wp_seq ?_
  refine wp_seq ?_
  refine wp_region_lit ?_
  refine s_val 6 rfl rfl (.slice ao l.length cap) (rfl) ?_
  refine nr ?_; intro U h; simp only [z0, z1] at h; subst h
  refine s_val 7 rfl rfl (.int .i64 ((l.length : Nat) : Int)) (run_len Try.underlying32 _ rfl _ _ _ rfl _) ?_
  refine nr ?_; intro U h; simp only [z0, z1] at h; subst h
  refine s_val 8 rfl rfl (.int .i64 0) (rfl) ?_
  refine nr ?_; intro U h; simp only [z0, z1] at h; subst h
  refine wpList_nil ?_
  refine then_n ?_
  refine wp_block ?_
  refine wp_loopN (fun mz az wv => ∃ (j : Nat) (us1 : Nat → Value), mz = l.length - j ∧ az = ⟨[.slice ao l.length cap, .int .i64 x, undef, undef, us1 0, us1 1, .slice ao l.length cap, .int .i64 ((l.length : Nat) : Int), .int .i64 ((j : Nat) : Int), us1 2, us1 3, us1 4, us1 5, us1 6, us1 7, us1 8, us1 9, us1 10, us1 11].toArray, []⟩ ∧ j ≤ l.length ∧ (∀ i, i < j → l.getD i 0 ≠ x) ∧ Gro w wv) ?_ _ ⟨0, (fun kz => ([.int .i64 0, undef, undef, undef, undef, undef, undef, undef, undef, undef, undef, undef] : List Value).getD kz undef), rfl, rfl, Nat.zero_le _, (fun i hi => absurd hi (Nat.not_lt_zero i)), GG⟩
  clear GG
  rintro mz az wv ⟨j, us1, rfl, rfl, hj, hnot, GG⟩
  refine wp_seq ?_
  refine wp_region_lit ?_
  cases hj1 : decide (((j : Nat) : Int) < ((l.length : Nat) : Int))
  · have hje : j = l.length := by have := of_decide_eq_false hj1; omega
    refine s_val 9 rfl rfl (.bool false) (run_lssT 3 _ _ _ rfl ((j : Nat) : Int) ((l.length : Nat) : Int) rfl rfl false hj1 _) ?_
    refine nr ?_; intro U h; simp only [z0, z1] at h; subst h
    refine wpList_nil ?_
    refine then_n ?_
    refine wp_seq ?_
    refine wp_cond_false rfl ?_
    refine wp_exit ?_
    refine then_x ?_
    refine then_x ?_
    refine blk_x ?_
    refine then_n ?_
    refine wp_seq ?_
    refine wp_region_lit ?_
    refine s_val 4 rfl rfl (.int .i64 (-1)) (rfl) ?_
    refine nr ?_; intro U h; simp only [z0, z1] at h; subst h
    refine wpList_nil ?_
    refine then_n ?_
    refine wp_ret ?_
    refine bodyPost_ret (results_tmp Try.results50 _ _ _) rfl ?_
    subst hje
    exact ⟨congrArg (fun z => Ending.returned (.int .i64 z)) (plc_none hnot).symm, GG⟩
  · have hjl : j < l.length := by have := of_decide_eq_true hj1; omega
    refine s_val 9 rfl rfl (.bool true) (run_lssT 3 _ _ _ rfl ((j : Nat) : Int) ((l.length : Nat) : Int) rfl rfl true hj1 _) ?_
    refine nr ?_; intro U h; simp only [z0, z1] at h; subst h
    refine wpList_nil ?_
    refine then_n ?_
    refine wp_seq ?_
    refine wp_cond_true rfl ?_
    refine wp_skip ?_
    refine then_n ?_
    refine wp_seq ?_
    refine wp_block ?_
    refine wp_seq ?_
    refine wp_region_lit ?_
    refine s_val 10 rfl rfl (.int .i64 ((j : Nat) : Int)) (rfl) ?_
    refine nr ?_; intro U h; simp only [z0, z1] at h; subst h
    refine s_val 5 rfl rfl (.int .i64 ((j : Nat) : Int)) (rfl) ?_
    refine nr ?_; intro U h; simp only [z0, z1] at h; subst h
    refine wpList_nil ?_
    refine then_n ?_
    refine wp_seq ?_
    refine wp_region_lit ?_
    refine s_val 11 rfl rfl (.int .i64 x) (rfl) ?_
    refine nr ?_; intro U h; simp only [z0, z1] at h; subst h
    refine s_val 12 rfl rfl (.slice ao l.length cap) (rfl) ?_
    refine nr ?_; intro U h; simp only [z0, z1] at h; subst h
    refine s_val 13 rfl rfl (.int .i64 ((j : Nat) : Int)) (rfl) ?_
    refine nr ?_; intro U h; simp only [z0, z1] at h; subst h
    refine s_val 14 rfl rfl (.pointer (pA ao j)) (run_ixI (H.gro GG) _ _ rfl rfl j rfl hjl) ?_
    refine nr ?_; intro U h; simp only [z0, z1] at h; subst h
    refine s_val 15 rfl rfl (.int .i64 (l.getD j 0)) (run_ldI (H.gro GG) _ rfl j rfl hjl) ?_
    refine nr ?_; intro U h; simp only [z0, z1] at h; subst h
    cases hq : decide (x = (l.getD j 0))
    · refine s_val 16 rfl rfl (.bool false) (run_eq_k 3 .i64 _ _ _ rfl Try.underlying3 x (l.getD j 0) rfl rfl false hq _) ?_
      refine nr ?_; intro U h; simp only [z0, z1] at h; subst h
      refine wpList_nil ?_
      refine then_n ?_
      refine wp_cond_false rfl ?_
      refine wp_skip ?_
      refine blk_n ?_
      refine then_n ?_
      refine wp_region_lit ?_
      refine s_val 18 rfl rfl (.int .i64 ((j + 1 : Nat) : Int)) (run_addIt 3 _ _ _ rfl ((j : Nat) : Int) 1 ((j + 1 : Nat) : Int) rfl rfl (by omega) (by omega) (by omega) _) ?_
      refine nr ?_; intro U h; simp only [z0, z1] at h; subst h
      refine s_val 8 rfl rfl (.int .i64 ((j + 1 : Nat) : Int)) (rfl) ?_
      refine nr ?_; intro U h; simp only [z0, z1] at h; subst h
      refine wpList_nil ?_
      refine then_n ?_
      exact ⟨_, (by omega : l.length - (j + 1) < l.length - j), j + 1, (fun kz => ([us1 0, .int .i64 ((j : Nat) : Int), .bool true, .int .i64 ((j : Nat) : Int), .int .i64 x, .slice ao l.length cap, .int .i64 ((j : Nat) : Int), .pointer (pA ao j), .int .i64 (l.getD j 0), .bool false, us1 10, .int .i64 ((j + 1 : Nat) : Int)] : List Value).getD kz undef), rfl, rfl, hjl, (upto_succ hnot (fun h => of_decide_eq_false hq h.symm)), GG⟩
    · refine s_val 16 rfl rfl (.bool true) (run_eq_k 3 .i64 _ _ _ rfl Try.underlying3 x (l.getD j 0) rfl rfl true hq _) ?_
      refine nr ?_; intro U h; simp only [z0, z1] at h; subst h
      refine wpList_nil ?_
      refine then_n ?_
      refine wp_cond_true rfl ?_
      refine wp_seq ?_
      refine wp_region_lit ?_
      refine s_val 17 rfl rfl (.int .i64 ((j : Nat) : Int)) (rfl) ?_
      refine nr ?_; intro U h; simp only [z0, z1] at h; subst h
      refine s_val 4 rfl rfl (.int .i64 ((j : Nat) : Int)) (rfl) ?_
      refine nr ?_; intro U h; simp only [z0, z1] at h; subst h
      refine wpList_nil ?_
      refine then_n ?_
      refine wp_ret ?_
      refine blk_r ?_
      refine then_r ?_
      refine then_r ?_
      refine blk_r ?_
      refine then_r ?_
      refine bodyPost_ret (results_tmp Try.results50 _ _ _) rfl ?_
      exact ⟨congrArg (fun z => Ending.returned (.int .i64 z)) (plc_at hjl (of_decide_eq_true hq).symm hnot).symm, GG⟩
set_option maxRecDepth 100000 in
set_option maxHeartbeats 4000000 in
theorem place_any (w : World) (ao : Option Addr) (cap : Nat) (l : List Int) (H : RC w ao cap l) (hl : l.length ≤ 17592186044416) (x : Int) : Calls Try.prog 36 #[.slice ao l.length cap, .int .i64 x] w (fun e w' => e = .returned (.int .i64 (plc l x)) ∧ Gro w w') := by
  refine s_enter Try.func36 rfl Try.ntmps36 [.slice ao l.length cap, .int .i64 x] [.slice ao l.length cap, .int .i64 x, undef, undef, undef, undef, undef, undef] rfl ?_
  have GG := Gro.refl w
  refine wp_seq ?_
  refine wp_region_lit ?_
  refine s_val 4 rfl rfl (.int .i64 0) (rfl) ?_
  refine nr ?_; intro U h; simp only [z0, z1] at h; subst h
  refine wpList_nil ?_
  refine then_n ?_
  refine wp_seq ?_
  refine wp_region_lit ?_
  refine s_val 5 rfl rfl (.slice ao l.length cap) (rfl) ?_
  refine nr ?_; intro U h; simp only [z0, z1] at h; subst h
  refine s_val 6 rfl rfl (.int .i64 x) (rfl) ?_
  refine nr ?_; intro U h; simp only [z0, z1] at h; subst h
  refine s_callv 7 rfl rfl _ 50 Try.call50 rfl rfl _ rfl [.slice ao l.length cap, .int .i64 x] rfl (index_any _ ao cap l (H.gro GG) hl x) ?_
  intro w1 G
  replace GG := GG.trans G
  clear G
  refine nr ?_; intro U h; simp only [z0, z1] at h; subst h
  refine s_val 4 rfl rfl (.int .i64 (plc l x)) (rfl) ?_
  refine nr ?_; intro U h; simp only [z0, z1] at h; subst h
  refine wpList_nil ?_
  refine then_n ?_
  refine wp_ret ?_
  refine bodyPost_ret (results_tmp Try.results36 _ _ _) rfl ?_
  exact ⟨rfl, GG⟩
end Go.Proofs.Ytkjnefgenffhcaa
