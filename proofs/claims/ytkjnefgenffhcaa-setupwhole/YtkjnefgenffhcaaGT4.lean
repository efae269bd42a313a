/- Where each place stands last, simple trails, the way back, rounds taken out: the program's and the document's. -/
import Derived.Test.YtkjnefgenffhcaaGT3
namespace Go.Proofs.Ytkjnefgenffhcaa
open Go.RowKit Go.Maps
structure SZt (B : Nat) (w : World) : Prop where
  le : B ≤ w.heap.size
theorem SZt.gro {B : Nat} {w w' : World} (h : SZt B w) (G : Gro w w') : SZt B w' := ⟨Nat.le_trans h.le G.size⟩
set_option maxRecDepth 100000 in
set_option maxHeartbeats 4000000 in
theorem lasts_any (w : World) (ao : Option Addr) (cap : Nat) (l : List Int) (H : RC w ao cap l) (hl : l.length ≤ 17592186044416) : Calls Try.prog 49 #[.slice ao l.length cap] w (MapP w l) := by
  refine s_enter Try.func49 rfl Try.ntmps49 [.slice ao l.length cap] [.slice ao l.length cap, undef, undef, undef, undef, undef, undef, undef, undef, undef, undef, undef, undef, undef, undef, undef, undef, undef, undef] rfl ?_
  have GG := Gro.refl w
  refine wp_seq ?_
  refine wp_region_lit ?_
  refine s_val 2 rfl rfl (.map none) (rfl) ?_
  refine nr ?_; intro U h; simp only [z0, z1] at h; subst h
  refine wpList_nil ?_
  refine then_n ?_
  refine wp_seq ?_
  refine wp_region_lit ?_
  refine s_mkM (k := 3) (kv := Value.int .i64) (ok := I64t) 6 rfl rfl rfl ?_
  intro w1 b G eb HM
  have bb := size_base GG eb
  replace GG := GG.trans G
  clear G
  clear eb
  refine nr ?_; intro U h; simp only [z0, z1] at h; subst h
  refine s_val 3 rfl rfl (.map (some b)) (rfl) ?_
  refine nr ?_; intro U h; simp only [z0, z1] at h; subst h
  refine wpList_nil ?_
  refine then_n ?_
  refine wp_seq ?_
  refine wp_seq ?_
  refine wp_region_lit ?_
  refine s_val 7 rfl rfl (.slice ao l.length cap) (rfl) ?_
  refine nr ?_; intro U h; simp only [z0, z1] at h; subst h
  refine s_val 8 rfl rfl (.int .i64 ((l.length : Nat) : Int)) (run_len Try.underlying32 _ rfl _ _ _ rfl _) ?_
  refine nr ?_; intro U h; simp only [z0, z1] at h; subst h
  refine s_val 9 rfl rfl (.int .i64 0) (rfl) ?_
  refine nr ?_; intro U h; simp only [z0, z1] at h; subst h
  refine wpList_nil ?_
  refine then_n ?_
  refine wp_block ?_
  refine wp_loopN (fun mz az wv => ∃ (j : Nat) (us1 : Nat → Value), mz = l.length - j ∧ az = ⟨[.slice ao l.length cap, undef, .map none, .map (some b), us1 0, us1 1, .map (some b), .slice ao l.length cap, .int .i64 ((l.length : Nat) : Int), .int .i64 ((j : Nat) : Int), us1 2, us1 3, us1 4, us1 5, us1 6, us1 7, us1 8, us1 9, undef].toArray, []⟩ ∧ j ≤ l.length ∧ Gro w wv ∧ MX 3 (Value.int .i64) I64t wv b j (lstF l j) (l.take j).reverse) ?_ _ ⟨0, (fun kz => ([undef, undef, undef, undef, undef, undef, undef, undef, undef, undef] : List Value).getD kz undef), rfl, rfl, Nat.zero_le _, GG, HM⟩
  clear GG HM
  rintro mz az wv ⟨j, us1, rfl, rfl, hj, GG, HM⟩
  refine wp_seq ?_
  refine wp_region_lit ?_
  cases hj1 : decide (((j : Nat) : Int) < ((l.length : Nat) : Int))
  · have hje : j = l.length := by have := of_decide_eq_false hj1; omega
    refine s_val 10 rfl rfl (.bool false) (run_lssT 3 _ _ _ rfl ((j : Nat) : Int) ((l.length : Nat) : Int) rfl rfl false hj1 _) ?_
    refine nr ?_; intro U h; simp only [z0, z1] at h; subst h
    refine wpList_nil ?_
    refine then_n ?_
    refine wp_seq ?_
    refine wp_cond_false rfl ?_
    refine wp_exit ?_
    refine then_x ?_
    refine then_x ?_
    refine blk_x ?_
    refine then_n ?_
    refine wp_seq ?_
    refine wp_region_lit ?_
    refine s_val 18 rfl rfl (.map (some b)) (rfl) ?_
    refine nr ?_; intro U h; simp only [z0, z1] at h; subst h
    refine s_val 2 rfl rfl (.map (some b)) (rfl) ?_
    refine nr ?_; intro U h; simp only [z0, z1] at h; subst h
    refine wpList_nil ?_
    refine then_n ?_
    refine wp_ret ?_
    refine bodyPost_ret (results_tmp Try.results49 _ _ _) rfl ?_
    subst hje
    refine ⟨b, l.length, rfl, GG, bb, ?_⟩
    rw [List.take_length] at HM
    exact HM
  · have hjl : j < l.length := by have := of_decide_eq_true hj1; omega
    refine s_val 10 rfl rfl (.bool true) (run_lssT 3 _ _ _ rfl ((j : Nat) : Int) ((l.length : Nat) : Int) rfl rfl true hj1 _) ?_
    refine nr ?_; intro U h; simp only [z0, z1] at h; subst h
    refine wpList_nil ?_
    refine then_n ?_
    refine wp_seq ?_
    refine wp_cond_true rfl ?_
    refine wp_skip ?_
    refine then_n ?_
    refine wp_seq ?_
    refine wp_block ?_
    refine wp_seq ?_
    refine wp_region_lit ?_
    refine s_val 11 rfl rfl (.int .i64 ((j : Nat) : Int)) (rfl) ?_
    refine nr ?_; intro U h; simp only [z0, z1] at h; subst h
    refine s_val 12 rfl rfl (.pointer (pA ao j)) (run_ixI (H.gro GG) _ _ rfl rfl j rfl hjl) ?_
    refine nr ?_; intro U h; simp only [z0, z1] at h; subst h
    refine s_val 13 rfl rfl (.int .i64 (l.getD j 0)) (run_ldI (H.gro GG) _ rfl j rfl hjl) ?_
    refine nr ?_; intro U h; simp only [z0, z1] at h; subst h
    refine s_val 4 rfl rfl (.int .i64 ((j : Nat) : Int)) (rfl) ?_
    refine nr ?_; intro U h; simp only [z0, z1] at h; subst h
    refine s_val 5 rfl rfl (.int .i64 (l.getD j 0)) (rfl) ?_
    refine nr ?_; intro U h; simp only [z0, z1] at h; subst h
    refine wpList_nil ?_
    refine then_n ?_
    refine wp_region_lit ?_
    refine s_val 14 rfl rfl (.map (some b)) (rfl) ?_
    refine nr ?_; intro U h; simp only [z0, z1] at h; subst h
    refine s_val 15 rfl rfl (.int .i64 (l.getD j 0)) (rfl) ?_
    refine nr ?_; intro U h; simp only [z0, z1] at h; subst h
    refine s_val 16 rfl rfl (.int .i64 ((j : Nat) : Int)) (rfl) ?_
    refine nr ?_; intro U h; simp only [z0, z1] at h; subst h
    refine s_mput mI rfl rfl _ _ _ rfl HM (by simp only [maxLen]; omega) rfl (l.getD j 0) rfl (H.at hjl) ((j : Nat) : Int) rfl (by unfold I64t; omega) ?_
    intro w2 HM2 KP
    replace GG := KP.gro GG bb
    clear KP HM
    have HM := HM2
    clear HM2
    refine wpList_nil ?_
    refine blk_n ?_
    refine then_n ?_
    refine wp_region_lit ?_
    refine s_val 17 rfl rfl (.int .i64 ((j + 1 : Nat) : Int)) (run_addIt 3 _ _ _ rfl ((j : Nat) : Int) 1 ((j + 1 : Nat) : Int) rfl rfl (by omega) (by omega) (by omega) _) ?_
    refine nr ?_; intro U h; simp only [z0, z1] at h; subst h
    refine s_val 9 rfl rfl (.int .i64 ((j + 1 : Nat) : Int)) (rfl) ?_
    refine nr ?_; intro U h; simp only [z0, z1] at h; subst h
    refine wpList_nil ?_
    refine then_n ?_
    exact ⟨_, (by omega : l.length - (j + 1) < l.length - j), j + 1, (fun kz => ([.int .i64 ((j : Nat) : Int), .int .i64 (l.getD j 0), .bool true, .int .i64 ((j : Nat) : Int), .pointer (pA ao j), .int .i64 (l.getD j 0), .map (some b), .int .i64 (l.getD j 0), .int .i64 ((j : Nat) : Int), .int .i64 ((j + 1 : Nat) : Int)] : List Value).getD kz undef), rfl, rfl, hjl, GG, (by rw [take_rev hjl]; exact HM)⟩
set_option maxRecDepth 100000 in
set_option maxHeartbeats 4000000 in
theorem simple_any (w : World) (ao : Option Addr) (cap : Nat) (l : List Int) (H : RC w ao cap l) (hl : l.length ≤ 17592186044416) : Calls Try.prog 35 #[.slice ao l.length cap] w (fun e w' => e = .returned (.bool (decide l.Nodup)) ∧ Gro w w') := by
  refine s_enter Try.func35 rfl Try.ntmps35 [.slice ao l.length cap] [.slice ao l.length cap, undef, undef, undef, undef, undef, undef, undef, undef] rfl ?_
  have GG := Gro.refl w
  refine wp_seq ?_
  refine wp_region_lit ?_
  refine s_val 2 rfl rfl (.bool false) (rfl) ?_
  refine nr ?_; intro U h; simp only [z0, z1] at h; subst h
  refine wpList_nil ?_
  refine then_n ?_
  refine wp_seq ?_
  refine wp_region_lit ?_
  refine s_val 3 rfl rfl (.slice ao l.length cap) (rfl) ?_
  refine nr ?_; intro U h; simp only [z0, z1] at h; subst h
  refine s_callx 4 rfl rfl _ 49 Try.call49 rfl rfl _ rfl [.slice ao l.length cap] rfl (lasts_any _ ao cap l (H.gro GG) hl) (by rintro _ _ ⟨_, _, he, _⟩; exact ⟨_, he⟩) ?_
  rintro v w1 ⟨b1, n1, he, G, hb1, HM1⟩
  cases he
  replace GG := GG.trans G
  clear G
  refine nr ?_; intro U h; simp only [z0, z1] at h; subst h
  refine s_val 5 rfl rfl (.int .i64 (((dcn l.reverse) : Nat) : Int)) (run_mlent mI HM1 _ rfl rfl) ?_
  refine nr ?_; intro U h; simp only [z0, z1] at h; subst h
  refine s_val 6 rfl rfl (.slice ao l.length cap) (rfl) ?_
  refine nr ?_; intro U h; simp only [z0, z1] at h; subst h
  refine s_val 7 rfl rfl (.int .i64 ((l.length : Nat) : Int)) (run_len Try.underlying32 _ rfl _ _ _ rfl _) ?_
  refine nr ?_; intro U h; simp only [z0, z1] at h; subst h
  refine s_val 8 rfl rfl (.bool (decide l.Nodup)) (run_eq_k 3 .i64 _ _ _ rfl Try.underlying3 _ _ rfl rfl (decide l.Nodup) (dcn_simple l) _) ?_
  refine nr ?_; intro U h; simp only [z0, z1] at h; subst h
  refine s_val 2 rfl rfl (.bool (decide l.Nodup)) (rfl) ?_
  refine nr ?_; intro U h; simp only [z0, z1] at h; subst h
  refine wpList_nil ?_
  refine then_n ?_
  refine wp_ret ?_
  refine bodyPost_ret (results_tmp Try.results35 _ _ _) rfl ?_
  exact ⟨rfl, GG⟩
end Go.Proofs.Ytkjnefgenffhcaa
