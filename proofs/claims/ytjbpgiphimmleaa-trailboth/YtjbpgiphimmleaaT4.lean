/- Where each place stands last, simple trails, the way back, rounds taken out: the program's and the document's. -/
import Derived.Test.YtjbpgiphimmleaaT3
namespace Go.Proofs.Ytjbpgiphimmleaa
open Go.RowKit Go.Maps
structure SZ (B : Nat) (w : World) : Prop where
  le : B ≤ w.heap.size
theorem SZ.gro {B : Nat} {w w' : World} (h : SZ B w) (G : Gro w w') : SZ B w' := ⟨Nat.le_trans h.le G.size⟩
set_option maxRecDepth 100000 in
set_option maxHeartbeats 4000000 in
theorem lasts_any (w : World) (ao : Option Addr) (cap : Nat) (l : List Int) (H : RC w ao cap l) (hl : l.length ≤ 1000000) : Calls Try.prog 22 #[.slice ao l.length cap] w (MapP w l) := by
  refine s_enter Try.func22 rfl Try.ntmps22 [.slice ao l.length cap] [.slice ao l.length cap, undef, undef, undef, undef, undef, undef, undef, undef, undef, undef, undef, undef, undef, undef, undef, undef, undef, undef] rfl ?_
  have GG := Gro.refl w
  refine wp_seq ?_
  refine wp_region_lit ?_
  refine s_val 2 rfl rfl (.map none) (rfl) ?_
  refine nr ?_; intro U h; simp only [z0, z1] at h; subst h
  refine wpList_nil ?_
  refine then_n ?_
  refine wp_seq ?_
  refine wp_region_lit ?_
  refine s_mkM (k := 3) (kv := Value.int .i64) (ok := I64) 6 rfl rfl rfl ?_
  intro w1 b G eb HM
  have bb := size_base GG eb
  replace GG := GG.trans G
  clear G
  clear eb
  refine nr ?_; intro U h; simp only [z0, z1] at h; subst h
  refine s_val 3 rfl rfl (.map (some b)) (rfl) ?_
  refine nr ?_; intro U h; simp only [z0, z1] at h; subst h
  refine wpList_nil ?_
  refine then_n ?_
  refine wp_seq ?_
  refine wp_seq ?_
  refine wp_region_lit ?_
  refine s_val 7 rfl rfl (.slice ao l.length cap) (rfl) ?_
  refine nr ?_; intro U h; simp only [z0, z1] at h; subst h
  refine s_val 8 rfl rfl (.int .i64 ((l.length : Nat) : Int)) (run_len Try.underlying22 _ rfl _ _ _ rfl _) ?_
  refine nr ?_; intro U h; simp only [z0, z1] at h; subst h
  refine s_val 9 rfl rfl (.int .i64 0) (rfl) ?_
  refine nr ?_; intro U h; simp only [z0, z1] at h; subst h
  refine wpList_nil ?_
  refine then_n ?_
  refine wp_block ?_
  refine wp_loopN (fun mz az wv => ∃ (j : Nat) (us1 : Nat → Value), mz = l.length - j ∧ az = ⟨[.slice ao l.length cap, undef, .map none, .map (some b), us1 0, us1 1, .map (some b), .slice ao l.length cap, .int .i64 ((l.length : Nat) : Int), .int .i64 ((j : Nat) : Int), us1 2, us1 3, us1 4, us1 5, us1 6, us1 7, us1 8, us1 9, undef].toArray, []⟩ ∧ j ≤ l.length ∧ Gro w wv ∧ MX 3 (Value.int .i64) I64 wv b j (lstF l j) (l.take j).reverse) ?_ _ ⟨0, (fun kz => ([undef, undef, undef, undef, undef, undef, undef, undef, undef, undef] : List Value).getD kz undef), rfl, rfl, Nat.zero_le _, GG, HM⟩
  clear GG HM
  rintro mz az wv ⟨j, us1, rfl, rfl, hj, GG, HM⟩
  refine wp_seq ?_
  refine wp_region_lit ?_
  cases hj1 : decide (((j : Nat) : Int) < ((l.length : Nat) : Int))
  · have hje : j = l.length := by have := of_decide_eq_false hj1; omega
    refine s_val 10 rfl rfl (.bool false) (run_lssT 3 _ _ _ rfl ((j : Nat) : Int) ((l.length : Nat) : Int) rfl rfl false hj1 _) ?_
    refine nr ?_; intro U h; simp only [z0, z1] at h; subst h
    refine wpList_nil ?_
    refine then_n ?_
    refine wp_seq ?_
    refine wp_cond_false rfl ?_
    refine wp_exit ?_
    refine then_x ?_
    refine then_x ?_
    refine blk_x ?_
    refine then_n ?_
    refine wp_seq ?_
    refine wp_region_lit ?_
    refine s_val 18 rfl rfl (.map (some b)) (rfl) ?_
    refine nr ?_; intro U h; simp only [z0, z1] at h; subst h
    refine s_val 2 rfl rfl (.map (some b)) (rfl) ?_
    refine nr ?_; intro U h; simp only [z0, z1] at h; subst h
    refine wpList_nil ?_
    refine then_n ?_
    refine wp_ret ?_
    refine bodyPost_ret (results_tmp Try.results22 _ _ _) rfl ?_
    subst hje
    refine ⟨b, l.length, rfl, GG, bb, ?_⟩
    rw [List.take_length] at HM
    exact HM
  · have hjl : j < l.length := by have := of_decide_eq_true hj1; omega
    refine s_val 10 rfl rfl (.bool true) (run_lssT 3 _ _ _ rfl ((j : Nat) : Int) ((l.length : Nat) : Int) rfl rfl true hj1 _) ?_
    refine nr ?_; intro U h; simp only [z0, z1] at h; subst h
    refine wpList_nil ?_
    refine then_n ?_
    refine wp_seq ?_
    refine wp_cond_true rfl ?_
    refine wp_skip ?_
    refine then_n ?_
    refine wp_seq ?_
    refine wp_block ?_
    refine wp_seq ?_
    refine wp_region_lit ?_
    refine s_val 11 rfl rfl (.int .i64 ((j : Nat) : Int)) (rfl) ?_
    refine nr ?_; intro U h; simp only [z0, z1] at h; subst h
    refine s_val 12 rfl rfl (.pointer (pA ao j)) (run_ixI (H.gro GG) _ _ rfl rfl j rfl hjl) ?_
    refine nr ?_; intro U h; simp only [z0, z1] at h; subst h
    refine s_val 13 rfl rfl (.int .i64 (l.getD j 0)) (run_ldI (H.gro GG) _ rfl j rfl hjl) ?_
    refine nr ?_; intro U h; simp only [z0, z1] at h; subst h
    refine s_val 4 rfl rfl (.int .i64 ((j : Nat) : Int)) (rfl) ?_
    refine nr ?_; intro U h; simp only [z0, z1] at h; subst h
    refine s_val 5 rfl rfl (.int .i64 (l.getD j 0)) (rfl) ?_
    refine nr ?_; intro U h; simp only [z0, z1] at h; subst h
    refine wpList_nil ?_
    refine then_n ?_
    refine wp_region_lit ?_
    refine s_val 14 rfl rfl (.map (some b)) (rfl) ?_
    refine nr ?_; intro U h; simp only [z0, z1] at h; subst h
    refine s_val 15 rfl rfl (.int .i64 (l.getD j 0)) (rfl) ?_
    refine nr ?_; intro U h; simp only [z0, z1] at h; subst h
    refine s_val 16 rfl rfl (.int .i64 ((j : Nat) : Int)) (rfl) ?_
    refine nr ?_; intro U h; simp only [z0, z1] at h; subst h
    refine s_mput mI rfl rfl _ _ _ rfl HM (by simp only [maxLen]; omega) rfl (l.getD j 0) rfl (H.at hjl) ((j : Nat) : Int) rfl (by unfold I64; omega) ?_
    intro w2 HM2 KP
    replace GG := KP.gro GG bb
    clear KP HM
    have HM := HM2
    clear HM2
    refine wpList_nil ?_
    refine blk_n ?_
    refine then_n ?_
    refine wp_region_lit ?_
    refine s_val 17 rfl rfl (.int .i64 ((j + 1 : Nat) : Int)) (run_addI 3 _ _ _ rfl ((j : Nat) : Int) 1 ((j + 1 : Nat) : Int) rfl rfl (by omega) (by omega) (by omega) _) ?_
    refine nr ?_; intro U h; simp only [z0, z1] at h; subst h
    refine s_val 9 rfl rfl (.int .i64 ((j + 1 : Nat) : Int)) (rfl) ?_
    refine nr ?_; intro U h; simp only [z0, z1] at h; subst h
    refine wpList_nil ?_
    refine then_n ?_
    exact ⟨_, (by omega : l.length - (j + 1) < l.length - j), j + 1, (fun kz => ([.int .i64 ((j : Nat) : Int), .int .i64 (l.getD j 0), .bool true, .int .i64 ((j : Nat) : Int), .pointer (pA ao j), .int .i64 (l.getD j 0), .map (some b), .int .i64 (l.getD j 0), .int .i64 ((j : Nat) : Int), .int .i64 ((j + 1 : Nat) : Int)] : List Value).getD kz undef), rfl, rfl, hjl, GG, (by rw [take_rev hjl]; exact HM)⟩
set_option maxRecDepth 100000 in
set_option maxHeartbeats 4000000 in
theorem simple_any (w : World) (ao : Option Addr) (cap : Nat) (l : List Int) (H : RC w ao cap l) (hl : l.length ≤ 1000000) : Calls Try.prog 16 #[.slice ao l.length cap] w (fun e w' => e = .returned (.bool (decide l.Nodup)) ∧ Gro w w') := by
  refine s_enter Try.func16 rfl Try.ntmps16 [.slice ao l.length cap] [.slice ao l.length cap, undef, undef, undef, undef, undef, undef, undef, undef] rfl ?_
  have GG := Gro.refl w
  refine wp_seq ?_
  refine wp_region_lit ?_
  refine s_val 2 rfl rfl (.bool false) (rfl) ?_
  refine nr ?_; intro U h; simp only [z0, z1] at h; subst h
  refine wpList_nil ?_
  refine then_n ?_
  refine wp_seq ?_
  refine wp_region_lit ?_
  refine s_val 3 rfl rfl (.slice ao l.length cap) (rfl) ?_
  refine nr ?_; intro U h; simp only [z0, z1] at h; subst h
  refine s_callx 4 rfl rfl _ 22 Try.call22 rfl rfl _ rfl [.slice ao l.length cap] rfl (lasts_any _ ao cap l (H.gro GG) hl) (by rintro _ _ ⟨_, _, he, _⟩; exact ⟨_, he⟩) ?_
  rintro v w1 ⟨b1, n1, he, G, hb1, HM1⟩
  cases he
  replace GG := GG.trans G
  clear G
  refine nr ?_; intro U h; simp only [z0, z1] at h; subst h
  refine s_val 5 rfl rfl (.int .i64 (((dcn l.reverse) : Nat) : Int)) (run_mlen mI HM1 _ rfl rfl) ?_
  refine nr ?_; intro U h; simp only [z0, z1] at h; subst h
  refine s_val 6 rfl rfl (.slice ao l.length cap) (rfl) ?_
  refine nr ?_; intro U h; simp only [z0, z1] at h; subst h
  refine s_val 7 rfl rfl (.int .i64 ((l.length : Nat) : Int)) (run_len Try.underlying22 _ rfl _ _ _ rfl _) ?_
  refine nr ?_; intro U h; simp only [z0, z1] at h; subst h
  refine s_val 8 rfl rfl (.bool (decide l.Nodup)) (run_eq_k 3 .i64 _ _ _ rfl Try.underlying3 _ _ rfl rfl (decide l.Nodup) (dcn_simple l) _) ?_
  refine nr ?_; intro U h; simp only [z0, z1] at h; subst h
  refine s_val 2 rfl rfl (.bool (decide l.Nodup)) (rfl) ?_
  refine nr ?_; intro U h; simp only [z0, z1] at h; subst h
  refine wpList_nil ?_
  refine then_n ?_
  refine wp_ret ?_
  refine bodyPost_ret (results_tmp Try.results16 _ _ _) rfl ?_
  exact ⟨rfl, GG⟩
set_option maxRecDepth 100000 in
set_option maxHeartbeats 4000000 in
theorem back_any (w : World) (ao : Option Addr) (cap : Nat) (l : List Int) (H : RC w ao cap l) (hl : l.length ≤ 1000000) : Calls Try.prog 11 #[.slice ao l.length cap] w (RowP w l.reverse) := by
  refine s_enter Try.func11 rfl Try.ntmps11 [.slice ao l.length cap] [.slice ao l.length cap, undef, undef, undef, undef, undef, undef, undef, undef, undef, undef, undef, undef, undef, undef, undef, undef, undef, undef, undef, undef, undef, undef, undef, undef, undef] rfl ?_
  have GG := Gro.refl w
  refine wp_seq ?_
  refine wp_region_lit ?_
  refine s_val 2 rfl rfl (.slice none 0 0) (rfl) ?_
  refine nr ?_; intro U h; simp only [z0, z1] at h; subst h
  refine wpList_nil ?_
  refine then_n ?_
  refine wp_seq ?_
  refine wp_region_lit ?_
  refine s_val 6 rfl rfl (.slice ao l.length cap) (rfl) ?_
  refine nr ?_; intro U h; simp only [z0, z1] at h; subst h
  refine s_val 7 rfl rfl (.int .i64 ((l.length : Nat) : Int)) (run_len Try.underlying22 _ rfl _ _ _ rfl _) ?_
  refine nr ?_; intro U h; simp only [z0, z1] at h; subst h
  refine s_mkI 8 rfl rfl _ _ rfl l.length rfl rfl hl ?_
  intro w1 g G eg kg
  have bg := size_base GG eg
  replace GG := GG.trans G
  clear G
  clear eg
  refine nr ?_; intro U h; simp only [z0, z1] at h; subst h
  refine s_val 3 rfl rfl (.slice (some ⟨g, 0, none⟩) l.length l.length) (rfl) ?_
  refine nr ?_; intro U h; simp only [z0, z1] at h; subst h
  refine wpList_nil ?_
  refine then_n ?_
  refine wp_seq ?_
  refine wp_seq ?_
  refine wp_region_lit ?_
  refine s_val 9 rfl rfl (.slice ao l.length cap) (rfl) ?_
  refine nr ?_; intro U h; simp only [z0, z1] at h; subst h
  refine s_val 10 rfl rfl (.int .i64 ((l.length : Nat) : Int)) (run_len Try.underlying22 _ rfl _ _ _ rfl _) ?_
  refine nr ?_; intro U h; simp only [z0, z1] at h; subst h
  refine s_val 11 rfl rfl (.int .i64 0) (rfl) ?_
  refine nr ?_; intro U h; simp only [z0, z1] at h; subst h
  refine wpList_nil ?_
  refine then_n ?_
  refine wp_block ?_
  refine wp_loopN (fun mz az wv => ∃ (j : Nat) (us1 : Nat → Value), mz = l.length - j ∧ az = ⟨[.slice ao l.length cap, undef, .slice none 0 0, .slice (some ⟨g, 0, none⟩) l.length l.length, us1 0, us1 1, .slice ao l.length cap, .int .i64 ((l.length : Nat) : Int), .slice (some ⟨g, 0, none⟩) l.length l.length, .slice ao l.length cap, .int .i64 ((l.length : Nat) : Int), .int .i64 ((j : Nat) : Int), us1 2, us1 3, us1 4, us1 5, us1 6, us1 7, us1 8, us1 9, us1 10, us1 11, us1 12, us1 13, us1 14, undef].toArray, []⟩ ∧ j ≤ l.length ∧ Gro w wv ∧ wv.heap[g]? = some (.cells (ci (List.replicate (l.length - j) 0 ++ (l.take j).reverse)).toArray 3 (0, 0))) ?_ _ ⟨0, (fun kz => ([undef, undef, undef, undef, undef, undef, undef, undef, undef, undef, undef, undef, undef, undef, undef] : List Value).getD kz undef), rfl, rfl, Nat.zero_le _, GG, (by simpa using kg)⟩
  clear GG kg
  rintro mz az wv ⟨j, us1, rfl, rfl, hj, GG, kg⟩
  refine wp_seq ?_
  refine wp_region_lit ?_
  cases hj1 : decide (((j : Nat) : Int) < ((l.length : Nat) : Int))
  · have hje : j = l.length := by have := of_decide_eq_false hj1; omega
    refine s_val 12 rfl rfl (.bool false) (run_lssT 3 _ _ _ rfl ((j : Nat) : Int) ((l.length : Nat) : Int) rfl rfl false hj1 _) ?_
    refine nr ?_; intro U h; simp only [z0, z1] at h; subst h
    refine wpList_nil ?_
    refine then_n ?_
    refine wp_seq ?_
    refine wp_cond_false rfl ?_
    refine wp_exit ?_
    refine then_x ?_
    refine then_x ?_
    refine blk_x ?_
    refine then_n ?_
    refine wp_seq ?_
    refine wp_region_lit ?_
    refine s_val 25 rfl rfl (.slice (some ⟨g, 0, none⟩) l.length l.length) (rfl) ?_
    refine nr ?_; intro U h; simp only [z0, z1] at h; subst h
    refine s_val 2 rfl rfl (.slice (some ⟨g, 0, none⟩) l.length l.length) (rfl) ?_
    refine nr ?_; intro U h; simp only [z0, z1] at h; subst h
    refine wpList_nil ?_
    refine then_n ?_
    refine wp_ret ?_
    refine bodyPost_ret (results_tmp Try.results11 _ _ _) rfl ?_
    subst hje
    refine ⟨some ⟨g, 0, none⟩, l.length, by rw [List.length_reverse]; rfl, GG, ?_⟩
    rw [Nat.sub_self, List.replicate_zero, List.nil_append, List.take_length] at kg
    exact ⟨OX.made kg bg (by simp) (by simp only [maxLen]; omega) (by simp [ci]) (by simp [ci]) (by rw [show (ci l.reverse).toArray.toList = ci l.reverse from rfl]; exact List.take_of_length_le (by simp [ci])) (ci_one _), fun x hx => H.all x (List.mem_reverse.1 hx)⟩
  · have hjl : j < l.length := by have := of_decide_eq_true hj1; omega
    refine s_val 12 rfl rfl (.bool true) (run_lssT 3 _ _ _ rfl ((j : Nat) : Int) ((l.length : Nat) : Int) rfl rfl true hj1 _) ?_
    refine nr ?_; intro U h; simp only [z0, z1] at h; subst h
    refine wpList_nil ?_
    refine then_n ?_
    refine wp_seq ?_
    refine wp_cond_true rfl ?_
    refine wp_skip ?_
    refine then_n ?_
    refine wp_seq ?_
    refine wp_block ?_
    refine wp_seq ?_
    refine wp_region_lit ?_
    refine s_val 13 rfl rfl (.int .i64 ((j : Nat) : Int)) (rfl) ?_
    refine nr ?_; intro U h; simp only [z0, z1] at h; subst h
    refine s_val 14 rfl rfl (.pointer (pA ao j)) (run_ixI (H.gro GG) _ _ rfl rfl j rfl hjl) ?_
    refine nr ?_; intro U h; simp only [z0, z1] at h; subst h
    refine s_val 15 rfl rfl (.int .i64 (l.getD j 0)) (run_ldI (H.gro GG) _ rfl j rfl hjl) ?_
    refine nr ?_; intro U h; simp only [z0, z1] at h; subst h
    refine s_val 4 rfl rfl (.int .i64 ((j : Nat) : Int)) (rfl) ?_
    refine nr ?_; intro U h; simp only [z0, z1] at h; subst h
    refine s_val 5 rfl rfl (.int .i64 (l.getD j 0)) (rfl) ?_
    refine nr ?_; intro U h; simp only [z0, z1] at h; subst h
    refine wpList_nil ?_
    refine then_n ?_
    refine wp_region_lit ?_
    refine s_val 16 rfl rfl (.slice (some ⟨g, 0, none⟩) l.length l.length) (rfl) ?_
    refine nr ?_; intro U h; simp only [z0, z1] at h; subst h
    refine s_val 17 rfl rfl (.slice ao l.length cap) (rfl) ?_
    refine nr ?_; intro U h; simp only [z0, z1] at h; subst h
    refine s_val 18 rfl rfl (.int .i64 ((l.length : Nat) : Int)) (run_len Try.underlying22 _ rfl _ _ _ rfl _) ?_
    refine nr ?_; intro U h; simp only [z0, z1] at h; subst h
    refine s_val 19 rfl rfl (.int .i64 ((l.length - 1 : Nat) : Int)) (run_subI 3 _ _ _ rfl ((l.length : Nat) : Int) 1 ((l.length - 1 : Nat) : Int) rfl rfl (by omega) (by omega) (by omega) _) ?_
    refine nr ?_; intro U h; simp only [z0, z1] at h; subst h
    refine s_val 20 rfl rfl (.int .i64 ((j : Nat) : Int)) (rfl) ?_
    refine nr ?_; intro U h; simp only [z0, z1] at h; subst h
    refine s_val 21 rfl rfl (.int .i64 (((l.length - 1 - j) : Nat) : Int)) (run_subI 3 _ _ _ rfl ((l.length - 1 : Nat) : Int) ((j : Nat) : Int) (((l.length - 1 - j) : Nat) : Int) rfl rfl (by omega) (by omega) (by omega) _) ?_
    refine nr ?_; intro U h; simp only [z0, z1] at h; subst h
    refine s_val 22 rfl rfl (.int .i64 (l.getD j 0)) (rfl) ?_
    refine nr ?_; intro U h; simp only [z0, z1] at h; subst h
    refine s_val 23 rfl rfl (.pointer (some ⟨g, (l.length - 1 - j), none⟩)) (run_ixB _ _ rfl g l.length l.length (l.length - 1 - j) rfl rfl (by omega)) ?_
    refine nr ?_; intro U h; simp only [z0, z1] at h; subst h
    refine s_store rfl rfl 3 _ _ rfl g (l.length - 1 - j) rfl (.int .i64 (l.getD j 0)) rfl 3 _ kg #[.int .i64 (l.getD j 0)] rfl si3 (by simp [ci]; omega) (i_one _) _ (ci_set (by simp; omega) _) ?_
    intro w2 St
    replace GG := GG.store St bg
    replace kg := St.new
    clear St
    refine wpList_nil ?_
    refine blk_n ?_
    refine then_n ?_
    refine wp_region_lit ?_
    refine s_val 24 rfl rfl (.int .i64 ((j + 1 : Nat) : Int)) (run_addI 3 _ _ _ rfl ((j : Nat) : Int) 1 ((j + 1 : Nat) : Int) rfl rfl (by omega) (by omega) (by omega) _) ?_
    refine nr ?_; intro U h; simp only [z0, z1] at h; subst h
    refine s_val 11 rfl rfl (.int .i64 ((j + 1 : Nat) : Int)) (rfl) ?_
    refine nr ?_; intro U h; simp only [z0, z1] at h; subst h
    refine wpList_nil ?_
    refine then_n ?_
    exact ⟨_, (by omega : l.length - (j + 1) < l.length - j), j + 1, (fun kz => ([.int .i64 ((j : Nat) : Int), .int .i64 (l.getD j 0), .bool true, .int .i64 ((j : Nat) : Int), .pointer (pA ao j), .int .i64 (l.getD j 0), .slice (some ⟨g, 0, none⟩) l.length l.length, .slice ao l.length cap, .int .i64 ((l.length : Nat) : Int), .int .i64 ((l.length - 1 : Nat) : Int), .int .i64 ((j : Nat) : Int), .int .i64 (((l.length - 1 - j) : Nat) : Int), .int .i64 (l.getD j 0), .pointer (some ⟨g, (l.length - 1 - j), none⟩), .int .i64 ((j + 1 : Nat) : Int)] : List Value).getD kz undef), rfl, rfl, hjl, GG, (by rw [← back_step hjl]; exact kg)⟩
set_option maxRecDepth 100000 in
set_option maxHeartbeats 4000000 in
theorem refback_any (w : World) (ao : Option Addr) (cap : Nat) (l : List Int) (H : RC w ao cap l) (hl : l.length ≤ 1000000) : Calls Try.prog 15 #[.slice ao l.length cap] w (RowP w l.reverse) := by
  refine s_enter Try.func15 rfl Try.ntmps15 [.slice ao l.length cap] [.slice ao l.length cap, undef, undef, undef, undef, undef, undef, undef, undef, undef, undef, undef, undef, undef, undef, undef, undef, undef, undef, undef] rfl ?_
  have GG := Gro.refl w
  refine wp_seq ?_
  refine wp_region_lit ?_
  refine s_val 2 rfl rfl (.slice none 0 0) (rfl) ?_
  refine nr ?_; intro U h; simp only [z0, z1] at h; subst h
  refine wpList_nil ?_
  refine then_n ?_
  refine wp_seq ?_
  refine wp_region_lit ?_
  refine s_val 3 rfl rfl (.slice none 0 0) (rfl) ?_
  refine nr ?_; intro U h; simp only [z0, z1] at h; subst h
  refine wpList_nil ?_
  refine then_n ?_
  refine wp_seq ?_
  refine wp_seq ?_
  refine wp_region_lit ?_
  refine s_val 5 rfl rfl (.slice ao l.length cap) (rfl) ?_
  refine nr ?_; intro U h; simp only [z0, z1] at h; subst h
  refine s_val 6 rfl rfl (.int .i64 ((l.length : Nat) : Int)) (run_len Try.underlying22 _ rfl _ _ _ rfl _) ?_
  refine nr ?_; intro U h; simp only [z0, z1] at h; subst h
  refine s_val 7 rfl rfl (.int .i64 (((l.length : Nat) : Int) - 1)) (run_subI 3 _ _ _ rfl ((l.length : Nat) : Int) 1 (((l.length : Nat) : Int) - 1) rfl rfl (by omega) (by omega) (by omega) _) ?_
  refine nr ?_; intro U h; simp only [z0, z1] at h; subst h
  refine s_val 4 rfl rfl (.int .i64 (((l.length : Nat) : Int) - 1)) (rfl) ?_
  refine nr ?_; intro U h; simp only [z0, z1] at h; subst h
  refine wpList_nil ?_
  refine then_n ?_
  refine wp_block ?_
  refine wp_loopN (fun mz az wv => ∃ (z : Int) (m : Nat) (L : List Int) (ao2 : Option Addr) (cap2 : Nat) (us1 : Nat → Value), mz = m + 1 ∧ az = ⟨[.slice ao l.length cap, undef, .slice none 0 0, .slice ao2 L.length cap2, .int .i64 z, .slice ao l.length cap, .int .i64 ((l.length : Nat) : Int), .int .i64 (((l.length : Nat) : Int) - 1), us1 0, us1 1, us1 2, us1 3, us1 4, us1 5, us1 6, us1 7, us1 8, us1 9, us1 10, undef].toArray, []⟩ ∧ z = ((m : Nat) : Int) - 1 ∧ m ≤ l.length ∧ L = (l.drop m).reverse ∧ Gro w wv ∧ OI wv w.heap.size ao2 cap2 L) ?_ _ ⟨(((l.length : Nat) : Int) - 1), l.length, [], none, 0, (fun kz => ([undef, undef, undef, undef, undef, undef, undef, undef, undef, undef, undef] : List Value).getD kz undef), rfl, rfl, rfl, Nat.le_refl _, (by simp), GG, (OI.nil _ _)⟩
  clear GG
  rintro mz az wv ⟨z, m, L, ao2, cap2, us1, rfl, rfl, hz, hm, hL, GG, HO⟩
  have hLl : L.length ≤ l.length := by rw [hL]; simp
  refine wp_seq ?_
  refine wp_seq ?_
  refine wp_region_lit ?_
  refine s_val 8 rfl rfl (.int .i64 z) (rfl) ?_
  refine nr ?_; intro U h; simp only [z0, z1] at h; subst h
  cases hz1 : decide (0 ≤ z)
  · have hm0 : m = 0 := by have := of_decide_eq_false hz1; omega
    refine s_val 9 rfl rfl (.bool false) (run_geqT 3 _ _ _ rfl z 0 rfl rfl false hz1 _) ?_
    refine nr ?_; intro U h; simp only [z0, z1] at h; subst h
    refine wpList_nil ?_
    refine then_n ?_
    refine wp_cond_false rfl ?_
    refine wp_exit ?_
    refine then_x ?_
    refine then_x ?_
    refine blk_x ?_
    refine then_n ?_
    refine wp_seq ?_
    refine wp_region_lit ?_
    refine s_val 19 rfl rfl (.slice ao2 L.length cap2) (rfl) ?_
    refine nr ?_; intro U h; simp only [z0, z1] at h; subst h
    refine s_val 2 rfl rfl (.slice ao2 L.length cap2) (rfl) ?_
    refine nr ?_; intro U h; simp only [z0, z1] at h; subst h
    refine wpList_nil ?_
    refine then_n ?_
    refine wp_ret ?_
    refine bodyPost_ret (results_tmp Try.results15 _ _ _) rfl ?_
    subst hm0
    rw [List.drop_zero] at hL
    subst hL
    exact ⟨ao2, cap2, rfl, GG, HO⟩
  · obtain ⟨k, rfl⟩ : ∃ k, m = k + 1 := ⟨m - 1, by have := of_decide_eq_true hz1; omega⟩
    obtain rfl : z = ((k : Nat) : Int) := by omega
    have hkl : k < l.length := by omega
    refine s_val 9 rfl rfl (.bool true) (run_geqT 3 _ _ _ rfl ((k : Nat) : Int) 0 rfl rfl true hz1 _) ?_
    refine nr ?_; intro U h; simp only [z0, z1] at h; subst h
    refine wpList_nil ?_
    refine then_n ?_
    refine wp_cond_true rfl ?_
    refine wp_skip ?_
    refine then_n ?_
    refine wp_seq ?_
    refine wp_block ?_
    refine wp_region_lit ?_
    refine s_val 12 rfl rfl (.slice ao2 L.length cap2) (rfl) ?_
    refine nr ?_; intro U h; simp only [z0, z1] at h; subst h
    refine s_val 13 rfl rfl (.slice ao l.length cap) (rfl) ?_
    refine nr ?_; intro U h; simp only [z0, z1] at h; subst h
    refine s_val 14 rfl rfl (.int .i64 ((k : Nat) : Int)) (rfl) ?_
    refine nr ?_; intro U h; simp only [z0, z1] at h; subst h
    refine s_val 15 rfl rfl (.pointer (pA ao k)) (run_ixI (H.gro GG) _ _ rfl rfl k rfl hkl) ?_
    refine nr ?_; intro U h; simp only [z0, z1] at h; subst h
    refine s_val 16 rfl rfl (.int .i64 (l.getD k 0)) (run_ldI (H.gro GG) _ rfl k rfl hkl) ?_
    refine nr ?_; intro U h; simp only [z0, z1] at h; subst h
    refine s_bsl 17 rfl rfl 22 1 _ rfl [(0, .int .i64 (l.getD k 0))] rfl (ci ([(l.getD k 0)] : List Int)).toArray 3 (bs1 (l.getD k 0) _) ?_
    intro w1 q1 G eq1 kq1
    have bq1 := size_base GG eq1
    replace HO := HO.gro G
    replace GG := GG.trans G
    clear G
    have HR1 : RC _ (some ⟨q1, 0, none⟩) ([(l.getD k 0)] : List Int).length ([(l.getD k 0)] : List Int) := RC.blk kq1 (allZ [(l.getD k 0)] ⟨(H.at hkl), trivial⟩) (Nat.le_refl _)
    clear eq1
    refine nr ?_; intro U h; simp only [z0, z1] at h; subst h
    refine s_appI 18 rfl rfl _ _ rfl (l := L) rfl HO rfl HR1 (by simp; omega) GG.size ?_
    intro ao3 cap3 w2 HO3 HB
    replace GG := below_gro GG HB (Nat.le_refl _)
    clear HO HR1 HB
    refine nr ?_; intro U h; simp only [z0, z1] at h; subst h
    refine s_val 3 rfl rfl (.slice ao3 ((L ++ [l.getD k 0]).length) cap3) (rfl) ?_
    refine nr ?_; intro U h; simp only [z0, z1] at h; subst h
    refine wpList_nil ?_
    refine blk_n ?_
    refine then_n ?_
    refine wp_region_lit ?_
    refine s_val 10 rfl rfl (.int .i64 ((k : Nat) : Int)) (rfl) ?_
    refine nr ?_; intro U h; simp only [z0, z1] at h; subst h
    refine s_val 11 rfl rfl (.int .i64 (((k : Nat) : Int) - 1)) (run_subI 3 _ _ _ rfl ((k : Nat) : Int) 1 (((k : Nat) : Int) - 1) rfl rfl (by omega) (by omega) (by omega) _) ?_
    refine nr ?_; intro U h; simp only [z0, z1] at h; subst h
    refine s_val 4 rfl rfl (.int .i64 (((k : Nat) : Int) - 1)) (rfl) ?_
    refine nr ?_; intro U h; simp only [z0, z1] at h; subst h
    refine wpList_nil ?_
    refine then_n ?_
    exact ⟨_, (by omega : k + 1 < k + 1 + 1), (((k : Nat) : Int) - 1), k, L ++ [l.getD k 0], ao3, cap3, (fun kz => ([.int .i64 ((k : Nat) : Int), .bool true, .int .i64 ((k : Nat) : Int), .int .i64 (((k : Nat) : Int) - 1), .slice ao2 L.length cap2, .slice ao l.length cap, .int .i64 ((k : Nat) : Int), .pointer (pA ao k), .int .i64 (l.getD k 0), .slice (some ⟨q1, 0, none⟩) (([(l.getD k 0)] : List Int).length) (([(l.getD k 0)] : List Int).length), .slice ao3 ((L ++ [l.getD k 0]).length) cap3] : List Value).getD kz undef), rfl, rfl, rfl, (by omega), (by rw [hL]; exact rev_drop hkl), GG, HO3⟩
set_option maxRecDepth 100000 in
set_option maxHeartbeats 4000000 in
theorem erase_any (w : World) (ao : Option Addr) (cap : Nat) (l : List Int) (H : RC w ao cap l) (hl : l.length ≤ 1000000) : Calls Try.prog 10 #[.slice ao l.length cap] w (RowP w (erz l)) := by
  refine s_enter Try.func10 rfl Try.ntmps10 [.slice ao l.length cap] [.slice ao l.length cap, undef, undef, undef, undef, undef, undef, undef, undef, undef, undef, undef, undef, undef, undef, undef, undef, undef, undef, undef, undef, undef, undef, undef, undef, undef, undef] rfl ?_
  have GG := Gro.refl w
  refine wp_seq ?_
  refine wp_region_lit ?_
  refine s_val 2 rfl rfl (.slice none 0 0) (rfl) ?_
  refine nr ?_; intro U h; simp only [z0, z1] at h; subst h
  refine wpList_nil ?_
  refine then_n ?_
  refine wp_seq ?_
  refine wp_region_lit ?_
  refine s_val 6 rfl rfl (.slice ao l.length cap) (rfl) ?_
  refine nr ?_; intro U h; simp only [z0, z1] at h; subst h
  refine s_callx 7 rfl rfl _ 22 Try.call22 rfl rfl _ rfl [.slice ao l.length cap] rfl (lasts_any _ ao cap l (H.gro GG) hl) (by rintro _ _ ⟨_, _, he, _⟩; exact ⟨_, he⟩) ?_
  rintro v w1 ⟨b1, n1, he, G, hb1, HM1⟩
  cases he
  replace GG := GG.trans G
  clear G
  refine nr ?_; intro U h; simp only [z0, z1] at h; subst h
  refine s_val 3 rfl rfl (.map (some b1)) (rfl) ?_
  refine nr ?_; intro U h; simp only [z0, z1] at h; subst h
  refine wpList_nil ?_
  refine then_n ?_
  refine wp_seq ?_
  refine wp_region_lit ?_
  refine s_val 4 rfl rfl (.slice none 0 0) (rfl) ?_
  refine nr ?_; intro U h; simp only [z0, z1] at h; subst h
  refine wpList_nil ?_
  refine then_n ?_
  refine wp_seq ?_
  refine wp_seq ?_
  refine wp_region_lit ?_
  refine s_val 5 rfl rfl (.int .i64 0) (rfl) ?_
  refine nr ?_; intro U h; simp only [z0, z1] at h; subst h
  refine wpList_nil ?_
  refine then_n ?_
  refine wp_block ?_
  obtain ⟨B, hB⟩ : ∃ B, B = w1.heap.size := ⟨_, rfl⟩
  have hwB : w.heap.size ≤ B := hB ▸ GG.size
  have hbB : b1 < B := hB ▸ HM1.lt
  have HO := OI.nil w1 B
  have hBs : SZ B w1 := ⟨Nat.le_of_eq hB⟩
  refine wp_loopN (fun mz az wv => ∃ (i : Nat) (L : List Int) (ao2 : Option Addr) (cap2 : Nat) (us1 : Nat → Value), mz = l.length - i ∧ az = ⟨[.slice ao l.length cap, undef, .slice none 0 0, .map (some b1), .slice ao2 L.length cap2, .int .i64 ((i : Nat) : Int), .slice ao l.length cap, .map (some b1), us1 0, us1 1, us1 2, us1 3, us1 4, us1 5, us1 6, us1 7, us1 8, us1 9, us1 10, us1 11, us1 12, us1 13, us1 14, us1 15, us1 16, us1 17, undef].toArray, []⟩ ∧ L.length ≤ i ∧ i ≤ l.length ∧ erz l = L ++ erz (l.drop i) ∧ Gro w wv ∧ MX 3 (Value.int .i64) I64 wv b1 n1 (lstF l l.length) l.reverse ∧ OI wv B ao2 cap2 L ∧ SZ B wv) ?_ _ ⟨0, [], none, 0, (fun kz => ([undef, undef, undef, undef, undef, undef, undef, undef, undef, undef, undef, undef, undef, undef, undef, undef, undef, undef] : List Value).getD kz undef), rfl, rfl, Nat.le_refl _, Nat.zero_le _, rfl, GG, HM1, HO, hBs⟩
  clear GG HM1
  rintro mz az wv ⟨i, L, ao2, cap2, us1, rfl, rfl, hLl, hi, hL, GG, HM1, HO, hBs⟩
  refine wp_seq ?_
  refine wp_seq ?_
  refine wp_region_lit ?_
  refine s_val 8 rfl rfl (.int .i64 ((i : Nat) : Int)) (rfl) ?_
  refine nr ?_; intro U h; simp only [z0, z1] at h; subst h
  refine s_val 9 rfl rfl (.slice ao l.length cap) (rfl) ?_
  refine nr ?_; intro U h; simp only [z0, z1] at h; subst h
  refine s_val 10 rfl rfl (.int .i64 ((l.length : Nat) : Int)) (run_len Try.underlying22 _ rfl _ _ _ rfl _) ?_
  refine nr ?_; intro U h; simp only [z0, z1] at h; subst h
  cases hi1 : decide (((i : Nat) : Int) < ((l.length : Nat) : Int))
  · have hie : i = l.length := by have := of_decide_eq_false hi1; omega
    refine s_val 11 rfl rfl (.bool false) (run_lssT 3 _ _ _ rfl ((i : Nat) : Int) ((l.length : Nat) : Int) rfl rfl false hi1 _) ?_
    refine nr ?_; intro U h; simp only [z0, z1] at h; subst h
    refine wpList_nil ?_
    refine then_n ?_
    refine wp_cond_false rfl ?_
    refine wp_exit ?_
    refine then_x ?_
    refine then_x ?_
    refine blk_x ?_
    refine then_n ?_
    refine wp_seq ?_
    refine wp_region_lit ?_
    refine s_val 26 rfl rfl (.slice ao2 L.length cap2) (rfl) ?_
    refine nr ?_; intro U h; simp only [z0, z1] at h; subst h
    refine s_val 2 rfl rfl (.slice ao2 L.length cap2) (rfl) ?_
    refine nr ?_; intro U h; simp only [z0, z1] at h; subst h
    refine wpList_nil ?_
    refine then_n ?_
    refine wp_ret ?_
    refine bodyPost_ret (results_tmp Try.results10 _ _ _) rfl ?_
    subst hie
    rw [List.drop_length, erz_nil, List.append_nil] at hL
    rw [← hL] at HO
    exact ⟨ao2, cap2, by rw [hL]; rfl, GG, HO.mono hwB⟩
  · have hil : i < l.length := by have := of_decide_eq_true hi1; omega
    obtain ⟨k, hk, hik, hkl, hke, hkn⟩ := lstF_at (l := l) l.length i hil rfl
    refine s_val 11 rfl rfl (.bool true) (run_lssT 3 _ _ _ rfl ((i : Nat) : Int) ((l.length : Nat) : Int) rfl rfl true hi1 _) ?_
    refine nr ?_; intro U h; simp only [z0, z1] at h; subst h
    refine wpList_nil ?_
    refine then_n ?_
    refine wp_cond_true rfl ?_
    refine wp_skip ?_
    refine then_n ?_
    refine wp_seq ?_
    refine wp_block ?_
    refine wp_region_lit ?_
    refine s_val 19 rfl rfl (.slice ao2 L.length cap2) (rfl) ?_
    refine nr ?_; intro U h; simp only [z0, z1] at h; subst h
    refine s_val 20 rfl rfl (.slice ao l.length cap) (rfl) ?_
    refine nr ?_; intro U h; simp only [z0, z1] at h; subst h
    refine s_val 21 rfl rfl (.int .i64 ((i : Nat) : Int)) (rfl) ?_
    refine nr ?_; intro U h; simp only [z0, z1] at h; subst h
    refine s_val 22 rfl rfl (.pointer (pA ao i)) (run_ixI (H.gro GG) _ _ rfl rfl i rfl hil) ?_
    refine nr ?_; intro U h; simp only [z0, z1] at h; subst h
    refine s_val 23 rfl rfl (.int .i64 (l.getD i 0)) (run_ldI (H.gro GG) _ rfl i rfl hil) ?_
    refine nr ?_; intro U h; simp only [z0, z1] at h; subst h
    refine s_bsl 24 rfl rfl 22 1 _ rfl [(0, .int .i64 (l.getD i 0))] rfl (ci ([(l.getD i 0)] : List Int)).toArray 3 (bs1 (l.getD i 0) _) ?_
    intro w2 q2 G eq2 kq2
    have bq2 := size_base GG eq2
    replace HM1 := HM1.gro G
    replace HO := HO.gro G
    replace hBs := hBs.gro G
    replace GG := GG.trans G
    clear G
    have HR2 : RC _ (some ⟨q2, 0, none⟩) ([(l.getD i 0)] : List Int).length ([(l.getD i 0)] : List Int) := RC.blk kq2 (allZ [(l.getD i 0)] ⟨(H.at hil), trivial⟩) (Nat.le_refl _)
    clear eq2
    refine nr ?_; intro U h; simp only [z0, z1] at h; subst h
    refine s_appI 25 rfl rfl _ _ rfl (l := L) rfl HO rfl HR2 (by simp; omega) hBs.le ?_
    intro ao3 cap3 w3 HO3 HB
    replace GG := below_gro GG HB hwB
    replace HM1 := HM1.below HB hbB
    replace hBs : SZ B _ := ⟨Nat.le_trans hBs.le HB.size⟩
    clear HO HR2 HB
    refine nr ?_; intro U h; simp only [z0, z1] at h; subst h
    refine s_val 4 rfl rfl (.slice ao3 ((L ++ [l.getD i 0]).length) cap3) (rfl) ?_
    refine nr ?_; intro U h; simp only [z0, z1] at h; subst h
    refine wpList_nil ?_
    refine blk_n ?_
    refine then_n ?_
    refine wp_region_lit ?_
    refine s_val 12 rfl rfl (.map (some b1)) (rfl) ?_
    refine nr ?_; intro U h; simp only [z0, z1] at h; subst h
    refine s_val 13 rfl rfl (.slice ao l.length cap) (rfl) ?_
    refine nr ?_; intro U h; simp only [z0, z1] at h; subst h
    refine s_val 14 rfl rfl (.int .i64 ((i : Nat) : Int)) (rfl) ?_
    refine nr ?_; intro U h; simp only [z0, z1] at h; subst h
    refine s_val 15 rfl rfl (.pointer (pA ao i)) (run_ixI (H.gro GG) _ _ rfl rfl i rfl hil) ?_
    refine nr ?_; intro U h; simp only [z0, z1] at h; subst h
    refine s_val 16 rfl rfl (.int .i64 (l.getD i 0)) (run_ldI (H.gro GG) _ rfl i rfl hil) ?_
    refine nr ?_; intro U h; simp only [z0, z1] at h; subst h
    refine s_val 17 rfl rfl (.int .i64 ((k : Nat) : Int)) ((run_lkp mI HM1 _ _ rfl rfl (l.getD i 0) rfl (H.at hil)).trans (by rw [hk])) ?_
    refine nr ?_; intro U h; simp only [z0, z1] at h; subst h
    refine s_val 18 rfl rfl (.int .i64 ((k + 1 : Nat) : Int)) (run_addI 3 _ _ _ rfl ((k : Nat) : Int) 1 ((k + 1 : Nat) : Int) rfl rfl (by omega) (by omega) (by omega) _) ?_
    refine nr ?_; intro U h; simp only [z0, z1] at h; subst h
    refine s_val 5 rfl rfl (.int .i64 ((k + 1 : Nat) : Int)) (rfl) ?_
    refine nr ?_; intro U h; simp only [z0, z1] at h; subst h
    refine wpList_nil ?_
    refine then_n ?_
    exact ⟨_, (by omega : l.length - (k + 1) < l.length - i), k + 1, L ++ [l.getD i 0], ao3, cap3, (fun kz => ([.int .i64 ((i : Nat) : Int), .slice ao l.length cap, .int .i64 ((l.length : Nat) : Int), .bool true, .map (some b1), .slice ao l.length cap, .int .i64 ((i : Nat) : Int), .pointer (pA ao i), .int .i64 (l.getD i 0), .int .i64 ((k : Nat) : Int), .int .i64 ((k + 1 : Nat) : Int), .slice ao2 L.length cap2, .slice ao l.length cap, .int .i64 ((i : Nat) : Int), .pointer (pA ao i), .int .i64 (l.getD i 0), .slice (some ⟨q2, 0, none⟩) (([(l.getD i 0)] : List Int).length) (([(l.getD i 0)] : List Int).length), .slice ao3 ((L ++ [l.getD i 0]).length) cap3] : List Value).getD kz undef), rfl, rfl, (by simp; omega), hkl, (by rw [hL, erz_at hik hkl hke hkn]; simp), GG, HM1, HO3, hBs⟩
set_option maxRecDepth 100000 in
set_option maxHeartbeats 4000000 in
theorem referase_any (w : World) (ao : Option Addr) (cap : Nat) (l : List Int) (H : RC w ao cap l) (hl : l.length ≤ 1000000) : Calls Try.prog 14 #[.slice ao l.length cap] w (RowP w (erz l)) := by
  refine s_enter Try.func14 rfl Try.ntmps14 [.slice ao l.length cap] [.slice ao l.length cap, undef, undef, undef, undef, undef, undef, undef, undef, undef, undef, undef, undef, undef, undef, undef, undef, undef, undef, undef, undef, undef, undef, undef, undef, undef, undef, undef, undef, undef, undef, undef, undef, undef, undef, undef, undef, undef, undef] rfl ?_
  have GG := Gro.refl w
  refine wp_seq ?_
  refine wp_region_lit ?_
  refine s_val 2 rfl rfl (.slice none 0 0) (rfl) ?_
  refine nr ?_; intro U h; simp only [z0, z1] at h; subst h
  refine wpList_nil ?_
  refine then_n ?_
  refine wp_seq ?_
  refine wp_region_lit ?_
  refine s_val 3 rfl rfl (.slice none 0 0) (rfl) ?_
  refine nr ?_; intro U h; simp only [z0, z1] at h; subst h
  refine wpList_nil ?_
  refine then_n ?_
  refine wp_seq ?_
  refine wp_seq ?_
  refine wp_region_lit ?_
  refine s_val 4 rfl rfl (.int .i64 0) (rfl) ?_
  refine nr ?_; intro U h; simp only [z0, z1] at h; subst h
  refine wpList_nil ?_
  refine then_n ?_
  refine wp_block ?_
  refine wp_loopN (fun mz az wv => ∃ (i : Nat) (L : List Int) (ao2 : Option Addr) (cap2 : Nat) (us1 : Nat → Value), mz = l.length - i ∧ az = ⟨[.slice ao l.length cap, undef, .slice none 0 0, .slice ao2 L.length cap2, .int .i64 ((i : Nat) : Int), us1 0, us1 1, us1 2, us1 3, us1 4, us1 5, us1 6, us1 7, us1 8, us1 9, us1 10, us1 11, us1 12, us1 13, us1 14, us1 15, us1 16, us1 17, us1 18, us1 19, us1 20, us1 21, us1 22, us1 23, us1 24, us1 25, us1 26, us1 27, us1 28, us1 29, us1 30, us1 31, us1 32, undef].toArray, []⟩ ∧ L.length ≤ i ∧ i ≤ l.length ∧ erz l = L ++ erz (l.drop i) ∧ Gro w wv ∧ OI wv w.heap.size ao2 cap2 L) ?_ _ ⟨0, [], none, 0, (fun kz => ([undef, undef, undef, undef, undef, undef, undef, undef, undef, undef, undef, undef, undef, undef, undef, undef, undef, undef, undef, undef, undef, undef, undef, undef, undef, undef, undef, undef, undef, undef, undef, undef, undef] : List Value).getD kz undef), rfl, rfl, Nat.le_refl _, Nat.zero_le _, rfl, GG, (OI.nil _ _)⟩
  clear GG
  rintro mz az wv ⟨i, L, ao2, cap2, us1, rfl, rfl, hLl, hi, hL, GG, HO⟩
  refine wp_seq ?_
  refine wp_seq ?_
  refine wp_region_lit ?_
  refine s_val 7 rfl rfl (.int .i64 ((i : Nat) : Int)) (rfl) ?_
  refine nr ?_; intro U h; simp only [z0, z1] at h; subst h
  refine s_val 8 rfl rfl (.slice ao l.length cap) (rfl) ?_
  refine nr ?_; intro U h; simp only [z0, z1] at h; subst h
  refine s_val 9 rfl rfl (.int .i64 ((l.length : Nat) : Int)) (run_len Try.underlying22 _ rfl _ _ _ rfl _) ?_
  refine nr ?_; intro U h; simp only [z0, z1] at h; subst h
  cases hi1 : decide (((i : Nat) : Int) < ((l.length : Nat) : Int))
  · have hie : i = l.length := by have := of_decide_eq_false hi1; omega
    refine s_val 10 rfl rfl (.bool false) (run_lssT 3 _ _ _ rfl ((i : Nat) : Int) ((l.length : Nat) : Int) rfl rfl false hi1 _) ?_
    refine nr ?_; intro U h; simp only [z0, z1] at h; subst h
    refine wpList_nil ?_
    refine then_n ?_
    refine wp_cond_false rfl ?_
    refine wp_exit ?_
    refine then_x ?_
    refine then_x ?_
    refine blk_x ?_
    refine then_n ?_
    refine wp_seq ?_
    refine wp_region_lit ?_
    refine s_val 38 rfl rfl (.slice ao2 L.length cap2) (rfl) ?_
    refine nr ?_; intro U h; simp only [z0, z1] at h; subst h
    refine s_val 2 rfl rfl (.slice ao2 L.length cap2) (rfl) ?_
    refine nr ?_; intro U h; simp only [z0, z1] at h; subst h
    refine wpList_nil ?_
    refine then_n ?_
    refine wp_ret ?_
    refine bodyPost_ret (results_tmp Try.results14 _ _ _) rfl ?_
    subst hie
    rw [List.drop_length, erz_nil, List.append_nil] at hL
    rw [← hL] at HO
    exact ⟨ao2, cap2, by rw [hL]; rfl, GG, HO⟩
  · have hil : i < l.length := by have := of_decide_eq_true hi1; omega
    refine s_val 10 rfl rfl (.bool true) (run_lssT 3 _ _ _ rfl ((i : Nat) : Int) ((l.length : Nat) : Int) rfl rfl true hi1 _) ?_
    refine nr ?_; intro U h; simp only [z0, z1] at h; subst h
    refine wpList_nil ?_
    refine then_n ?_
    refine wp_cond_true rfl ?_
    refine wp_skip ?_
    refine then_n ?_
    refine wp_block ?_
    refine wp_seq ?_
    refine wp_region_lit ?_
    refine s_val 11 rfl rfl (.slice ao2 L.length cap2) (rfl) ?_
    refine nr ?_; intro U h; simp only [z0, z1] at h; subst h
    refine s_val 12 rfl rfl (.slice ao l.length cap) (rfl) ?_
    refine nr ?_; intro U h; simp only [z0, z1] at h; subst h
    refine s_val 13 rfl rfl (.int .i64 ((i : Nat) : Int)) (rfl) ?_
    refine nr ?_; intro U h; simp only [z0, z1] at h; subst h
    refine s_val 14 rfl rfl (.pointer (pA ao i)) (run_ixI (H.gro GG) _ _ rfl rfl i rfl hil) ?_
    refine nr ?_; intro U h; simp only [z0, z1] at h; subst h
    refine s_val 15 rfl rfl (.int .i64 (l.getD i 0)) (run_ldI (H.gro GG) _ rfl i rfl hil) ?_
    refine nr ?_; intro U h; simp only [z0, z1] at h; subst h
    refine s_bsl 16 rfl rfl 22 1 _ rfl [(0, .int .i64 (l.getD i 0))] rfl (ci ([(l.getD i 0)] : List Int)).toArray 3 (bs1 (l.getD i 0) _) ?_
    intro w1 q1 G eq1 kq1
    have bq1 := size_base GG eq1
    replace HO := HO.gro G
    replace GG := GG.trans G
    clear G
    have HR1 : RC _ (some ⟨q1, 0, none⟩) ([(l.getD i 0)] : List Int).length ([(l.getD i 0)] : List Int) := RC.blk kq1 (allZ [(l.getD i 0)] ⟨(H.at hil), trivial⟩) (Nat.le_refl _)
    clear eq1
    refine nr ?_; intro U h; simp only [z0, z1] at h; subst h
    refine s_appI 17 rfl rfl _ _ rfl (l := L) rfl HO rfl HR1 (by simp; omega) GG.size ?_
    intro ao3 cap3 w2 HO3 HB
    replace GG := below_gro GG HB (Nat.le_refl _)
    clear HO HR1 HB
    refine nr ?_; intro U h; simp only [z0, z1] at h; subst h
    refine s_val 3 rfl rfl (.slice ao3 ((L ++ [l.getD i 0]).length) cap3) (rfl) ?_
    refine nr ?_; intro U h; simp only [z0, z1] at h; subst h
    refine wpList_nil ?_
    refine then_n ?_
    refine wp_seq ?_
    refine wp_region_lit ?_
    refine s_val 18 rfl rfl (.int .i64 ((i : Nat) : Int)) (rfl) ?_
    refine nr ?_; intro U h; simp only [z0, z1] at h; subst h
    refine s_val 5 rfl rfl (.int .i64 ((i : Nat) : Int)) (rfl) ?_
    refine nr ?_; intro U h; simp only [z0, z1] at h; subst h
    refine wpList_nil ?_
    refine then_n ?_
    refine wp_seq ?_
    refine wp_seq ?_
    refine wp_region_lit ?_
    refine s_val 19 rfl rfl (.int .i64 ((i : Nat) : Int)) (rfl) ?_
    refine nr ?_; intro U h; simp only [z0, z1] at h; subst h
    refine s_val 6 rfl rfl (.int .i64 ((i : Nat) : Int)) (rfl) ?_
    refine nr ?_; intro U h; simp only [z0, z1] at h; subst h
    refine wpList_nil ?_
    refine then_n ?_
    refine wp_block ?_
    refine wp_loopN (fun mz az wx => ∃ (k : Nat) (j : Nat) (us2 : Nat → Value), mz = l.length - j ∧ az = ⟨[.slice ao l.length cap, undef, .slice none 0 0, .slice ao3 ((L ++ [l.getD i 0]).length) cap3, .int .i64 ((i : Nat) : Int), .int .i64 ((k : Nat) : Int), .int .i64 ((j : Nat) : Int), .int .i64 ((i : Nat) : Int), .slice ao l.length cap, .int .i64 ((l.length : Nat) : Int), .bool true, .slice ao2 L.length cap2, .slice ao l.length cap, .int .i64 ((i : Nat) : Int), .pointer (pA ao i), .int .i64 (l.getD i 0), .slice (some ⟨q1, 0, none⟩) (([(l.getD i 0)] : List Int).length) (([(l.getD i 0)] : List Int).length), .slice ao3 ((L ++ [l.getD i 0]).length) cap3, .int .i64 ((i : Nat) : Int), .int .i64 ((i : Nat) : Int), us2 0, us2 1, us2 2, us2 3, us2 4, us2 5, us2 6, us2 7, us2 8, us2 9, us2 10, us2 11, us2 12, us2 13, us2 14, us2 15, us1 31, us1 32, undef].toArray, []⟩ ∧ i ≤ k ∧ i ≤ j ∧ k < l.length ∧ l.getD k 0 = l.getD i 0 ∧ j ≤ l.length ∧ (∀ m, k < m → m < j → l.getD m 0 ≠ l.getD i 0) ∧ Gro w wx ∧ OI wx w.heap.size ao3 cap3 (L ++ [l.getD i 0])) ?_ _ ⟨i, i, (fun kz => ([us1 15, us1 16, us1 17, us1 18, us1 19, us1 20, us1 21, us1 22, us1 23, us1 24, us1 25, us1 26, us1 27, us1 28, us1 29, us1 30] : List Value).getD kz undef), rfl, rfl, Nat.le_refl _, Nat.le_refl _, hil, rfl, hi, (fun m h1 h2 => absurd h2 (by omega)), GG, HO3⟩
    clear GG HO3
    rintro mz az wx ⟨k, j, us2, rfl, rfl, hik, hkj, hkl, hke, hj, hkn, GG, HO3⟩
    refine wp_seq ?_
    refine wp_seq ?_
    refine wp_region_lit ?_
    refine s_val 20 rfl rfl (.int .i64 ((j : Nat) : Int)) (rfl) ?_
    refine nr ?_; intro U h; simp only [z0, z1] at h; subst h
    refine s_val 21 rfl rfl (.slice ao l.length cap) (rfl) ?_
    refine nr ?_; intro U h; simp only [z0, z1] at h; subst h
    refine s_val 22 rfl rfl (.int .i64 ((l.length : Nat) : Int)) (run_len Try.underlying22 _ rfl _ _ _ rfl _) ?_
    refine nr ?_; intro U h; simp only [z0, z1] at h; subst h
    cases hj1 : decide (((j : Nat) : Int) < ((l.length : Nat) : Int))
    · have hje : j = l.length := by have := of_decide_eq_false hj1; omega
      refine s_val 23 rfl rfl (.bool false) (run_lssT 3 _ _ _ rfl ((j : Nat) : Int) ((l.length : Nat) : Int) rfl rfl false hj1 _) ?_
      refine nr ?_; intro U h; simp only [z0, z1] at h; subst h
      refine wpList_nil ?_
      refine then_n ?_
      refine wp_cond_false rfl ?_
      refine wp_exit ?_
      refine then_x ?_
      refine then_x ?_
      refine blk_x ?_
      refine then_n ?_
      refine wp_region_lit ?_
      refine s_val 36 rfl rfl (.int .i64 ((k : Nat) : Int)) (rfl) ?_
      refine nr ?_; intro U h; simp only [z0, z1] at h; subst h
      refine s_val 37 rfl rfl (.int .i64 ((k + 1 : Nat) : Int)) (run_addI 3 _ _ _ rfl ((k : Nat) : Int) 1 ((k + 1 : Nat) : Int) rfl rfl (by omega) (by omega) (by omega) _) ?_
      refine nr ?_; intro U h; simp only [z0, z1] at h; subst h
      refine s_val 4 rfl rfl (.int .i64 ((k + 1 : Nat) : Int)) (rfl) ?_
      refine nr ?_; intro U h; simp only [z0, z1] at h; subst h
      refine wpList_nil ?_
      refine blk_n ?_
      refine then_n ?_
      exact ⟨_, (by omega : l.length - (k + 1) < l.length - i), k + 1, L ++ [l.getD i 0], ao3, cap3, (fun kz => ([.int .i64 ((k : Nat) : Int), .int .i64 ((j : Nat) : Int), .int .i64 ((i : Nat) : Int), .slice ao l.length cap, .int .i64 ((l.length : Nat) : Int), .bool true, .slice ao2 L.length cap2, .slice ao l.length cap, .int .i64 ((i : Nat) : Int), .pointer (pA ao i), .int .i64 (l.getD i 0), .slice (some ⟨q1, 0, none⟩) (([(l.getD i 0)] : List Int).length) (([(l.getD i 0)] : List Int).length), .slice ao3 ((L ++ [l.getD i 0]).length) cap3, .int .i64 ((i : Nat) : Int), .int .i64 ((i : Nat) : Int), .int .i64 ((j : Nat) : Int), .slice ao l.length cap, .int .i64 ((l.length : Nat) : Int), .bool false, us2 4, us2 5, us2 6, us2 7, us2 8, us2 9, us2 10, us2 11, us2 12, us2 13, us2 14, us2 15, .int .i64 ((k : Nat) : Int), .int .i64 ((k + 1 : Nat) : Int)] : List Value).getD kz undef), rfl, rfl, (by simp; omega), hkl, (by rw [hL, erz_at hik hkl hke (fun m h1 h2 => hkn m h1 (by omega))]; simp), GG, HO3⟩
    · have hjl : j < l.length := by have := of_decide_eq_true hj1; omega
      refine s_val 23 rfl rfl (.bool true) (run_lssT 3 _ _ _ rfl ((j : Nat) : Int) ((l.length : Nat) : Int) rfl rfl true hj1 _) ?_
      refine nr ?_; intro U h; simp only [z0, z1] at h; subst h
      refine wpList_nil ?_
      refine then_n ?_
      refine wp_cond_true rfl ?_
      refine wp_skip ?_
      refine then_n ?_
      refine wp_seq ?_
      refine wp_block ?_
      refine wp_seq ?_
      cases hq : decide ((l.getD j 0) = (l.getD i 0))
      · refine wp_region_exA (A := ?Ax1) 8 [(0, 26), (1, 27), (2, 28), (3, 29), (4, 30), (5, 31), (6, 32), (7, 33)] [.val (.slice ao l.length cap), .val (.int .i64 ((j : Nat) : Int)), .val (.pointer (pA ao j)), .val (.int .i64 (l.getD j 0)), .val (.slice ao l.length cap), .val (.int .i64 ((i : Nat) : Int)), .val (.pointer (pA ao i)), .val (.int .i64 (l.getD i 0))] follows (by kernel_rfl) rfl ?hAx1 (opsA_cons ?o0x1 (opsA_cons ?o1x1 (opsA_cons ?o2x1 (opsA_cons ?o3x1 (opsA_cons ?o4x1 (opsA_cons ?o5x1 (opsA_cons ?o6x1 (opsA_cons ?o7x1 opsA_nil)))))))) ?restx1
        case hAx1 =>
          intro ptrs
          simp only [full, foldSlots, filledE, postE, List.foldl_cons, List.foldl_nil, List.getD_cons_zero, List.getD_cons_succ, fill_val, List.set_cons_zero, List.set_cons_succ]
          exact rfl
        case o0x1 => exact fun _ _ _ _ => opE_move (v := .slice ao l.length cap) _ rfl rfl rfl
        case o1x1 => exact fun _ _ _ _ => opE_move (v := .int .i64 ((j : Nat) : Int)) _ rfl rfl rfl
        case o2x1 => exact fun _ _ hw _ => opE_value (v := .pointer (pA ao j)) rfl (run_ixI (H.gro (GG.drew.trans hw)) _ _ rfl rfl j rfl hjl)
        case o3x1 => exact fun _ _ hw _ => opE_value (v := .int .i64 (l.getD j 0)) rfl (run_ldI (H.gro (GG.drew.trans hw)) _ rfl j rfl hjl)
        case o4x1 => exact fun _ _ _ _ => opE_move (v := .slice ao l.length cap) _ rfl rfl rfl
        case o5x1 => exact fun _ _ _ _ => opE_move (v := .int .i64 ((i : Nat) : Int)) _ rfl rfl rfl
        case o6x1 => exact fun _ _ hw _ => opE_value (v := .pointer (pA ao i)) rfl (run_ixI (H.gro (GG.drew.trans hw)) _ _ rfl rfl i rfl hil)
        case o7x1 => exact fun _ _ hw _ => opE_value (v := .int .i64 (l.getD i 0)) rfl (run_ldI (H.gro (GG.drew.trans hw)) _ rfl i rfl hil)
        intro ptrs w3 GD hxE
        simp only [List.drop_succ_cons, List.drop_zero]
        replace HO3 := HO3.gro ((Gro.refl _).drew.trans GD)
        replace GG := GG.drew.trans GD
        clear GD
        refine s_val 34 rfl rfl (.bool false) (run_eq_k 3 .i64 _ _ _ rfl Try.underlying3 (l.getD j 0) (l.getD i 0) rfl rfl false hq _) ?_
        refine nr ?_; intro U h; simp only [z0, z1] at h; subst h
        refine wpList_nil ?_
        refine then_n ?_
        refine wp_cond_false rfl ?_
        refine wp_skip ?_
        refine blk_n ?_
        refine then_n ?_
        refine wp_region_lit ?_
        refine s_val 24 rfl rfl (.int .i64 ((j : Nat) : Int)) (rfl) ?_
        refine nr ?_; intro U h; simp only [z0, z1] at h; subst h
        refine s_val 25 rfl rfl (.int .i64 ((j + 1 : Nat) : Int)) (run_addI 3 _ _ _ rfl ((j : Nat) : Int) 1 ((j + 1 : Nat) : Int) rfl rfl (by omega) (by omega) (by omega) _) ?_
        refine nr ?_; intro U h; simp only [z0, z1] at h; subst h
        refine s_val 6 rfl rfl (.int .i64 ((j + 1 : Nat) : Int)) (rfl) ?_
        refine nr ?_; intro U h; simp only [z0, z1] at h; subst h
        refine wpList_nil ?_
        refine then_n ?_
        exact ⟨_, (by omega : l.length - (j + 1) < l.length - j), k, j + 1, (fun kz => ([.int .i64 ((j : Nat) : Int), .slice ao l.length cap, .int .i64 ((l.length : Nat) : Int), .bool true, .int .i64 ((j : Nat) : Int), .int .i64 ((j + 1 : Nat) : Int), .slice ao l.length cap, .int .i64 ((j : Nat) : Int), .pointer (pA ao j), .int .i64 (l.getD j 0), .slice ao l.length cap, .int .i64 ((i : Nat) : Int), .pointer (pA ao i), .int .i64 (l.getD i 0), .bool false, us2 15] : List Value).getD kz undef), rfl, rfl, hik, (by omega), hkl, hke, hjl, (fun m h1 h2 => by by_cases e : m = j; exact e ▸ of_decide_eq_false hq; exact hkn m h1 (by omega)), GG, HO3⟩
      · refine wp_region_exA (A := ?Ax2) 8 [(0, 26), (1, 27), (2, 28), (3, 29), (4, 30), (5, 31), (6, 32), (7, 33)] [.val (.slice ao l.length cap), .val (.int .i64 ((j : Nat) : Int)), .val (.pointer (pA ao j)), .val (.int .i64 (l.getD j 0)), .val (.slice ao l.length cap), .val (.int .i64 ((i : Nat) : Int)), .val (.pointer (pA ao i)), .val (.int .i64 (l.getD i 0))] follows (by kernel_rfl) rfl ?hAx2 (opsA_cons ?o0x2 (opsA_cons ?o1x2 (opsA_cons ?o2x2 (opsA_cons ?o3x2 (opsA_cons ?o4x2 (opsA_cons ?o5x2 (opsA_cons ?o6x2 (opsA_cons ?o7x2 opsA_nil)))))))) ?restx2
        case hAx2 =>
          intro ptrs
          simp only [full, foldSlots, filledE, postE, List.foldl_cons, List.foldl_nil, List.getD_cons_zero, List.getD_cons_succ, fill_val, List.set_cons_zero, List.set_cons_succ]
          exact rfl
        case o0x2 => exact fun _ _ _ _ => opE_move (v := .slice ao l.length cap) _ rfl rfl rfl
        case o1x2 => exact fun _ _ _ _ => opE_move (v := .int .i64 ((j : Nat) : Int)) _ rfl rfl rfl
        case o2x2 => exact fun _ _ hw _ => opE_value (v := .pointer (pA ao j)) rfl (run_ixI (H.gro (GG.drew.trans hw)) _ _ rfl rfl j rfl hjl)
        case o3x2 => exact fun _ _ hw _ => opE_value (v := .int .i64 (l.getD j 0)) rfl (run_ldI (H.gro (GG.drew.trans hw)) _ rfl j rfl hjl)
        case o4x2 => exact fun _ _ _ _ => opE_move (v := .slice ao l.length cap) _ rfl rfl rfl
        case o5x2 => exact fun _ _ _ _ => opE_move (v := .int .i64 ((i : Nat) : Int)) _ rfl rfl rfl
        case o6x2 => exact fun _ _ hw _ => opE_value (v := .pointer (pA ao i)) rfl (run_ixI (H.gro (GG.drew.trans hw)) _ _ rfl rfl i rfl hil)
        case o7x2 => exact fun _ _ hw _ => opE_value (v := .int .i64 (l.getD i 0)) rfl (run_ldI (H.gro (GG.drew.trans hw)) _ rfl i rfl hil)
        intro ptrs w3 GD hxE
        simp only [List.drop_succ_cons, List.drop_zero]
        replace HO3 := HO3.gro ((Gro.refl _).drew.trans GD)
        replace GG := GG.drew.trans GD
        clear GD
        refine s_val 34 rfl rfl (.bool true) (run_eq_k 3 .i64 _ _ _ rfl Try.underlying3 (l.getD j 0) (l.getD i 0) rfl rfl true hq _) ?_
        refine nr ?_; intro U h; simp only [z0, z1] at h; subst h
        refine wpList_nil ?_
        refine then_n ?_
        refine wp_cond_true rfl ?_
        refine wp_region_lit ?_
        refine s_val 35 rfl rfl (.int .i64 ((j : Nat) : Int)) (rfl) ?_
        refine nr ?_; intro U h; simp only [z0, z1] at h; subst h
        refine s_val 5 rfl rfl (.int .i64 ((j : Nat) : Int)) (rfl) ?_
        refine nr ?_; intro U h; simp only [z0, z1] at h; subst h
        refine wpList_nil ?_
        refine blk_n ?_
        refine then_n ?_
        refine wp_region_lit ?_
        refine s_val 24 rfl rfl (.int .i64 ((j : Nat) : Int)) (rfl) ?_
        refine nr ?_; intro U h; simp only [z0, z1] at h; subst h
        refine s_val 25 rfl rfl (.int .i64 ((j + 1 : Nat) : Int)) (run_addI 3 _ _ _ rfl ((j : Nat) : Int) 1 ((j + 1 : Nat) : Int) rfl rfl (by omega) (by omega) (by omega) _) ?_
        refine nr ?_; intro U h; simp only [z0, z1] at h; subst h
        refine s_val 6 rfl rfl (.int .i64 ((j + 1 : Nat) : Int)) (rfl) ?_
        refine nr ?_; intro U h; simp only [z0, z1] at h; subst h
        refine wpList_nil ?_
        refine then_n ?_
        exact ⟨_, (by omega : l.length - (j + 1) < l.length - j), j, j + 1, (fun kz => ([.int .i64 ((j : Nat) : Int), .slice ao l.length cap, .int .i64 ((l.length : Nat) : Int), .bool true, .int .i64 ((j : Nat) : Int), .int .i64 ((j + 1 : Nat) : Int), .slice ao l.length cap, .int .i64 ((j : Nat) : Int), .pointer (pA ao j), .int .i64 (l.getD j 0), .slice ao l.length cap, .int .i64 ((i : Nat) : Int), .pointer (pA ao i), .int .i64 (l.getD i 0), .bool true, .int .i64 ((j : Nat) : Int)] : List Value).getD kz undef), rfl, rfl, (by omega), (by omega), (by omega), (of_decide_eq_true hq), hjl, (fun m h1 h2 => by omega), GG, HO3⟩
end Go.Proofs.Ytjbpgiphimmleaa
