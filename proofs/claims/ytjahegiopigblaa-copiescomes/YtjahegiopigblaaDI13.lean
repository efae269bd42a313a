/- The document's calls: who is wanted, who is next. -/
import Derived.Test.YtjahegiopigblaaDI12
import Derived.Test.YtjahegiopigblaaDW2
namespace Go.Proofs.Ytjahegiopigblaa
open Go.RowKit
/-- So many blocks are there. -/
def SZi (B : Nat) (w : World) : Prop := B ≤ w.heap.size
theorem SZi.gro {B : Nat} {w w' : World} (h : SZi B w) (G : Gro w w') : SZi B w' := Nat.le_trans h G.size
theorem SZi.bel {B C : Nat} {w w' : World} (h : SZi B w) (G : Below C w w') : SZi B w' := Nat.le_trans h G.size
theorem cnt_step (p : Nat → Bool) (L : List Nat) (k : Nat) (hk : k < L.length) : (L.take (k + 1)).countP p = (L.take k).countP p + if p (L.getD k 0) = true then 1 else 0 := by
  rw [take_snoc L k hk, List.countP_append, List.countP_singleton]
theorem flt_step (p : Nat → Bool) (L : List Nat) (k : Nat) (hk : k < L.length) : (L.take (k + 1)).filter p = (L.take k).filter p ++ if p (L.getD k 0) = true then [L.getD k 0] else [] := by
  rw [take_snoc L k hk, List.filter_append]
  congr 1
  by_cases h : p (L.getD k 0) = true
  · rw [List.filter_cons_of_pos h, if_pos h, List.filter_nil]
  · rw [List.filter_cons_of_neg h, if_neg h, List.filter_nil]
set_option maxRecDepth 100000 in
set_option maxHeartbeats 4000000 in
theorem refwant_any (w : World) (ao : Option Addr) (cap : Nat) (l : List Nat) (H : RC w ao cap l) (hl : l.length ≤ 1000000) (s : Nat) (hs : s < top) (half : Int) : Calls Try.prog 26 #[.agg (idA s), .slice ao l.length cap, .int .i64 half] w (RowPi w (want s l half)) := by
  refine s_enter Try.func26 rfl Try.ntmps26 [.agg (idA s), .slice ao l.length cap, .int .i64 half] [.agg (idA s), .slice ao l.length cap, .int .i64 half, undef, undef, undef, undef, undef, undef, undef, undef, undef, undef, undef, undef, undef, undef, undef, undef, undef, undef, undef, undef, undef, undef, undef, undef, undef, undef, undef, undef, undef, undef, undef, undef, undef, undef, undef, undef, undef, undef, undef, undef, undef, undef, undef, undef, undef, undef, undef, undef, undef, undef, undef, undef, undef, undef, undef, undef, undef, undef, undef, undef, undef, undef, undef, undef, undef, undef, undef, undef, undef, undef, undef] rfl ?_
  have GG := Gro.refl w
  refine wp_seq ?_
  refine wp_region_lit ?_
  refine s_box 3 rfl rfl 23 _ rfl _ rfl (idA s) rfl ?_
  intro w1 g1 G eg1 kg1
  have bg1 := size_base GG eg1
  replace GG := GG.trans G
  clear G
  clear eg1
  refine nr ?_; intro U h; simp only [z0, z1] at h; subst h
  refine s_val 6 rfl rfl (.slice none 0 0) (rfl) ?_
  refine nr ?_; intro U h; simp only [z0, z1] at h; subst h
  refine wpList_nil ?_
  refine then_n ?_
  refine wp_seq ?_
  refine wp_region_lit ?_
  refine s_val 13 rfl rfl (.agg (idA s)) (run_ldB _ rfl g1 _ rfl (kg1)) ?_
  refine nr ?_; intro U h; simp only [z0, z1] at h; subst h
  refine s_val 14 rfl rfl (.slice ao l.length cap) (rfl) ?_
  refine nr ?_; intro U h; simp only [z0, z1] at h; subst h
  refine s_callx 15 rfl rfl _ 35 Try.call35 rfl rfl _ rfl [.agg (idA s), .slice ao l.length cap] rfl (refsorted_any _ ao cap l (H.gro GG) hl s hs) (by rintro _ _ ⟨_, _, he, _⟩; exact ⟨_, he⟩) ?_
  rintro v w2 ⟨ao1, cap1, he, G, HR1⟩
  cases he
  replace kg1 := G.has kg1
  replace GG := GG.trans G
  clear G
  refine nr ?_; intro U h; simp only [z0, z1] at h; subst h
  refine s_val 7 rfl rfl (.slice ao1 ((lin (kc 0) s l).length) cap1) (rfl) ?_
  refine nr ?_; intro U h; simp only [z0, z1] at h; subst h
  refine wpList_nil ?_
  refine then_n ?_
  refine wp_seq ?_
  refine wp_region_lit ?_
  refine s_val 8 rfl rfl (.slice none 0 0) (rfl) ?_
  refine nr ?_; intro U h; simp only [z0, z1] at h; subst h
  refine wpList_nil ?_
  refine then_n ?_
  refine wp_seq ?_
  refine wp_seq ?_
  refine wp_region_lit ?_
  refine s_val 9 rfl rfl (.int .i64 0) (rfl) ?_
  refine nr ?_; intro U h; simp only [z0, z1] at h; subst h
  refine wpList_nil ?_
  refine then_n ?_
  refine wp_block ?_
  obtain ⟨B, hB, hgB, hmB, hwB⟩ := base_of kg1 HR1 GG
  have hML := lin_len (kc 0) s l
  refine wp_loopN (fun mz az wv => ∃ (i : Nat) (no : Option Addr) (nc : Nat) (us1 : Nat → Value), mz = (lin (kc 0) s l).length - i ∧ az = ⟨[.agg (idA s), .slice ao l.length cap, .int .i64 half, .pointer (some ⟨g1, 0, none⟩), undef, undef, .slice none 0 0, .slice ao1 ((lin (kc 0) s l).length) cap1, .slice no ((((lin (kc 0) s l).take i).filter (isW s (lin (kc 0) s l) half)).length) nc, .int .i64 ((i : Nat) : Int), us1 0, us1 1, us1 2, .agg (idA s), .slice ao l.length cap, .slice ao1 ((lin (kc 0) s l).length) cap1, us1 3, us1 4, us1 5, us1 6, us1 7, us1 8, us1 9, us1 10, us1 11, us1 12, us1 13, us1 14, us1 15, us1 16, us1 17, us1 18, us1 19, us1 20, us1 21, us1 22, us1 23, us1 24, us1 25, us1 26, us1 27, us1 28, us1 29, us1 30, us1 31, us1 32, us1 33, us1 34, us1 35, us1 36, us1 37, us1 38, us1 39, us1 40, us1 41, us1 42, us1 43, us1 44, us1 45, us1 46, us1 47, us1 48, us1 49, us1 50, us1 51, us1 52, us1 53, us1 54, us1 55, us1 56, us1 57, us1 58, us1 59, undef].toArray, []⟩ ∧ i ≤ (lin (kc 0) s l).length ∧ Gro w wv ∧ wv.heap[g1]? = some (.cells (idA s) 23 (0, 0)) ∧ RC wv ao1 cap1 (lin (kc 0) s l) ∧ OI wv B no nc (((lin (kc 0) s l).take i).filter (isW s (lin (kc 0) s l) half)) ∧ SZi B wv) ?_ _ ⟨0, none, 0, (fun kz => ([undef, undef, undef, undef, undef, undef, undef, undef, undef, undef, undef, undef, undef, undef, undef, undef, undef, undef, undef, undef, undef, undef, undef, undef, undef, undef, undef, undef, undef, undef, undef, undef, undef, undef, undef, undef, undef, undef, undef, undef, undef, undef, undef, undef, undef, undef, undef, undef, undef, undef, undef, undef, undef, undef, undef, undef, undef, undef, undef, undef] : List Value).getD kz undef), rfl, rfl, Nat.zero_le _, GG, kg1, HR1, (OI.nil _ _), (Nat.le_of_eq hB.symm)⟩
  clear GG kg1 HR1
  rintro mz az wv ⟨i, no, nc, us1, rfl, rfl, hi, GG, kg1, HR1, HO, hBw⟩
  have hol : (((lin (kc 0) s l).take i).filter (isW s (lin (kc 0) s l) half)).length ≤ i := Nat.le_trans (List.length_filter_le _ _) (by rw [List.length_take]; omega)
  refine wp_seq ?_
  refine wp_seq ?_
  refine wp_region_lit ?_
  refine s_val 16 rfl rfl (.int .i64 ((i : Nat) : Int)) (rfl) ?_
  refine nr ?_; intro U h; simp only [z0, z1] at h; subst h
  refine s_val 17 rfl rfl (.slice ao1 ((lin (kc 0) s l).length) cap1) (rfl) ?_
  refine nr ?_; intro U h; simp only [z0, z1] at h; subst h
  refine s_val 18 rfl rfl (.int .i64 (((lin (kc 0) s l).length : Nat) : Int)) (run_len Try.underlying24 _ rfl _ _ _ rfl _) ?_
  refine nr ?_; intro U h; simp only [z0, z1] at h; subst h
  cases hi1 : decide (((i : Nat) : Int) < (((lin (kc 0) s l).length : Nat) : Int))
  · have hie : i = (lin (kc 0) s l).length := by have := of_decide_eq_false hi1; omega
    refine s_val 19 rfl rfl (.bool false) (run_lssT 3 _ _ _ rfl ((i : Nat) : Int) (((lin (kc 0) s l).length : Nat) : Int) rfl rfl false hi1 _) ?_
    refine nr ?_; intro U h; simp only [z0, z1] at h; subst h
    refine wpList_nil ?_
    refine then_n ?_
    refine wp_cond_false rfl ?_
    refine wp_exit ?_
    refine then_x ?_
    refine then_x ?_
    refine blk_x ?_
    refine then_n ?_
    refine wp_seq ?_
    refine wp_region_lit ?_
    refine s_val 73 rfl rfl (.slice no ((((lin (kc 0) s l).take i).filter (isW s (lin (kc 0) s l) half)).length) nc) (rfl) ?_
    refine nr ?_; intro U h; simp only [z0, z1] at h; subst h
    refine s_val 6 rfl rfl (.slice no ((((lin (kc 0) s l).take i).filter (isW s (lin (kc 0) s l) half)).length) nc) (rfl) ?_
    refine nr ?_; intro U h; simp only [z0, z1] at h; subst h
    refine wpList_nil ?_
    refine then_n ?_
    refine wp_ret ?_
    refine bodyPost_ret (results_tmp Try.results26 _ _ _) rfl ?_
    subst hie
    rw [List.take_length] at HO
    exact ⟨no, nc, (by rw [List.take_length]; rfl), GG, HO.rc⟩
  · have hil : i < (lin (kc 0) s l).length := by have := of_decide_eq_true hi1; omega
    refine s_val 19 rfl rfl (.bool true) (run_lssT 3 _ _ _ rfl ((i : Nat) : Int) (((lin (kc 0) s l).length : Nat) : Int) rfl rfl true hi1 _) ?_
    refine nr ?_; intro U h; simp only [z0, z1] at h; subst h
    refine wpList_nil ?_
    refine then_n ?_
    refine wp_cond_true rfl ?_
    refine wp_skip ?_
    refine then_n ?_
    refine wp_seq ?_
    refine wp_block ?_
    refine wp_seq ?_
    refine wp_region_lit ?_
    refine s_val 10 rfl rfl (.int .i64 0) (rfl) ?_
    refine nr ?_; intro U h; simp only [z0, z1] at h; subst h
    refine s_val 11 rfl rfl (.int .i64 0) (rfl) ?_
    refine nr ?_; intro U h; simp only [z0, z1] at h; subst h
    refine wpList_nil ?_
    refine then_n ?_
    refine wp_seq ?_
    refine wp_seq ?_
    refine wp_region_lit ?_
    refine s_val 12 rfl rfl (.int .i64 0) (rfl) ?_
    refine nr ?_; intro U h; simp only [z0, z1] at h; subst h
    refine wpList_nil ?_
    refine then_n ?_
    refine wp_block ?_
    refine wp_loopN (fun mz az wv => ∃ (k : Nat) (r : Nat) (f : Nat) (us2 : Nat → Value), mz = (lin (kc 0) s l).length - k ∧ az = ⟨[.agg (idA s), .slice ao l.length cap, .int .i64 half, .pointer (some ⟨g1, 0, none⟩), undef, undef, .slice none 0 0, .slice ao1 ((lin (kc 0) s l).length) cap1, .slice no ((((lin (kc 0) s l).take i).filter (isW s (lin (kc 0) s l) half)).length) nc, .int .i64 ((i : Nat) : Int), .int .i64 ((r : Nat) : Int), .int .i64 ((f : Nat) : Int), .int .i64 ((k : Nat) : Int), .agg (idA s), .slice ao l.length cap, .slice ao1 ((lin (kc 0) s l).length) cap1, .int .i64 ((i : Nat) : Int), .slice ao1 ((lin (kc 0) s l).length) cap1, .int .i64 (((lin (kc 0) s l).length : Nat) : Int), .bool true, us1 7, us1 8, us2 0, us2 1, us2 2, us2 3, us2 4, us2 5, us2 6, us2 7, us2 8, us2 9, us2 10, us2 11, us2 12, us2 13, us2 14, us2 15, us2 16, us2 17, us2 18, us2 19, us2 20, us2 21, us2 22, us2 23, us2 24, us2 25, us2 26, us2 27, us2 28, us2 29, us2 30, us2 31, us2 32, us2 33, us2 34, us2 35, us1 45, us1 46, us1 47, us1 48, us1 49, us1 50, us1 51, us1 52, us1 53, us1 54, us1 55, us1 56, us1 57, us1 58, us1 59, undef].toArray, []⟩ ∧ k ≤ (lin (kc 0) s l).length ∧ r = ((lin (kc 0) s l).take k).countP (fun y => decide (kc s y < kc s ((lin (kc 0) s l).getD i 0))) ∧ f = ((lin (kc 0) s l).take k).countP (fun y => decide (kl s y < kl s ((lin (kc 0) s l).getD i 0))) ∧ r ≤ k ∧ f ≤ k ∧ Gro w wv ∧ wv.heap[g1]? = some (.cells (idA s) 23 (0, 0)) ∧ RC wv ao1 cap1 (lin (kc 0) s l) ∧ OI wv B no nc (((lin (kc 0) s l).take i).filter (isW s (lin (kc 0) s l) half)) ∧ SZi B wv) ?_ _ ⟨0, 0, 0, (fun kz => ([us1 9, us1 10, us1 11, us1 12, us1 13, us1 14, us1 15, us1 16, us1 17, us1 18, us1 19, us1 20, us1 21, us1 22, us1 23, us1 24, us1 25, us1 26, us1 27, us1 28, us1 29, us1 30, us1 31, us1 32, us1 33, us1 34, us1 35, us1 36, us1 37, us1 38, us1 39, us1 40, us1 41, us1 42, us1 43, us1 44] : List Value).getD kz undef), rfl, rfl, Nat.zero_le _, rfl, rfl, Nat.le_refl _, Nat.le_refl _, GG, kg1, HR1, HO, hBw⟩
    clear GG kg1 HR1 HO hBw
    rintro mz az wv ⟨k, r, f, us2, rfl, rfl, hk, hr, hf, hrk, hfk, GG, kg1, HR1, HO, hBw⟩
    refine wp_seq ?_
    refine wp_seq ?_
    refine wp_region_lit ?_
    refine s_val 22 rfl rfl (.int .i64 ((k : Nat) : Int)) (rfl) ?_
    refine nr ?_; intro U h; simp only [z0, z1] at h; subst h
    refine s_val 23 rfl rfl (.slice ao1 ((lin (kc 0) s l).length) cap1) (rfl) ?_
    refine nr ?_; intro U h; simp only [z0, z1] at h; subst h
    refine s_val 24 rfl rfl (.int .i64 (((lin (kc 0) s l).length : Nat) : Int)) (run_len Try.underlying24 _ rfl _ _ _ rfl _) ?_
    refine nr ?_; intro U h; simp only [z0, z1] at h; subst h
    cases hk1 : decide (((k : Nat) : Int) < (((lin (kc 0) s l).length : Nat) : Int))
    · have hke : k = (lin (kc 0) s l).length := by have := of_decide_eq_false hk1; omega
      rw [hke, List.take_length] at hr hf
      have hrR : (r : Int) = ((lin (kc 0) s l).countP (fun y => decide (kc s y < kc s ((lin (kc 0) s l).getD i 0))) : Int) := by rw [hr]
      have hrL : (f : Int) = ((lin (kc 0) s l).countP (fun y => decide (kl s y < kl s ((lin (kc 0) s l).getD i 0))) : Int) := by rw [hf]
      refine s_val 25 rfl rfl (.bool false) (run_lssT 3 _ _ _ rfl ((k : Nat) : Int) (((lin (kc 0) s l).length : Nat) : Int) rfl rfl false hk1 _) ?_
      refine nr ?_; intro U h; simp only [z0, z1] at h; subst h
      refine wpList_nil ?_
      refine then_n ?_
      refine wp_cond_false rfl ?_
      refine wp_exit ?_
      refine then_x ?_
      refine then_x ?_
      refine blk_x ?_
      refine then_n ?_
      refine wp_seq ?_
      refine wp_region_opq ?_
      intro OPS hY
      have y3 := hY 3 61 rfl
      clear hY
      refine s_val 58 rfl rfl (.int .i64 ((r : Nat) : Int)) (rfl) ?_
      refine nr ?_; intro U h; simp only [z0, z1] at h; subst h
      refine s_val 59 rfl rfl (.int .i64 half) (rfl) ?_
      refine nr ?_; intro U h; simp only [z0, z1] at h; subst h
      cases hw1 : decide (((r : Nat) : Int) < half)
      · refine s_val 60 rfl rfl (.bool false) (run_lssT 3 _ _ _ rfl ((r : Nat) : Int) half rfl rfl false hw1 _) ?_
        refine nr ?_; intro U h; simp only [z0, z1] at h; subst h
        refine s_val 61 rfl rfl (.bool false) (rfl) ?_
        refine nr ?_; intro U h; simp only [z0, z1] at h; subst h
        refine s_gvalY 62 rfl rfl y3 rfl (.int .i64 ((f : Nat) : Int)) (rfl) ?_
        refine nr ?_; intro U h; simp only [z0, z1] at h; subst h
        refine s_gvalY 63 rfl rfl y3 rfl (.int .i64 half) (rfl) ?_
        refine nr ?_; intro U h; simp only [z0, z1] at h; subst h
        cases hw2 : decide (((f : Nat) : Int) < half)
        · refine s_gvalY 64 rfl rfl y3 rfl (.bool false) (run_lssT 3 _ _ _ rfl ((f : Nat) : Int) half rfl rfl false hw2 _) ?_
          refine nr ?_; intro U h; simp only [z0, z1] at h; subst h
          refine s_val 65 rfl rfl (.bool false) (rfl) ?_
          refine nr ?_; intro U h; simp only [z0, z1] at h; subst h
          refine wpList_nil ?_
          refine then_n ?_
          refine wp_cond_false rfl ?_
          refine wp_skip ?_
          refine blk_n ?_
          refine then_n ?_
          refine wp_region_lit ?_
          refine s_val 20 rfl rfl (.int .i64 ((i : Nat) : Int)) (rfl) ?_
          refine nr ?_; intro U h; simp only [z0, z1] at h; subst h
          refine s_val 21 rfl rfl (.int .i64 ((i + 1 : Nat) : Int)) (run_addIi 3 _ _ _ rfl ((i : Nat) : Int) 1 ((i + 1 : Nat) : Int) rfl rfl (by omega) (by omega) (by omega) _) ?_
          refine nr ?_; intro U h; simp only [z0, z1] at h; subst h
          refine s_val 9 rfl rfl (.int .i64 ((i + 1 : Nat) : Int)) (rfl) ?_
          refine nr ?_; intro U h; simp only [z0, z1] at h; subst h
          refine wpList_nil ?_
          refine then_n ?_
          have hfs := flt_step (isW s (lin (kc 0) s l) half) (lin (kc 0) s l) i hil
          have hW : isW s (lin (kc 0) s l) half ((lin (kc 0) s l).getD i 0) = false := by unfold isW cR cL; rw [← hrR, ← hrL, hw1, hw2]; rfl
          rw [if_neg (by rw [hW]; exact Bool.false_ne_true), List.append_nil] at hfs
          exact ⟨_, (by omega : (lin (kc 0) s l).length - (i + 1) < (lin (kc 0) s l).length - i), i + 1, no, nc, (fun kz => ([.int .i64 ((r : Nat) : Int), .int .i64 ((f : Nat) : Int), .int .i64 ((k : Nat) : Int), .int .i64 ((i : Nat) : Int), .slice ao1 ((lin (kc 0) s l).length) cap1, .int .i64 (((lin (kc 0) s l).length : Nat) : Int), .bool true, .int .i64 ((i : Nat) : Int), .int .i64 ((i + 1 : Nat) : Int), .int .i64 ((k : Nat) : Int), .slice ao1 ((lin (kc 0) s l).length) cap1, .int .i64 (((lin (kc 0) s l).length : Nat) : Int), .bool false, us2 4, us2 5, us2 6, us2 7, us2 8, us2 9, us2 10, us2 11, us2 12, us2 13, us2 14, us2 15, us2 16, us2 17, us2 18, us2 19, us2 20, us2 21, us2 22, us2 23, us2 24, us2 25, us2 26, us2 27, us2 28, us2 29, us2 30, us2 31, us2 32, us2 33, us2 34, us2 35, .int .i64 ((r : Nat) : Int), .int .i64 half, .bool false, .bool false, .int .i64 ((f : Nat) : Int), .int .i64 half, .bool false, .bool false, us1 53, us1 54, us1 55, us1 56, us1 57, us1 58, us1 59] : List Value).getD kz undef), rfl, (by rw [hfs]; first | done | rfl), hil, GG, kg1, HR1, (by rw [hfs]; exact HO), hBw⟩
        · refine s_gvalY 64 rfl rfl y3 rfl (.bool true) (run_lssT 3 _ _ _ rfl ((f : Nat) : Int) half rfl rfl true hw2 _) ?_
          refine nr ?_; intro U h; simp only [z0, z1] at h; subst h
          refine s_val 65 rfl rfl (.bool true) (rfl) ?_
          refine nr ?_; intro U h; simp only [z0, z1] at h; subst h
          refine wpList_nil ?_
          refine then_n ?_
          refine wp_cond_true rfl ?_
          refine wp_region_lit ?_
          refine s_val 66 rfl rfl (.slice no ((((lin (kc 0) s l).take i).filter (isW s (lin (kc 0) s l) half)).length) nc) (rfl) ?_
          refine nr ?_; intro U h; simp only [z0, z1] at h; subst h
          refine s_val 67 rfl rfl (.slice ao1 ((lin (kc 0) s l).length) cap1) (rfl) ?_
          refine nr ?_; intro U h; simp only [z0, z1] at h; subst h
          refine s_val 68 rfl rfl (.int .i64 ((i : Nat) : Int)) (rfl) ?_
          refine nr ?_; intro U h; simp only [z0, z1] at h; subst h
          refine s_val 69 rfl rfl (.pointer (pA ao1 i)) (run_ixI (HR1) _ _ rfl rfl i rfl hil) ?_
          refine nr ?_; intro U h; simp only [z0, z1] at h; subst h
          refine s_val 70 rfl rfl (.agg (idA ((lin (kc 0) s l).getD i 0))) (run_ldI (HR1) _ rfl i rfl hil) ?_
          refine nr ?_; intro U h; simp only [z0, z1] at h; subst h
          refine s_bsl 71 rfl rfl 24 1 _ rfl [(0, .agg (idA ((lin (kc 0) s l).getD i 0)))] rfl (fl [((lin (kc 0) s l).getD i 0)]).toArray 23 (bs1i ((lin (kc 0) s l).getD i 0) _) ?_
          intro w3 q9 G eq9 kq9
          replace kg1 := G.has kg1
          replace HR1 := HR1.gro G
          replace HO := HO.gro G
          replace hBw := hBw.gro G
          replace GG := GG.trans G
          clear G
          have HQ : RC _ (some ⟨q9, 0, none⟩) 1 [((lin (kc 0) s l).getD i 0)] := RC.all_blk kq9 (all_of [((lin (kc 0) s l).getD i 0)] ⟨(HR1.at hil), trivial⟩) (Nat.le_refl _)
          clear eq9
          refine nr ?_; intro U h; simp only [z0, z1] at h; subst h
          refine s_appI 72 rfl rfl _ _ rfl rfl HO rfl HQ (by have : [((lin (kc 0) s l).getD i 0)].length = 1 := rfl; omega) hBw ?_
          intro ao9 cap9 w4 HO9 HB
          replace hBw := hBw.bel HB
          replace kg1 := (HB.block g1 hgB).trans kg1
          replace HR1 := HR1.below HB hmB
          replace GG := below_gro GG HB hwB
          clear HB
          refine nr ?_; intro U h; simp only [z0, z1] at h; subst h
          refine s_val 8 rfl rfl (.slice ao9 (((((lin (kc 0) s l).take i).filter (isW s (lin (kc 0) s l) half)) ++ [((lin (kc 0) s l).getD i 0)]).length) cap9) (rfl) ?_
          refine nr ?_; intro U h; simp only [z0, z1] at h; subst h
          refine wpList_nil ?_
          refine blk_n ?_
          refine then_n ?_
          refine wp_region_lit ?_
          refine s_val 20 rfl rfl (.int .i64 ((i : Nat) : Int)) (rfl) ?_
          refine nr ?_; intro U h; simp only [z0, z1] at h; subst h
          refine s_val 21 rfl rfl (.int .i64 ((i + 1 : Nat) : Int)) (run_addIi 3 _ _ _ rfl ((i : Nat) : Int) 1 ((i + 1 : Nat) : Int) rfl rfl (by omega) (by omega) (by omega) _) ?_
          refine nr ?_; intro U h; simp only [z0, z1] at h; subst h
          refine s_val 9 rfl rfl (.int .i64 ((i + 1 : Nat) : Int)) (rfl) ?_
          refine nr ?_; intro U h; simp only [z0, z1] at h; subst h
          refine wpList_nil ?_
          refine then_n ?_
          have hfs := flt_step (isW s (lin (kc 0) s l) half) (lin (kc 0) s l) i hil
          have hW : isW s (lin (kc 0) s l) half ((lin (kc 0) s l).getD i 0) = true := by unfold isW cR cL; rw [← hrR, ← hrL, hw1, hw2, Bool.or_true]
          rw [if_pos hW] at hfs
          exact ⟨_, (by omega : (lin (kc 0) s l).length - (i + 1) < (lin (kc 0) s l).length - i), i + 1, ao9, cap9, (fun kz => ([.int .i64 ((r : Nat) : Int), .int .i64 ((f : Nat) : Int), .int .i64 ((k : Nat) : Int), .int .i64 ((i : Nat) : Int), .slice ao1 ((lin (kc 0) s l).length) cap1, .int .i64 (((lin (kc 0) s l).length : Nat) : Int), .bool true, .int .i64 ((i : Nat) : Int), .int .i64 ((i + 1 : Nat) : Int), .int .i64 ((k : Nat) : Int), .slice ao1 ((lin (kc 0) s l).length) cap1, .int .i64 (((lin (kc 0) s l).length : Nat) : Int), .bool false, us2 4, us2 5, us2 6, us2 7, us2 8, us2 9, us2 10, us2 11, us2 12, us2 13, us2 14, us2 15, us2 16, us2 17, us2 18, us2 19, us2 20, us2 21, us2 22, us2 23, us2 24, us2 25, us2 26, us2 27, us2 28, us2 29, us2 30, us2 31, us2 32, us2 33, us2 34, us2 35, .int .i64 ((r : Nat) : Int), .int .i64 half, .bool false, .bool false, .int .i64 ((f : Nat) : Int), .int .i64 half, .bool true, .bool true, .slice no ((((lin (kc 0) s l).take i).filter (isW s (lin (kc 0) s l) half)).length) nc, .slice ao1 ((lin (kc 0) s l).length) cap1, .int .i64 ((i : Nat) : Int), .pointer (pA ao1 i), .agg (idA ((lin (kc 0) s l).getD i 0)), .slice (some ⟨q9, 0, none⟩) 1 1, .slice ao9 (((((lin (kc 0) s l).take i).filter (isW s (lin (kc 0) s l) half)) ++ [((lin (kc 0) s l).getD i 0)]).length) cap9] : List Value).getD kz undef), rfl, (by rw [hfs]; first | done | rfl), hil, GG, kg1, HR1, (by rw [hfs]; exact HO9), hBw⟩
      · refine s_val 60 rfl rfl (.bool true) (run_lssT 3 _ _ _ rfl ((r : Nat) : Int) half rfl rfl true hw1 _) ?_
        refine nr ?_; intro U h; simp only [z0, z1] at h; subst h
        refine s_val 61 rfl rfl (.bool true) (rfl) ?_
        refine nr ?_; intro U h; simp only [z0, z1] at h; subst h
        refine s_skipY 62 rfl rfl y3 rfl ?_
        refine nr ?_; intro U h; simp only [z0, z1] at h; subst h
        refine s_skipY 63 rfl rfl y3 rfl ?_
        refine nr ?_; intro U h; simp only [z0, z1] at h; subst h
        refine s_skipY 64 rfl rfl y3 rfl ?_
        refine nr ?_; intro U h; simp only [z0, z1] at h; subst h
        refine s_val 65 rfl rfl (.bool true) (rfl) ?_
        refine nr ?_; intro U h; simp only [z0, z1] at h; subst h
        refine wpList_nil ?_
        refine then_n ?_
        refine wp_cond_true rfl ?_
        refine wp_region_lit ?_
        refine s_val 66 rfl rfl (.slice no ((((lin (kc 0) s l).take i).filter (isW s (lin (kc 0) s l) half)).length) nc) (rfl) ?_
        refine nr ?_; intro U h; simp only [z0, z1] at h; subst h
        refine s_val 67 rfl rfl (.slice ao1 ((lin (kc 0) s l).length) cap1) (rfl) ?_
        refine nr ?_; intro U h; simp only [z0, z1] at h; subst h
        refine s_val 68 rfl rfl (.int .i64 ((i : Nat) : Int)) (rfl) ?_
        refine nr ?_; intro U h; simp only [z0, z1] at h; subst h
        refine s_val 69 rfl rfl (.pointer (pA ao1 i)) (run_ixI (HR1) _ _ rfl rfl i rfl hil) ?_
        refine nr ?_; intro U h; simp only [z0, z1] at h; subst h
        refine s_val 70 rfl rfl (.agg (idA ((lin (kc 0) s l).getD i 0))) (run_ldI (HR1) _ rfl i rfl hil) ?_
        refine nr ?_; intro U h; simp only [z0, z1] at h; subst h
        refine s_bsl 71 rfl rfl 24 1 _ rfl [(0, .agg (idA ((lin (kc 0) s l).getD i 0)))] rfl (fl [((lin (kc 0) s l).getD i 0)]).toArray 23 (bs1i ((lin (kc 0) s l).getD i 0) _) ?_
        intro w3 q9 G eq9 kq9
        replace kg1 := G.has kg1
        replace HR1 := HR1.gro G
        replace HO := HO.gro G
        replace hBw := hBw.gro G
        replace GG := GG.trans G
        clear G
        have HQ : RC _ (some ⟨q9, 0, none⟩) 1 [((lin (kc 0) s l).getD i 0)] := RC.all_blk kq9 (all_of [((lin (kc 0) s l).getD i 0)] ⟨(HR1.at hil), trivial⟩) (Nat.le_refl _)
        clear eq9
        refine nr ?_; intro U h; simp only [z0, z1] at h; subst h
        refine s_appI 72 rfl rfl _ _ rfl rfl HO rfl HQ (by have : [((lin (kc 0) s l).getD i 0)].length = 1 := rfl; omega) hBw ?_
        intro ao9 cap9 w4 HO9 HB
        replace hBw := hBw.bel HB
        replace kg1 := (HB.block g1 hgB).trans kg1
        replace HR1 := HR1.below HB hmB
        replace GG := below_gro GG HB hwB
        clear HB
        refine nr ?_; intro U h; simp only [z0, z1] at h; subst h
        refine s_val 8 rfl rfl (.slice ao9 (((((lin (kc 0) s l).take i).filter (isW s (lin (kc 0) s l) half)) ++ [((lin (kc 0) s l).getD i 0)]).length) cap9) (rfl) ?_
        refine nr ?_; intro U h; simp only [z0, z1] at h; subst h
        refine wpList_nil ?_
        refine blk_n ?_
        refine then_n ?_
        refine wp_region_lit ?_
        refine s_val 20 rfl rfl (.int .i64 ((i : Nat) : Int)) (rfl) ?_
        refine nr ?_; intro U h; simp only [z0, z1] at h; subst h
        refine s_val 21 rfl rfl (.int .i64 ((i + 1 : Nat) : Int)) (run_addIi 3 _ _ _ rfl ((i : Nat) : Int) 1 ((i + 1 : Nat) : Int) rfl rfl (by omega) (by omega) (by omega) _) ?_
        refine nr ?_; intro U h; simp only [z0, z1] at h; subst h
        refine s_val 9 rfl rfl (.int .i64 ((i + 1 : Nat) : Int)) (rfl) ?_
        refine nr ?_; intro U h; simp only [z0, z1] at h; subst h
        refine wpList_nil ?_
        refine then_n ?_
        have hfs := flt_step (isW s (lin (kc 0) s l) half) (lin (kc 0) s l) i hil
        have hW : isW s (lin (kc 0) s l) half ((lin (kc 0) s l).getD i 0) = true := by unfold isW cR cL; rw [← hrR, ← hrL, hw1, Bool.true_or]
        rw [if_pos hW] at hfs
        exact ⟨_, (by omega : (lin (kc 0) s l).length - (i + 1) < (lin (kc 0) s l).length - i), i + 1, ao9, cap9, (fun kz => ([.int .i64 ((r : Nat) : Int), .int .i64 ((f : Nat) : Int), .int .i64 ((k : Nat) : Int), .int .i64 ((i : Nat) : Int), .slice ao1 ((lin (kc 0) s l).length) cap1, .int .i64 (((lin (kc 0) s l).length : Nat) : Int), .bool true, .int .i64 ((i : Nat) : Int), .int .i64 ((i + 1 : Nat) : Int), .int .i64 ((k : Nat) : Int), .slice ao1 ((lin (kc 0) s l).length) cap1, .int .i64 (((lin (kc 0) s l).length : Nat) : Int), .bool false, us2 4, us2 5, us2 6, us2 7, us2 8, us2 9, us2 10, us2 11, us2 12, us2 13, us2 14, us2 15, us2 16, us2 17, us2 18, us2 19, us2 20, us2 21, us2 22, us2 23, us2 24, us2 25, us2 26, us2 27, us2 28, us2 29, us2 30, us2 31, us2 32, us2 33, us2 34, us2 35, .int .i64 ((r : Nat) : Int), .int .i64 half, .bool true, .bool true, undef, undef, undef, .bool true, .slice no ((((lin (kc 0) s l).take i).filter (isW s (lin (kc 0) s l) half)).length) nc, .slice ao1 ((lin (kc 0) s l).length) cap1, .int .i64 ((i : Nat) : Int), .pointer (pA ao1 i), .agg (idA ((lin (kc 0) s l).getD i 0)), .slice (some ⟨q9, 0, none⟩) 1 1, .slice ao9 (((((lin (kc 0) s l).take i).filter (isW s (lin (kc 0) s l) half)) ++ [((lin (kc 0) s l).getD i 0)]).length) cap9] : List Value).getD kz undef), rfl, (by rw [hfs]; first | done | rfl), hil, GG, kg1, HR1, (by rw [hfs]; exact HO9), hBw⟩
    · have hkl : k < (lin (kc 0) s l).length := by have := of_decide_eq_true hk1; omega
      refine s_val 25 rfl rfl (.bool true) (run_lssT 3 _ _ _ rfl ((k : Nat) : Int) (((lin (kc 0) s l).length : Nat) : Int) rfl rfl true hk1 _) ?_
      refine nr ?_; intro U h; simp only [z0, z1] at h; subst h
      refine wpList_nil ?_
      refine then_n ?_
      refine wp_cond_true rfl ?_
      refine wp_skip ?_
      refine then_n ?_
      refine wp_seq ?_
      refine wp_block ?_
      refine wp_seq ?_
      refine wp_seq ?_
      cases hc1 : decide ((subN ((lin (kc 0) s l).getD k 0) s) < (subN ((lin (kc 0) s l).getD i 0) s))
      · refine wp_region_exA (A := ?Ax17) 11 [(0, 28), (1, 29), (2, 30), (3, 31), (4, 32), (5, 33), (6, 34), (7, 35), (8, 36), (9, 37), (10, 38)] [.val (.slice ao1 ((lin (kc 0) s l).length) cap1), .val (.int .i64 ((k : Nat) : Int)), .val (.pointer (pA ao1 k)), .val (.agg (idA ((lin (kc 0) s l).getD k 0))), .val (.agg (idA s)), .val (.agg (idA (subN ((lin (kc 0) s l).getD k 0) s))), .val (.slice ao1 ((lin (kc 0) s l).length) cap1), .val (.int .i64 ((i : Nat) : Int)), .val (.pointer (pA ao1 i)), .val (.agg (idA ((lin (kc 0) s l).getD i 0))), .val (.agg (idA s))] follows (by kernel_rfl) rfl ?hAx17 (opsA_cons ?o0x17 (opsA_cons ?o1x17 (opsA_cons ?o2x17 (opsA_cons ?o3x17 (opsA_cons ?o4x17 (opsA_cons ?o5x17 (opsA_cons ?o6x17 (opsA_cons ?o7x17 (opsA_cons ?o8x17 (opsA_cons ?o9x17 (opsA_cons ?o10x17 opsA_nil))))))))))) ?restx17
        case hAx17 =>
          intro ptrs
          simp only [full, foldSlots, filledE, postE, List.foldl_cons, List.foldl_nil, List.getD_cons_zero, List.getD_cons_succ, fill_val, List.set_cons_zero, List.set_cons_succ]
          exact rfl
        case o0x17 => exact fun _ _ _ _ => opE_move (v := .slice ao1 ((lin (kc 0) s l).length) cap1) _ rfl rfl rfl
        case o1x17 => exact fun _ _ _ _ => opE_move (v := .int .i64 ((k : Nat) : Int)) _ rfl rfl rfl
        case o2x17 => exact fun _ _ hw _ => opE_value (v := .pointer (pA ao1 k)) rfl (run_ixI (HR1.gro ((Gro.refl _).drew.trans hw)) _ _ rfl rfl k rfl hkl)
        case o3x17 => exact fun _ _ hw _ => opE_value (v := .agg (idA ((lin (kc 0) s l).getD k 0))) rfl (run_ldI (HR1.gro ((Gro.refl _).drew.trans hw)) _ rfl k rfl hkl)
        case o4x17 => exact fun _ _ hw _ => opE_value (v := .agg (idA s)) rfl (run_ldB _ rfl g1 _ rfl (hw.has kg1))
        case o5x17 =>
          intro ptrs w' hw hE
          exact opE_call (.val (.agg (idA (subN ((lin (kc 0) s l).getD k 0) s)))) rfl _ 44 Try.call44 rfl rfl _ rfl [.agg (idA ((lin (kc 0) s l).getD k 0)), .agg (idA s)] rfl ((refsub_any ((lin (kc 0) s l).getD k 0) s (HR1.at hkl) hs _).mono fun e w' ⟨he, hg⟩ => ⟨_, he, hg, rfl⟩)
        case o6x17 => exact fun _ _ _ _ => opE_move (v := .slice ao1 ((lin (kc 0) s l).length) cap1) _ rfl rfl rfl
        case o7x17 => exact fun _ _ _ _ => opE_move (v := .int .i64 ((i : Nat) : Int)) _ rfl rfl rfl
        case o8x17 => exact fun _ _ hw _ => opE_value (v := .pointer (pA ao1 i)) rfl (run_ixI (HR1.gro ((Gro.refl _).drew.trans hw)) _ _ rfl rfl i rfl hil)
        case o9x17 => exact fun _ _ hw _ => opE_value (v := .agg (idA ((lin (kc 0) s l).getD i 0))) rfl (run_ldI (HR1.gro ((Gro.refl _).drew.trans hw)) _ rfl i rfl hil)
        case o10x17 => exact fun _ _ hw _ => opE_value (v := .agg (idA s)) rfl (run_ldB _ rfl g1 _ rfl (hw.has kg1))
        intro ptrs w3 GD hxE
        simp only [List.drop_succ_cons, List.drop_zero]
        replace kg1 := GD.has kg1
        replace HR1 := HR1.gro ((Gro.refl _).drew.trans GD)
        replace HO := HO.gro ((Gro.refl _).drew.trans GD)
        replace hBw := hBw.gro ((Gro.refl _).drew.trans GD)
        replace GG := GG.drew.trans GD
        clear GD
        refine s_callv 39 rfl rfl _ 44 Try.call44 rfl rfl _ rfl [.agg (idA ((lin (kc 0) s l).getD i 0)), .agg (idA s)] rfl (refsub_any ((lin (kc 0) s l).getD i 0) s (HR1.at hil) hs _) ?_
        intro w4 G
        replace kg1 := G.has kg1
        replace HR1 := HR1.gro G
        replace HO := HO.gro G
        replace hBw := hBw.gro G
        replace GG := GG.trans G
        clear G
        refine nr ?_; intro U h; simp only [z0, z1] at h; subst h
        refine s_callv 40 rfl rfl _ 43 Try.call43 rfl rfl _ rfl [.agg (idA (subN ((lin (kc 0) s l).getD k 0) s)), .agg (idA (subN ((lin (kc 0) s l).getD i 0) s))] rfl (Calls.boolW (less_any (subN ((lin (kc 0) s l).getD k 0) s) (subN ((lin (kc 0) s l).getD i 0) s) (subN_lt _ _) (subN_lt _ _) _) hc1) ?_
        intro w5 G
        replace kg1 := G.has kg1
        replace HR1 := HR1.gro G
        replace HO := HO.gro G
        replace hBw := hBw.gro G
        replace GG := GG.trans G
        clear G
        refine nr ?_; intro U h; simp only [z0, z1] at h; subst h
        refine wpList_nil ?_
        refine then_n ?_
        refine wp_cond_false rfl ?_
        refine wp_skip ?_
        refine then_n ?_
        refine wp_seq ?_
        cases hc2 : decide ((subN s ((lin (kc 0) s l).getD k 0)) < (subN s ((lin (kc 0) s l).getD i 0)))
        · refine wp_region_exA (A := ?Ax18) 11 [(0, 43), (1, 44), (2, 45), (3, 46), (4, 47), (5, 48), (6, 49), (7, 50), (8, 51), (9, 52), (10, 53)] [.val (.agg (idA s)), .val (.slice ao1 ((lin (kc 0) s l).length) cap1), .val (.int .i64 ((k : Nat) : Int)), .val (.pointer (pA ao1 k)), .val (.agg (idA ((lin (kc 0) s l).getD k 0))), .val (.agg (idA (subN s ((lin (kc 0) s l).getD k 0)))), .val (.agg (idA s)), .val (.slice ao1 ((lin (kc 0) s l).length) cap1), .val (.int .i64 ((i : Nat) : Int)), .val (.pointer (pA ao1 i)), .val (.agg (idA ((lin (kc 0) s l).getD i 0)))] follows (by kernel_rfl) rfl ?hAx18 (opsA_cons ?o0x18 (opsA_cons ?o1x18 (opsA_cons ?o2x18 (opsA_cons ?o3x18 (opsA_cons ?o4x18 (opsA_cons ?o5x18 (opsA_cons ?o6x18 (opsA_cons ?o7x18 (opsA_cons ?o8x18 (opsA_cons ?o9x18 (opsA_cons ?o10x18 opsA_nil))))))))))) ?restx18
          case hAx18 =>
            intro ptrs
            simp only [full, foldSlots, filledE, postE, List.foldl_cons, List.foldl_nil, List.getD_cons_zero, List.getD_cons_succ, fill_val, List.set_cons_zero, List.set_cons_succ]
            exact rfl
          case o0x18 => exact fun _ _ hw _ => opE_value (v := .agg (idA s)) rfl (run_ldB _ rfl g1 _ rfl (hw.has kg1))
          case o1x18 => exact fun _ _ _ _ => opE_move (v := .slice ao1 ((lin (kc 0) s l).length) cap1) _ rfl rfl rfl
          case o2x18 => exact fun _ _ _ _ => opE_move (v := .int .i64 ((k : Nat) : Int)) _ rfl rfl rfl
          case o3x18 => exact fun _ _ hw _ => opE_value (v := .pointer (pA ao1 k)) rfl (run_ixI (HR1.gro ((Gro.refl _).drew.trans hw)) _ _ rfl rfl k rfl hkl)
          case o4x18 => exact fun _ _ hw _ => opE_value (v := .agg (idA ((lin (kc 0) s l).getD k 0))) rfl (run_ldI (HR1.gro ((Gro.refl _).drew.trans hw)) _ rfl k rfl hkl)
          case o5x18 =>
            intro ptrs w' hw hE
            exact opE_call (.val (.agg (idA (subN s ((lin (kc 0) s l).getD k 0))))) rfl _ 44 Try.call44 rfl rfl _ rfl [.agg (idA s), .agg (idA ((lin (kc 0) s l).getD k 0))] rfl ((refsub_any s ((lin (kc 0) s l).getD k 0) hs (HR1.at hkl) _).mono fun e w' ⟨he, hg⟩ => ⟨_, he, hg, rfl⟩)
          case o6x18 => exact fun _ _ hw _ => opE_value (v := .agg (idA s)) rfl (run_ldB _ rfl g1 _ rfl (hw.has kg1))
          case o7x18 => exact fun _ _ _ _ => opE_move (v := .slice ao1 ((lin (kc 0) s l).length) cap1) _ rfl rfl rfl
          case o8x18 => exact fun _ _ _ _ => opE_move (v := .int .i64 ((i : Nat) : Int)) _ rfl rfl rfl
          case o9x18 => exact fun _ _ hw _ => opE_value (v := .pointer (pA ao1 i)) rfl (run_ixI (HR1.gro ((Gro.refl _).drew.trans hw)) _ _ rfl rfl i rfl hil)
          case o10x18 => exact fun _ _ hw _ => opE_value (v := .agg (idA ((lin (kc 0) s l).getD i 0))) rfl (run_ldI (HR1.gro ((Gro.refl _).drew.trans hw)) _ rfl i rfl hil)
          intro ptrs w6 GD hxE
          simp only [List.drop_succ_cons, List.drop_zero]
          replace kg1 := GD.has kg1
          replace HR1 := HR1.gro ((Gro.refl _).drew.trans GD)
          replace HO := HO.gro ((Gro.refl _).drew.trans GD)
          replace hBw := hBw.gro ((Gro.refl _).drew.trans GD)
          replace GG := GG.drew.trans GD
          clear GD
          refine s_callv 54 rfl rfl _ 44 Try.call44 rfl rfl _ rfl [.agg (idA s), .agg (idA ((lin (kc 0) s l).getD i 0))] rfl (refsub_any s ((lin (kc 0) s l).getD i 0) hs (HR1.at hil) _) ?_
          intro w7 G
          replace kg1 := G.has kg1
          replace HR1 := HR1.gro G
          replace HO := HO.gro G
          replace hBw := hBw.gro G
          replace GG := GG.trans G
          clear G
          refine nr ?_; intro U h; simp only [z0, z1] at h; subst h
          refine s_callv 55 rfl rfl _ 43 Try.call43 rfl rfl _ rfl [.agg (idA (subN s ((lin (kc 0) s l).getD k 0))), .agg (idA (subN s ((lin (kc 0) s l).getD i 0)))] rfl (Calls.boolW (less_any (subN s ((lin (kc 0) s l).getD k 0)) (subN s ((lin (kc 0) s l).getD i 0)) (subN_lt _ _) (subN_lt _ _) _) hc2) ?_
          intro w8 G
          replace kg1 := G.has kg1
          replace HR1 := HR1.gro G
          replace HO := HO.gro G
          replace hBw := hBw.gro G
          replace GG := GG.trans G
          clear G
          refine nr ?_; intro U h; simp only [z0, z1] at h; subst h
          refine wpList_nil ?_
          refine then_n ?_
          refine wp_cond_false rfl ?_
          refine wp_skip ?_
          refine blk_n ?_
          refine then_n ?_
          refine wp_region_lit ?_
          refine s_val 26 rfl rfl (.int .i64 ((k : Nat) : Int)) (rfl) ?_
          refine nr ?_; intro U h; simp only [z0, z1] at h; subst h
          refine s_val 27 rfl rfl (.int .i64 ((k + 1 : Nat) : Int)) (run_addIi 3 _ _ _ rfl ((k : Nat) : Int) 1 ((k + 1 : Nat) : Int) rfl rfl (by omega) (by omega) (by omega) _) ?_
          refine nr ?_; intro U h; simp only [z0, z1] at h; subst h
          refine s_val 12 rfl rfl (.int .i64 ((k + 1 : Nat) : Int)) (rfl) ?_
          refine nr ?_; intro U h; simp only [z0, z1] at h; subst h
          refine wpList_nil ?_
          refine then_n ?_
          have hhc1s := cnt_step (fun y => decide (kc s y < kc s ((lin (kc 0) s l).getD i 0))) (lin (kc 0) s l) k hkl
          rw [if_neg (by exact fun h => Bool.false_ne_true (hc1.symm.trans h))] at hhc1s
          have hhc2s := cnt_step (fun y => decide (kl s y < kl s ((lin (kc 0) s l).getD i 0))) (lin (kc 0) s l) k hkl
          rw [if_neg (by exact fun h => Bool.false_ne_true (hc2.symm.trans h))] at hhc2s
          exact ⟨_, (by omega : (lin (kc 0) s l).length - (k + 1) < (lin (kc 0) s l).length - k), k + 1, r, f, (fun kz => ([.int .i64 ((k : Nat) : Int), .slice ao1 ((lin (kc 0) s l).length) cap1, .int .i64 (((lin (kc 0) s l).length : Nat) : Int), .bool true, .int .i64 ((k : Nat) : Int), .int .i64 ((k + 1 : Nat) : Int), .slice ao1 ((lin (kc 0) s l).length) cap1, .int .i64 ((k : Nat) : Int), .pointer (pA ao1 k), .agg (idA ((lin (kc 0) s l).getD k 0)), .agg (idA s), .agg (idA (subN ((lin (kc 0) s l).getD k 0) s)), .slice ao1 ((lin (kc 0) s l).length) cap1, .int .i64 ((i : Nat) : Int), .pointer (pA ao1 i), .agg (idA ((lin (kc 0) s l).getD i 0)), .agg (idA s), .agg (idA (subN ((lin (kc 0) s l).getD i 0) s)), .bool false, us2 19, us2 20, .agg (idA s), .slice ao1 ((lin (kc 0) s l).length) cap1, .int .i64 ((k : Nat) : Int), .pointer (pA ao1 k), .agg (idA ((lin (kc 0) s l).getD k 0)), .agg (idA (subN s ((lin (kc 0) s l).getD k 0))), .agg (idA s), .slice ao1 ((lin (kc 0) s l).length) cap1, .int .i64 ((i : Nat) : Int), .pointer (pA ao1 i), .agg (idA ((lin (kc 0) s l).getD i 0)), .agg (idA (subN s ((lin (kc 0) s l).getD i 0))), .bool false, us2 34, us2 35] : List Value).getD kz undef), rfl, rfl, hkl, (by omega), (by omega), (by omega), (by omega), GG, kg1, HR1, HO, hBw⟩
        · refine wp_region_exA (A := ?Ax19) 11 [(0, 43), (1, 44), (2, 45), (3, 46), (4, 47), (5, 48), (6, 49), (7, 50), (8, 51), (9, 52), (10, 53)] [.val (.agg (idA s)), .val (.slice ao1 ((lin (kc 0) s l).length) cap1), .val (.int .i64 ((k : Nat) : Int)), .val (.pointer (pA ao1 k)), .val (.agg (idA ((lin (kc 0) s l).getD k 0))), .val (.agg (idA (subN s ((lin (kc 0) s l).getD k 0)))), .val (.agg (idA s)), .val (.slice ao1 ((lin (kc 0) s l).length) cap1), .val (.int .i64 ((i : Nat) : Int)), .val (.pointer (pA ao1 i)), .val (.agg (idA ((lin (kc 0) s l).getD i 0)))] follows (by kernel_rfl) rfl ?hAx19 (opsA_cons ?o0x19 (opsA_cons ?o1x19 (opsA_cons ?o2x19 (opsA_cons ?o3x19 (opsA_cons ?o4x19 (opsA_cons ?o5x19 (opsA_cons ?o6x19 (opsA_cons ?o7x19 (opsA_cons ?o8x19 (opsA_cons ?o9x19 (opsA_cons ?o10x19 opsA_nil))))))))))) ?restx19
          case hAx19 =>
            intro ptrs
            simp only [full, foldSlots, filledE, postE, List.foldl_cons, List.foldl_nil, List.getD_cons_zero, List.getD_cons_succ, fill_val, List.set_cons_zero, List.set_cons_succ]
            exact rfl
          case o0x19 => exact fun _ _ hw _ => opE_value (v := .agg (idA s)) rfl (run_ldB _ rfl g1 _ rfl (hw.has kg1))
          case o1x19 => exact fun _ _ _ _ => opE_move (v := .slice ao1 ((lin (kc 0) s l).length) cap1) _ rfl rfl rfl
          case o2x19 => exact fun _ _ _ _ => opE_move (v := .int .i64 ((k : Nat) : Int)) _ rfl rfl rfl
          case o3x19 => exact fun _ _ hw _ => opE_value (v := .pointer (pA ao1 k)) rfl (run_ixI (HR1.gro ((Gro.refl _).drew.trans hw)) _ _ rfl rfl k rfl hkl)
          case o4x19 => exact fun _ _ hw _ => opE_value (v := .agg (idA ((lin (kc 0) s l).getD k 0))) rfl (run_ldI (HR1.gro ((Gro.refl _).drew.trans hw)) _ rfl k rfl hkl)
          case o5x19 =>
            intro ptrs w' hw hE
            exact opE_call (.val (.agg (idA (subN s ((lin (kc 0) s l).getD k 0))))) rfl _ 44 Try.call44 rfl rfl _ rfl [.agg (idA s), .agg (idA ((lin (kc 0) s l).getD k 0))] rfl ((refsub_any s ((lin (kc 0) s l).getD k 0) hs (HR1.at hkl) _).mono fun e w' ⟨he, hg⟩ => ⟨_, he, hg, rfl⟩)
          case o6x19 => exact fun _ _ hw _ => opE_value (v := .agg (idA s)) rfl (run_ldB _ rfl g1 _ rfl (hw.has kg1))
          case o7x19 => exact fun _ _ _ _ => opE_move (v := .slice ao1 ((lin (kc 0) s l).length) cap1) _ rfl rfl rfl
          case o8x19 => exact fun _ _ _ _ => opE_move (v := .int .i64 ((i : Nat) : Int)) _ rfl rfl rfl
          case o9x19 => exact fun _ _ hw _ => opE_value (v := .pointer (pA ao1 i)) rfl (run_ixI (HR1.gro ((Gro.refl _).drew.trans hw)) _ _ rfl rfl i rfl hil)
          case o10x19 => exact fun _ _ hw _ => opE_value (v := .agg (idA ((lin (kc 0) s l).getD i 0))) rfl (run_ldI (HR1.gro ((Gro.refl _).drew.trans hw)) _ rfl i rfl hil)
          intro ptrs w6 GD hxE
          simp only [List.drop_succ_cons, List.drop_zero]
          replace kg1 := GD.has kg1
          replace HR1 := HR1.gro ((Gro.refl _).drew.trans GD)
          replace HO := HO.gro ((Gro.refl _).drew.trans GD)
          replace hBw := hBw.gro ((Gro.refl _).drew.trans GD)
          replace GG := GG.drew.trans GD
          clear GD
          refine s_callv 54 rfl rfl _ 44 Try.call44 rfl rfl _ rfl [.agg (idA s), .agg (idA ((lin (kc 0) s l).getD i 0))] rfl (refsub_any s ((lin (kc 0) s l).getD i 0) hs (HR1.at hil) _) ?_
          intro w7 G
          replace kg1 := G.has kg1
          replace HR1 := HR1.gro G
          replace HO := HO.gro G
          replace hBw := hBw.gro G
          replace GG := GG.trans G
          clear G
          refine nr ?_; intro U h; simp only [z0, z1] at h; subst h
          refine s_callv 55 rfl rfl _ 43 Try.call43 rfl rfl _ rfl [.agg (idA (subN s ((lin (kc 0) s l).getD k 0))), .agg (idA (subN s ((lin (kc 0) s l).getD i 0)))] rfl (Calls.boolW (less_any (subN s ((lin (kc 0) s l).getD k 0)) (subN s ((lin (kc 0) s l).getD i 0)) (subN_lt _ _) (subN_lt _ _) _) hc2) ?_
          intro w8 G
          replace kg1 := G.has kg1
          replace HR1 := HR1.gro G
          replace HO := HO.gro G
          replace hBw := hBw.gro G
          replace GG := GG.trans G
          clear G
          refine nr ?_; intro U h; simp only [z0, z1] at h; subst h
          refine wpList_nil ?_
          refine then_n ?_
          refine wp_cond_true rfl ?_
          refine wp_region_lit ?_
          refine s_val 56 rfl rfl (.int .i64 ((f : Nat) : Int)) (rfl) ?_
          refine nr ?_; intro U h; simp only [z0, z1] at h; subst h
          refine s_val 57 rfl rfl (.int .i64 ((f + 1 : Nat) : Int)) (run_addIi 3 _ _ _ rfl ((f : Nat) : Int) 1 ((f + 1 : Nat) : Int) rfl rfl (by omega) (by omega) (by omega) _) ?_
          refine nr ?_; intro U h; simp only [z0, z1] at h; subst h
          refine s_val 11 rfl rfl (.int .i64 ((f + 1 : Nat) : Int)) (rfl) ?_
          refine nr ?_; intro U h; simp only [z0, z1] at h; subst h
          refine wpList_nil ?_
          refine blk_n ?_
          refine then_n ?_
          refine wp_region_lit ?_
          refine s_val 26 rfl rfl (.int .i64 ((k : Nat) : Int)) (rfl) ?_
          refine nr ?_; intro U h; simp only [z0, z1] at h; subst h
          refine s_val 27 rfl rfl (.int .i64 ((k + 1 : Nat) : Int)) (run_addIi 3 _ _ _ rfl ((k : Nat) : Int) 1 ((k + 1 : Nat) : Int) rfl rfl (by omega) (by omega) (by omega) _) ?_
          refine nr ?_; intro U h; simp only [z0, z1] at h; subst h
          refine s_val 12 rfl rfl (.int .i64 ((k + 1 : Nat) : Int)) (rfl) ?_
          refine nr ?_; intro U h; simp only [z0, z1] at h; subst h
          refine wpList_nil ?_
          refine then_n ?_
          have hhc1s := cnt_step (fun y => decide (kc s y < kc s ((lin (kc 0) s l).getD i 0))) (lin (kc 0) s l) k hkl
          rw [if_neg (by exact fun h => Bool.false_ne_true (hc1.symm.trans h))] at hhc1s
          have hhc2s := cnt_step (fun y => decide (kl s y < kl s ((lin (kc 0) s l).getD i 0))) (lin (kc 0) s l) k hkl
          rw [if_pos (by exact hc2)] at hhc2s
          exact ⟨_, (by omega : (lin (kc 0) s l).length - (k + 1) < (lin (kc 0) s l).length - k), k + 1, r, f + 1, (fun kz => ([.int .i64 ((k : Nat) : Int), .slice ao1 ((lin (kc 0) s l).length) cap1, .int .i64 (((lin (kc 0) s l).length : Nat) : Int), .bool true, .int .i64 ((k : Nat) : Int), .int .i64 ((k + 1 : Nat) : Int), .slice ao1 ((lin (kc 0) s l).length) cap1, .int .i64 ((k : Nat) : Int), .pointer (pA ao1 k), .agg (idA ((lin (kc 0) s l).getD k 0)), .agg (idA s), .agg (idA (subN ((lin (kc 0) s l).getD k 0) s)), .slice ao1 ((lin (kc 0) s l).length) cap1, .int .i64 ((i : Nat) : Int), .pointer (pA ao1 i), .agg (idA ((lin (kc 0) s l).getD i 0)), .agg (idA s), .agg (idA (subN ((lin (kc 0) s l).getD i 0) s)), .bool false, us2 19, us2 20, .agg (idA s), .slice ao1 ((lin (kc 0) s l).length) cap1, .int .i64 ((k : Nat) : Int), .pointer (pA ao1 k), .agg (idA ((lin (kc 0) s l).getD k 0)), .agg (idA (subN s ((lin (kc 0) s l).getD k 0))), .agg (idA s), .slice ao1 ((lin (kc 0) s l).length) cap1, .int .i64 ((i : Nat) : Int), .pointer (pA ao1 i), .agg (idA ((lin (kc 0) s l).getD i 0)), .agg (idA (subN s ((lin (kc 0) s l).getD i 0))), .bool true, .int .i64 ((f : Nat) : Int), .int .i64 ((f + 1 : Nat) : Int)] : List Value).getD kz undef), rfl, rfl, hkl, (by omega), (by omega), (by omega), (by omega), GG, kg1, HR1, HO, hBw⟩
      · refine wp_region_exA (A := ?Ax20) 11 [(0, 28), (1, 29), (2, 30), (3, 31), (4, 32), (5, 33), (6, 34), (7, 35), (8, 36), (9, 37), (10, 38)] [.val (.slice ao1 ((lin (kc 0) s l).length) cap1), .val (.int .i64 ((k : Nat) : Int)), .val (.pointer (pA ao1 k)), .val (.agg (idA ((lin (kc 0) s l).getD k 0))), .val (.agg (idA s)), .val (.agg (idA (subN ((lin (kc 0) s l).getD k 0) s))), .val (.slice ao1 ((lin (kc 0) s l).length) cap1), .val (.int .i64 ((i : Nat) : Int)), .val (.pointer (pA ao1 i)), .val (.agg (idA ((lin (kc 0) s l).getD i 0))), .val (.agg (idA s))] follows (by kernel_rfl) rfl ?hAx20 (opsA_cons ?o0x20 (opsA_cons ?o1x20 (opsA_cons ?o2x20 (opsA_cons ?o3x20 (opsA_cons ?o4x20 (opsA_cons ?o5x20 (opsA_cons ?o6x20 (opsA_cons ?o7x20 (opsA_cons ?o8x20 (opsA_cons ?o9x20 (opsA_cons ?o10x20 opsA_nil))))))))))) ?restx20
        case hAx20 =>
          intro ptrs
          simp only [full, foldSlots, filledE, postE, List.foldl_cons, List.foldl_nil, List.getD_cons_zero, List.getD_cons_succ, fill_val, List.set_cons_zero, List.set_cons_succ]
          exact rfl
        case o0x20 => exact fun _ _ _ _ => opE_move (v := .slice ao1 ((lin (kc 0) s l).length) cap1) _ rfl rfl rfl
        case o1x20 => exact fun _ _ _ _ => opE_move (v := .int .i64 ((k : Nat) : Int)) _ rfl rfl rfl
        case o2x20 => exact fun _ _ hw _ => opE_value (v := .pointer (pA ao1 k)) rfl (run_ixI (HR1.gro ((Gro.refl _).drew.trans hw)) _ _ rfl rfl k rfl hkl)
        case o3x20 => exact fun _ _ hw _ => opE_value (v := .agg (idA ((lin (kc 0) s l).getD k 0))) rfl (run_ldI (HR1.gro ((Gro.refl _).drew.trans hw)) _ rfl k rfl hkl)
        case o4x20 => exact fun _ _ hw _ => opE_value (v := .agg (idA s)) rfl (run_ldB _ rfl g1 _ rfl (hw.has kg1))
        case o5x20 =>
          intro ptrs w' hw hE
          exact opE_call (.val (.agg (idA (subN ((lin (kc 0) s l).getD k 0) s)))) rfl _ 44 Try.call44 rfl rfl _ rfl [.agg (idA ((lin (kc 0) s l).getD k 0)), .agg (idA s)] rfl ((refsub_any ((lin (kc 0) s l).getD k 0) s (HR1.at hkl) hs _).mono fun e w' ⟨he, hg⟩ => ⟨_, he, hg, rfl⟩)
        case o6x20 => exact fun _ _ _ _ => opE_move (v := .slice ao1 ((lin (kc 0) s l).length) cap1) _ rfl rfl rfl
        case o7x20 => exact fun _ _ _ _ => opE_move (v := .int .i64 ((i : Nat) : Int)) _ rfl rfl rfl
        case o8x20 => exact fun _ _ hw _ => opE_value (v := .pointer (pA ao1 i)) rfl (run_ixI (HR1.gro ((Gro.refl _).drew.trans hw)) _ _ rfl rfl i rfl hil)
        case o9x20 => exact fun _ _ hw _ => opE_value (v := .agg (idA ((lin (kc 0) s l).getD i 0))) rfl (run_ldI (HR1.gro ((Gro.refl _).drew.trans hw)) _ rfl i rfl hil)
        case o10x20 => exact fun _ _ hw _ => opE_value (v := .agg (idA s)) rfl (run_ldB _ rfl g1 _ rfl (hw.has kg1))
        intro ptrs w3 GD hxE
        simp only [List.drop_succ_cons, List.drop_zero]
        replace kg1 := GD.has kg1
        replace HR1 := HR1.gro ((Gro.refl _).drew.trans GD)
        replace HO := HO.gro ((Gro.refl _).drew.trans GD)
        replace hBw := hBw.gro ((Gro.refl _).drew.trans GD)
        replace GG := GG.drew.trans GD
        clear GD
        refine s_callv 39 rfl rfl _ 44 Try.call44 rfl rfl _ rfl [.agg (idA ((lin (kc 0) s l).getD i 0)), .agg (idA s)] rfl (refsub_any ((lin (kc 0) s l).getD i 0) s (HR1.at hil) hs _) ?_
        intro w4 G
        replace kg1 := G.has kg1
        replace HR1 := HR1.gro G
        replace HO := HO.gro G
        replace hBw := hBw.gro G
        replace GG := GG.trans G
        clear G
        refine nr ?_; intro U h; simp only [z0, z1] at h; subst h
        refine s_callv 40 rfl rfl _ 43 Try.call43 rfl rfl _ rfl [.agg (idA (subN ((lin (kc 0) s l).getD k 0) s)), .agg (idA (subN ((lin (kc 0) s l).getD i 0) s))] rfl (Calls.boolW (less_any (subN ((lin (kc 0) s l).getD k 0) s) (subN ((lin (kc 0) s l).getD i 0) s) (subN_lt _ _) (subN_lt _ _) _) hc1) ?_
        intro w5 G
        replace kg1 := G.has kg1
        replace HR1 := HR1.gro G
        replace HO := HO.gro G
        replace hBw := hBw.gro G
        replace GG := GG.trans G
        clear G
        refine nr ?_; intro U h; simp only [z0, z1] at h; subst h
        refine wpList_nil ?_
        refine then_n ?_
        refine wp_cond_true rfl ?_
        refine wp_region_lit ?_
        refine s_val 41 rfl rfl (.int .i64 ((r : Nat) : Int)) (rfl) ?_
        refine nr ?_; intro U h; simp only [z0, z1] at h; subst h
        refine s_val 42 rfl rfl (.int .i64 ((r + 1 : Nat) : Int)) (run_addIi 3 _ _ _ rfl ((r : Nat) : Int) 1 ((r + 1 : Nat) : Int) rfl rfl (by omega) (by omega) (by omega) _) ?_
        refine nr ?_; intro U h; simp only [z0, z1] at h; subst h
        refine s_val 10 rfl rfl (.int .i64 ((r + 1 : Nat) : Int)) (rfl) ?_
        refine nr ?_; intro U h; simp only [z0, z1] at h; subst h
        refine wpList_nil ?_
        refine then_n ?_
        refine wp_seq ?_
        cases hc2 : decide ((subN s ((lin (kc 0) s l).getD k 0)) < (subN s ((lin (kc 0) s l).getD i 0)))
        · refine wp_region_exA (A := ?Ax21) 11 [(0, 43), (1, 44), (2, 45), (3, 46), (4, 47), (5, 48), (6, 49), (7, 50), (8, 51), (9, 52), (10, 53)] [.val (.agg (idA s)), .val (.slice ao1 ((lin (kc 0) s l).length) cap1), .val (.int .i64 ((k : Nat) : Int)), .val (.pointer (pA ao1 k)), .val (.agg (idA ((lin (kc 0) s l).getD k 0))), .val (.agg (idA (subN s ((lin (kc 0) s l).getD k 0)))), .val (.agg (idA s)), .val (.slice ao1 ((lin (kc 0) s l).length) cap1), .val (.int .i64 ((i : Nat) : Int)), .val (.pointer (pA ao1 i)), .val (.agg (idA ((lin (kc 0) s l).getD i 0)))] follows (by kernel_rfl) rfl ?hAx21 (opsA_cons ?o0x21 (opsA_cons ?o1x21 (opsA_cons ?o2x21 (opsA_cons ?o3x21 (opsA_cons ?o4x21 (opsA_cons ?o5x21 (opsA_cons ?o6x21 (opsA_cons ?o7x21 (opsA_cons ?o8x21 (opsA_cons ?o9x21 (opsA_cons ?o10x21 opsA_nil))))))))))) ?restx21
          case hAx21 =>
            intro ptrs
            simp only [full, foldSlots, filledE, postE, List.foldl_cons, List.foldl_nil, List.getD_cons_zero, List.getD_cons_succ, fill_val, List.set_cons_zero, List.set_cons_succ]
            exact rfl
          case o0x21 => exact fun _ _ hw _ => opE_value (v := .agg (idA s)) rfl (run_ldB _ rfl g1 _ rfl (hw.has kg1))
          case o1x21 => exact fun _ _ _ _ => opE_move (v := .slice ao1 ((lin (kc 0) s l).length) cap1) _ rfl rfl rfl
          case o2x21 => exact fun _ _ _ _ => opE_move (v := .int .i64 ((k : Nat) : Int)) _ rfl rfl rfl
          case o3x21 => exact fun _ _ hw _ => opE_value (v := .pointer (pA ao1 k)) rfl (run_ixI (HR1.gro ((Gro.refl _).drew.trans hw)) _ _ rfl rfl k rfl hkl)
          case o4x21 => exact fun _ _ hw _ => opE_value (v := .agg (idA ((lin (kc 0) s l).getD k 0))) rfl (run_ldI (HR1.gro ((Gro.refl _).drew.trans hw)) _ rfl k rfl hkl)
          case o5x21 =>
            intro ptrs w' hw hE
            exact opE_call (.val (.agg (idA (subN s ((lin (kc 0) s l).getD k 0))))) rfl _ 44 Try.call44 rfl rfl _ rfl [.agg (idA s), .agg (idA ((lin (kc 0) s l).getD k 0))] rfl ((refsub_any s ((lin (kc 0) s l).getD k 0) hs (HR1.at hkl) _).mono fun e w' ⟨he, hg⟩ => ⟨_, he, hg, rfl⟩)
          case o6x21 => exact fun _ _ hw _ => opE_value (v := .agg (idA s)) rfl (run_ldB _ rfl g1 _ rfl (hw.has kg1))
          case o7x21 => exact fun _ _ _ _ => opE_move (v := .slice ao1 ((lin (kc 0) s l).length) cap1) _ rfl rfl rfl
          case o8x21 => exact fun _ _ _ _ => opE_move (v := .int .i64 ((i : Nat) : Int)) _ rfl rfl rfl
          case o9x21 => exact fun _ _ hw _ => opE_value (v := .pointer (pA ao1 i)) rfl (run_ixI (HR1.gro ((Gro.refl _).drew.trans hw)) _ _ rfl rfl i rfl hil)
          case o10x21 => exact fun _ _ hw _ => opE_value (v := .agg (idA ((lin (kc 0) s l).getD i 0))) rfl (run_ldI (HR1.gro ((Gro.refl _).drew.trans hw)) _ rfl i rfl hil)
          intro ptrs w6 GD hxE
          simp only [List.drop_succ_cons, List.drop_zero]
          replace kg1 := GD.has kg1
          replace HR1 := HR1.gro ((Gro.refl _).drew.trans GD)
          replace HO := HO.gro ((Gro.refl _).drew.trans GD)
          replace hBw := hBw.gro ((Gro.refl _).drew.trans GD)
          replace GG := GG.drew.trans GD
          clear GD
          refine s_callv 54 rfl rfl _ 44 Try.call44 rfl rfl _ rfl [.agg (idA s), .agg (idA ((lin (kc 0) s l).getD i 0))] rfl (refsub_any s ((lin (kc 0) s l).getD i 0) hs (HR1.at hil) _) ?_
          intro w7 G
          replace kg1 := G.has kg1
          replace HR1 := HR1.gro G
          replace HO := HO.gro G
          replace hBw := hBw.gro G
          replace GG := GG.trans G
          clear G
          refine nr ?_; intro U h; simp only [z0, z1] at h; subst h
          refine s_callv 55 rfl rfl _ 43 Try.call43 rfl rfl _ rfl [.agg (idA (subN s ((lin (kc 0) s l).getD k 0))), .agg (idA (subN s ((lin (kc 0) s l).getD i 0)))] rfl (Calls.boolW (less_any (subN s ((lin (kc 0) s l).getD k 0)) (subN s ((lin (kc 0) s l).getD i 0)) (subN_lt _ _) (subN_lt _ _) _) hc2) ?_
          intro w8 G
          replace kg1 := G.has kg1
          replace HR1 := HR1.gro G
          replace HO := HO.gro G
          replace hBw := hBw.gro G
          replace GG := GG.trans G
          clear G
          refine nr ?_; intro U h; simp only [z0, z1] at h; subst h
          refine wpList_nil ?_
          refine then_n ?_
          refine wp_cond_false rfl ?_
          refine wp_skip ?_
          refine blk_n ?_
          refine then_n ?_
          refine wp_region_lit ?_
          refine s_val 26 rfl rfl (.int .i64 ((k : Nat) : Int)) (rfl) ?_
          refine nr ?_; intro U h; simp only [z0, z1] at h; subst h
          refine s_val 27 rfl rfl (.int .i64 ((k + 1 : Nat) : Int)) (run_addIi 3 _ _ _ rfl ((k : Nat) : Int) 1 ((k + 1 : Nat) : Int) rfl rfl (by omega) (by omega) (by omega) _) ?_
          refine nr ?_; intro U h; simp only [z0, z1] at h; subst h
          refine s_val 12 rfl rfl (.int .i64 ((k + 1 : Nat) : Int)) (rfl) ?_
          refine nr ?_; intro U h; simp only [z0, z1] at h; subst h
          refine wpList_nil ?_
          refine then_n ?_
          have hhc1s := cnt_step (fun y => decide (kc s y < kc s ((lin (kc 0) s l).getD i 0))) (lin (kc 0) s l) k hkl
          rw [if_pos (by exact hc1)] at hhc1s
          have hhc2s := cnt_step (fun y => decide (kl s y < kl s ((lin (kc 0) s l).getD i 0))) (lin (kc 0) s l) k hkl
          rw [if_neg (by exact fun h => Bool.false_ne_true (hc2.symm.trans h))] at hhc2s
          exact ⟨_, (by omega : (lin (kc 0) s l).length - (k + 1) < (lin (kc 0) s l).length - k), k + 1, r + 1, f, (fun kz => ([.int .i64 ((k : Nat) : Int), .slice ao1 ((lin (kc 0) s l).length) cap1, .int .i64 (((lin (kc 0) s l).length : Nat) : Int), .bool true, .int .i64 ((k : Nat) : Int), .int .i64 ((k + 1 : Nat) : Int), .slice ao1 ((lin (kc 0) s l).length) cap1, .int .i64 ((k : Nat) : Int), .pointer (pA ao1 k), .agg (idA ((lin (kc 0) s l).getD k 0)), .agg (idA s), .agg (idA (subN ((lin (kc 0) s l).getD k 0) s)), .slice ao1 ((lin (kc 0) s l).length) cap1, .int .i64 ((i : Nat) : Int), .pointer (pA ao1 i), .agg (idA ((lin (kc 0) s l).getD i 0)), .agg (idA s), .agg (idA (subN ((lin (kc 0) s l).getD i 0) s)), .bool true, .int .i64 ((r : Nat) : Int), .int .i64 ((r + 1 : Nat) : Int), .agg (idA s), .slice ao1 ((lin (kc 0) s l).length) cap1, .int .i64 ((k : Nat) : Int), .pointer (pA ao1 k), .agg (idA ((lin (kc 0) s l).getD k 0)), .agg (idA (subN s ((lin (kc 0) s l).getD k 0))), .agg (idA s), .slice ao1 ((lin (kc 0) s l).length) cap1, .int .i64 ((i : Nat) : Int), .pointer (pA ao1 i), .agg (idA ((lin (kc 0) s l).getD i 0)), .agg (idA (subN s ((lin (kc 0) s l).getD i 0))), .bool false, us2 34, us2 35] : List Value).getD kz undef), rfl, rfl, hkl, (by omega), (by omega), (by omega), (by omega), GG, kg1, HR1, HO, hBw⟩
        · refine wp_region_exA (A := ?Ax22) 11 [(0, 43), (1, 44), (2, 45), (3, 46), (4, 47), (5, 48), (6, 49), (7, 50), (8, 51), (9, 52), (10, 53)] [.val (.agg (idA s)), .val (.slice ao1 ((lin (kc 0) s l).length) cap1), .val (.int .i64 ((k : Nat) : Int)), .val (.pointer (pA ao1 k)), .val (.agg (idA ((lin (kc 0) s l).getD k 0))), .val (.agg (idA (subN s ((lin (kc 0) s l).getD k 0)))), .val (.agg (idA s)), .val (.slice ao1 ((lin (kc 0) s l).length) cap1), .val (.int .i64 ((i : Nat) : Int)), .val (.pointer (pA ao1 i)), .val (.agg (idA ((lin (kc 0) s l).getD i 0)))] follows (by kernel_rfl) rfl ?hAx22 (opsA_cons ?o0x22 (opsA_cons ?o1x22 (opsA_cons ?o2x22 (opsA_cons ?o3x22 (opsA_cons ?o4x22 (opsA_cons ?o5x22 (opsA_cons ?o6x22 (opsA_cons ?o7x22 (opsA_cons ?o8x22 (opsA_cons ?o9x22 (opsA_cons ?o10x22 opsA_nil))))))))))) ?restx22
          case hAx22 =>
            intro ptrs
            simp only [full, foldSlots, filledE, postE, List.foldl_cons, List.foldl_nil, List.getD_cons_zero, List.getD_cons_succ, fill_val, List.set_cons_zero, List.set_cons_succ]
            exact rfl
          case o0x22 => exact fun _ _ hw _ => opE_value (v := .agg (idA s)) rfl (run_ldB _ rfl g1 _ rfl (hw.has kg1))
          case o1x22 => exact fun _ _ _ _ => opE_move (v := .slice ao1 ((lin (kc 0) s l).length) cap1) _ rfl rfl rfl
          case o2x22 => exact fun _ _ _ _ => opE_move (v := .int .i64 ((k : Nat) : Int)) _ rfl rfl rfl
          case o3x22 => exact fun _ _ hw _ => opE_value (v := .pointer (pA ao1 k)) rfl (run_ixI (HR1.gro ((Gro.refl _).drew.trans hw)) _ _ rfl rfl k rfl hkl)
          case o4x22 => exact fun _ _ hw _ => opE_value (v := .agg (idA ((lin (kc 0) s l).getD k 0))) rfl (run_ldI (HR1.gro ((Gro.refl _).drew.trans hw)) _ rfl k rfl hkl)
          case o5x22 =>
            intro ptrs w' hw hE
            exact opE_call (.val (.agg (idA (subN s ((lin (kc 0) s l).getD k 0))))) rfl _ 44 Try.call44 rfl rfl _ rfl [.agg (idA s), .agg (idA ((lin (kc 0) s l).getD k 0))] rfl ((refsub_any s ((lin (kc 0) s l).getD k 0) hs (HR1.at hkl) _).mono fun e w' ⟨he, hg⟩ => ⟨_, he, hg, rfl⟩)
          case o6x22 => exact fun _ _ hw _ => opE_value (v := .agg (idA s)) rfl (run_ldB _ rfl g1 _ rfl (hw.has kg1))
          case o7x22 => exact fun _ _ _ _ => opE_move (v := .slice ao1 ((lin (kc 0) s l).length) cap1) _ rfl rfl rfl
          case o8x22 => exact fun _ _ _ _ => opE_move (v := .int .i64 ((i : Nat) : Int)) _ rfl rfl rfl
          case o9x22 => exact fun _ _ hw _ => opE_value (v := .pointer (pA ao1 i)) rfl (run_ixI (HR1.gro ((Gro.refl _).drew.trans hw)) _ _ rfl rfl i rfl hil)
          case o10x22 => exact fun _ _ hw _ => opE_value (v := .agg (idA ((lin (kc 0) s l).getD i 0))) rfl (run_ldI (HR1.gro ((Gro.refl _).drew.trans hw)) _ rfl i rfl hil)
          intro ptrs w6 GD hxE
          simp only [List.drop_succ_cons, List.drop_zero]
          replace kg1 := GD.has kg1
          replace HR1 := HR1.gro ((Gro.refl _).drew.trans GD)
          replace HO := HO.gro ((Gro.refl _).drew.trans GD)
          replace hBw := hBw.gro ((Gro.refl _).drew.trans GD)
          replace GG := GG.drew.trans GD
          clear GD
          refine s_callv 54 rfl rfl _ 44 Try.call44 rfl rfl _ rfl [.agg (idA s), .agg (idA ((lin (kc 0) s l).getD i 0))] rfl (refsub_any s ((lin (kc 0) s l).getD i 0) hs (HR1.at hil) _) ?_
          intro w7 G
          replace kg1 := G.has kg1
          replace HR1 := HR1.gro G
          replace HO := HO.gro G
          replace hBw := hBw.gro G
          replace GG := GG.trans G
          clear G
          refine nr ?_; intro U h; simp only [z0, z1] at h; subst h
          refine s_callv 55 rfl rfl _ 43 Try.call43 rfl rfl _ rfl [.agg (idA (subN s ((lin (kc 0) s l).getD k 0))), .agg (idA (subN s ((lin (kc 0) s l).getD i 0)))] rfl (Calls.boolW (less_any (subN s ((lin (kc 0) s l).getD k 0)) (subN s ((lin (kc 0) s l).getD i 0)) (subN_lt _ _) (subN_lt _ _) _) hc2) ?_
          intro w8 G
          replace kg1 := G.has kg1
          replace HR1 := HR1.gro G
          replace HO := HO.gro G
          replace hBw := hBw.gro G
          replace GG := GG.trans G
          clear G
          refine nr ?_; intro U h; simp only [z0, z1] at h; subst h
          refine wpList_nil ?_
          refine then_n ?_
          refine wp_cond_true rfl ?_
          refine wp_region_lit ?_
          refine s_val 56 rfl rfl (.int .i64 ((f : Nat) : Int)) (rfl) ?_
          refine nr ?_; intro U h; simp only [z0, z1] at h; subst h
          refine s_val 57 rfl rfl (.int .i64 ((f + 1 : Nat) : Int)) (run_addIi 3 _ _ _ rfl ((f : Nat) : Int) 1 ((f + 1 : Nat) : Int) rfl rfl (by omega) (by omega) (by omega) _) ?_
          refine nr ?_; intro U h; simp only [z0, z1] at h; subst h
          refine s_val 11 rfl rfl (.int .i64 ((f + 1 : Nat) : Int)) (rfl) ?_
          refine nr ?_; intro U h; simp only [z0, z1] at h; subst h
          refine wpList_nil ?_
          refine blk_n ?_
          refine then_n ?_
          refine wp_region_lit ?_
          refine s_val 26 rfl rfl (.int .i64 ((k : Nat) : Int)) (rfl) ?_
          refine nr ?_; intro U h; simp only [z0, z1] at h; subst h
          refine s_val 27 rfl rfl (.int .i64 ((k + 1 : Nat) : Int)) (run_addIi 3 _ _ _ rfl ((k : Nat) : Int) 1 ((k + 1 : Nat) : Int) rfl rfl (by omega) (by omega) (by omega) _) ?_
          refine nr ?_; intro U h; simp only [z0, z1] at h; subst h
          refine s_val 12 rfl rfl (.int .i64 ((k + 1 : Nat) : Int)) (rfl) ?_
          refine nr ?_; intro U h; simp only [z0, z1] at h; subst h
          refine wpList_nil ?_
          refine then_n ?_
          have hhc1s := cnt_step (fun y => decide (kc s y < kc s ((lin (kc 0) s l).getD i 0))) (lin (kc 0) s l) k hkl
          rw [if_pos (by exact hc1)] at hhc1s
          have hhc2s := cnt_step (fun y => decide (kl s y < kl s ((lin (kc 0) s l).getD i 0))) (lin (kc 0) s l) k hkl
          rw [if_pos (by exact hc2)] at hhc2s
          exact ⟨_, (by omega : (lin (kc 0) s l).length - (k + 1) < (lin (kc 0) s l).length - k), k + 1, r + 1, f + 1, (fun kz => ([.int .i64 ((k : Nat) : Int), .slice ao1 ((lin (kc 0) s l).length) cap1, .int .i64 (((lin (kc 0) s l).length : Nat) : Int), .bool true, .int .i64 ((k : Nat) : Int), .int .i64 ((k + 1 : Nat) : Int), .slice ao1 ((lin (kc 0) s l).length) cap1, .int .i64 ((k : Nat) : Int), .pointer (pA ao1 k), .agg (idA ((lin (kc 0) s l).getD k 0)), .agg (idA s), .agg (idA (subN ((lin (kc 0) s l).getD k 0) s)), .slice ao1 ((lin (kc 0) s l).length) cap1, .int .i64 ((i : Nat) : Int), .pointer (pA ao1 i), .agg (idA ((lin (kc 0) s l).getD i 0)), .agg (idA s), .agg (idA (subN ((lin (kc 0) s l).getD i 0) s)), .bool true, .int .i64 ((r : Nat) : Int), .int .i64 ((r + 1 : Nat) : Int), .agg (idA s), .slice ao1 ((lin (kc 0) s l).length) cap1, .int .i64 ((k : Nat) : Int), .pointer (pA ao1 k), .agg (idA ((lin (kc 0) s l).getD k 0)), .agg (idA (subN s ((lin (kc 0) s l).getD k 0))), .agg (idA s), .slice ao1 ((lin (kc 0) s l).length) cap1, .int .i64 ((i : Nat) : Int), .pointer (pA ao1 i), .agg (idA ((lin (kc 0) s l).getD i 0)), .agg (idA (subN s ((lin (kc 0) s l).getD i 0))), .bool true, .int .i64 ((f : Nat) : Int), .int .i64 ((f + 1 : Nat) : Int)] : List Value).getD kz undef), rfl, rfl, hkl, (by omega), (by omega), (by omega), (by omega), GG, kg1, HR1, HO, hBw⟩
end Go.Proofs.Ytjahegiopigblaa
