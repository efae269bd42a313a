/- Cuts; whether a node runs; whether two are linked; which are, by pairs. -/
import Derived.Test.YtmjblbgalkjmiaaGreatBE1
namespace Go.Proofs.YtmjblbgalkjmiaaGreat
open Go.RowKit
def zET : Value := .agg ((idA 0).toList ++ (Value.int .i64 0 :: ((idA 0).toList ++ ((idA 0).toList ++ [.int .i64 0, .int .i64 0])))).toArray
theorem rET : RowT Tryz.prog 59 29 51 72 zET := ⟨Tryz.underlying59, info_of (by kernel_rfl), by kernel_rfl, by decide⟩
theorem rBY : RowT Tryz.prog 91 81 1 24 (.slice none 0 0) := ⟨Tryz.underlying91, info_of (by kernel_rfl), rfl, by decide⟩
/-! ### Links -/
def mxq (p q : Bool) (M : Nat → Nat → Bool) (a b : Nat) : Nat → Nat → Bool := bif q then setH (bif p then setH M a b true else M) b a true else (bif p then setH M a b true else M)
theorem mxq_1 (q : Bool) (M : Nat → Nat → Bool) (a b : Nat) : setH (mxq false q M a b) a b true = mxq true q M a b := by
  cases q
  · rfl
  · funext x y
    simp only [mxq, setH, cond]
    by_cases h1 : x = a ∧ y = b <;> by_cases h2 : x = b ∧ y = a <;> simp [h1, h2]
theorem mxq_2 (p : Bool) (M : Nat → Nat → Bool) (a b : Nat) : setH (mxq p false M a b) b a true = mxq p true M a b := by cases p <;> rfl
theorem mxq_at (M : Nat → Nat → Bool) (a b x y : Nat) : mxq true true M a b x y = true ↔ (x = a ∧ y = b) ∨ (x = b ∧ y = a) ∨ M x y = true := by
  simp only [mxq, setH, cond]
  by_cases h1 : x = a ∧ y = b <;> by_cases h2 : x = b ∧ y = a <;> simp [h1, h2]
theorem mxq_sym {M : Nat → Nat → Bool} (a b : Nat) (h : ∀ x y, M x y = M y x) : ∀ x y, mxq true true M a b x y = mxq true true M a b y x := fun x y => by
  rw [Bool.eq_iff_iff, mxq_at, mxq_at, h x y]
  constructor
  · rintro (⟨h1, h2⟩ | ⟨h1, h2⟩ | h1)
    · exact .inr (.inl ⟨h2, h1⟩)
    · exact .inl ⟨h2, h1⟩
    · exact .inr (.inr h1)
  · rintro (⟨h1, h2⟩ | ⟨h1, h2⟩ | h1)
    · exact .inr (.inl ⟨h2, h1⟩)
    · exact .inl ⟨h2, h1⟩
    · exact .inr (.inr h1)
set_option maxRecDepth 100000 in
set_option maxHeartbeats 4000000 in
theorem cutv_any (ao : Option Addr) (n cap m : Nat) (h : n ≤ cap) (w : World) : Calls Tryz.prog 38 #[.slice ao n cap, .int .i64 ((m : Nat) : Int)] w (fun e w' => e = .returned (.slice ao (min n m) (min n m)) ∧ Gro w w') := by
  refine s_enter Tryz.func38 rfl Tryz.ntmps38 [.slice ao n cap, .int .i64 ((m : Nat) : Int)] [.slice ao n cap, .int .i64 ((m : Nat) : Int), undef, undef, undef, undef, undef, undef, undef, undef, undef, undef, undef, undef, undef] rfl ?_
  have GG := Gro.refl w
  refine wp_seq ?_
  refine wp_region_lit ?_
  refine s_val 4 rfl rfl (.slice none 0 0) (rfl) ?_
  refine nr ?_; intro U h; simp only [z0, z1] at h; subst h
  refine wpList_nil ?_
  refine then_n ?_
  refine wp_seq ?_
  refine wp_region_lit ?_
  refine s_val 5 rfl rfl (.slice ao n cap) (rfl) ?_
  refine nr ?_; intro U h; simp only [z0, z1] at h; subst h
  refine s_val 6 rfl rfl (.slice ao n cap) (rfl) ?_
  refine nr ?_; intro U h; simp only [z0, z1] at h; subst h
  refine s_val 7 rfl rfl (.int .i64 ((n : Nat) : Int)) (run_len Tryz.underlying22 _ rfl _ _ _ rfl _) ?_
  refine nr ?_; intro U h; simp only [z0, z1] at h; subst h
  refine s_val 8 rfl rfl (.int .i64 ((m : Nat) : Int)) (rfl) ?_
  refine nr ?_; intro U h; simp only [z0, z1] at h; subst h
  refine s_val 9 rfl rfl (.int .i64 ((min n m : Nat) : Int)) (run_minN _ _ _ rfl n m rfl rfl _) ?_
  refine nr ?_; intro U h; simp only [z0, z1] at h; subst h
  refine s_val 10 rfl rfl (.slice ao n cap) (rfl) ?_
  refine nr ?_; intro U h; simp only [z0, z1] at h; subst h
  refine s_val 11 rfl rfl (.int .i64 ((n : Nat) : Int)) (run_len Tryz.underlying22 _ rfl _ _ _ rfl _) ?_
  refine nr ?_; intro U h; simp only [z0, z1] at h; subst h
  refine s_val 12 rfl rfl (.int .i64 ((m : Nat) : Int)) (rfl) ?_
  refine nr ?_; intro U h; simp only [z0, z1] at h; subst h
  refine s_val 13 rfl rfl (.int .i64 ((min n m : Nat) : Int)) (run_minN _ _ _ rfl n m rfl rfl _) ?_
  refine nr ?_; intro U h; simp only [z0, z1] at h; subst h
  refine s_val 14 rfl rfl (.slice ao (min n m) (min n m)) (run_cut3Xi rvw22 _ _ _ rfl ao n cap _ rfl rfl rfl (by omega) _) ?_
  refine nr ?_; intro U h; simp only [z0, z1] at h; subst h
  refine s_val 4 rfl rfl (.slice ao (min n m) (min n m)) (rfl) ?_
  refine nr ?_; intro U h; simp only [z0, z1] at h; subst h
  refine wpList_nil ?_
  refine then_n ?_
  refine wp_ret ?_
  refine bodyPost_ret (results_tmp Tryz.results38 _ _ _) rfl ?_
  exact ⟨rfl, GG⟩
set_option maxRecDepth 100000 in
set_option maxHeartbeats 4000000 in
theorem cute_any (ao : Option Addr) (n cap m : Nat) (h : n ≤ cap) (w : World) : Calls Tryz.prog 39 #[.slice ao n cap, .int .i64 ((m : Nat) : Int)] w (fun e w' => e = .returned (.slice ao (min n m) (min n m)) ∧ Gro w w') := by
  refine s_enter Tryz.func39 rfl Tryz.ntmps39 [.slice ao n cap, .int .i64 ((m : Nat) : Int)] [.slice ao n cap, .int .i64 ((m : Nat) : Int), undef, undef, undef, undef, undef, undef, undef, undef, undef, undef, undef, undef, undef] rfl ?_
  have GG := Gro.refl w
  refine wp_seq ?_
  refine wp_region_lit ?_
  refine s_val 4 rfl rfl (.slice none 0 0) (rfl) ?_
  refine nr ?_; intro U h; simp only [z0, z1] at h; subst h
  refine wpList_nil ?_
  refine then_n ?_
  refine wp_seq ?_
  refine wp_region_lit ?_
  refine s_val 5 rfl rfl (.slice ao n cap) (rfl) ?_
  refine nr ?_; intro U h; simp only [z0, z1] at h; subst h
  refine s_val 6 rfl rfl (.slice ao n cap) (rfl) ?_
  refine nr ?_; intro U h; simp only [z0, z1] at h; subst h
  refine s_val 7 rfl rfl (.int .i64 ((n : Nat) : Int)) (run_len Tryz.underlying59 _ rfl _ _ _ rfl _) ?_
  refine nr ?_; intro U h; simp only [z0, z1] at h; subst h
  refine s_val 8 rfl rfl (.int .i64 ((m : Nat) : Int)) (rfl) ?_
  refine nr ?_; intro U h; simp only [z0, z1] at h; subst h
  refine s_val 9 rfl rfl (.int .i64 ((min n m : Nat) : Int)) (run_minN _ _ _ rfl n m rfl rfl _) ?_
  refine nr ?_; intro U h; simp only [z0, z1] at h; subst h
  refine s_val 10 rfl rfl (.slice ao n cap) (rfl) ?_
  refine nr ?_; intro U h; simp only [z0, z1] at h; subst h
  refine s_val 11 rfl rfl (.int .i64 ((n : Nat) : Int)) (run_len Tryz.underlying59 _ rfl _ _ _ rfl _) ?_
  refine nr ?_; intro U h; simp only [z0, z1] at h; subst h
  refine s_val 12 rfl rfl (.int .i64 ((m : Nat) : Int)) (rfl) ?_
  refine nr ?_; intro U h; simp only [z0, z1] at h; subst h
  refine s_val 13 rfl rfl (.int .i64 ((min n m : Nat) : Int)) (run_minN _ _ _ rfl n m rfl rfl _) ?_
  refine nr ?_; intro U h; simp only [z0, z1] at h; subst h
  refine s_val 14 rfl rfl (.slice ao (min n m) (min n m)) (run_cut3Xi rET _ _ _ rfl ao n cap _ rfl rfl rfl (by omega) _) ?_
  refine nr ?_; intro U h; simp only [z0, z1] at h; subst h
  refine s_val 4 rfl rfl (.slice ao (min n m) (min n m)) (rfl) ?_
  refine nr ?_; intro U h; simp only [z0, z1] at h; subst h
  refine wpList_nil ?_
  refine then_n ?_
  refine wp_ret ?_
  refine bodyPost_ret (results_tmp Tryz.results39 _ _ _) rfl ?_
  exact ⟨rfl, GG⟩
set_option maxRecDepth 100000 in
set_option maxHeartbeats 4000000 in
theorem cutn_any (ao : Option Addr) (n cap m : Nat) (h : n ≤ cap) (w : World) : Calls Tryz.prog 40 #[.slice ao n cap, .int .i64 ((m : Nat) : Int)] w (fun e w' => e = .returned (.slice ao (min n m) (min n m)) ∧ Gro w w') := by
  refine s_enter Tryz.func40 rfl Tryz.ntmps40 [.slice ao n cap, .int .i64 ((m : Nat) : Int)] [.slice ao n cap, .int .i64 ((m : Nat) : Int), undef, undef, undef, undef, undef, undef, undef, undef, undef, undef, undef, undef, undef] rfl ?_
  have GG := Gro.refl w
  refine wp_seq ?_
  refine wp_region_lit ?_
  refine s_val 4 rfl rfl (.slice none 0 0) (rfl) ?_
  refine nr ?_; intro U h; simp only [z0, z1] at h; subst h
  refine wpList_nil ?_
  refine then_n ?_
  refine wp_seq ?_
  refine wp_region_lit ?_
  refine s_val 5 rfl rfl (.slice ao n cap) (rfl) ?_
  refine nr ?_; intro U h; simp only [z0, z1] at h; subst h
  refine s_val 6 rfl rfl (.slice ao n cap) (rfl) ?_
  refine nr ?_; intro U h; simp only [z0, z1] at h; subst h
  refine s_val 7 rfl rfl (.int .i64 ((n : Nat) : Int)) (run_len Tryz.underlying61 _ rfl _ _ _ rfl _) ?_
  refine nr ?_; intro U h; simp only [z0, z1] at h; subst h
  refine s_val 8 rfl rfl (.int .i64 ((m : Nat) : Int)) (rfl) ?_
  refine nr ?_; intro U h; simp only [z0, z1] at h; subst h
  refine s_val 9 rfl rfl (.int .i64 ((min n m : Nat) : Int)) (run_minN _ _ _ rfl n m rfl rfl _) ?_
  refine nr ?_; intro U h; simp only [z0, z1] at h; subst h
  refine s_val 10 rfl rfl (.slice ao n cap) (rfl) ?_
  refine nr ?_; intro U h; simp only [z0, z1] at h; subst h
  refine s_val 11 rfl rfl (.int .i64 ((n : Nat) : Int)) (run_len Tryz.underlying61 _ rfl _ _ _ rfl _) ?_
  refine nr ?_; intro U h; simp only [z0, z1] at h; subst h
  refine s_val 12 rfl rfl (.int .i64 ((m : Nat) : Int)) (rfl) ?_
  refine nr ?_; intro U h; simp only [z0, z1] at h; subst h
  refine s_val 13 rfl rfl (.int .i64 ((min n m : Nat) : Int)) (run_minN _ _ _ rfl n m rfl rfl _) ?_
  refine nr ?_; intro U h; simp only [z0, z1] at h; subst h
  refine s_val 14 rfl rfl (.slice ao (min n m) (min n m)) (run_cut3Xi ren61 _ _ _ rfl ao n cap _ rfl rfl rfl (by omega) _) ?_
  refine nr ?_; intro U h; simp only [z0, z1] at h; subst h
  refine s_val 4 rfl rfl (.slice ao (min n m) (min n m)) (rfl) ?_
  refine nr ?_; intro U h; simp only [z0, z1] at h; subst h
  refine wpList_nil ?_
  refine then_n ?_
  refine wp_ret ?_
  refine bodyPost_ret (results_tmp Tryz.results40 _ _ _) rfl ?_
  exact ⟨rfl, GG⟩
set_option maxRecDepth 100000 in
set_option maxHeartbeats 4000000 in
theorem cutb_any (ao : Option Addr) (n cap m : Nat) (h : n ≤ cap) (w : World) : Calls Tryz.prog 41 #[.slice ao n cap, .int .i64 ((m : Nat) : Int)] w (fun e w' => e = .returned (.slice ao (min n m) (min n m)) ∧ Gro w w') := by
  refine s_enter Tryz.func41 rfl Tryz.ntmps41 [.slice ao n cap, .int .i64 ((m : Nat) : Int)] [.slice ao n cap, .int .i64 ((m : Nat) : Int), undef, undef, undef, undef, undef, undef, undef, undef, undef, undef, undef, undef, undef] rfl ?_
  have GG := Gro.refl w
  refine wp_seq ?_
  refine wp_region_lit ?_
  refine s_val 4 rfl rfl (.slice none 0 0) (rfl) ?_
  refine nr ?_; intro U h; simp only [z0, z1] at h; subst h
  refine wpList_nil ?_
  refine then_n ?_
  refine wp_seq ?_
  refine wp_region_lit ?_
  refine s_val 5 rfl rfl (.slice ao n cap) (rfl) ?_
  refine nr ?_; intro U h; simp only [z0, z1] at h; subst h
  refine s_val 6 rfl rfl (.slice ao n cap) (rfl) ?_
  refine nr ?_; intro U h; simp only [z0, z1] at h; subst h
  refine s_val 7 rfl rfl (.int .i64 ((n : Nat) : Int)) (run_len Tryz.underlying91 _ rfl _ _ _ rfl _) ?_
  refine nr ?_; intro U h; simp only [z0, z1] at h; subst h
  refine s_val 8 rfl rfl (.int .i64 ((m : Nat) : Int)) (rfl) ?_
  refine nr ?_; intro U h; simp only [z0, z1] at h; subst h
  refine s_val 9 rfl rfl (.int .i64 ((min n m : Nat) : Int)) (run_minN _ _ _ rfl n m rfl rfl _) ?_
  refine nr ?_; intro U h; simp only [z0, z1] at h; subst h
  refine s_val 10 rfl rfl (.slice ao n cap) (rfl) ?_
  refine nr ?_; intro U h; simp only [z0, z1] at h; subst h
  refine s_val 11 rfl rfl (.int .i64 ((n : Nat) : Int)) (run_len Tryz.underlying91 _ rfl _ _ _ rfl _) ?_
  refine nr ?_; intro U h; simp only [z0, z1] at h; subst h
  refine s_val 12 rfl rfl (.int .i64 ((m : Nat) : Int)) (rfl) ?_
  refine nr ?_; intro U h; simp only [z0, z1] at h; subst h
  refine s_val 13 rfl rfl (.int .i64 ((min n m : Nat) : Int)) (run_minN _ _ _ rfl n m rfl rfl _) ?_
  refine nr ?_; intro U h; simp only [z0, z1] at h; subst h
  refine s_val 14 rfl rfl (.slice ao (min n m) (min n m)) (run_cut3Xi rBY _ _ _ rfl ao n cap _ rfl rfl rfl (by omega) _) ?_
  refine nr ?_; intro U h; simp only [z0, z1] at h; subst h
  refine s_val 4 rfl rfl (.slice ao (min n m) (min n m)) (rfl) ?_
  refine nr ?_; intro U h; simp only [z0, z1] at h; subst h
  refine wpList_nil ?_
  refine then_n ?_
  refine wp_ret ?_
  refine bodyPost_ret (results_tmp Tryz.results41 _ _ _) rfl ?_
  exact ⟨rfl, GG⟩
set_option maxRecDepth 100000 in
set_option maxHeartbeats 4000000 in
theorem runs_any (ao : Option Addr) (cap : Nat) (l : List VW) (b : Nat) (w : World) (HL : RK kvw w ao cap l) (hb : b < l.length) : Calls Tryz.prog 54 #[.slice ao l.length cap, .int .i64 ((b : Nat) : Int)] w (fun e w' => e = .returned (.bool (l.getD b zW).up) ∧ Gro w w') := by
  refine s_enter Tryz.func54 rfl Tryz.ntmps54 [.slice ao l.length cap, .int .i64 ((b : Nat) : Int)] [.slice ao l.length cap, .int .i64 ((b : Nat) : Int), undef, undef, undef, undef, undef, undef, undef, undef, undef, undef, undef, undef, undef, undef, undef, undef, undef, undef] rfl ?_
  have GG := Gro.refl w
  have t1 : decide ((0 : Int) ≤ ((b : Nat) : Int)) = true := decide_eq_true (by omega)
  have t2 : decide (((b : Nat) : Int) < ((l.length : Nat) : Int)) = true := decide_eq_true (by omega)
  refine wp_seq ?_
  refine wp_region_lit ?_
  refine s_val 4 rfl rfl (.bool false) (rfl) ?_
  refine nr ?_; intro U h; simp only [z0, z1] at h; subst h
  refine wpList_nil ?_
  refine then_n ?_
  refine wp_seq ?_
  refine wp_region_opq ?_
  intro OPS hY
  have y2 := hY 2 7 rfl
  have y8 := hY 8 13 rfl
  clear hY
  refine s_val 5 rfl rfl (.int .i64 ((b : Nat) : Int)) (rfl) ?_
  refine nr ?_; intro U h; simp only [z0, z1] at h; subst h
  refine s_val 6 rfl rfl (.bool true) (run_leqT 3 _ _ _ rfl 0 ((b : Nat) : Int) rfl rfl true t1 _) ?_
  refine nr ?_; intro U h; simp only [z0, z1] at h; subst h
  refine s_val 7 rfl rfl (.bool true) (rfl) ?_
  refine nr ?_; intro U h; simp only [z0, z1] at h; subst h
  refine s_gvalY 8 rfl rfl y2 rfl (.int .i64 ((b : Nat) : Int)) (rfl) ?_
  refine nr ?_; intro U h; simp only [z0, z1] at h; subst h
  refine s_gvalY 9 rfl rfl y2 rfl (.slice ao l.length cap) (rfl) ?_
  refine nr ?_; intro U h; simp only [z0, z1] at h; subst h
  refine s_gvalY 10 rfl rfl y2 rfl (.int .i64 ((l.length : Nat) : Int)) (run_len Tryz.underlying22 _ rfl _ _ _ rfl _) ?_
  refine nr ?_; intro U h; simp only [z0, z1] at h; subst h
  refine s_gvalY 11 rfl rfl y2 rfl (.bool true) (run_lssT 3 _ _ _ rfl ((b : Nat) : Int) ((l.length : Nat) : Int) rfl rfl true t2 _) ?_
  refine nr ?_; intro U h; simp only [z0, z1] at h; subst h
  refine s_val 12 rfl rfl (.bool true) (rfl) ?_
  refine nr ?_; intro U h; simp only [z0, z1] at h; subst h
  refine s_val 13 rfl rfl (.bool true) (rfl) ?_
  refine nr ?_; intro U h; simp only [z0, z1] at h; subst h
  refine s_gvalY 14 rfl rfl y8 rfl (.slice ao l.length cap) (rfl) ?_
  refine nr ?_; intro U h; simp only [z0, z1] at h; subst h
  refine s_gvalY 15 rfl rfl y8 rfl (.int .i64 ((b : Nat) : Int)) (rfl) ?_
  refine nr ?_; intro U h; simp only [z0, z1] at h; subst h
  refine s_gvalY 16 rfl rfl y8 rfl (.pointer (pK kvw ao b 0)) (run_ixK rvw22 ((HL.gro GG)) _ _ rfl rfl b rfl (by omega)) ?_
  refine nr ?_; intro U h; simp only [z0, z1] at h; subst h
  refine s_gvalY 17 rfl rfl y8 rfl (.pointer (pK kvw ao b 0)) (run_fdK ((HL.gro GG)) 63 _ 0 0 (fdvw_0 _) rfl b rfl (by omega)) ?_
  refine nr ?_; intro U h; simp only [z0, z1] at h; subst h
  refine s_gvalY 18 rfl rfl y8 rfl (.bool (l.getD b zW).up) (rldVwu ((HL.gro GG)) _ rfl b rfl (by omega)) ?_
  refine nr ?_; intro U h; simp only [z0, z1] at h; subst h
  refine s_val 19 rfl rfl (.bool (l.getD b zW).up) (rfl) ?_
  refine nr ?_; intro U h; simp only [z0, z1] at h; subst h
  refine s_val 4 rfl rfl (.bool (l.getD b zW).up) (rfl) ?_
  refine nr ?_; intro U h; simp only [z0, z1] at h; subst h
  refine wpList_nil ?_
  refine then_n ?_
  refine wp_ret ?_
  refine bodyPost_ret (results_tmp Tryz.results54 _ _ _) rfl ?_
  exact ⟨rfl, GG⟩
set_option maxRecDepth 100000 in
set_option maxHeartbeats 4000000 in
theorem on_any (M : Nat → Nat → Bool) (a b : Nat) (w : World) (ha : a < 6) (hb : b < 6) : Calls Tryz.prog 22 #[.agg (mxA M), .int .i64 ((a : Nat) : Int), .int .i64 ((b : Nat) : Int)] w (fun e w' => e = .returned (.bool (M a b)) ∧ Gro w w') := by
  refine s_enter Tryz.func22 rfl Tryz.ntmps22 [.agg (mxA M), .int .i64 ((a : Nat) : Int), .int .i64 ((b : Nat) : Int)] [.agg (mxA M), .int .i64 ((a : Nat) : Int), .int .i64 ((b : Nat) : Int), undef, undef, undef, undef, undef, undef, undef, undef, undef, undef, undef, undef, undef, undef, undef, undef, undef, undef, undef, undef, undef, undef, undef, undef, undef] rfl ?_
  have GG := Gro.refl w
  have t1 : decide ((0 : Int) ≤ ((a : Nat) : Int)) = true := decide_eq_true (by omega)
  have t2 : decide ((0 : Int) ≤ ((b : Nat) : Int)) = true := decide_eq_true (by omega)
  have t3 : decide (((a : Nat) : Int) < 6) = true := decide_eq_true (by omega)
  have t4 : decide (((b : Nat) : Int) < 6) = true := decide_eq_true (by omega)
  refine wp_seq ?_
  refine wp_region_lit ?_
  refine s_box 3 rfl rfl 46 _ rfl _ rfl (mxA M) rfl ?_
  intro w1 g1 G eg1 kg1
  have bg1 := size_base GG eg1
  replace GG := GG.trans G
  clear G
  clear eg1
  refine nr ?_; intro U h; simp only [z0, z1] at h; subst h
  refine s_val 6 rfl rfl (.bool false) (rfl) ?_
  refine nr ?_; intro U h; simp only [z0, z1] at h; subst h
  refine wpList_nil ?_
  refine then_n ?_
  refine wp_seq ?_
  refine wp_region_opq ?_
  intro OPS hY
  have y2 := hY 2 9 rfl
  have y6 := hY 6 13 rfl
  have y10 := hY 10 17 rfl
  have y14 := hY 14 21 rfl
  clear hY
  refine s_val 7 rfl rfl (.int .i64 ((a : Nat) : Int)) (rfl) ?_
  refine nr ?_; intro U h; simp only [z0, z1] at h; subst h
  refine s_val 8 rfl rfl (.bool true) (run_geqT 3 _ _ _ rfl ((a : Nat) : Int) 0 rfl rfl true t1 _) ?_
  refine nr ?_; intro U h; simp only [z0, z1] at h; subst h
  refine s_val 9 rfl rfl (.bool true) (rfl) ?_
  refine nr ?_; intro U h; simp only [z0, z1] at h; subst h
  refine s_gvalY 10 rfl rfl y2 rfl (.int .i64 ((b : Nat) : Int)) (rfl) ?_
  refine nr ?_; intro U h; simp only [z0, z1] at h; subst h
  refine s_gvalY 11 rfl rfl y2 rfl (.bool true) (run_geqT 3 _ _ _ rfl ((b : Nat) : Int) 0 rfl rfl true t2 _) ?_
  refine nr ?_; intro U h; simp only [z0, z1] at h; subst h
  refine s_val 12 rfl rfl (.bool true) (rfl) ?_
  refine nr ?_; intro U h; simp only [z0, z1] at h; subst h
  refine s_val 13 rfl rfl (.bool true) (rfl) ?_
  refine nr ?_; intro U h; simp only [z0, z1] at h; subst h
  refine s_gvalY 14 rfl rfl y6 rfl (.int .i64 ((a : Nat) : Int)) (rfl) ?_
  refine nr ?_; intro U h; simp only [z0, z1] at h; subst h
  refine s_gvalY 15 rfl rfl y6 rfl (.bool true) (run_lssT 3 _ _ _ rfl ((a : Nat) : Int) 6 rfl rfl true t3 _) ?_
  refine nr ?_; intro U h; simp only [z0, z1] at h; subst h
  refine s_val 16 rfl rfl (.bool true) (rfl) ?_
  refine nr ?_; intro U h; simp only [z0, z1] at h; subst h
  refine s_val 17 rfl rfl (.bool true) (rfl) ?_
  refine nr ?_; intro U h; simp only [z0, z1] at h; subst h
  refine s_gvalY 18 rfl rfl y10 rfl (.int .i64 ((b : Nat) : Int)) (rfl) ?_
  refine nr ?_; intro U h; simp only [z0, z1] at h; subst h
  refine s_gvalY 19 rfl rfl y10 rfl (.bool true) (run_lssT 3 _ _ _ rfl ((b : Nat) : Int) 6 rfl rfl true t4 _) ?_
  refine nr ?_; intro U h; simp only [z0, z1] at h; subst h
  refine s_val 20 rfl rfl (.bool true) (rfl) ?_
  refine nr ?_; intro U h; simp only [z0, z1] at h; subst h
  refine s_val 21 rfl rfl (.bool true) (rfl) ?_
  refine nr ?_; intro U h; simp only [z0, z1] at h; subst h
  refine s_gvalY 22 rfl rfl y14 rfl (.int .i64 ((a : Nat) : Int)) (rfl) ?_
  refine nr ?_; intro U h; simp only [z0, z1] at h; subst h
  refine s_gvalY 23 rfl rfl y14 rfl (.int .i64 ((b : Nat) : Int)) (rfl) ?_
  refine nr ?_; intro U h; simp only [z0, z1] at h; subst h
  refine s_gvalY 24 rfl rfl y14 rfl (.pointer (some ⟨g1, a * 6, none⟩)) (run_ia46 _ _ rfl g1 a rfl rfl (by omega) _) ?_
  refine nr ?_; intro U h; simp only [z0, z1] at h; subst h
  refine s_gvalY 25 rfl rfl y14 rfl (.pointer (some ⟨g1, a * 6 + b, none⟩)) (run_ia44 _ _ rfl g1 (a * 6) b rfl rfl (by omega) _) ?_
  refine nr ?_; intro U h; simp only [z0, z1] at h; subst h
  refine s_gvalY 26 rfl rfl y14 rfl (.bool (M a b)) (ldMb _ rfl g1 a b rfl (by omega) (by omega) (kg1) _ rfl) ?_
  refine nr ?_; intro U h; simp only [z0, z1] at h; subst h
  refine s_val 27 rfl rfl (.bool (M a b)) (rfl) ?_
  refine nr ?_; intro U h; simp only [z0, z1] at h; subst h
  refine s_val 6 rfl rfl (.bool (M a b)) (rfl) ?_
  refine nr ?_; intro U h; simp only [z0, z1] at h; subst h
  refine wpList_nil ?_
  refine then_n ?_
  refine wp_ret ?_
  refine bodyPost_ret (results_tmp Tryz.results22 _ _ _) rfl ?_
  exact ⟨rfl, GG⟩
set_option maxRecDepth 100000 in
set_option maxHeartbeats 4000000 in
theorem links_any (ap : Option Addr) (cp : Nat) (Lk : List (Int × Int)) (w : World) (HP : RK kP w ap cp Lk) (hll : Lk.length ≤ 9223372036854775807) : Calls Tryz.prog 20 #[.slice ap Lk.length cp] w (fun e w' => ∃ M, e = .returned (.agg (mxA M)) ∧ Gro w w' ∧ ∀ x y, M x y = M y x) := by
  refine s_enter Tryz.func20 rfl Tryz.ntmps20 [.slice ap Lk.length cp] [.slice ap Lk.length cp, undef, undef, undef, undef, undef, undef, undef, undef, undef, undef, undef, undef, undef, undef, undef, undef, undef, undef, undef, undef, undef, undef, undef, undef, undef, undef, undef, undef, undef, undef, undef, undef, undef, undef, undef, undef, undef, undef, undef, undef, undef, undef, undef] rfl ?_
  have GG := Gro.refl w
  refine wp_seq ?_
  refine wp_region_lit ?_
  refine s_alloc 2 rfl rfl 46 rfl _ zeroM (mxA mx0) rfl ?_
  intro w1 g2 G eg2 kg2
  have bg2 := size_base GG eg2
  replace GG := GG.trans G
  clear G
  clear eg2
  refine nr ?_; intro U h; simp only [z0, z1] at h; subst h
  refine wpList_nil ?_
  refine then_n ?_
  refine wp_seq ?_
  refine wp_region_lit ?_
  refine s_alloc 3 rfl rfl 46 rfl _ zeroM (mxA mx0) rfl ?_
  intro w2 g3 G eg3 kg3
  have bg3 := size_base GG eg3
  have dg2g3 := lt_new kg2 eg3
  replace kg2 := G.has kg2
  replace GG := GG.trans G
  clear G
  clear eg3
  refine nr ?_; intro U h; simp only [z0, z1] at h; subst h
  refine wpList_nil ?_
  refine then_n ?_
  refine wp_seq ?_
  refine wp_seq ?_
  refine wp_region_lit ?_
  refine s_val 6 rfl rfl (.slice ap Lk.length cp) (rfl) ?_
  refine nr ?_; intro U h; simp only [z0, z1] at h; subst h
  refine s_val 7 rfl rfl (.int .i64 ((Lk.length : Nat) : Int)) (run_len Tryz.underlying43 _ rfl _ _ _ rfl _) ?_
  refine nr ?_; intro U h; simp only [z0, z1] at h; subst h
  refine s_val 8 rfl rfl (.int .i64 0) (rfl) ?_
  refine nr ?_; intro U h; simp only [z0, z1] at h; subst h
  refine wpList_nil ?_
  refine then_n ?_
  refine wp_block ?_
  refine wp_loopN (fun mz az wv => ∃ (q : Nat) (M : Nat → Nat → Bool) (us1 : Nat → Value), mz = Lk.length - q ∧ az = ⟨[.slice ap Lk.length cp, undef, .pointer (some ⟨g2, 0, none⟩), .pointer (some ⟨g3, 0, none⟩), undef, us1 0, .slice ap Lk.length cp, .int .i64 ((Lk.length : Nat) : Int), .int .i64 ((q : Nat) : Int), us1 1, us1 2, us1 3, us1 4, us1 5, us1 6, us1 7, us1 8, us1 9, us1 10, us1 11, us1 12, us1 13, us1 14, us1 15, us1 16, us1 17, us1 18, us1 19, us1 20, us1 21, us1 22, us1 23, us1 24, us1 25, us1 26, us1 27, us1 28, us1 29, us1 30, us1 31, us1 32, us1 33, us1 34, undef].toArray, []⟩ ∧ Gro w wv ∧ wv.heap[g2]? = some (.cells (mxA mx0) 46 (0, 0)) ∧ wv.heap[g3]? = some (.cells (mxA M) 46 (0, 0)) ∧ q ≤ Lk.length ∧ (∀ x y, M x y = M y x)) ?_ _ ⟨0, mx0, (fun kz => ([undef, undef, undef, undef, undef, undef, undef, undef, undef, undef, undef, undef, undef, undef, undef, undef, undef, undef, undef, undef, undef, undef, undef, undef, undef, undef, undef, undef, undef, undef, undef, undef, undef, undef, undef] : List Value).getD kz undef), rfl, rfl, GG, kg2, kg3, Nat.zero_le _, fun _ _ => rfl⟩
  clear GG kg2 kg3
  rintro mz az wv ⟨q, M, us1, rfl, rfl, GG, kg2, kg3, hq, hM⟩
  refine wp_seq ?_
  cases hq1 : decide (((q : Nat) : Int) < ((Lk.length : Nat) : Int))
  · have hq1e : q = Lk.length := by have := of_decide_eq_false hq1; omega
    refine wp_region_lit ?_
    refine s_val 9 rfl rfl (.bool false) (run_lssT 3 _ _ _ rfl ((q : Nat) : Int) ((Lk.length : Nat) : Int) rfl rfl false hq1 _) ?_
    refine nr ?_; intro U h; simp only [z0, z1] at h; subst h
    refine wpList_nil ?_
    refine then_n ?_
    refine wp_seq ?_
    refine wp_cond_false rfl ?_
    refine wp_exit ?_
    refine then_x ?_
    refine then_x ?_
    refine blk_x ?_
    refine then_n ?_
    refine wp_seq ?_
    refine wp_region_lit ?_
    refine s_val 43 rfl rfl (.agg (mxA M)) (ldM0 _ rfl g3 rfl (kg3)) ?_
    refine nr ?_; intro U h; simp only [z0, z1] at h; subst h
    refine s_store rfl rfl 46 _ _ rfl g2 0 rfl (.agg (mxA M)) rfl 46 _ kg2 (mxA M) rfl (siM' _) (mxA_fit _ _) (mxA_one _) (mxA M) (splice_whole _ _ (mxA_sz _ _)) ?_
    intro w3 St
    replace kg3 := St.has (by omega) kg3
    replace GG := GG.store St bg2
    replace kg2 := St.new
    clear St
    refine wpList_nil ?_
    refine then_n ?_
    refine wp_ret ?_
    refine bodyPost_ret (results_cell_row Tryz.results20 _ _ g2 46 _ (0, 0) _ rfl kg2 Tryz.underlying46 rfl (siM' _)) rfl ?_
    exact ⟨M, rfl, GG, hM⟩
  · have hq1l : q < Lk.length := by have := of_decide_eq_true hq1; omega
    refine wp_region_lit ?_
    refine s_val 9 rfl rfl (.bool true) (run_lssT 3 _ _ _ rfl ((q : Nat) : Int) ((Lk.length : Nat) : Int) rfl rfl true hq1 _) ?_
    refine nr ?_; intro U h; simp only [z0, z1] at h; subst h
    refine wpList_nil ?_
    refine then_n ?_
    refine wp_seq ?_
    refine wp_cond_true rfl ?_
    refine wp_skip ?_
    refine then_n ?_
    refine wp_seq ?_
    refine wp_block ?_
    refine wp_seq ?_
    refine wp_region_lit ?_
    refine s_val 10 rfl rfl (.pointer (pK kP ap q 0)) (run_ixK rP ((HP.gro GG)) _ _ rfl rfl q rfl hq1l) ?_
    refine nr ?_; intro U h; simp only [z0, z1] at h; subst h
    refine s_val 11 rfl rfl (.agg (prA (Lk.getD q (0, 0)))) (run_ld_kP ((HP.gro GG)) _ rfl q rfl hq1l) ?_
    refine nr ?_; intro U h; simp only [z0, z1] at h; subst h
    refine s_alloc 5 rfl rfl 23 rfl _ zeroP (prA ((0, 0) : Int × Int)) rfl ?_
    intro w3 g5 G eg5 kg5
    have bg5 := size_base GG eg5
    have dg2g5 := lt_new kg2 eg5
    have dg3g5 := lt_new kg3 eg5
    replace kg2 := G.has kg2
    replace kg3 := G.has kg3
    replace GG := GG.trans G
    clear G
    clear eg5
    refine nr ?_; intro U h; simp only [z0, z1] at h; subst h
    refine s_store rfl rfl 23 _ _ rfl g5 0 rfl (.agg (prA (Lk.getD q (0, 0)))) rfl 23 _ kg5 (prA (Lk.getD q (0, 0))) rfl (siP' _) (prA_fit _ _) (prA_one _) (prA (Lk.getD q (0, 0))) (splice_whole _ _ (prA_sz _ _)) ?_
    intro w4 St
    replace kg2 := St.has (by omega) kg2
    replace kg3 := St.has (by omega) kg3
    replace GG := GG.store St bg5
    replace kg5 := St.new
    clear St
    refine wpList_nil ?_
    refine then_n ?_
    refine wp_seq ?_
    cases p1 : decide (0 ≤ (Lk.getD q (0, 0)).1)
    · refine wp_region_opq ?_
      intro OPS hY
      have y3 := hY 3 15 rfl
      have y8 := hY 8 20 rfl
      have y13 := hY 13 25 rfl
      clear hY
      refine s_val 12 rfl rfl (.pointer (some ⟨g5, 0, none⟩)) (run_ia23 _ _ rfl g5 0 0 rfl rfl (by decide) _) ?_
      refine nr ?_; intro U h; simp only [z0, z1] at h; subst h
      refine s_val 13 rfl rfl (.int .i64 (Lk.getD q (0, 0)).1) (ldPa _ rfl g5 rfl (kg5)) ?_
      refine nr ?_; intro U h; simp only [z0, z1] at h; subst h
      refine s_val 14 rfl rfl (.bool false) (run_geqT 3 _ _ _ rfl (Lk.getD q (0, 0)).1 0 rfl rfl false p1 _) ?_
      refine nr ?_; intro U h; simp only [z0, z1] at h; subst h
      refine s_val 15 rfl rfl (.bool false) (rfl) ?_
      refine nr ?_; intro U h; simp only [z0, z1] at h; subst h
      refine s_skipY 16 rfl rfl y3 rfl ?_
      refine nr ?_; intro U h; simp only [z0, z1] at h; subst h
      refine s_skipY 17 rfl rfl y3 rfl ?_
      refine nr ?_; intro U h; simp only [z0, z1] at h; subst h
      refine s_skipY 18 rfl rfl y3 rfl ?_
      refine nr ?_; intro U h; simp only [z0, z1] at h; subst h
      refine s_val 19 rfl rfl (.bool false) (rfl) ?_
      refine nr ?_; intro U h; simp only [z0, z1] at h; subst h
      refine s_val 20 rfl rfl (.bool false) (rfl) ?_
      refine nr ?_; intro U h; simp only [z0, z1] at h; subst h
      refine s_skipY 21 rfl rfl y8 rfl ?_
      refine nr ?_; intro U h; simp only [z0, z1] at h; subst h
      refine s_skipY 22 rfl rfl y8 rfl ?_
      refine nr ?_; intro U h; simp only [z0, z1] at h; subst h
      refine s_skipY 23 rfl rfl y8 rfl ?_
      refine nr ?_; intro U h; simp only [z0, z1] at h; subst h
      refine s_val 24 rfl rfl (.bool false) (rfl) ?_
      refine nr ?_; intro U h; simp only [z0, z1] at h; subst h
      refine s_val 25 rfl rfl (.bool false) (rfl) ?_
      refine nr ?_; intro U h; simp only [z0, z1] at h; subst h
      refine s_skipY 26 rfl rfl y13 rfl ?_
      refine nr ?_; intro U h; simp only [z0, z1] at h; subst h
      refine s_skipY 27 rfl rfl y13 rfl ?_
      refine nr ?_; intro U h; simp only [z0, z1] at h; subst h
      refine s_skipY 28 rfl rfl y13 rfl ?_
      refine nr ?_; intro U h; simp only [z0, z1] at h; subst h
      refine s_val 29 rfl rfl (.bool false) (rfl) ?_
      refine nr ?_; intro U h; simp only [z0, z1] at h; subst h
      refine wpList_nil ?_
      refine then_n ?_
      refine wp_cond_false rfl ?_
      refine wp_skip ?_
      refine blk_n ?_
      refine then_n ?_
      refine wp_region_lit ?_
      refine s_val 42 rfl rfl (.int .i64 ((q + 1 : Nat) : Int)) (run_addI 3 _ _ _ rfl ((q : Nat) : Int) 1 ((q + 1 : Nat) : Int) rfl rfl (by omega) (by omega) (by omega) _) ?_
      refine nr ?_; intro U h; simp only [z0, z1] at h; subst h
      refine s_val 8 rfl rfl (.int .i64 ((q + 1 : Nat) : Int)) (rfl) ?_
      refine nr ?_; intro U h; simp only [z0, z1] at h; subst h
      refine wpList_nil ?_
      refine then_n ?_
      exact ⟨_, by omega, q + 1, M, (fun kz => ([.pointer (some ⟨g5, 0, none⟩), .bool true, .pointer (pK kP ap q 0), .agg (prA (Lk.getD q (0, 0))), .pointer (some ⟨g5, 0, none⟩), .int .i64 (Lk.getD q (0, 0)).1, .bool false, .bool false, undef, undef, undef, .bool false, .bool false, undef, undef, undef, .bool false, .bool false, undef, undef, undef, .bool false, us1 22, us1 23, us1 24, us1 25, us1 26, us1 27, us1 28, us1 29, us1 30, us1 31, us1 32, us1 33, .int .i64 ((q + 1 : Nat) : Int)] : List Value).getD kz undef), rfl, rfl, GG, kg2, kg3, by omega, hM⟩
    · cases p2 : decide ((Lk.getD q (0, 0)).1 < 6)
      · refine wp_region_opq ?_
        intro OPS hY
        have y3 := hY 3 15 rfl
        have y8 := hY 8 20 rfl
        have y13 := hY 13 25 rfl
        clear hY
        refine s_val 12 rfl rfl (.pointer (some ⟨g5, 0, none⟩)) (run_ia23 _ _ rfl g5 0 0 rfl rfl (by decide) _) ?_
        refine nr ?_; intro U h; simp only [z0, z1] at h; subst h
        refine s_val 13 rfl rfl (.int .i64 (Lk.getD q (0, 0)).1) (ldPa _ rfl g5 rfl (kg5)) ?_
        refine nr ?_; intro U h; simp only [z0, z1] at h; subst h
        refine s_val 14 rfl rfl (.bool true) (run_geqT 3 _ _ _ rfl (Lk.getD q (0, 0)).1 0 rfl rfl true p1 _) ?_
        refine nr ?_; intro U h; simp only [z0, z1] at h; subst h
        refine s_val 15 rfl rfl (.bool true) (rfl) ?_
        refine nr ?_; intro U h; simp only [z0, z1] at h; subst h
        refine s_gvalY 16 rfl rfl y3 rfl (.pointer (some ⟨g5, 0, none⟩)) (run_ia23 _ _ rfl g5 0 0 rfl rfl (by decide) _) ?_
        refine nr ?_; intro U h; simp only [z0, z1] at h; subst h
        refine s_gvalY 17 rfl rfl y3 rfl (.int .i64 (Lk.getD q (0, 0)).1) (ldPa _ rfl g5 rfl (kg5)) ?_
        refine nr ?_; intro U h; simp only [z0, z1] at h; subst h
        refine s_gvalY 18 rfl rfl y3 rfl (.bool false) (run_lssT 3 _ _ _ rfl (Lk.getD q (0, 0)).1 6 rfl rfl false p2 _) ?_
        refine nr ?_; intro U h; simp only [z0, z1] at h; subst h
        refine s_val 19 rfl rfl (.bool false) (rfl) ?_
        refine nr ?_; intro U h; simp only [z0, z1] at h; subst h
        refine s_val 20 rfl rfl (.bool false) (rfl) ?_
        refine nr ?_; intro U h; simp only [z0, z1] at h; subst h
        refine s_skipY 21 rfl rfl y8 rfl ?_
        refine nr ?_; intro U h; simp only [z0, z1] at h; subst h
        refine s_skipY 22 rfl rfl y8 rfl ?_
        refine nr ?_; intro U h; simp only [z0, z1] at h; subst h
        refine s_skipY 23 rfl rfl y8 rfl ?_
        refine nr ?_; intro U h; simp only [z0, z1] at h; subst h
        refine s_val 24 rfl rfl (.bool false) (rfl) ?_
        refine nr ?_; intro U h; simp only [z0, z1] at h; subst h
        refine s_val 25 rfl rfl (.bool false) (rfl) ?_
        refine nr ?_; intro U h; simp only [z0, z1] at h; subst h
        refine s_skipY 26 rfl rfl y13 rfl ?_
        refine nr ?_; intro U h; simp only [z0, z1] at h; subst h
        refine s_skipY 27 rfl rfl y13 rfl ?_
        refine nr ?_; intro U h; simp only [z0, z1] at h; subst h
        refine s_skipY 28 rfl rfl y13 rfl ?_
        refine nr ?_; intro U h; simp only [z0, z1] at h; subst h
        refine s_val 29 rfl rfl (.bool false) (rfl) ?_
        refine nr ?_; intro U h; simp only [z0, z1] at h; subst h
        refine wpList_nil ?_
        refine then_n ?_
        refine wp_cond_false rfl ?_
        refine wp_skip ?_
        refine blk_n ?_
        refine then_n ?_
        refine wp_region_lit ?_
        refine s_val 42 rfl rfl (.int .i64 ((q + 1 : Nat) : Int)) (run_addI 3 _ _ _ rfl ((q : Nat) : Int) 1 ((q + 1 : Nat) : Int) rfl rfl (by omega) (by omega) (by omega) _) ?_
        refine nr ?_; intro U h; simp only [z0, z1] at h; subst h
        refine s_val 8 rfl rfl (.int .i64 ((q + 1 : Nat) : Int)) (rfl) ?_
        refine nr ?_; intro U h; simp only [z0, z1] at h; subst h
        refine wpList_nil ?_
        refine then_n ?_
        exact ⟨_, by omega, q + 1, M, (fun kz => ([.pointer (some ⟨g5, 0, none⟩), .bool true, .pointer (pK kP ap q 0), .agg (prA (Lk.getD q (0, 0))), .pointer (some ⟨g5, 0, none⟩), .int .i64 (Lk.getD q (0, 0)).1, .bool true, .bool true, .pointer (some ⟨g5, 0, none⟩), .int .i64 (Lk.getD q (0, 0)).1, .bool false, .bool false, .bool false, undef, undef, undef, .bool false, .bool false, undef, undef, undef, .bool false, us1 22, us1 23, us1 24, us1 25, us1 26, us1 27, us1 28, us1 29, us1 30, us1 31, us1 32, us1 33, .int .i64 ((q + 1 : Nat) : Int)] : List Value).getD kz undef), rfl, rfl, GG, kg2, kg3, by omega, hM⟩
      · cases p3 : decide (0 ≤ (Lk.getD q (0, 0)).2)
        · refine wp_region_opq ?_
          intro OPS hY
          have y3 := hY 3 15 rfl
          have y8 := hY 8 20 rfl
          have y13 := hY 13 25 rfl
          clear hY
          refine s_val 12 rfl rfl (.pointer (some ⟨g5, 0, none⟩)) (run_ia23 _ _ rfl g5 0 0 rfl rfl (by decide) _) ?_
          refine nr ?_; intro U h; simp only [z0, z1] at h; subst h
          refine s_val 13 rfl rfl (.int .i64 (Lk.getD q (0, 0)).1) (ldPa _ rfl g5 rfl (kg5)) ?_
          refine nr ?_; intro U h; simp only [z0, z1] at h; subst h
          refine s_val 14 rfl rfl (.bool true) (run_geqT 3 _ _ _ rfl (Lk.getD q (0, 0)).1 0 rfl rfl true p1 _) ?_
          refine nr ?_; intro U h; simp only [z0, z1] at h; subst h
          refine s_val 15 rfl rfl (.bool true) (rfl) ?_
          refine nr ?_; intro U h; simp only [z0, z1] at h; subst h
          refine s_gvalY 16 rfl rfl y3 rfl (.pointer (some ⟨g5, 0, none⟩)) (run_ia23 _ _ rfl g5 0 0 rfl rfl (by decide) _) ?_
          refine nr ?_; intro U h; simp only [z0, z1] at h; subst h
          refine s_gvalY 17 rfl rfl y3 rfl (.int .i64 (Lk.getD q (0, 0)).1) (ldPa _ rfl g5 rfl (kg5)) ?_
          refine nr ?_; intro U h; simp only [z0, z1] at h; subst h
          refine s_gvalY 18 rfl rfl y3 rfl (.bool true) (run_lssT 3 _ _ _ rfl (Lk.getD q (0, 0)).1 6 rfl rfl true p2 _) ?_
          refine nr ?_; intro U h; simp only [z0, z1] at h; subst h
          refine s_val 19 rfl rfl (.bool true) (rfl) ?_
          refine nr ?_; intro U h; simp only [z0, z1] at h; subst h
          refine s_val 20 rfl rfl (.bool true) (rfl) ?_
          refine nr ?_; intro U h; simp only [z0, z1] at h; subst h
          refine s_gvalY 21 rfl rfl y8 rfl (.pointer (some ⟨g5, 1, none⟩)) (run_ia23 _ _ rfl g5 0 1 rfl rfl (by decide) _) ?_
          refine nr ?_; intro U h; simp only [z0, z1] at h; subst h
          refine s_gvalY 22 rfl rfl y8 rfl (.int .i64 (Lk.getD q (0, 0)).2) (ldPb _ rfl g5 rfl (kg5)) ?_
          refine nr ?_; intro U h; simp only [z0, z1] at h; subst h
          refine s_gvalY 23 rfl rfl y8 rfl (.bool false) (run_geqT 3 _ _ _ rfl (Lk.getD q (0, 0)).2 0 rfl rfl false p3 _) ?_
          refine nr ?_; intro U h; simp only [z0, z1] at h; subst h
          refine s_val 24 rfl rfl (.bool false) (rfl) ?_
          refine nr ?_; intro U h; simp only [z0, z1] at h; subst h
          refine s_val 25 rfl rfl (.bool false) (rfl) ?_
          refine nr ?_; intro U h; simp only [z0, z1] at h; subst h
          refine s_skipY 26 rfl rfl y13 rfl ?_
          refine nr ?_; intro U h; simp only [z0, z1] at h; subst h
          refine s_skipY 27 rfl rfl y13 rfl ?_
          refine nr ?_; intro U h; simp only [z0, z1] at h; subst h
          refine s_skipY 28 rfl rfl y13 rfl ?_
          refine nr ?_; intro U h; simp only [z0, z1] at h; subst h
          refine s_val 29 rfl rfl (.bool false) (rfl) ?_
          refine nr ?_; intro U h; simp only [z0, z1] at h; subst h
          refine wpList_nil ?_
          refine then_n ?_
          refine wp_cond_false rfl ?_
          refine wp_skip ?_
          refine blk_n ?_
          refine then_n ?_
          refine wp_region_lit ?_
          refine s_val 42 rfl rfl (.int .i64 ((q + 1 : Nat) : Int)) (run_addI 3 _ _ _ rfl ((q : Nat) : Int) 1 ((q + 1 : Nat) : Int) rfl rfl (by omega) (by omega) (by omega) _) ?_
          refine nr ?_; intro U h; simp only [z0, z1] at h; subst h
          refine s_val 8 rfl rfl (.int .i64 ((q + 1 : Nat) : Int)) (rfl) ?_
          refine nr ?_; intro U h; simp only [z0, z1] at h; subst h
          refine wpList_nil ?_
          refine then_n ?_
          exact ⟨_, by omega, q + 1, M, (fun kz => ([.pointer (some ⟨g5, 0, none⟩), .bool true, .pointer (pK kP ap q 0), .agg (prA (Lk.getD q (0, 0))), .pointer (some ⟨g5, 0, none⟩), .int .i64 (Lk.getD q (0, 0)).1, .bool true, .bool true, .pointer (some ⟨g5, 0, none⟩), .int .i64 (Lk.getD q (0, 0)).1, .bool true, .bool true, .bool true, .pointer (some ⟨g5, 1, none⟩), .int .i64 (Lk.getD q (0, 0)).2, .bool false, .bool false, .bool false, undef, undef, undef, .bool false, us1 22, us1 23, us1 24, us1 25, us1 26, us1 27, us1 28, us1 29, us1 30, us1 31, us1 32, us1 33, .int .i64 ((q + 1 : Nat) : Int)] : List Value).getD kz undef), rfl, rfl, GG, kg2, kg3, by omega, hM⟩
        · cases p4 : decide ((Lk.getD q (0, 0)).2 < 6)
          · refine wp_region_opq ?_
            intro OPS hY
            have y3 := hY 3 15 rfl
            have y8 := hY 8 20 rfl
            have y13 := hY 13 25 rfl
            clear hY
            refine s_val 12 rfl rfl (.pointer (some ⟨g5, 0, none⟩)) (run_ia23 _ _ rfl g5 0 0 rfl rfl (by decide) _) ?_
            refine nr ?_; intro U h; simp only [z0, z1] at h; subst h
            refine s_val 13 rfl rfl (.int .i64 (Lk.getD q (0, 0)).1) (ldPa _ rfl g5 rfl (kg5)) ?_
            refine nr ?_; intro U h; simp only [z0, z1] at h; subst h
            refine s_val 14 rfl rfl (.bool true) (run_geqT 3 _ _ _ rfl (Lk.getD q (0, 0)).1 0 rfl rfl true p1 _) ?_
            refine nr ?_; intro U h; simp only [z0, z1] at h; subst h
            refine s_val 15 rfl rfl (.bool true) (rfl) ?_
            refine nr ?_; intro U h; simp only [z0, z1] at h; subst h
            refine s_gvalY 16 rfl rfl y3 rfl (.pointer (some ⟨g5, 0, none⟩)) (run_ia23 _ _ rfl g5 0 0 rfl rfl (by decide) _) ?_
            refine nr ?_; intro U h; simp only [z0, z1] at h; subst h
            refine s_gvalY 17 rfl rfl y3 rfl (.int .i64 (Lk.getD q (0, 0)).1) (ldPa _ rfl g5 rfl (kg5)) ?_
            refine nr ?_; intro U h; simp only [z0, z1] at h; subst h
            refine s_gvalY 18 rfl rfl y3 rfl (.bool true) (run_lssT 3 _ _ _ rfl (Lk.getD q (0, 0)).1 6 rfl rfl true p2 _) ?_
            refine nr ?_; intro U h; simp only [z0, z1] at h; subst h
            refine s_val 19 rfl rfl (.bool true) (rfl) ?_
            refine nr ?_; intro U h; simp only [z0, z1] at h; subst h
            refine s_val 20 rfl rfl (.bool true) (rfl) ?_
            refine nr ?_; intro U h; simp only [z0, z1] at h; subst h
            refine s_gvalY 21 rfl rfl y8 rfl (.pointer (some ⟨g5, 1, none⟩)) (run_ia23 _ _ rfl g5 0 1 rfl rfl (by decide) _) ?_
            refine nr ?_; intro U h; simp only [z0, z1] at h; subst h
            refine s_gvalY 22 rfl rfl y8 rfl (.int .i64 (Lk.getD q (0, 0)).2) (ldPb _ rfl g5 rfl (kg5)) ?_
            refine nr ?_; intro U h; simp only [z0, z1] at h; subst h
            refine s_gvalY 23 rfl rfl y8 rfl (.bool true) (run_geqT 3 _ _ _ rfl (Lk.getD q (0, 0)).2 0 rfl rfl true p3 _) ?_
            refine nr ?_; intro U h; simp only [z0, z1] at h; subst h
            refine s_val 24 rfl rfl (.bool true) (rfl) ?_
            refine nr ?_; intro U h; simp only [z0, z1] at h; subst h
            refine s_val 25 rfl rfl (.bool true) (rfl) ?_
            refine nr ?_; intro U h; simp only [z0, z1] at h; subst h
            refine s_gvalY 26 rfl rfl y13 rfl (.pointer (some ⟨g5, 1, none⟩)) (run_ia23 _ _ rfl g5 0 1 rfl rfl (by decide) _) ?_
            refine nr ?_; intro U h; simp only [z0, z1] at h; subst h
            refine s_gvalY 27 rfl rfl y13 rfl (.int .i64 (Lk.getD q (0, 0)).2) (ldPb _ rfl g5 rfl (kg5)) ?_
            refine nr ?_; intro U h; simp only [z0, z1] at h; subst h
            refine s_gvalY 28 rfl rfl y13 rfl (.bool false) (run_lssT 3 _ _ _ rfl (Lk.getD q (0, 0)).2 6 rfl rfl false p4 _) ?_
            refine nr ?_; intro U h; simp only [z0, z1] at h; subst h
            refine s_val 29 rfl rfl (.bool false) (rfl) ?_
            refine nr ?_; intro U h; simp only [z0, z1] at h; subst h
            refine wpList_nil ?_
            refine then_n ?_
            refine wp_cond_false rfl ?_
            refine wp_skip ?_
            refine blk_n ?_
            refine then_n ?_
            refine wp_region_lit ?_
            refine s_val 42 rfl rfl (.int .i64 ((q + 1 : Nat) : Int)) (run_addI 3 _ _ _ rfl ((q : Nat) : Int) 1 ((q + 1 : Nat) : Int) rfl rfl (by omega) (by omega) (by omega) _) ?_
            refine nr ?_; intro U h; simp only [z0, z1] at h; subst h
            refine s_val 8 rfl rfl (.int .i64 ((q + 1 : Nat) : Int)) (rfl) ?_
            refine nr ?_; intro U h; simp only [z0, z1] at h; subst h
            refine wpList_nil ?_
            refine then_n ?_
            exact ⟨_, by omega, q + 1, M, (fun kz => ([.pointer (some ⟨g5, 0, none⟩), .bool true, .pointer (pK kP ap q 0), .agg (prA (Lk.getD q (0, 0))), .pointer (some ⟨g5, 0, none⟩), .int .i64 (Lk.getD q (0, 0)).1, .bool true, .bool true, .pointer (some ⟨g5, 0, none⟩), .int .i64 (Lk.getD q (0, 0)).1, .bool true, .bool true, .bool true, .pointer (some ⟨g5, 1, none⟩), .int .i64 (Lk.getD q (0, 0)).2, .bool true, .bool true, .bool true, .pointer (some ⟨g5, 1, none⟩), .int .i64 (Lk.getD q (0, 0)).2, .bool false, .bool false, us1 22, us1 23, us1 24, us1 25, us1 26, us1 27, us1 28, us1 29, us1 30, us1 31, us1 32, us1 33, .int .i64 ((q + 1 : Nat) : Int)] : List Value).getD kz undef), rfl, rfl, GG, kg2, kg3, by omega, hM⟩
          · obtain ⟨pa, hpa⟩ : ∃ pa : Nat, (Lk.getD q (0, 0)).1 = (pa : Int) := ⟨_, (Int.toNat_of_nonneg (of_decide_eq_true p1)).symm⟩
            obtain ⟨pb, hpb⟩ : ∃ pb : Nat, (Lk.getD q (0, 0)).2 = (pb : Int) := ⟨_, (Int.toNat_of_nonneg (of_decide_eq_true p3)).symm⟩
            have hpa6 : pa < 6 := by have := of_decide_eq_true p2; omega
            have hpb6 : pb < 6 := by have := of_decide_eq_true p4; omega
            refine wp_region_opq ?_
            intro OPS hY
            have y3 := hY 3 15 rfl
            have y8 := hY 8 20 rfl
            have y13 := hY 13 25 rfl
            clear hY
            refine s_val 12 rfl rfl (.pointer (some ⟨g5, 0, none⟩)) (run_ia23 _ _ rfl g5 0 0 rfl rfl (by decide) _) ?_
            refine nr ?_; intro U h; simp only [z0, z1] at h; subst h
            refine s_val 13 rfl rfl (.int .i64 (Lk.getD q (0, 0)).1) (ldPa _ rfl g5 rfl (kg5)) ?_
            refine nr ?_; intro U h; simp only [z0, z1] at h; subst h
            refine s_val 14 rfl rfl (.bool true) (run_geqT 3 _ _ _ rfl (Lk.getD q (0, 0)).1 0 rfl rfl true p1 _) ?_
            refine nr ?_; intro U h; simp only [z0, z1] at h; subst h
            refine s_val 15 rfl rfl (.bool true) (rfl) ?_
            refine nr ?_; intro U h; simp only [z0, z1] at h; subst h
            refine s_gvalY 16 rfl rfl y3 rfl (.pointer (some ⟨g5, 0, none⟩)) (run_ia23 _ _ rfl g5 0 0 rfl rfl (by decide) _) ?_
            refine nr ?_; intro U h; simp only [z0, z1] at h; subst h
            refine s_gvalY 17 rfl rfl y3 rfl (.int .i64 (Lk.getD q (0, 0)).1) (ldPa _ rfl g5 rfl (kg5)) ?_
            refine nr ?_; intro U h; simp only [z0, z1] at h; subst h
            refine s_gvalY 18 rfl rfl y3 rfl (.bool true) (run_lssT 3 _ _ _ rfl (Lk.getD q (0, 0)).1 6 rfl rfl true p2 _) ?_
            refine nr ?_; intro U h; simp only [z0, z1] at h; subst h
            refine s_val 19 rfl rfl (.bool true) (rfl) ?_
            refine nr ?_; intro U h; simp only [z0, z1] at h; subst h
            refine s_val 20 rfl rfl (.bool true) (rfl) ?_
            refine nr ?_; intro U h; simp only [z0, z1] at h; subst h
            refine s_gvalY 21 rfl rfl y8 rfl (.pointer (some ⟨g5, 1, none⟩)) (run_ia23 _ _ rfl g5 0 1 rfl rfl (by decide) _) ?_
            refine nr ?_; intro U h; simp only [z0, z1] at h; subst h
            refine s_gvalY 22 rfl rfl y8 rfl (.int .i64 (Lk.getD q (0, 0)).2) (ldPb _ rfl g5 rfl (kg5)) ?_
            refine nr ?_; intro U h; simp only [z0, z1] at h; subst h
            refine s_gvalY 23 rfl rfl y8 rfl (.bool true) (run_geqT 3 _ _ _ rfl (Lk.getD q (0, 0)).2 0 rfl rfl true p3 _) ?_
            refine nr ?_; intro U h; simp only [z0, z1] at h; subst h
            refine s_val 24 rfl rfl (.bool true) (rfl) ?_
            refine nr ?_; intro U h; simp only [z0, z1] at h; subst h
            refine s_val 25 rfl rfl (.bool true) (rfl) ?_
            refine nr ?_; intro U h; simp only [z0, z1] at h; subst h
            refine s_gvalY 26 rfl rfl y13 rfl (.pointer (some ⟨g5, 1, none⟩)) (run_ia23 _ _ rfl g5 0 1 rfl rfl (by decide) _) ?_
            refine nr ?_; intro U h; simp only [z0, z1] at h; subst h
            refine s_gvalY 27 rfl rfl y13 rfl (.int .i64 (Lk.getD q (0, 0)).2) (ldPb _ rfl g5 rfl (kg5)) ?_
            refine nr ?_; intro U h; simp only [z0, z1] at h; subst h
            refine s_gvalY 28 rfl rfl y13 rfl (.bool true) (run_lssT 3 _ _ _ rfl (Lk.getD q (0, 0)).2 6 rfl rfl true p4 _) ?_
            refine nr ?_; intro U h; simp only [z0, z1] at h; subst h
            refine s_val 29 rfl rfl (.bool true) (rfl) ?_
            refine nr ?_; intro U h; simp only [z0, z1] at h; subst h
            refine wpList_nil ?_
            refine then_n ?_
            refine wp_cond_true rfl ?_
            refine wp_region_pm (A := ?Ax1) (fun L x => Gro w x ∧ x.heap[g2]? = some (.cells (mxA mx0) 46 (0, 0)) ∧ x.heap[g3]? = some (.cells (mxA (mxq (L 10) (L 13) M pa pb)) 46 (0, 0)) ∧ x.heap[g5]? = some (.cells (prA (Lk.getD q (0, 0))) 23 (0, 0))) 14 [(0, 30), (1, 31), (2, 32), (3, 33), (4, 34), (5, 35), (6, 36), (7, 37), (8, 38), (9, 39), (11, 40), (12, 41)] [.val (.pointer (some ⟨g5, 0, none⟩)), .val (.int .i64 (Lk.getD q (0, 0)).1), .val (.pointer (some ⟨g5, 1, none⟩)), .val (.int .i64 (Lk.getD q (0, 0)).2), .val (.pointer (some ⟨g5, 1, none⟩)), .val (.int .i64 (Lk.getD q (0, 0)).2), .val (.pointer (some ⟨g5, 0, none⟩)), .val (.int .i64 (Lk.getD q (0, 0)).1), .val (.pointer (some ⟨g3, pa * 6, none⟩)), .val (.pointer (some ⟨g3, pa * 6 + pb, none⟩)), .val undef, .val (.pointer (some ⟨g3, pb * 6, none⟩)), .val (.pointer (some ⟨g3, pb * 6 + pa, none⟩)), .val undef] [] [] follows (by kernel_rfl) rfl (by kernel_rfl) (by decide) ⟨GG.drew, (Gro.refl _).drew.has kg2, (Gro.refl _).drew.has kg3, (Gro.refl _).drew.has kg5⟩ ?hAx1 (opsM_w ?o0x1 (opsM_w ?o1x1 (opsM_w ?o2x1 (opsM_w ?o3x1 (opsM_w ?o4x1 (opsM_w ?o5x1 (opsM_w ?o6x1 (opsM_w ?o7x1 (opsM_w ?o8x1 (opsM_w ?o9x1 (opsM_w ?o10x1 (opsM_w ?o11x1 (opsM_w ?o12x1 (opsM_w ?o13x1 opsM_nil)))))))))))))) ?restx1
            case hAx1 =>
              intro ptrs
              simp only [full, foldSlots, filledE, postE, List.foldl_cons, List.foldl_nil, List.getD_cons_zero, List.getD_cons_succ, fill_val, List.set_cons_zero, List.set_cons_succ]
              exact rfl
            case o0x1 => exact fun L ptrs x hx _ _ _ _ => opX_val (v := .pointer (some ⟨g5, 0, none⟩)) rfl (run_ia23 _ _ rfl g5 0 0 rfl rfl (by decide) _) ⟨hx, StM.vals [0, 1, 2, 3, 4, 5, 6, 7, 8, 9, 10, 11, 12, 13] (by kernel_rfl) ⟨⟨_, rfl⟩, ⟨_, rfl⟩, ⟨_, rfl⟩, ⟨_, rfl⟩, ⟨_, rfl⟩, ⟨_, rfl⟩, ⟨_, rfl⟩, ⟨_, rfl⟩, ⟨_, rfl⟩, ⟨_, rfl⟩, ⟨_, rfl⟩, ⟨_, rfl⟩, ⟨_, rfl⟩, ⟨_, rfl⟩, trivial⟩⟩ rfl
            case o1x1 =>
              intro L ptrs x hx _ _ _ _
              have hx2 := hx
              obtain ⟨GG, kg2, kg3, kg5⟩ := hx2
              exact opX_val (v := .int .i64 (Lk.getD q (0, 0)).1) rfl (ldPa _ rfl g5 rfl (kg5)) ⟨hx, StM.vals [0, 1, 2, 3, 4, 5, 6, 7, 8, 9, 10, 11, 12, 13] (by kernel_rfl) ⟨⟨_, rfl⟩, ⟨_, rfl⟩, ⟨_, rfl⟩, ⟨_, rfl⟩, ⟨_, rfl⟩, ⟨_, rfl⟩, ⟨_, rfl⟩, ⟨_, rfl⟩, ⟨_, rfl⟩, ⟨_, rfl⟩, ⟨_, rfl⟩, ⟨_, rfl⟩, ⟨_, rfl⟩, ⟨_, rfl⟩, trivial⟩⟩ rfl
            case o2x1 => exact fun L ptrs x hx _ _ _ _ => opX_val (v := .pointer (some ⟨g5, 1, none⟩)) rfl (run_ia23 _ _ rfl g5 0 1 rfl rfl (by decide) _) ⟨hx, StM.vals [0, 1, 2, 3, 4, 5, 6, 7, 8, 9, 10, 11, 12, 13] (by kernel_rfl) ⟨⟨_, rfl⟩, ⟨_, rfl⟩, ⟨_, rfl⟩, ⟨_, rfl⟩, ⟨_, rfl⟩, ⟨_, rfl⟩, ⟨_, rfl⟩, ⟨_, rfl⟩, ⟨_, rfl⟩, ⟨_, rfl⟩, ⟨_, rfl⟩, ⟨_, rfl⟩, ⟨_, rfl⟩, ⟨_, rfl⟩, trivial⟩⟩ rfl
            case o3x1 =>
              intro L ptrs x hx _ _ _ _
              have hx2 := hx
              obtain ⟨GG, kg2, kg3, kg5⟩ := hx2
              exact opX_val (v := .int .i64 (Lk.getD q (0, 0)).2) rfl (ldPb _ rfl g5 rfl (kg5)) ⟨hx, StM.vals [0, 1, 2, 3, 4, 5, 6, 7, 8, 9, 10, 11, 12, 13] (by kernel_rfl) ⟨⟨_, rfl⟩, ⟨_, rfl⟩, ⟨_, rfl⟩, ⟨_, rfl⟩, ⟨_, rfl⟩, ⟨_, rfl⟩, ⟨_, rfl⟩, ⟨_, rfl⟩, ⟨_, rfl⟩, ⟨_, rfl⟩, ⟨_, rfl⟩, ⟨_, rfl⟩, ⟨_, rfl⟩, ⟨_, rfl⟩, trivial⟩⟩ rfl
            case o4x1 => exact fun L ptrs x hx _ _ _ _ => opX_val (v := .pointer (some ⟨g5, 1, none⟩)) rfl (run_ia23 _ _ rfl g5 0 1 rfl rfl (by decide) _) ⟨hx, StM.vals [0, 1, 2, 3, 4, 5, 6, 7, 8, 9, 10, 11, 12, 13] (by kernel_rfl) ⟨⟨_, rfl⟩, ⟨_, rfl⟩, ⟨_, rfl⟩, ⟨_, rfl⟩, ⟨_, rfl⟩, ⟨_, rfl⟩, ⟨_, rfl⟩, ⟨_, rfl⟩, ⟨_, rfl⟩, ⟨_, rfl⟩, ⟨_, rfl⟩, ⟨_, rfl⟩, ⟨_, rfl⟩, ⟨_, rfl⟩, trivial⟩⟩ rfl
            case o5x1 =>
              intro L ptrs x hx _ _ _ _
              have hx2 := hx
              obtain ⟨GG, kg2, kg3, kg5⟩ := hx2
              exact opX_val (v := .int .i64 (Lk.getD q (0, 0)).2) rfl (ldPb _ rfl g5 rfl (kg5)) ⟨hx, StM.vals [0, 1, 2, 3, 4, 5, 6, 7, 8, 9, 10, 11, 12, 13] (by kernel_rfl) ⟨⟨_, rfl⟩, ⟨_, rfl⟩, ⟨_, rfl⟩, ⟨_, rfl⟩, ⟨_, rfl⟩, ⟨_, rfl⟩, ⟨_, rfl⟩, ⟨_, rfl⟩, ⟨_, rfl⟩, ⟨_, rfl⟩, ⟨_, rfl⟩, ⟨_, rfl⟩, ⟨_, rfl⟩, ⟨_, rfl⟩, trivial⟩⟩ rfl
            case o6x1 => exact fun L ptrs x hx _ _ _ _ => opX_val (v := .pointer (some ⟨g5, 0, none⟩)) rfl (run_ia23 _ _ rfl g5 0 0 rfl rfl (by decide) _) ⟨hx, StM.vals [0, 1, 2, 3, 4, 5, 6, 7, 8, 9, 10, 11, 12, 13] (by kernel_rfl) ⟨⟨_, rfl⟩, ⟨_, rfl⟩, ⟨_, rfl⟩, ⟨_, rfl⟩, ⟨_, rfl⟩, ⟨_, rfl⟩, ⟨_, rfl⟩, ⟨_, rfl⟩, ⟨_, rfl⟩, ⟨_, rfl⟩, ⟨_, rfl⟩, ⟨_, rfl⟩, ⟨_, rfl⟩, ⟨_, rfl⟩, trivial⟩⟩ rfl
            case o7x1 =>
              intro L ptrs x hx _ _ _ _
              have hx2 := hx
              obtain ⟨GG, kg2, kg3, kg5⟩ := hx2
              exact opX_val (v := .int .i64 (Lk.getD q (0, 0)).1) rfl (ldPa _ rfl g5 rfl (kg5)) ⟨hx, StM.vals [0, 1, 2, 3, 4, 5, 6, 7, 8, 9, 10, 11, 12, 13] (by kernel_rfl) ⟨⟨_, rfl⟩, ⟨_, rfl⟩, ⟨_, rfl⟩, ⟨_, rfl⟩, ⟨_, rfl⟩, ⟨_, rfl⟩, ⟨_, rfl⟩, ⟨_, rfl⟩, ⟨_, rfl⟩, ⟨_, rfl⟩, ⟨_, rfl⟩, ⟨_, rfl⟩, ⟨_, rfl⟩, ⟨_, rfl⟩, trivial⟩⟩ rfl
            case o8x1 => exact fun L ptrs x hx _ _ _ _ => opX_val (v := .pointer (some ⟨g3, pa * 6, none⟩)) rfl (run_ia46 _ _ rfl g3 pa rfl (by exact congrArg (Value.int .i64) hpa) (by omega) _) ⟨hx, StM.vals [0, 1, 2, 3, 4, 5, 6, 7, 8, 9, 10, 11, 12, 13] (by kernel_rfl) ⟨⟨_, rfl⟩, ⟨_, rfl⟩, ⟨_, rfl⟩, ⟨_, rfl⟩, ⟨_, rfl⟩, ⟨_, rfl⟩, ⟨_, rfl⟩, ⟨_, rfl⟩, ⟨_, rfl⟩, ⟨_, rfl⟩, ⟨_, rfl⟩, ⟨_, rfl⟩, ⟨_, rfl⟩, ⟨_, rfl⟩, trivial⟩⟩ rfl
            case o9x1 => exact fun L ptrs x hx _ _ _ _ => opX_val (v := .pointer (some ⟨g3, pa * 6 + pb, none⟩)) rfl (run_ia44 _ _ rfl g3 (pa * 6) pb rfl (by exact congrArg (Value.int .i64) hpb) (by omega) _) ⟨hx, StM.vals [0, 1, 2, 3, 4, 5, 6, 7, 8, 9, 10, 11, 12, 13] (by kernel_rfl) ⟨⟨_, rfl⟩, ⟨_, rfl⟩, ⟨_, rfl⟩, ⟨_, rfl⟩, ⟨_, rfl⟩, ⟨_, rfl⟩, ⟨_, rfl⟩, ⟨_, rfl⟩, ⟨_, rfl⟩, ⟨_, rfl⟩, ⟨_, rfl⟩, ⟨_, rfl⟩, ⟨_, rfl⟩, ⟨_, rfl⟩, trivial⟩⟩ rfl
            case o10x1 =>
              intro L ptrs x hx hL _ _ _
              obtain ⟨GG, kg2, kg3, kg5⟩ := hx
              have hL2 : L 10 = false := hL
              rw [hL2] at kg3
              refine opX_store _ rfl 4 _ _ rfl g3 (pa * 6 + pb) rfl (.bool true) rfl 46 _ kg3 #[.bool true] rfl si4 (by rw [mxA_size]; show _ + 1 ≤ 36; omega) (b_one _) (mxA (mxq true (L 13) M pa pb)) ((spM _ _ _ (by omega) (by omega) _).trans (congrArg mxA (mxq_1 _ _ _ _))) ?_
              intro y St
              exact ⟨⟨⟨GG.store St bg3, St.has (by omega) kg2, St.new, St.has (by omega) kg5⟩, StM.vals [0, 1, 2, 3, 4, 5, 6, 7, 8, 9, 10, 11, 12, 13] (by kernel_rfl) ⟨⟨_, rfl⟩, ⟨_, rfl⟩, ⟨_, rfl⟩, ⟨_, rfl⟩, ⟨_, rfl⟩, ⟨_, rfl⟩, ⟨_, rfl⟩, ⟨_, rfl⟩, ⟨_, rfl⟩, ⟨_, rfl⟩, ⟨_, rfl⟩, ⟨_, rfl⟩, ⟨_, rfl⟩, ⟨_, rfl⟩, trivial⟩⟩, rfl⟩
            case o11x1 => exact fun L ptrs x hx _ _ _ _ => opX_val (v := .pointer (some ⟨g3, pb * 6, none⟩)) rfl (run_ia46 _ _ rfl g3 pb rfl (by exact congrArg (Value.int .i64) hpb) (by omega) _) ⟨hx, StM.vals [0, 1, 2, 3, 4, 5, 6, 7, 8, 9, 10, 11, 12, 13] (by kernel_rfl) ⟨⟨_, rfl⟩, ⟨_, rfl⟩, ⟨_, rfl⟩, ⟨_, rfl⟩, ⟨_, rfl⟩, ⟨_, rfl⟩, ⟨_, rfl⟩, ⟨_, rfl⟩, ⟨_, rfl⟩, ⟨_, rfl⟩, ⟨_, rfl⟩, ⟨_, rfl⟩, ⟨_, rfl⟩, ⟨_, rfl⟩, trivial⟩⟩ rfl
            case o12x1 => exact fun L ptrs x hx _ _ _ _ => opX_val (v := .pointer (some ⟨g3, pb * 6 + pa, none⟩)) rfl (run_ia44 _ _ rfl g3 (pb * 6) pa rfl (by exact congrArg (Value.int .i64) hpa) (by omega) _) ⟨hx, StM.vals [0, 1, 2, 3, 4, 5, 6, 7, 8, 9, 10, 11, 12, 13] (by kernel_rfl) ⟨⟨_, rfl⟩, ⟨_, rfl⟩, ⟨_, rfl⟩, ⟨_, rfl⟩, ⟨_, rfl⟩, ⟨_, rfl⟩, ⟨_, rfl⟩, ⟨_, rfl⟩, ⟨_, rfl⟩, ⟨_, rfl⟩, ⟨_, rfl⟩, ⟨_, rfl⟩, ⟨_, rfl⟩, ⟨_, rfl⟩, trivial⟩⟩ rfl
            case o13x1 =>
              intro L ptrs x hx hL _ _ _
              obtain ⟨GG, kg2, kg3, kg5⟩ := hx
              have hL2 : L 13 = false := hL
              rw [hL2] at kg3
              refine opX_store _ rfl 4 _ _ rfl g3 (pb * 6 + pa) rfl (.bool true) rfl 46 _ kg3 #[.bool true] rfl si4 (by rw [mxA_size]; show _ + 1 ≤ 36; omega) (b_one _) (mxA (mxq (L 10) true M pa pb)) ((spM _ _ _ (by omega) (by omega) _).trans (congrArg mxA (mxq_2 _ _ _ _))) ?_
              intro y St
              exact ⟨⟨⟨GG.store St bg3, St.has (by omega) kg2, St.new, St.has (by omega) kg5⟩, StM.vals [0, 1, 2, 3, 4, 5, 6, 7, 8, 9, 10, 11, 12, 13] (by kernel_rfl) ⟨⟨_, rfl⟩, ⟨_, rfl⟩, ⟨_, rfl⟩, ⟨_, rfl⟩, ⟨_, rfl⟩, ⟨_, rfl⟩, ⟨_, rfl⟩, ⟨_, rfl⟩, ⟨_, rfl⟩, ⟨_, rfl⟩, ⟨_, rfl⟩, ⟨_, rfl⟩, ⟨_, rfl⟩, ⟨_, rfl⟩, trivial⟩⟩, rfl⟩
            intro ptrs w5 HJ _
            simp only [List.drop_succ_cons, List.drop_zero]
            clear GG kg2 kg3 kg5
            obtain ⟨GG, kg2, kg3, kg5⟩ := HJ
            replace kg3 : w5.heap[g3]? = some (.cells (mxA (mxq true true M pa pb)) 46 (0, 0)) := kg3
            refine wpList_nil ?_
            refine blk_n ?_
            refine then_n ?_
            refine wp_region_lit ?_
            refine s_val 42 rfl rfl (.int .i64 ((q + 1 : Nat) : Int)) (run_addI 3 _ _ _ rfl ((q : Nat) : Int) 1 ((q + 1 : Nat) : Int) rfl rfl (by omega) (by omega) (by omega) _) ?_
            refine nr ?_; intro U h; simp only [z0, z1] at h; subst h
            refine s_val 8 rfl rfl (.int .i64 ((q + 1 : Nat) : Int)) (rfl) ?_
            refine nr ?_; intro U h; simp only [z0, z1] at h; subst h
            refine wpList_nil ?_
            refine then_n ?_
            exact ⟨_, by omega, q + 1, mxq true true M pa pb, (fun kz => ([.pointer (some ⟨g5, 0, none⟩), .bool true, .pointer (pK kP ap q 0), .agg (prA (Lk.getD q (0, 0))), .pointer (some ⟨g5, 0, none⟩), .int .i64 (Lk.getD q (0, 0)).1, .bool true, .bool true, .pointer (some ⟨g5, 0, none⟩), .int .i64 (Lk.getD q (0, 0)).1, .bool true, .bool true, .bool true, .pointer (some ⟨g5, 1, none⟩), .int .i64 (Lk.getD q (0, 0)).2, .bool true, .bool true, .bool true, .pointer (some ⟨g5, 1, none⟩), .int .i64 (Lk.getD q (0, 0)).2, .bool true, .bool true, .pointer (some ⟨g5, 0, none⟩), .int .i64 (Lk.getD q (0, 0)).1, .pointer (some ⟨g5, 1, none⟩), .int .i64 (Lk.getD q (0, 0)).2, .pointer (some ⟨g5, 1, none⟩), .int .i64 (Lk.getD q (0, 0)).2, .pointer (some ⟨g5, 0, none⟩), .int .i64 (Lk.getD q (0, 0)).1, .pointer (some ⟨g3, pa * 6, none⟩), .pointer (some ⟨g3, pa * 6 + pb, none⟩), .pointer (some ⟨g3, pb * 6, none⟩), .pointer (some ⟨g3, pb * 6 + pa, none⟩), .int .i64 ((q + 1 : Nat) : Int)] : List Value).getD kz undef), rfl, rfl, GG, kg2, kg3, by omega, mxq_sym pa pb hM⟩
end Go.Proofs.YtmjblbgalkjmiaaGreat
