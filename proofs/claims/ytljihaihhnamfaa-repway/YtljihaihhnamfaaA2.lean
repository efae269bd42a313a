/- What counts, what is before what; the best of what is heard. -/
import Derived.Test.YtljihaihhnamfaaA1
namespace Go.Proofs.Ytljihaihhnamfaa
open Go.RowKit

theorem atH {w : World} {ao : Option Addr} {cap : Nat} {l : List Hd} (h : RK kH w ao cap l) {j : Nat} (hj : j < l.length) : (l.getD j zH).ok := h.at hj
theorem atI {w : World} {ao : Option Addr} {cap : Nat} {l : List Nat} (h : RK kI w ao cap l) {j : Nat} (hj : j < l.length) : l.getD j 0 < top := h.at hj
theorem atP {w : World} {ao : Option Addr} {cap : Nat} {l : List (Int × Int)} (h : RK kP w ao cap l) {j : Nat} (hj : j < l.length) : I64 (l.getD j (0, 0)).1 ∧ I64 (l.getD j (0, 0)).2 := h.at hj
theorem two_all {α : Type} {p : α → Prop} {x y : α} (h : p x) (k : p y) : ∀ z ∈ [x, y], p z := fun z hz => by
  simp only [List.mem_cons, List.not_mem_nil, or_false] at hz
  rcases hz with rfl | rfl
  · exact h
  · exact k
theorem take_at {α : Type} (z : α) (l : List α) (i : Nat) (hi : i < l.length) : l.take (i + 1) = l.take i ++ [l.getD i z] := by
  have hg : l.getD i z = l[i] := by simp [List.getD_eq_getElem?_getD, hi]
  rw [List.take_add_one, List.getElem?_eq_getElem hi, Option.toList_some, hg]
theorem cmp_neg (a b : Nat) : decide (cmpN a b < 0) = decide (a < b) := by
  unfold cmpN
  by_cases h : a < b
  · simp [h]
  · by_cases k : b < a <;> simp [h, k]
theorem hdUp_ok {x : Hd} (h : x.ok) (hn : hdNear x) : (hdUp x).ok := ⟨h.n, h.id, by have := hn.2; have := hn.1; unfold hdUp I64; simp only; omega⟩
theorem m1_i64 : I64 (-1) := ⟨by decide, by decide⟩
theorem hdOwn_ok {s : Nat} (h : s < top) : (hdOwn s).ok := ⟨m1_i64, h, I64.z⟩
theorem bestH_ok {s : Nat} {l : List Hd} (hs : s < top) (hl : ∀ x ∈ l, x.ok) : (bestH s l).ok := by
  rcases (bestH_is s l).of with e | ⟨y, hy, hn, e⟩
  · rw [e]; exact hdOwn_ok hs
  · rw [e]; exact hdUp_ok (hl y hy) hn
theorem bestH_take_ok {s : Nat} {l : List Hd} {i : Nat} (hs : s < top) (hl : ∀ x ∈ l, x.ok) : (bestH s (l.take i)).ok := bestH_ok hs fun x hx => hl x (List.mem_of_mem_take hx)
theorem bestH_step {s : Nat} {l : List Hd} {i : Nat} (hi : i < l.length) : bestH s (l.take (i + 1)) = if hdNear (l.getD i zH) ∧ ¬ hdLe (bestH s (l.take i)) (hdUp (l.getD i zH)) then hdUp (l.getD i zH) else bestH s (l.take i) := by
  rw [take_at zH l i hi]
  unfold bestH
  rw [List.foldl_append]
  rfl
theorem best_far {s : Nat} {l : List Hd} {i : Nat} (hi : i < l.length) (h : ¬ hdNear (l.getD i zH)) : bestH s (l.take (i + 1)) = bestH s (l.take i) := by rw [bestH_step hi, if_neg fun c => h c.1]
theorem best_no {s : Nat} {l : List Hd} {i : Nat} (hi : i < l.length) (h : ¬ ¬ hdLe (bestH s (l.take i)) (hdUp (l.getD i zH))) : bestH s (l.take (i + 1)) = bestH s (l.take i) := by rw [bestH_step hi, if_neg fun c => h c.2]
theorem best_yes {s : Nat} {l : List Hd} {i : Nat} (hi : i < l.length) (hn : hdNear (l.getD i zH)) (h : ¬ hdLe (bestH s (l.take i)) (hdUp (l.getD i zH))) : bestH s (l.take (i + 1)) = hdUp (l.getD i zH) := by rw [bestH_step hi, if_pos ⟨hn, h⟩]
theorem bef_1 {a b : Hd} (h1 : a.id ≠ b.id) : decide (a.id < b.id) = decide (¬ hdLe b a) := by
  unfold hdLe
  by_cases h : a.id < b.id
  · rw [decide_eq_true h, decide_eq_true]; omega
  · rw [decide_eq_false h, decide_eq_false]; omega
theorem bef_2 {a b : Hd} (h1 : a.id = b.id) (h2 : a.far ≠ b.far) : decide (a.far < b.far) = decide (¬ hdLe b a) := by
  unfold hdLe
  by_cases h : a.far < b.far
  · rw [decide_eq_true h, decide_eq_true]; omega
  · rw [decide_eq_false h, decide_eq_false]; omega
theorem bef_3 {a b : Hd} (h1 : a.id = b.id) (h2 : a.far = b.far) : decide (a.n < b.n) = decide (¬ hdLe b a) := by
  unfold hdLe
  by_cases h : a.n < b.n
  · rw [decide_eq_true h, decide_eq_true]; omega
  · rw [decide_eq_false h, decide_eq_false]; omega
set_option maxRecDepth 100000 in
set_option maxHeartbeats 4000000 in
theorem counts_any (x : Hd) (w : World) : Calls Try.prog 19 #[.agg (hdA x)] w (fun e w' => e = .returned (.bool (decide (hdNear x))) ∧ Gro w w') := by
  refine s_enter Try.func19 rfl Try.ntmps19 [.agg (hdA x)] [.agg (hdA x), undef, undef, undef, undef, undef, undef, undef, undef, undef, undef] rfl ?_
  have GG := Gro.refl w
  refine wp_seq ?_
  refine wp_region_lit ?_
  refine s_box 1 rfl rfl 26 _ rfl _ rfl (hdA x) rfl ?_
  intro w1 g1 G eg1 kg1
  have bg1 := size_base GG eg1
  replace GG := GG.trans G
  clear G
  clear eg1
  refine nr ?_; intro U h; simp only [z0, z1] at h; subst h
  refine s_val 2 rfl rfl (.bool false) (rfl) ?_
  refine nr ?_; intro U h; simp only [z0, z1] at h; subst h
  refine wpList_nil ?_
  refine then_n ?_
  refine wp_seq ?_
  cases h1 : decide (0 ≤ x.far)
  · cases h2 : decide (x.far < 6)
    · refine wp_region_opq ?_
      intro OPS hY
      have y3 := hY 3 6 rfl
      clear hY
      refine s_val 3 rfl rfl (.pointer (some ⟨g1, 17, none⟩)) (run_fld 26 _ 2 rfl g1 0 rfl 17 (by kernel_rfl)) ?_
      refine nr ?_; intro U h; simp only [z0, z1] at h; subst h
      refine s_val 4 rfl rfl (.int .i64 x.far) (ldHf _ rfl g1 rfl (kg1)) ?_
      refine nr ?_; intro U h; simp only [z0, z1] at h; subst h
      refine s_val 5 rfl rfl (.bool false) (run_leqT 2 _ _ _ rfl 0 x.far rfl rfl false h1 _) ?_
      refine nr ?_; intro U h; simp only [z0, z1] at h; subst h
      refine s_val 6 rfl rfl (.bool false) (rfl) ?_
      refine nr ?_; intro U h; simp only [z0, z1] at h; subst h
      refine s_skipY 7 rfl rfl y3 rfl ?_
      refine nr ?_; intro U h; simp only [z0, z1] at h; subst h
      refine s_skipY 8 rfl rfl y3 rfl ?_
      refine nr ?_; intro U h; simp only [z0, z1] at h; subst h
      refine s_skipY 9 rfl rfl y3 rfl ?_
      refine nr ?_; intro U h; simp only [z0, z1] at h; subst h
      refine s_val 10 rfl rfl (.bool false) (rfl) ?_
      refine nr ?_; intro U h; simp only [z0, z1] at h; subst h
      refine s_val 2 rfl rfl (.bool false) (rfl) ?_
      refine nr ?_; intro U h; simp only [z0, z1] at h; subst h
      refine wpList_nil ?_
      refine then_n ?_
      refine wp_ret ?_
      refine bodyPost_ret (results_tmp Try.results19 _ _ _) rfl ?_
      exact ⟨congrArg (fun b => Ending.returned (.bool b)) (by have h3 := of_decide_eq_false h1; have h4 := of_decide_eq_false h2; symm; exact decide_eq_false fun c => by have := c.1; have := c.2; omega), GG⟩
    · refine wp_region_opq ?_
      intro OPS hY
      have y3 := hY 3 6 rfl
      clear hY
      refine s_val 3 rfl rfl (.pointer (some ⟨g1, 17, none⟩)) (run_fld 26 _ 2 rfl g1 0 rfl 17 (by kernel_rfl)) ?_
      refine nr ?_; intro U h; simp only [z0, z1] at h; subst h
      refine s_val 4 rfl rfl (.int .i64 x.far) (ldHf _ rfl g1 rfl (kg1)) ?_
      refine nr ?_; intro U h; simp only [z0, z1] at h; subst h
      refine s_val 5 rfl rfl (.bool false) (run_leqT 2 _ _ _ rfl 0 x.far rfl rfl false h1 _) ?_
      refine nr ?_; intro U h; simp only [z0, z1] at h; subst h
      refine s_val 6 rfl rfl (.bool false) (rfl) ?_
      refine nr ?_; intro U h; simp only [z0, z1] at h; subst h
      refine s_skipY 7 rfl rfl y3 rfl ?_
      refine nr ?_; intro U h; simp only [z0, z1] at h; subst h
      refine s_skipY 8 rfl rfl y3 rfl ?_
      refine nr ?_; intro U h; simp only [z0, z1] at h; subst h
      refine s_skipY 9 rfl rfl y3 rfl ?_
      refine nr ?_; intro U h; simp only [z0, z1] at h; subst h
      refine s_val 10 rfl rfl (.bool false) (rfl) ?_
      refine nr ?_; intro U h; simp only [z0, z1] at h; subst h
      refine s_val 2 rfl rfl (.bool false) (rfl) ?_
      refine nr ?_; intro U h; simp only [z0, z1] at h; subst h
      refine wpList_nil ?_
      refine then_n ?_
      refine wp_ret ?_
      refine bodyPost_ret (results_tmp Try.results19 _ _ _) rfl ?_
      exact ⟨congrArg (fun b => Ending.returned (.bool b)) (by have h3 := of_decide_eq_false h1; have h4 := of_decide_eq_true h2; symm; exact decide_eq_false fun c => by have := c.1; have := c.2; omega), GG⟩
  · cases h2 : decide (x.far < 6)
    · refine wp_region_opq ?_
      intro OPS hY
      have y3 := hY 3 6 rfl
      clear hY
      refine s_val 3 rfl rfl (.pointer (some ⟨g1, 17, none⟩)) (run_fld 26 _ 2 rfl g1 0 rfl 17 (by kernel_rfl)) ?_
      refine nr ?_; intro U h; simp only [z0, z1] at h; subst h
      refine s_val 4 rfl rfl (.int .i64 x.far) (ldHf _ rfl g1 rfl (kg1)) ?_
      refine nr ?_; intro U h; simp only [z0, z1] at h; subst h
      refine s_val 5 rfl rfl (.bool true) (run_leqT 2 _ _ _ rfl 0 x.far rfl rfl true h1 _) ?_
      refine nr ?_; intro U h; simp only [z0, z1] at h; subst h
      refine s_val 6 rfl rfl (.bool true) (rfl) ?_
      refine nr ?_; intro U h; simp only [z0, z1] at h; subst h
      refine s_gvalY 7 rfl rfl y3 rfl (.pointer (some ⟨g1, 17, none⟩)) (run_fld 26 _ 2 rfl g1 0 rfl 17 (by kernel_rfl)) ?_
      refine nr ?_; intro U h; simp only [z0, z1] at h; subst h
      refine s_gvalY 8 rfl rfl y3 rfl (.int .i64 x.far) (ldHf _ rfl g1 rfl (kg1)) ?_
      refine nr ?_; intro U h; simp only [z0, z1] at h; subst h
      refine s_gvalY 9 rfl rfl y3 rfl (.bool false) (run_lssT 2 _ _ _ rfl x.far 6 rfl rfl false h2 _) ?_
      refine nr ?_; intro U h; simp only [z0, z1] at h; subst h
      refine s_val 10 rfl rfl (.bool false) (rfl) ?_
      refine nr ?_; intro U h; simp only [z0, z1] at h; subst h
      refine s_val 2 rfl rfl (.bool false) (rfl) ?_
      refine nr ?_; intro U h; simp only [z0, z1] at h; subst h
      refine wpList_nil ?_
      refine then_n ?_
      refine wp_ret ?_
      refine bodyPost_ret (results_tmp Try.results19 _ _ _) rfl ?_
      exact ⟨congrArg (fun b => Ending.returned (.bool b)) (by have h3 := of_decide_eq_true h1; have h4 := of_decide_eq_false h2; symm; exact decide_eq_false fun c => by have := c.1; have := c.2; omega), GG⟩
    · refine wp_region_opq ?_
      intro OPS hY
      have y3 := hY 3 6 rfl
      clear hY
      refine s_val 3 rfl rfl (.pointer (some ⟨g1, 17, none⟩)) (run_fld 26 _ 2 rfl g1 0 rfl 17 (by kernel_rfl)) ?_
      refine nr ?_; intro U h; simp only [z0, z1] at h; subst h
      refine s_val 4 rfl rfl (.int .i64 x.far) (ldHf _ rfl g1 rfl (kg1)) ?_
      refine nr ?_; intro U h; simp only [z0, z1] at h; subst h
      refine s_val 5 rfl rfl (.bool true) (run_leqT 2 _ _ _ rfl 0 x.far rfl rfl true h1 _) ?_
      refine nr ?_; intro U h; simp only [z0, z1] at h; subst h
      refine s_val 6 rfl rfl (.bool true) (rfl) ?_
      refine nr ?_; intro U h; simp only [z0, z1] at h; subst h
      refine s_gvalY 7 rfl rfl y3 rfl (.pointer (some ⟨g1, 17, none⟩)) (run_fld 26 _ 2 rfl g1 0 rfl 17 (by kernel_rfl)) ?_
      refine nr ?_; intro U h; simp only [z0, z1] at h; subst h
      refine s_gvalY 8 rfl rfl y3 rfl (.int .i64 x.far) (ldHf _ rfl g1 rfl (kg1)) ?_
      refine nr ?_; intro U h; simp only [z0, z1] at h; subst h
      refine s_gvalY 9 rfl rfl y3 rfl (.bool true) (run_lssT 2 _ _ _ rfl x.far 6 rfl rfl true h2 _) ?_
      refine nr ?_; intro U h; simp only [z0, z1] at h; subst h
      refine s_val 10 rfl rfl (.bool true) (rfl) ?_
      refine nr ?_; intro U h; simp only [z0, z1] at h; subst h
      refine s_val 2 rfl rfl (.bool true) (rfl) ?_
      refine nr ?_; intro U h; simp only [z0, z1] at h; subst h
      refine wpList_nil ?_
      refine then_n ?_
      refine wp_ret ?_
      refine bodyPost_ret (results_tmp Try.results19 _ _ _) rfl ?_
      exact ⟨congrArg (fun b => Ending.returned (.bool b)) (by have h3 := of_decide_eq_true h1; have h4 := of_decide_eq_true h2; symm; exact decide_eq_true ⟨h3, by omega⟩), GG⟩
set_option maxRecDepth 100000 in
set_option maxHeartbeats 4000000 in
theorem before_any (a b : Hd) (ha : a.ok) (hb : b.ok) (w : World) : Calls Try.prog 20 #[.agg (hdA a), .agg (hdA b)] w (fun e w' => e = .returned (.bool (decide (¬ hdLe b a))) ∧ Gro w w') := by
  refine s_enter Try.func20 rfl Try.ntmps20 [.agg (hdA a), .agg (hdA b)] [.agg (hdA a), .agg (hdA b), undef, undef, undef, undef, undef, undef, undef, undef, undef, undef, undef, undef, undef, undef, undef, undef, undef, undef, undef, undef, undef, undef, undef, undef, undef, undef, undef, undef, undef, undef, undef] rfl ?_
  have GG := Gro.refl w
  refine wp_seq ?_
  refine wp_region_lit ?_
  refine s_box 2 rfl rfl 26 _ rfl _ rfl (hdA a) rfl ?_
  intro w1 g1 G eg1 kg1
  have bg1 := size_base GG eg1
  replace GG := GG.trans G
  clear G
  clear eg1
  refine nr ?_; intro U h; simp only [z0, z1] at h; subst h
  refine s_box 3 rfl rfl 26 _ rfl _ rfl (hdA b) rfl ?_
  intro w2 g2 G eg2 kg2
  have bg2 := size_base GG eg2
  have dg1g2 := lt_new kg1 eg2
  replace kg1 := G.has kg1
  replace GG := GG.trans G
  clear G
  clear eg2
  refine nr ?_; intro U h; simp only [z0, z1] at h; subst h
  refine s_val 4 rfl rfl (.bool false) (rfl) ?_
  refine nr ?_; intro U h; simp only [z0, z1] at h; subst h
  refine wpList_nil ?_
  refine then_n ?_
  refine wp_seq ?_
  refine wp_block ?_
  refine wp_seq ?_
  cases h1 : decide (a.id = b.id)
  · refine wp_region_lit ?_
    refine s_val 6 rfl rfl (.pointer (some ⟨g1, 1, none⟩)) (run_fld 26 _ 1 rfl g1 0 rfl 1 (by kernel_rfl)) ?_
    refine nr ?_; intro U h; simp only [z0, z1] at h; subst h
    refine s_val 7 rfl rfl (.agg (idA a.id)) (ldHi _ rfl g1 rfl (kg1)) ?_
    refine nr ?_; intro U h; simp only [z0, z1] at h; subst h
    refine s_val 8 rfl rfl (.pointer (some ⟨g2, 1, none⟩)) (run_fld 26 _ 1 rfl g2 0 rfl 1 (by kernel_rfl)) ?_
    refine nr ?_; intro U h; simp only [z0, z1] at h; subst h
    refine s_val 9 rfl rfl (.agg (idA b.id)) (ldHi _ rfl g2 rfl (kg2)) ?_
    refine nr ?_; intro U h; simp only [z0, z1] at h; subst h
    refine s_val 10 rfl rfl (.bool true) (run_neI _ _ _ rfl _ _ rfl rfl ha.id hb.id true h1) ?_
    refine nr ?_; intro U h; simp only [z0, z1] at h; subst h
    refine s_val 5 rfl rfl (.bool true) (rfl) ?_
    refine nr ?_; intro U h; simp only [z0, z1] at h; subst h
    refine wpList_nil ?_
    refine then_n ?_
    refine wp_cond_true rfl ?_
    refine wp_seq ?_
    refine wp_region_lit ?_
    refine s_val 11 rfl rfl (.pointer (some ⟨g1, 1, none⟩)) (run_fld 26 _ 1 rfl g1 0 rfl 1 (by kernel_rfl)) ?_
    refine nr ?_; intro U h; simp only [z0, z1] at h; subst h
    refine s_val 12 rfl rfl (.agg (idA a.id)) (ldHi _ rfl g1 rfl (kg1)) ?_
    refine nr ?_; intro U h; simp only [z0, z1] at h; subst h
    refine s_val 13 rfl rfl (.pointer (some ⟨g2, 1, none⟩)) (run_fld 26 _ 1 rfl g2 0 rfl 1 (by kernel_rfl)) ?_
    refine nr ?_; intro U h; simp only [z0, z1] at h; subst h
    refine s_val 14 rfl rfl (.agg (idA b.id)) (ldHi _ rfl g2 rfl (kg2)) ?_
    refine nr ?_; intro U h; simp only [z0, z1] at h; subst h
    refine s_callv 15 rfl rfl _ 28 Try.call28 rfl rfl _ rfl [.agg (idA a.id), .agg (idA b.id)] rfl (cmp_any a.id b.id ha.id hb.id _) ?_
    intro w3 G
    replace kg1 := G.has kg1
    replace kg2 := G.has kg2
    replace GG := GG.trans G
    clear G
    refine nr ?_; intro U h; simp only [z0, z1] at h; subst h
    refine s_val 16 rfl rfl (.bool (decide (a.id < b.id))) (run_lssT 3 _ _ _ rfl (cmpN a.id b.id) 0 rfl rfl _ (cmp_neg _ _) _) ?_
    refine nr ?_; intro U h; simp only [z0, z1] at h; subst h
    refine s_val 4 rfl rfl (.bool (decide (a.id < b.id))) (rfl) ?_
    refine nr ?_; intro U h; simp only [z0, z1] at h; subst h
    refine wpList_nil ?_
    refine then_n ?_
    refine wp_ret ?_
    refine blk_r ?_
    refine then_r ?_
    refine bodyPost_ret (results_tmp Try.results20 _ _ _) rfl ?_
    exact ⟨congrArg (fun b => Ending.returned (.bool b)) (bef_1 (of_decide_eq_false h1)), GG⟩
  · refine wp_region_lit ?_
    refine s_val 6 rfl rfl (.pointer (some ⟨g1, 1, none⟩)) (run_fld 26 _ 1 rfl g1 0 rfl 1 (by kernel_rfl)) ?_
    refine nr ?_; intro U h; simp only [z0, z1] at h; subst h
    refine s_val 7 rfl rfl (.agg (idA a.id)) (ldHi _ rfl g1 rfl (kg1)) ?_
    refine nr ?_; intro U h; simp only [z0, z1] at h; subst h
    refine s_val 8 rfl rfl (.pointer (some ⟨g2, 1, none⟩)) (run_fld 26 _ 1 rfl g2 0 rfl 1 (by kernel_rfl)) ?_
    refine nr ?_; intro U h; simp only [z0, z1] at h; subst h
    refine s_val 9 rfl rfl (.agg (idA b.id)) (ldHi _ rfl g2 rfl (kg2)) ?_
    refine nr ?_; intro U h; simp only [z0, z1] at h; subst h
    refine s_val 10 rfl rfl (.bool false) (run_neI _ _ _ rfl _ _ rfl rfl ha.id hb.id false h1) ?_
    refine nr ?_; intro U h; simp only [z0, z1] at h; subst h
    refine s_val 5 rfl rfl (.bool false) (rfl) ?_
    refine nr ?_; intro U h; simp only [z0, z1] at h; subst h
    refine wpList_nil ?_
    refine then_n ?_
    refine wp_cond_false rfl ?_
    refine wp_seq ?_
    cases h2 : decide (a.far = b.far)
    · refine wp_region_lit ?_
      refine s_val 18 rfl rfl (.pointer (some ⟨g1, 17, none⟩)) (run_fld 26 _ 2 rfl g1 0 rfl 17 (by kernel_rfl)) ?_
      refine nr ?_; intro U h; simp only [z0, z1] at h; subst h
      refine s_val 19 rfl rfl (.int .i64 a.far) (ldHf _ rfl g1 rfl (kg1)) ?_
      refine nr ?_; intro U h; simp only [z0, z1] at h; subst h
      refine s_val 20 rfl rfl (.pointer (some ⟨g2, 17, none⟩)) (run_fld 26 _ 2 rfl g2 0 rfl 17 (by kernel_rfl)) ?_
      refine nr ?_; intro U h; simp only [z0, z1] at h; subst h
      refine s_val 21 rfl rfl (.int .i64 b.far) (ldHf _ rfl g2 rfl (kg2)) ?_
      refine nr ?_; intro U h; simp only [z0, z1] at h; subst h
      refine s_val 22 rfl rfl (.bool true) (run_neq_k 2 .i64 _ _ _ rfl Try.underlying2 a.far b.far rfl rfl true h2 _) ?_
      refine nr ?_; intro U h; simp only [z0, z1] at h; subst h
      refine s_val 17 rfl rfl (.bool true) (rfl) ?_
      refine nr ?_; intro U h; simp only [z0, z1] at h; subst h
      refine wpList_nil ?_
      refine then_n ?_
      refine wp_cond_true rfl ?_
      refine wp_seq ?_
      refine wp_region_lit ?_
      refine s_val 23 rfl rfl (.pointer (some ⟨g1, 17, none⟩)) (run_fld 26 _ 2 rfl g1 0 rfl 17 (by kernel_rfl)) ?_
      refine nr ?_; intro U h; simp only [z0, z1] at h; subst h
      refine s_val 24 rfl rfl (.int .i64 a.far) (ldHf _ rfl g1 rfl (kg1)) ?_
      refine nr ?_; intro U h; simp only [z0, z1] at h; subst h
      refine s_val 25 rfl rfl (.pointer (some ⟨g2, 17, none⟩)) (run_fld 26 _ 2 rfl g2 0 rfl 17 (by kernel_rfl)) ?_
      refine nr ?_; intro U h; simp only [z0, z1] at h; subst h
      refine s_val 26 rfl rfl (.int .i64 b.far) (ldHf _ rfl g2 rfl (kg2)) ?_
      refine nr ?_; intro U h; simp only [z0, z1] at h; subst h
      refine s_val 27 rfl rfl (.bool (decide (a.far < b.far))) (run_lssT 2 _ _ _ rfl a.far b.far rfl rfl _ rfl _) ?_
      refine nr ?_; intro U h; simp only [z0, z1] at h; subst h
      refine s_val 4 rfl rfl (.bool (decide (a.far < b.far))) (rfl) ?_
      refine nr ?_; intro U h; simp only [z0, z1] at h; subst h
      refine wpList_nil ?_
      refine then_n ?_
      refine wp_ret ?_
      refine blk_r ?_
      refine then_r ?_
      refine bodyPost_ret (results_tmp Try.results20 _ _ _) rfl ?_
      exact ⟨congrArg (fun b => Ending.returned (.bool b)) (bef_2 (of_decide_eq_true h1) (of_decide_eq_false h2)), GG⟩
    · refine wp_region_lit ?_
      refine s_val 18 rfl rfl (.pointer (some ⟨g1, 17, none⟩)) (run_fld 26 _ 2 rfl g1 0 rfl 17 (by kernel_rfl)) ?_
      refine nr ?_; intro U h; simp only [z0, z1] at h; subst h
      refine s_val 19 rfl rfl (.int .i64 a.far) (ldHf _ rfl g1 rfl (kg1)) ?_
      refine nr ?_; intro U h; simp only [z0, z1] at h; subst h
      refine s_val 20 rfl rfl (.pointer (some ⟨g2, 17, none⟩)) (run_fld 26 _ 2 rfl g2 0 rfl 17 (by kernel_rfl)) ?_
      refine nr ?_; intro U h; simp only [z0, z1] at h; subst h
      refine s_val 21 rfl rfl (.int .i64 b.far) (ldHf _ rfl g2 rfl (kg2)) ?_
      refine nr ?_; intro U h; simp only [z0, z1] at h; subst h
      refine s_val 22 rfl rfl (.bool false) (run_neq_k 2 .i64 _ _ _ rfl Try.underlying2 a.far b.far rfl rfl false h2 _) ?_
      refine nr ?_; intro U h; simp only [z0, z1] at h; subst h
      refine s_val 17 rfl rfl (.bool false) (rfl) ?_
      refine nr ?_; intro U h; simp only [z0, z1] at h; subst h
      refine wpList_nil ?_
      refine then_n ?_
      refine wp_cond_false rfl ?_
      refine wp_skip ?_
      refine blk_n ?_
      refine then_n ?_
      refine wp_seq ?_
      refine wp_region_lit ?_
      refine s_val 28 rfl rfl (.pointer (some ⟨g1, 0, none⟩)) (run_fld 26 _ 0 rfl g1 0 rfl 0 (by kernel_rfl)) ?_
      refine nr ?_; intro U h; simp only [z0, z1] at h; subst h
      refine s_val 29 rfl rfl (.int .i64 a.n) (ldHn _ rfl g1 rfl (kg1)) ?_
      refine nr ?_; intro U h; simp only [z0, z1] at h; subst h
      refine s_val 30 rfl rfl (.pointer (some ⟨g2, 0, none⟩)) (run_fld 26 _ 0 rfl g2 0 rfl 0 (by kernel_rfl)) ?_
      refine nr ?_; intro U h; simp only [z0, z1] at h; subst h
      refine s_val 31 rfl rfl (.int .i64 b.n) (ldHn _ rfl g2 rfl (kg2)) ?_
      refine nr ?_; intro U h; simp only [z0, z1] at h; subst h
      refine s_val 32 rfl rfl (.bool (decide (a.n < b.n))) (run_lssT 3 _ _ _ rfl a.n b.n rfl rfl _ rfl _) ?_
      refine nr ?_; intro U h; simp only [z0, z1] at h; subst h
      refine s_val 4 rfl rfl (.bool (decide (a.n < b.n))) (rfl) ?_
      refine nr ?_; intro U h; simp only [z0, z1] at h; subst h
      refine wpList_nil ?_
      refine then_n ?_
      refine wp_ret ?_
      refine bodyPost_ret (results_tmp Try.results20 _ _ _) rfl ?_
      exact ⟨congrArg (fun b => Ending.returned (.bool b)) (bef_3 (of_decide_eq_true h1) (of_decide_eq_true h2)), GG⟩
set_option maxRecDepth 100000 in
set_option maxHeartbeats 4000000 in
theorem ahead_any (a b : Hd) (ha : a.ok) (hb : b.ok) (w : World) : Calls Try.prog 21 #[.agg (hdA a), .agg (hdA b)] w (fun e w' => e = .returned (.bool (decide (¬ hdLe b a))) ∧ Gro w w') := by
  refine s_enter Try.func21 rfl Try.ntmps21 [.agg (hdA a), .agg (hdA b)] [.agg (hdA a), .agg (hdA b), undef, undef, undef, undef, undef, undef, undef, undef, undef, undef, undef, undef, undef, undef, undef, undef, undef, undef, undef, undef, undef, undef, undef, undef, undef, undef, undef, undef] rfl ?_
  have GG := Gro.refl w
  refine wp_seq ?_
  refine wp_region_lit ?_
  refine s_box 2 rfl rfl 28 _ rfl _ rfl (hdA a) rfl ?_
  intro w1 g1 G eg1 kg1
  have bg1 := size_base GG eg1
  replace GG := GG.trans G
  clear G
  clear eg1
  refine nr ?_; intro U h; simp only [z0, z1] at h; subst h
  refine s_box 3 rfl rfl 28 _ rfl _ rfl (hdA b) rfl ?_
  intro w2 g2 G eg2 kg2
  have bg2 := size_base GG eg2
  have dg1g2 := lt_new kg1 eg2
  replace kg1 := G.has kg1
  replace GG := GG.trans G
  clear G
  clear eg2
  refine nr ?_; intro U h; simp only [z0, z1] at h; subst h
  refine s_val 4 rfl rfl (.bool false) (rfl) ?_
  refine nr ?_; intro U h; simp only [z0, z1] at h; subst h
  refine wpList_nil ?_
  refine then_n ?_
  refine wp_seq ?_
  refine wp_seq ?_
  cases h1 : decide (a.id = b.id)
  · refine wp_region_lit ?_
    refine s_val 5 rfl rfl (.pointer (some ⟨g1, 1, none⟩)) (run_fld 28 _ 1 rfl g1 0 rfl 1 (by kernel_rfl)) ?_
    refine nr ?_; intro U h; simp only [z0, z1] at h; subst h
    refine s_val 6 rfl rfl (.agg (idA a.id)) (ldDi _ rfl g1 rfl (kg1)) ?_
    refine nr ?_; intro U h; simp only [z0, z1] at h; subst h
    refine s_val 7 rfl rfl (.pointer (some ⟨g2, 1, none⟩)) (run_fld 28 _ 1 rfl g2 0 rfl 1 (by kernel_rfl)) ?_
    refine nr ?_; intro U h; simp only [z0, z1] at h; subst h
    refine s_val 8 rfl rfl (.agg (idA b.id)) (ldDi _ rfl g2 rfl (kg2)) ?_
    refine nr ?_; intro U h; simp only [z0, z1] at h; subst h
    refine s_val 9 rfl rfl (.bool true) (run_neI _ _ _ rfl _ _ rfl rfl ha.id hb.id true h1) ?_
    refine nr ?_; intro U h; simp only [z0, z1] at h; subst h
    refine wpList_nil ?_
    refine then_n ?_
    refine wp_cond_true rfl ?_
    refine wp_seq ?_
    refine wp_region_lit ?_
    refine s_val 10 rfl rfl (.pointer (some ⟨g1, 1, none⟩)) (run_fld 28 _ 1 rfl g1 0 rfl 1 (by kernel_rfl)) ?_
    refine nr ?_; intro U h; simp only [z0, z1] at h; subst h
    refine s_val 11 rfl rfl (.agg (idA a.id)) (ldDi _ rfl g1 rfl (kg1)) ?_
    refine nr ?_; intro U h; simp only [z0, z1] at h; subst h
    refine s_val 12 rfl rfl (.pointer (some ⟨g2, 1, none⟩)) (run_fld 28 _ 1 rfl g2 0 rfl 1 (by kernel_rfl)) ?_
    refine nr ?_; intro U h; simp only [z0, z1] at h; subst h
    refine s_val 13 rfl rfl (.agg (idA b.id)) (ldDi _ rfl g2 rfl (kg2)) ?_
    refine nr ?_; intro U h; simp only [z0, z1] at h; subst h
    refine s_callv 14 rfl rfl _ 17 Try.call17 rfl rfl _ rfl [.agg (idA a.id), .agg (idA b.id)] rfl (less_any a.id b.id ha.id hb.id _) ?_
    intro w3 G
    replace kg1 := G.has kg1
    replace kg2 := G.has kg2
    replace GG := GG.trans G
    clear G
    refine nr ?_; intro U h; simp only [z0, z1] at h; subst h
    refine s_val 4 rfl rfl (.bool (decide (a.id < b.id))) (rfl) ?_
    refine nr ?_; intro U h; simp only [z0, z1] at h; subst h
    refine wpList_nil ?_
    refine then_n ?_
    refine wp_ret ?_
    refine then_r ?_
    refine bodyPost_ret (results_tmp Try.results21 _ _ _) rfl ?_
    exact ⟨congrArg (fun b => Ending.returned (.bool b)) (bef_1 (of_decide_eq_false h1)), GG⟩
  · refine wp_region_lit ?_
    refine s_val 5 rfl rfl (.pointer (some ⟨g1, 1, none⟩)) (run_fld 28 _ 1 rfl g1 0 rfl 1 (by kernel_rfl)) ?_
    refine nr ?_; intro U h; simp only [z0, z1] at h; subst h
    refine s_val 6 rfl rfl (.agg (idA a.id)) (ldDi _ rfl g1 rfl (kg1)) ?_
    refine nr ?_; intro U h; simp only [z0, z1] at h; subst h
    refine s_val 7 rfl rfl (.pointer (some ⟨g2, 1, none⟩)) (run_fld 28 _ 1 rfl g2 0 rfl 1 (by kernel_rfl)) ?_
    refine nr ?_; intro U h; simp only [z0, z1] at h; subst h
    refine s_val 8 rfl rfl (.agg (idA b.id)) (ldDi _ rfl g2 rfl (kg2)) ?_
    refine nr ?_; intro U h; simp only [z0, z1] at h; subst h
    refine s_val 9 rfl rfl (.bool false) (run_neI _ _ _ rfl _ _ rfl rfl ha.id hb.id false h1) ?_
    refine nr ?_; intro U h; simp only [z0, z1] at h; subst h
    refine wpList_nil ?_
    refine then_n ?_
    refine wp_cond_false rfl ?_
    refine wp_skip ?_
    refine then_n ?_
    refine wp_seq ?_
    refine wp_seq ?_
    cases h2 : decide (a.far = b.far)
    · refine wp_region_lit ?_
      refine s_val 15 rfl rfl (.pointer (some ⟨g1, 17, none⟩)) (run_fld 28 _ 2 rfl g1 0 rfl 17 (by kernel_rfl)) ?_
      refine nr ?_; intro U h; simp only [z0, z1] at h; subst h
      refine s_val 16 rfl rfl (.int .i64 a.far) (ldDf _ rfl g1 rfl (kg1)) ?_
      refine nr ?_; intro U h; simp only [z0, z1] at h; subst h
      refine s_val 17 rfl rfl (.pointer (some ⟨g2, 17, none⟩)) (run_fld 28 _ 2 rfl g2 0 rfl 17 (by kernel_rfl)) ?_
      refine nr ?_; intro U h; simp only [z0, z1] at h; subst h
      refine s_val 18 rfl rfl (.int .i64 b.far) (ldDf _ rfl g2 rfl (kg2)) ?_
      refine nr ?_; intro U h; simp only [z0, z1] at h; subst h
      refine s_val 19 rfl rfl (.bool true) (run_neq_k 2 .i64 _ _ _ rfl Try.underlying2 a.far b.far rfl rfl true h2 _) ?_
      refine nr ?_; intro U h; simp only [z0, z1] at h; subst h
      refine wpList_nil ?_
      refine then_n ?_
      refine wp_cond_true rfl ?_
      refine wp_seq ?_
      refine wp_region_lit ?_
      refine s_val 20 rfl rfl (.pointer (some ⟨g1, 17, none⟩)) (run_fld 28 _ 2 rfl g1 0 rfl 17 (by kernel_rfl)) ?_
      refine nr ?_; intro U h; simp only [z0, z1] at h; subst h
      refine s_val 21 rfl rfl (.int .i64 a.far) (ldDf _ rfl g1 rfl (kg1)) ?_
      refine nr ?_; intro U h; simp only [z0, z1] at h; subst h
      refine s_val 22 rfl rfl (.pointer (some ⟨g2, 17, none⟩)) (run_fld 28 _ 2 rfl g2 0 rfl 17 (by kernel_rfl)) ?_
      refine nr ?_; intro U h; simp only [z0, z1] at h; subst h
      refine s_val 23 rfl rfl (.int .i64 b.far) (ldDf _ rfl g2 rfl (kg2)) ?_
      refine nr ?_; intro U h; simp only [z0, z1] at h; subst h
      refine s_val 24 rfl rfl (.bool (decide (a.far < b.far))) (run_lssT 2 _ _ _ rfl a.far b.far rfl rfl _ rfl _) ?_
      refine nr ?_; intro U h; simp only [z0, z1] at h; subst h
      refine s_val 4 rfl rfl (.bool (decide (a.far < b.far))) (rfl) ?_
      refine nr ?_; intro U h; simp only [z0, z1] at h; subst h
      refine wpList_nil ?_
      refine then_n ?_
      refine wp_ret ?_
      refine then_r ?_
      refine bodyPost_ret (results_tmp Try.results21 _ _ _) rfl ?_
      exact ⟨congrArg (fun b => Ending.returned (.bool b)) (bef_2 (of_decide_eq_true h1) (of_decide_eq_false h2)), GG⟩
    · refine wp_region_lit ?_
      refine s_val 15 rfl rfl (.pointer (some ⟨g1, 17, none⟩)) (run_fld 28 _ 2 rfl g1 0 rfl 17 (by kernel_rfl)) ?_
      refine nr ?_; intro U h; simp only [z0, z1] at h; subst h
      refine s_val 16 rfl rfl (.int .i64 a.far) (ldDf _ rfl g1 rfl (kg1)) ?_
      refine nr ?_; intro U h; simp only [z0, z1] at h; subst h
      refine s_val 17 rfl rfl (.pointer (some ⟨g2, 17, none⟩)) (run_fld 28 _ 2 rfl g2 0 rfl 17 (by kernel_rfl)) ?_
      refine nr ?_; intro U h; simp only [z0, z1] at h; subst h
      refine s_val 18 rfl rfl (.int .i64 b.far) (ldDf _ rfl g2 rfl (kg2)) ?_
      refine nr ?_; intro U h; simp only [z0, z1] at h; subst h
      refine s_val 19 rfl rfl (.bool false) (run_neq_k 2 .i64 _ _ _ rfl Try.underlying2 a.far b.far rfl rfl false h2 _) ?_
      refine nr ?_; intro U h; simp only [z0, z1] at h; subst h
      refine wpList_nil ?_
      refine then_n ?_
      refine wp_cond_false rfl ?_
      refine wp_skip ?_
      refine then_n ?_
      refine wp_seq ?_
      refine wp_region_lit ?_
      refine s_val 25 rfl rfl (.pointer (some ⟨g1, 0, none⟩)) (run_fld 28 _ 0 rfl g1 0 rfl 0 (by kernel_rfl)) ?_
      refine nr ?_; intro U h; simp only [z0, z1] at h; subst h
      refine s_val 26 rfl rfl (.int .i64 a.n) (ldDn _ rfl g1 rfl (kg1)) ?_
      refine nr ?_; intro U h; simp only [z0, z1] at h; subst h
      refine s_val 27 rfl rfl (.pointer (some ⟨g2, 0, none⟩)) (run_fld 28 _ 0 rfl g2 0 rfl 0 (by kernel_rfl)) ?_
      refine nr ?_; intro U h; simp only [z0, z1] at h; subst h
      refine s_val 28 rfl rfl (.int .i64 b.n) (ldDn _ rfl g2 rfl (kg2)) ?_
      refine nr ?_; intro U h; simp only [z0, z1] at h; subst h
      refine s_val 29 rfl rfl (.bool (decide (a.n < b.n))) (run_lssT 3 _ _ _ rfl a.n b.n rfl rfl _ rfl _) ?_
      refine nr ?_; intro U h; simp only [z0, z1] at h; subst h
      refine s_val 4 rfl rfl (.bool (decide (a.n < b.n))) (rfl) ?_
      refine nr ?_; intro U h; simp only [z0, z1] at h; subst h
      refine wpList_nil ?_
      refine then_n ?_
      refine wp_ret ?_
      refine bodyPost_ret (results_tmp Try.results21 _ _ _) rfl ?_
      exact ⟨congrArg (fun b => Ending.returned (.bool b)) (bef_3 (of_decide_eq_true h1) (of_decide_eq_true h2)), GG⟩
set_option maxRecDepth 100000 in
set_option maxHeartbeats 4000000 in
theorem n_any (x : Nat) (hx : x < 256) (w : World) : Calls Try.prog 22 #[.int .u8 ((x : Nat) : Int)] w (fun e w' => e = .returned (.agg (idA x)) ∧ Gro w w') := by
  refine s_enter Try.func22 rfl Try.ntmps22 [.int .u8 ((x : Nat) : Int)] [.int .u8 ((x : Nat) : Int), undef, undef, undef, undef] rfl ?_
  have GG := Gro.refl w
  refine wp_seq ?_
  refine wp_region_lit ?_
  refine s_alloc 2 rfl rfl 23 rfl _ zero23 (idA 0) rfl ?_
  intro w1 g1 G eg1 kg1
  have bg1 := size_base GG eg1
  replace GG := GG.trans G
  clear G
  clear eg1
  refine nr ?_; intro U h; simp only [z0, z1] at h; subst h
  refine wpList_nil ?_
  refine then_n ?_
  refine wp_seq ?_
  refine wp_region_lit ?_
  refine s_val 3 rfl rfl (.int .u8 ((x : Nat) : Int)) (rfl) ?_
  refine nr ?_; intro U h; simp only [z0, z1] at h; subst h
  refine s_val 4 rfl rfl (.agg (idA x)) (run_build_n _ rfl x rfl hx _) ?_
  refine nr ?_; intro U h; simp only [z0, z1] at h; subst h
  refine s_store rfl rfl 23 _ _ rfl g1 0 rfl (.agg (idA x)) rfl 23 _ kg1 (idA x) rfl (size23' _) (idA_fit _ _) (idA_one _) (idA x) (splice_whole _ _ (idA_sz _ _)) ?_
  intro w2 St
  have kS := kg1
  replace GG := GG.store St bg1
  replace kg1 := St.new
  clear St
  refine wpList_nil ?_
  refine then_n ?_
  refine wp_ret ?_
  refine bodyPost_ret (results_cell_row Try.results22 _ _ g1 23 _ (0, 0) _ rfl kg1 Try.underlying23 rfl (size23' _)) rfl ?_
  exact ⟨rfl, GG⟩
set_option maxRecDepth 100000 in
set_option maxHeartbeats 4000000 in
theorem put1_any (n : Int) (g : Nat) (x : Hd) (w : World) (kg : w.heap[g]? = some (.cells (hdA x) 26 (0, 0))) : Calls Try.prog 24 #[.int .i64 n, .pointer (some ⟨g, 0, none⟩)] w (fun e w' => e = .returned (.bool (decide (n < x.n))) ∧ Gro w w') := by
  refine s_enter Try.func24 rfl Try.ntmps24 [.int .i64 n, .pointer (some ⟨g, 0, none⟩)] [.int .i64 n, .pointer (some ⟨g, 0, none⟩), undef, undef, undef, undef, undef, undef] rfl ?_
  have GG := Gro.refl w
  refine wp_seq ?_
  refine wp_region_lit ?_
  refine s_val 3 rfl rfl (.bool false) (rfl) ?_
  refine nr ?_; intro U h; simp only [z0, z1] at h; subst h
  refine wpList_nil ?_
  refine then_n ?_
  refine wp_seq ?_
  refine wp_region_lit ?_
  refine s_val 4 rfl rfl (.int .i64 n) (rfl) ?_
  refine nr ?_; intro U h; simp only [z0, z1] at h; subst h
  refine s_val 5 rfl rfl (.pointer (some ⟨g, 0, none⟩)) (run_fld 26 _ 0 rfl g 0 rfl 0 (by kernel_rfl)) ?_
  refine nr ?_; intro U h; simp only [z0, z1] at h; subst h
  refine s_val 6 rfl rfl (.int .i64 x.n) (ldHn _ rfl g rfl (kg)) ?_
  refine nr ?_; intro U h; simp only [z0, z1] at h; subst h
  refine s_val 7 rfl rfl (.bool (decide (n < x.n))) (run_lssT 3 _ _ _ rfl n x.n rfl rfl _ rfl _) ?_
  refine nr ?_; intro U h; simp only [z0, z1] at h; subst h
  refine s_val 3 rfl rfl (.bool (decide (n < x.n))) (rfl) ?_
  refine nr ?_; intro U h; simp only [z0, z1] at h; subst h
  refine wpList_nil ?_
  refine then_n ?_
  refine wp_ret ?_
  refine bodyPost_ret (results_tmp Try.results24 _ _ _) rfl ?_
  exact ⟨rfl, GG⟩
set_option maxRecDepth 100000 in
set_option maxHeartbeats 4000000 in
theorem put2_any (n : Int) (g : Nat) (x : Hd) (w : World) (kg : w.heap[g]? = some (.cells (hdA x) 26 (0, 0))) : Calls Try.prog 25 #[.int .i64 n, .pointer (some ⟨g, 0, none⟩)] w (fun e w' => e = .returned (.bool (decide (x.n < n))) ∧ Gro w w') := by
  refine s_enter Try.func25 rfl Try.ntmps25 [.int .i64 n, .pointer (some ⟨g, 0, none⟩)] [.int .i64 n, .pointer (some ⟨g, 0, none⟩), undef, undef, undef, undef, undef, undef] rfl ?_
  have GG := Gro.refl w
  refine wp_seq ?_
  refine wp_region_lit ?_
  refine s_val 3 rfl rfl (.bool false) (rfl) ?_
  refine nr ?_; intro U h; simp only [z0, z1] at h; subst h
  refine wpList_nil ?_
  refine then_n ?_
  refine wp_seq ?_
  refine wp_region_lit ?_
  refine s_val 4 rfl rfl (.int .i64 n) (rfl) ?_
  refine nr ?_; intro U h; simp only [z0, z1] at h; subst h
  refine s_val 5 rfl rfl (.pointer (some ⟨g, 0, none⟩)) (run_fld 26 _ 0 rfl g 0 rfl 0 (by kernel_rfl)) ?_
  refine nr ?_; intro U h; simp only [z0, z1] at h; subst h
  refine s_val 6 rfl rfl (.int .i64 x.n) (ldHn _ rfl g rfl (kg)) ?_
  refine nr ?_; intro U h; simp only [z0, z1] at h; subst h
  refine s_val 7 rfl rfl (.bool (decide (x.n < n))) (run_gtrT 3 _ _ _ rfl n x.n rfl rfl _ rfl _) ?_
  refine nr ?_; intro U h; simp only [z0, z1] at h; subst h
  refine s_val 3 rfl rfl (.bool (decide (x.n < n))) (rfl) ?_
  refine nr ?_; intro U h; simp only [z0, z1] at h; subst h
  refine wpList_nil ?_
  refine then_n ?_
  refine wp_ret ?_
  refine bodyPost_ret (results_tmp Try.results25 _ _ _) rfl ?_
  exact ⟨rfl, GG⟩
set_option maxRecDepth 100000 in
set_option maxHeartbeats 4000000 in
theorem forg1_any (n : Int) (g : Nat) (m : Int) (w : World) (kg : w.heap[g]? = some (.cells (inA m) 3 (0, 0))) : Calls Try.prog 26 #[.int .i64 n, .pointer (some ⟨g, 0, none⟩)] w (fun e w' => e = .returned (.bool (decide (n ≠ m))) ∧ Gro w w') := by
  refine s_enter Try.func26 rfl Try.ntmps26 [.int .i64 n, .pointer (some ⟨g, 0, none⟩)] [.int .i64 n, .pointer (some ⟨g, 0, none⟩), undef, undef, undef, undef, undef] rfl ?_
  have GG := Gro.refl w
  refine wp_seq ?_
  refine wp_region_lit ?_
  refine s_val 3 rfl rfl (.bool false) (rfl) ?_
  refine nr ?_; intro U h; simp only [z0, z1] at h; subst h
  refine wpList_nil ?_
  refine then_n ?_
  refine wp_seq ?_
  refine wp_region_lit ?_
  refine s_val 4 rfl rfl (.int .i64 n) (rfl) ?_
  refine nr ?_; intro U h; simp only [z0, z1] at h; subst h
  refine s_val 5 rfl rfl (.int .i64 m) (ldN0 _ rfl g rfl (kg)) ?_
  refine nr ?_; intro U h; simp only [z0, z1] at h; subst h
  refine s_val 6 rfl rfl (.bool (decide (n ≠ m))) (run_neq_k 3 .i64 _ _ _ rfl Try.underlying3 n m rfl rfl _ (by simp) _) ?_
  refine nr ?_; intro U h; simp only [z0, z1] at h; subst h
  refine s_val 3 rfl rfl (.bool (decide (n ≠ m))) (rfl) ?_
  refine nr ?_; intro U h; simp only [z0, z1] at h; subst h
  refine wpList_nil ?_
  refine then_n ?_
  refine wp_ret ?_
  refine bodyPost_ret (results_tmp Try.results26 _ _ _) rfl ?_
  exact ⟨rfl, GG⟩
set_option maxRecDepth 100000 in
set_option maxHeartbeats 4000000 in
theorem best_any (w : World) (s : Nat) (hs : s < top) (ao : Option Addr) (cap : Nat) (l : List Hd) (HL : RK kH w ao cap l) (hl : l.length ≤ 4398046511104) : Calls Try.prog 8 #[.agg (idA s), .slice ao l.length cap] w (fun e w' => e = .returned (.agg (hdA (bestH s l))) ∧ Gro w w') := by
  refine s_enter Try.func8 rfl Try.ntmps8 [.agg (idA s), .slice ao l.length cap] [.agg (idA s), .slice ao l.length cap, undef, undef, undef, undef, undef, undef, undef, undef, undef, undef, undef, undef, undef, undef, undef, undef, undef, undef, undef, undef, undef, undef, undef, undef, undef, undef, undef] rfl ?_
  have GG := Gro.refl w
  refine wp_seq ?_
  refine wp_region_lit ?_
  refine s_box 2 rfl rfl 23 _ rfl _ rfl (idA s) rfl ?_
  intro w1 g1 G eg1 kg1
  have bg1 := size_base GG eg1
  replace GG := GG.trans G
  clear G
  clear eg1
  refine nr ?_; intro U h; simp only [z0, z1] at h; subst h
  refine s_alloc 4 rfl rfl 26 rfl _ zeroH (hdA zH) rfl ?_
  intro w2 g2 G eg2 kg2
  have bg2 := size_base GG eg2
  have dg1g2 := lt_new kg1 eg2
  replace kg1 := G.has kg1
  replace GG := GG.trans G
  clear G
  clear eg2
  refine nr ?_; intro U h; simp only [z0, z1] at h; subst h
  refine wpList_nil ?_
  refine then_n ?_
  refine wp_seq ?_
  refine wp_region_lit ?_
  refine s_val 8 rfl rfl (.agg (idA s)) (ldI0 _ rfl g1 rfl (kg1)) ?_
  refine nr ?_; intro U h; simp only [z0, z1] at h; subst h
  refine s_val 9 rfl rfl (.agg (hdA (mkH (-1) s 0))) (run_bd 26 _ rfl [(0, .int .i64 (-1)), (1, .agg (idA s))] rfl _ (bdH01 _ _ _)) ?_
  refine nr ?_; intro U h; simp only [z0, z1] at h; subst h
  refine s_alloc 5 rfl rfl 26 rfl _ zeroH (hdA zH) rfl ?_
  intro w3 g3 G eg3 kg3
  have bg3 := size_base GG eg3
  have dg1g3 := lt_new kg1 eg3
  have dg2g3 := lt_new kg2 eg3
  replace kg1 := G.has kg1
  replace kg2 := G.has kg2
  replace GG := GG.trans G
  clear G
  clear eg3
  refine nr ?_; intro U h; simp only [z0, z1] at h; subst h
  refine s_store rfl rfl 26 _ _ rfl g3 0 rfl (.agg (hdA (mkH (-1) s 0))) rfl 26 _ kg3 (hdA (mkH (-1) s 0)) rfl (siH' _) (hdA_fit _ _) (hdA_one _) (hdA (mkH (-1) s 0)) (splice_whole _ _ (hdA_sz _ _)) ?_
  intro w4 St
  have kS := kg3
  replace kg1 := St.has (by omega) kg1
  replace kg2 := St.has (by omega) kg2
  replace GG := GG.store St bg3
  replace kg3 := St.new
  clear St
  refine wpList_nil ?_
  refine then_n ?_
  refine wp_seq ?_
  refine wp_seq ?_
  refine wp_region_lit ?_
  refine s_val 10 rfl rfl (.slice ao l.length cap) (rfl) ?_
  refine nr ?_; intro U h; simp only [z0, z1] at h; subst h
  refine s_val 11 rfl rfl (.int .i64 ((l.length : Nat) : Int)) (run_len Try.underlying24 _ rfl _ _ _ rfl _) ?_
  refine nr ?_; intro U h; simp only [z0, z1] at h; subst h
  refine s_val 12 rfl rfl (.int .i64 0) (rfl) ?_
  refine nr ?_; intro U h; simp only [z0, z1] at h; subst h
  refine wpList_nil ?_
  refine then_n ?_
  refine wp_block ?_
  refine wp_loopN (fun mz az wv => ∃ (i : Nat) (us1 : Nat → Value), mz = l.length + 1 - i ∧ az = ⟨[.agg (idA s), .slice ao l.length cap, .pointer (some ⟨g1, 0, none⟩), undef, .pointer (some ⟨g2, 0, none⟩), .pointer (some ⟨g3, 0, none⟩), undef, us1 0, .agg (idA s), .agg (hdA (mkH (-1) s 0)), .slice ao l.length cap, .int .i64 ((l.length : Nat) : Int), .int .i64 ((i : Nat) : Int), us1 1, us1 2, us1 3, us1 4, us1 5, us1 6, us1 7, us1 8, us1 9, us1 10, us1 11, us1 12, us1 13, us1 14, us1 15, undef].toArray, []⟩ ∧ i ≤ l.length ∧ Gro w wv ∧ wv.heap[g1]? = some (.cells (idA s) 23 (0, 0)) ∧ wv.heap[g2]? = some (.cells (hdA zH) 26 (0, 0)) ∧ wv.heap[g3]? = some (.cells (hdA (bestH s (l.take i))) 26 (0, 0))) ?_ _ ⟨0, (fun kz => ([undef, undef, undef, undef, undef, undef, undef, undef, undef, undef, undef, undef, undef, undef, undef, undef] : List Value).getD kz undef), rfl, rfl, Nat.zero_le _, GG, kg1, kg2, kg3⟩
  clear GG kg1 kg2 kg3
  rintro mz az wv ⟨i, us1, rfl, rfl, hi, GG, kg1, kg2, kg3⟩
  refine wp_seq ?_
  refine wp_region_lit ?_
  cases hi1 : decide (((i : Nat) : Int) < ((l.length : Nat) : Int))
  · have hie : i = l.length := by have := of_decide_eq_false hi1; omega
    refine s_val 13 rfl rfl (.bool false) (run_lssT 3 _ _ _ rfl ((i : Nat) : Int) ((l.length : Nat) : Int) rfl rfl false hi1 _) ?_
    refine nr ?_; intro U h; simp only [z0, z1] at h; subst h
    refine wpList_nil ?_
    refine then_n ?_
    refine wp_seq ?_
    refine wp_cond_false rfl ?_
    refine wp_exit ?_
    refine then_x ?_
    refine then_x ?_
    refine blk_x ?_
    refine then_n ?_
    refine wp_seq ?_
    refine wp_region_lit ?_
    refine s_val 28 rfl rfl (.agg (hdA (bestH s (l.take i)))) (ldH0 _ rfl g3 rfl (kg3)) ?_
    refine nr ?_; intro U h; simp only [z0, z1] at h; subst h
    refine s_store rfl rfl 26 _ _ rfl g2 0 rfl (.agg (hdA (bestH s (l.take i)))) rfl 26 _ kg2 (hdA (bestH s (l.take i))) rfl (siH' _) (hdA_fit _ _) (hdA_one _) (hdA (bestH s (l.take i))) (splice_whole _ _ (hdA_sz _ _)) ?_
    intro w5 St
    have kS := kg2
    replace kg1 := St.has (by omega) kg1
    replace kg3 := St.has (by omega) kg3
    replace GG := GG.store St bg2
    replace kg2 := St.new
    clear St
    refine wpList_nil ?_
    refine then_n ?_
    refine wp_ret ?_
    refine bodyPost_ret (results_cell_row Try.results8 _ _ g2 26 _ (0, 0) _ rfl kg2 Try.underlying26 rfl (siH' _)) rfl ?_
    exact ⟨by rw [hie, List.take_length], GG⟩
  · have hil : i < l.length := by have := of_decide_eq_true hi1; omega
    refine s_val 13 rfl rfl (.bool true) (run_lssT 3 _ _ _ rfl ((i : Nat) : Int) ((l.length : Nat) : Int) rfl rfl true hi1 _) ?_
    refine nr ?_; intro U h; simp only [z0, z1] at h; subst h
    refine wpList_nil ?_
    refine then_n ?_
    refine wp_seq ?_
    refine wp_cond_true rfl ?_
    refine wp_skip ?_
    refine then_n ?_
    refine wp_seq ?_
    refine wp_block ?_
    refine wp_seq ?_
    refine wp_region_lit ?_
    refine s_val 14 rfl rfl (.pointer (pK kH ao i 0)) (run_ixK rH (HL.gro GG) _ _ rfl rfl i rfl (by omega)) ?_
    refine nr ?_; intro U h; simp only [z0, z1] at h; subst h
    refine s_val 15 rfl rfl (.agg (hdA (l.getD i zH))) (run_ldKH (HL.gro GG) _ rfl i rfl (by omega)) ?_
    refine nr ?_; intro U h; simp only [z0, z1] at h; subst h
    refine s_alloc 7 rfl rfl 26 rfl _ zeroH (hdA zH) rfl ?_
    intro w5 g4 G eg4 kg4
    have bg4 := size_base GG eg4
    have dg1g4 := lt_new kg1 eg4
    have dg2g4 := lt_new kg2 eg4
    have dg3g4 := lt_new kg3 eg4
    replace kg1 := G.has kg1
    replace kg2 := G.has kg2
    replace kg3 := G.has kg3
    replace GG := GG.trans G
    clear G
    clear eg4
    refine nr ?_; intro U h; simp only [z0, z1] at h; subst h
    refine s_store rfl rfl 26 _ _ rfl g4 0 rfl (.agg (hdA (l.getD i zH))) rfl 26 _ kg4 (hdA (l.getD i zH)) rfl (siH' _) (hdA_fit _ _) (hdA_one _) (hdA (l.getD i zH)) (splice_whole _ _ (hdA_sz _ _)) ?_
    intro w6 St
    have kS := kg4
    replace kg1 := St.has (by omega) kg1
    replace kg2 := St.has (by omega) kg2
    replace kg3 := St.has (by omega) kg3
    replace GG := GG.store St bg4
    replace kg4 := St.new
    clear St
    refine wpList_nil ?_
    refine then_n ?_
    refine wp_seq ?_
    refine wp_seq ?_
    cases hn : decide (hdNear (l.getD i zH))
    · refine wp_region_lit ?_
      refine s_val 16 rfl rfl (.agg (hdA (l.getD i zH))) (ldH0 _ rfl g4 rfl (kg4)) ?_
      refine nr ?_; intro U h; simp only [z0, z1] at h; subst h
      refine s_callv 17 rfl rfl _ 19 Try.call19 rfl rfl _ rfl [.agg (hdA (l.getD i zH))] rfl (Calls.bool (counts_any (l.getD i zH) _) hn) ?_
      intro w7 G
      replace kg1 := G.has kg1
      replace kg2 := G.has kg2
      replace kg3 := G.has kg3
      replace kg4 := G.has kg4
      replace GG := GG.trans G
      clear G
      refine nr ?_; intro U h; simp only [z0, z1] at h; subst h
      refine s_val 18 rfl rfl (.bool true) (run_nt _ _ rfl false rfl) ?_
      refine nr ?_; intro U h; simp only [z0, z1] at h; subst h
      refine wpList_nil ?_
      refine then_n ?_
      refine wp_cond_true rfl ?_
      refine wp_exit ?_
      refine then_x ?_
      refine blk_x ?_
      refine then_n ?_
      refine wp_region_lit ?_
      refine s_val 27 rfl rfl (.int .i64 ((i + 1 : Nat) : Int)) (run_addI 3 _ _ _ rfl ((i : Nat) : Int) 1 ((i + 1 : Nat) : Int) rfl rfl (by omega) (by omega) (by omega) _) ?_
      refine nr ?_; intro U h; simp only [z0, z1] at h; subst h
      refine s_val 12 rfl rfl (.int .i64 ((i + 1 : Nat) : Int)) (rfl) ?_
      refine nr ?_; intro U h; simp only [z0, z1] at h; subst h
      refine wpList_nil ?_
      refine then_n ?_
      exact ⟨l.length + 1 - (i + 1), by omega, i + 1, (fun kz => ([.pointer (some ⟨g4, 0, none⟩), .bool true, .pointer (pK kH ao i 0), .agg (hdA (l.getD i zH)), .agg (hdA (l.getD i zH)), .bool false, .bool true, us1 7, us1 8, us1 9, us1 10, us1 11, us1 12, us1 13, us1 14, .int .i64 ((i + 1 : Nat) : Int)] : List Value).getD kz undef), rfl, rfl, by omega, GG, kg1, kg2, by rw [best_far hil (of_decide_eq_false hn)]; exact kg3⟩
    · have hnr := of_decide_eq_true hn
      have hn1 := hnr.1
      have hn2 := hnr.2
      refine wp_region_lit ?_
      refine s_val 16 rfl rfl (.agg (hdA (l.getD i zH))) (ldH0 _ rfl g4 rfl (kg4)) ?_
      refine nr ?_; intro U h; simp only [z0, z1] at h; subst h
      refine s_callv 17 rfl rfl _ 19 Try.call19 rfl rfl _ rfl [.agg (hdA (l.getD i zH))] rfl (Calls.bool (counts_any (l.getD i zH) _) hn) ?_
      intro w7 G
      replace kg1 := G.has kg1
      replace kg2 := G.has kg2
      replace kg3 := G.has kg3
      replace kg4 := G.has kg4
      replace GG := GG.trans G
      clear G
      refine nr ?_; intro U h; simp only [z0, z1] at h; subst h
      refine s_val 18 rfl rfl (.bool false) (run_nt _ _ rfl true rfl) ?_
      refine nr ?_; intro U h; simp only [z0, z1] at h; subst h
      refine wpList_nil ?_
      refine then_n ?_
      refine wp_cond_false rfl ?_
      refine wp_skip ?_
      refine then_n ?_
      refine wp_seq ?_
      refine wp_region_lit ?_
      refine s_val 19 rfl rfl (.pointer (some ⟨g4, 17, none⟩)) (run_fld 26 _ 2 rfl g4 0 rfl 17 (by kernel_rfl)) ?_
      refine nr ?_; intro U h; simp only [z0, z1] at h; subst h
      refine s_val 20 rfl rfl (.int .i64 (l.getD i zH).far) (ldHf _ rfl g4 rfl (kg4)) ?_
      refine nr ?_; intro U h; simp only [z0, z1] at h; subst h
      refine s_val 21 rfl rfl (.int .i64 ((l.getD i zH).far + 1)) (run_addI 2 _ _ _ rfl (l.getD i zH).far 1 ((l.getD i zH).far + 1) rfl rfl (by omega) (by omega) (by omega) _) ?_
      refine nr ?_; intro U h; simp only [z0, z1] at h; subst h
      refine s_val 22 rfl rfl (.pointer (some ⟨g4, 17, none⟩)) (run_fld 26 _ 2 rfl g4 0 rfl 17 (by kernel_rfl)) ?_
      refine nr ?_; intro U h; simp only [z0, z1] at h; subst h
      refine s_store rfl rfl 2 _ _ rfl g4 17 rfl (.int .i64 ((l.getD i zH).far + 1)) rfl 26 _ kg4 #[.int .i64 ((l.getD i zH).far + 1)] rfl si2 (by rw [hdA_size]; exact Nat.le_refl 18) (i_one _) (hdA (hdUp (l.getD i zH))) (spH_f _ _) ?_
      intro w8 St
      have kS := kg4
      replace kg1 := St.has (by omega) kg1
      replace kg2 := St.has (by omega) kg2
      replace kg3 := St.has (by omega) kg3
      replace GG := GG.store St bg4
      replace kg4 := St.new
      clear St
      refine wpList_nil ?_
      refine then_n ?_
      refine wp_seq ?_
      cases hb : decide (¬ hdLe (bestH s (l.take i)) (hdUp (l.getD i zH)))
      · refine wp_region_lit ?_
        refine s_val 23 rfl rfl (.agg (hdA (hdUp (l.getD i zH)))) (ldH0 _ rfl g4 rfl (kg4)) ?_
        refine nr ?_; intro U h; simp only [z0, z1] at h; subst h
        refine s_val 24 rfl rfl (.agg (hdA (bestH s (l.take i)))) (ldH0 _ rfl g3 rfl (kg3)) ?_
        refine nr ?_; intro U h; simp only [z0, z1] at h; subst h
        refine s_callv 25 rfl rfl _ 20 Try.call20 rfl rfl _ rfl [.agg (hdA (hdUp (l.getD i zH))), .agg (hdA (bestH s (l.take i)))] rfl (Calls.bool (before_any (hdUp (l.getD i zH)) (bestH s (l.take i)) (hdUp_ok (atH HL hil) hnr) (bestH_take_ok hs HL.all) _) hb) ?_
        intro w9 G
        replace kg1 := G.has kg1
        replace kg2 := G.has kg2
        replace kg3 := G.has kg3
        replace kg4 := G.has kg4
        replace GG := GG.trans G
        clear G
        refine nr ?_; intro U h; simp only [z0, z1] at h; subst h
        refine wpList_nil ?_
        refine then_n ?_
        refine wp_cond_false rfl ?_
        refine wp_skip ?_
        refine blk_n ?_
        refine then_n ?_
        refine wp_region_lit ?_
        refine s_val 27 rfl rfl (.int .i64 ((i + 1 : Nat) : Int)) (run_addI 3 _ _ _ rfl ((i : Nat) : Int) 1 ((i + 1 : Nat) : Int) rfl rfl (by omega) (by omega) (by omega) _) ?_
        refine nr ?_; intro U h; simp only [z0, z1] at h; subst h
        refine s_val 12 rfl rfl (.int .i64 ((i + 1 : Nat) : Int)) (rfl) ?_
        refine nr ?_; intro U h; simp only [z0, z1] at h; subst h
        refine wpList_nil ?_
        refine then_n ?_
        exact ⟨l.length + 1 - (i + 1), by omega, i + 1, (fun kz => ([.pointer (some ⟨g4, 0, none⟩), .bool true, .pointer (pK kH ao i 0), .agg (hdA (l.getD i zH)), .agg (hdA (l.getD i zH)), .bool true, .bool false, .pointer (some ⟨g4, 17, none⟩), .int .i64 (l.getD i zH).far, .int .i64 ((l.getD i zH).far + 1), .pointer (some ⟨g4, 17, none⟩), .agg (hdA (hdUp (l.getD i zH))), .agg (hdA (bestH s (l.take i))), .bool false, us1 14, .int .i64 ((i + 1 : Nat) : Int)] : List Value).getD kz undef), rfl, rfl, by omega, GG, kg1, kg2, by rw [best_no hil (of_decide_eq_false hb)]; exact kg3⟩
      · refine wp_region_lit ?_
        refine s_val 23 rfl rfl (.agg (hdA (hdUp (l.getD i zH)))) (ldH0 _ rfl g4 rfl (kg4)) ?_
        refine nr ?_; intro U h; simp only [z0, z1] at h; subst h
        refine s_val 24 rfl rfl (.agg (hdA (bestH s (l.take i)))) (ldH0 _ rfl g3 rfl (kg3)) ?_
        refine nr ?_; intro U h; simp only [z0, z1] at h; subst h
        refine s_callv 25 rfl rfl _ 20 Try.call20 rfl rfl _ rfl [.agg (hdA (hdUp (l.getD i zH))), .agg (hdA (bestH s (l.take i)))] rfl (Calls.bool (before_any (hdUp (l.getD i zH)) (bestH s (l.take i)) (hdUp_ok (atH HL hil) hnr) (bestH_take_ok hs HL.all) _) hb) ?_
        intro w9 G
        replace kg1 := G.has kg1
        replace kg2 := G.has kg2
        replace kg3 := G.has kg3
        replace kg4 := G.has kg4
        replace GG := GG.trans G
        clear G
        refine nr ?_; intro U h; simp only [z0, z1] at h; subst h
        refine wpList_nil ?_
        refine then_n ?_
        refine wp_cond_true rfl ?_
        refine wp_region_lit ?_
        refine s_val 26 rfl rfl (.agg (hdA (hdUp (l.getD i zH)))) (ldH0 _ rfl g4 rfl (kg4)) ?_
        refine nr ?_; intro U h; simp only [z0, z1] at h; subst h
        refine s_store rfl rfl 26 _ _ rfl g3 0 rfl (.agg (hdA (hdUp (l.getD i zH)))) rfl 26 _ kg3 (hdA (hdUp (l.getD i zH))) rfl (siH' _) (hdA_fit _ _) (hdA_one _) (hdA (hdUp (l.getD i zH))) (splice_whole _ _ (hdA_sz _ _)) ?_
        intro w10 St
        have kS := kg3
        replace kg1 := St.has (by omega) kg1
        replace kg2 := St.has (by omega) kg2
        replace kg4 := St.has (by omega) kg4
        replace GG := GG.store St bg3
        replace kg3 := St.new
        clear St
        refine wpList_nil ?_
        refine blk_n ?_
        refine then_n ?_
        refine wp_region_lit ?_
        refine s_val 27 rfl rfl (.int .i64 ((i + 1 : Nat) : Int)) (run_addI 3 _ _ _ rfl ((i : Nat) : Int) 1 ((i + 1 : Nat) : Int) rfl rfl (by omega) (by omega) (by omega) _) ?_
        refine nr ?_; intro U h; simp only [z0, z1] at h; subst h
        refine s_val 12 rfl rfl (.int .i64 ((i + 1 : Nat) : Int)) (rfl) ?_
        refine nr ?_; intro U h; simp only [z0, z1] at h; subst h
        refine wpList_nil ?_
        refine then_n ?_
        exact ⟨l.length + 1 - (i + 1), by omega, i + 1, (fun kz => ([.pointer (some ⟨g4, 0, none⟩), .bool true, .pointer (pK kH ao i 0), .agg (hdA (l.getD i zH)), .agg (hdA (l.getD i zH)), .bool true, .bool false, .pointer (some ⟨g4, 17, none⟩), .int .i64 (l.getD i zH).far, .int .i64 ((l.getD i zH).far + 1), .pointer (some ⟨g4, 17, none⟩), .agg (hdA (hdUp (l.getD i zH))), .agg (hdA (bestH s (l.take i))), .bool true, .agg (hdA (hdUp (l.getD i zH))), .int .i64 ((i + 1 : Nat) : Int)] : List Value).getD kz undef), rfl, rfl, by omega, GG, kg1, kg2, by rw [best_yes hil hnr (of_decide_eq_true hb)]; exact kg3⟩
end Go.Proofs.Ytljihaihhnamfaa
