/- Identities found by halves, and taken out of a row. -/
import Derived.Test.YtfabgonoonanfaaEA6
import Derived.Test.YtfabgonoonanfaaEW2
namespace Go.Proofs.Ytfabgonoonanfaa
open Go.RowKit
theorem cmp_zero (a b : Nat) : decide (cmpN a b = 0) = decide (a = b) := by
  unfold cmpN
  by_cases h : a < b
  · have : a ≠ b := by omega
    simp [h, this]
  · by_cases k : b < a
    · have : a ≠ b := by omega
      simp [h, k, this]
    · have : a = b := by omega
      simp [this]
theorem bs_found {l : List Nat} {x i : Nat} (hs : l.Pairwise (· < ·)) (hi : i ≤ l.length) (c1 : i = 0 ∨ l.getD (i - 1) 0 < x) (c2 : i = l.length ∨ ¬ l.getD i 0 < x) : (x ∈ l) = (i < l.length ∧ l.getD i 0 = x) := by
  apply propext
  have lt_of : ∀ p q, p < q → q < l.length → l.getD p 0 < l.getD q 0 := fun p q hpq hq => by
    have := List.pairwise_iff_getElem.1 hs p q (by omega) hq hpq
    rw [List.getD_eq_getElem?_getD, List.getD_eq_getElem?_getD, List.getElem?_eq_getElem hq, List.getElem?_eq_getElem (by omega : p < l.length)]
    exact this
  constructor
  · intro hx
    obtain ⟨t, ht, rfl⟩ := getD_of_mem 0 hx
    have h1 : ¬ t < i := fun h => by
      rcases c1 with c | c
      · omega
      · by_cases e : t = i - 1
        · rw [e] at c; omega
        · have := lt_of t (i - 1) (by omega) (by omega); omega
    have h2 : ¬ i < t := fun h => by
      rcases c2 with c | c
      · omega
      · have := lt_of i t h ht; omega
    have e : t = i := by omega
    exact ⟨by omega, by rw [e]⟩
  · rintro ⟨h1, h2⟩
    rw [← h2]
    exact getD_in 0 h1
/-- The closure that tells whom one has. -/
structure CloM (w : World) (B h : Nat) (M : List Nat) : Prop where
  out : ∃ mo mc, h < B ∧ B ≤ w.heap.size ∧ (∀ ad, mo = some ad → 0 < (M.flatMap kI.E).length → ad.block < B) ∧ w.heap[h]? = some (.cells #[.slice mo M.length mc] 24 (0, 0)) ∧ RK kI w mo mc M
theorem CloM.gro {w w' : World} {B h : Nat} {M : List Nat} (H : CloM w B h M) (G : Gro w w') : CloM w' B h M := by
  obtain ⟨mo, mc, h1, h2, h3, h4, h5⟩ := H.out
  exact ⟨mo, mc, h1, Nat.le_trans h2 G.size, h3, G.has h4, h5.gro G⟩
theorem CloM.gros {w w' : World} {B h : Nat} {M : List Nat} (H : CloM w B h M) {e : TypeId} {sz : Nat} {ao : Option Addr} {cap n : Nat} {cs : List Value} (G : GroS (Go.Proofs.Ytfabgonoonanfaa.blk ao) w w') (ho : OY w e sz B ao cap n cs) : CloM w' B h M := by
  obtain ⟨mo, mc, h1, h2, h3, h4, h5⟩ := H.out
  exact ⟨mo, mc, h1, Nat.le_trans h2 G.size, h3, G.has h4 fun hm => (by have := ho.base h hm; omega), h5.gros G fun ad ha h0 hm => (by have := ho.base _ hm; have := h3 ad ha h0; omega)⟩
theorem CloM.ne {w : World} {B h g : Nat} {M : List Nat} (H : CloM w B h M) (e : w.heap.size = g) : B ≤ g := by
  obtain ⟨mo, mc, h1, h2, _⟩ := H.out
  omega
theorem CloM.st {w w' : World} {B h g : Nat} {M : List Nat} {x : Obj} (H : CloM w B h M) (St : Stored w w' g x) (hg : B ≤ g) : CloM w' B h M := by
  obtain ⟨mo, mc, h1, h2, h3, h4, h5⟩ := H.out
  exact ⟨mo, mc, h1, Nat.le_trans h2 (Nat.le_of_eq St.size.symm), h3, St.has (by omega) h4, h5.st St fun ad ha h0 => (by have := h3 ad ha h0; omega)⟩
set_option maxRecDepth 100000 in
set_option maxHeartbeats 4000000 in
theorem bsearch_any (w : World) (ao : Option Addr) (cap : Nat) (l : List Nat) (HL : RK kI w ao cap l) (hl : l.length ≤ 1000000) (hs : l.Pairwise (· < ·)) (x : Nat) (hx : x < top) : Calls Try.prog 37 #[.slice ao l.length cap, .agg (idA x), .func (.func 38) #[] #[]] w (fun e w' => ∃ i : Nat, e = .returned (.tuple #[.int .i64 (i : Int), .bool (decide (x ∈ l))]) ∧ Gro w w') := by
  refine s_enter Try.func37 rfl Try.ntmps37 [.slice ao l.length cap, .agg (idA x), .func (.func 38) #[] #[]] [.slice ao l.length cap, .agg (idA x), .func (.func 38) #[] #[], undef, undef, undef, undef, undef, undef, undef, undef, undef, undef, undef, undef, undef, undef, undef, undef, undef, undef, undef, undef, undef, undef, undef, undef, undef, undef, undef, undef, undef, undef, undef, undef, undef, undef, undef, undef, undef, undef, undef, undef, undef, undef, undef, undef, undef, undef] rfl ?_
  have GG := Gro.refl w
  refine wp_seq ?_
  refine wp_region_lit ?_
  refine s_box 4 rfl rfl 23 _ rfl _ rfl (idA x) rfl ?_
  intro w1 g1 G eg1 kg1
  have bg1 := size_base GG eg1
  replace GG := GG.trans G
  clear G
  clear eg1
  refine nr ?_; intro U h; simp only [z0, z1] at h; subst h
  refine s_val 6 rfl rfl (.int .i64 0) (rfl) ?_
  refine nr ?_; intro U h; simp only [z0, z1] at h; subst h
  refine s_val 7 rfl rfl (.bool false) (rfl) ?_
  refine nr ?_; intro U h; simp only [z0, z1] at h; subst h
  refine wpList_nil ?_
  refine then_n ?_
  refine wp_seq ?_
  refine wp_region_lit ?_
  refine s_val 12 rfl rfl (.slice ao l.length cap) (rfl) ?_
  refine nr ?_; intro U h; simp only [z0, z1] at h; subst h
  refine s_val 13 rfl rfl (.int .i64 ((l.length : Nat) : Int)) (run_len Try.underlying24 _ rfl _ _ _ rfl _) ?_
  refine nr ?_; intro U h; simp only [z0, z1] at h; subst h
  refine s_val 8 rfl rfl (.int .i64 ((l.length : Nat) : Int)) (rfl) ?_
  refine nr ?_; intro U h; simp only [z0, z1] at h; subst h
  refine wpList_nil ?_
  refine then_n ?_
  refine wp_seq ?_
  refine wp_region_lit ?_
  refine s_val 14 rfl rfl (.int .i64 ((l.length : Nat) : Int)) (rfl) ?_
  refine nr ?_; intro U h; simp only [z0, z1] at h; subst h
  refine s_val 9 rfl rfl (.int .i64 0) (rfl) ?_
  refine nr ?_; intro U h; simp only [z0, z1] at h; subst h
  refine s_val 10 rfl rfl (.int .i64 ((l.length : Nat) : Int)) (rfl) ?_
  refine nr ?_; intro U h; simp only [z0, z1] at h; subst h
  refine wpList_nil ?_
  refine then_n ?_
  refine wp_seq ?_
  refine wp_block ?_
  refine wp_loopN (fun mz az wv => ∃ (i : Nat) (j : Nat) (us1 : Nat → Value), mz = j - i ∧ az = ⟨[.slice ao l.length cap, .agg (idA x), .func (.func 38) #[] #[], undef, .pointer (some ⟨g1, 0, none⟩), undef, .int .i64 0, .bool false, .int .i64 ((l.length : Nat) : Int), .int .i64 ((i : Nat) : Int), .int .i64 ((j : Nat) : Int), us1 0, .slice ao l.length cap, .int .i64 ((l.length : Nat) : Int), .int .i64 ((l.length : Nat) : Int), us1 1, us1 2, us1 3, us1 4, us1 5, us1 6, us1 7, us1 8, us1 9, us1 10, us1 11, us1 12, us1 13, us1 14, us1 15, us1 16, us1 17, us1 18, us1 19, us1 20, undef, undef, undef, undef, undef, undef, undef, undef, undef, undef, undef, undef, undef, undef].toArray, []⟩ ∧ i ≤ j ∧ j ≤ l.length ∧ (i = 0 ∨ (l.getD (i - 1) 0) < x) ∧ (j = l.length ∨ ¬ (l.getD j 0) < x) ∧ Gro w wv ∧ wv.heap[g1]? = some (.cells (idA x) 23 (0, 0))) ?_ _ ⟨0, l.length, (fun kz => ([undef, undef, undef, undef, undef, undef, undef, undef, undef, undef, undef, undef, undef, undef, undef, undef, undef, undef, undef, undef, undef] : List Value).getD kz undef), rfl, rfl, Nat.zero_le _, Nat.le_refl _, .inl rfl, .inl rfl, GG, kg1⟩
  clear GG kg1
  rintro mz az wv ⟨i, j, us1, rfl, rfl, hij, hj, c1, c2, GG, kg1⟩
  refine wp_seq ?_
  refine wp_seq ?_
  refine wp_region_lit ?_
  refine s_val 15 rfl rfl (.int .i64 ((i : Nat) : Int)) (rfl) ?_
  refine nr ?_; intro U h; simp only [z0, z1] at h; subst h
  refine s_val 16 rfl rfl (.int .i64 ((j : Nat) : Int)) (rfl) ?_
  refine nr ?_; intro U h; simp only [z0, z1] at h; subst h
  cases hij1 : decide (((i : Nat) : Int) < ((j : Nat) : Int))
  · have hie : i = j := by have := of_decide_eq_false hij1; omega
    refine s_val 17 rfl rfl (.bool false) (run_lssT 3 _ _ _ rfl ((i : Nat) : Int) ((j : Nat) : Int) rfl rfl false hij1 _) ?_
    refine nr ?_; intro U h; simp only [z0, z1] at h; subst h
    refine wpList_nil ?_
    refine then_n ?_
    refine wp_cond_false rfl ?_
    refine wp_exit ?_
    refine then_x ?_
    refine then_x ?_
    refine blk_x ?_
    refine then_n ?_
    refine wp_seq ?_
    cases hm : decide (((i : Nat) : Int) < ((l.length : Nat) : Int))
    · have hmn : ¬ i < l.length := by have := of_decide_eq_false hm; omega
      refine wp_region_exA (A := ?Ax1) 15 [(0, 35), (1, 36), (2, 37), (3, 38), (4, 39), (5, 40), (6, 41), (7, 42), (8, 43), (9, 44), (10, 45), (11, 46), (12, 47), (13, 48), (14, 6)] [.val (.int .i64 ((i : Nat) : Int)), .val (.int .i64 ((i : Nat) : Int)), .val (.int .i64 ((l.length : Nat) : Int)), .val (.bool false), .val (.bool false), .val undef, .val undef, .val undef, .val undef, .val undef, .val undef, .val undef, .val undef, .val (.bool false), .val (.int .i64 ((i : Nat) : Int))] follows (by kernel_rfl) rfl ?hAx1 (opsA_cons ?o0x1 (opsA_cons ?o1x1 (opsA_cons ?o2x1 (opsA_cons ?o3x1 (opsA_cons ?o4x1 (opsA_cons ?o5x1 (opsA_cons ?o6x1 (opsA_cons ?o7x1 (opsA_cons ?o8x1 (opsA_cons ?o9x1 (opsA_cons ?o10x1 (opsA_cons ?o11x1 (opsA_cons ?o12x1 (opsA_cons ?o13x1 (opsA_cons ?o14x1 opsA_nil))))))))))))))) ?restx1
      case hAx1 =>
        intro ptrs
        simp only [full, foldSlots, filledE, postE, List.foldl_cons, List.foldl_nil, List.getD_cons_zero, List.getD_cons_succ, fill_val, List.set_cons_zero, List.set_cons_succ]
        exact rfl
      case o0x1 => exact fun _ _ _ _ => opE_move (v := .int .i64 ((i : Nat) : Int)) _ rfl rfl rfl
      case o1x1 => exact fun _ _ _ _ => opE_move (v := .int .i64 ((i : Nat) : Int)) _ rfl rfl rfl
      case o2x1 => exact fun _ _ _ _ => opE_move (v := .int .i64 ((l.length : Nat) : Int)) _ rfl rfl rfl
      case o3x1 => exact fun _ _ _ _ => opE_value (v := .bool false) rfl (run_lssT 3 _ _ _ rfl ((i : Nat) : Int) ((l.length : Nat) : Int) rfl rfl false hm _)
      case o4x1 => exact fun _ _ _ _ => opE_move (v := .bool false) _ rfl rfl rfl
      case o5x1 => exact fun _ _ _ _ => opE_skip rfl
      case o6x1 => exact fun _ _ _ _ => opE_skip rfl
      case o7x1 => exact fun _ _ _ _ => opE_skip rfl
      case o8x1 => exact fun _ _ _ _ => opE_skip rfl
      case o9x1 => exact fun _ _ _ _ => opE_skip rfl
      case o10x1 => exact fun _ _ _ _ => opE_skip rfl
      case o11x1 => exact fun _ _ _ _ => opE_skip rfl
      case o12x1 => exact fun _ _ _ _ => opE_skip rfl
      case o13x1 => exact fun _ _ _ _ => opE_pick (v := .bool false) _ _ _ rfl rfl false rfl rfl
      case o14x1 => exact fun _ _ _ _ => opE_assign (v := .int .i64 ((i : Nat) : Int)) _ rfl rfl rfl
      intro ptrs w2 GD hxE
      simp only [List.drop_succ_cons, List.drop_zero]
      replace kg1 := GD.has kg1
      replace GG := GG.drew.trans GD
      clear GD
      refine s_val 7 rfl rfl (.bool false) (rfl) ?_
      refine nr ?_; intro U h; simp only [z0, z1] at h; subst h
      refine wpList_nil ?_
      refine then_n ?_
      refine wp_ret ?_
      refine bodyPost_ret (results_tmp2 Try.results37 _ _ _) rfl ?_
      have hf := bs_found hs (by omega) c1 (by rw [hie]; exact c2)
      exact ⟨i, congrArg (fun b => Ending.returned (.tuple #[.int .i64 (i : Int), .bool b])) (by simp only [hf]; exact (decide_eq_false fun h => hmn h.1).symm), GG⟩
    · have hml : i < l.length := by have := of_decide_eq_true hm; omega
      cases hq : decide ((l.getD i 0) = x)
      · refine wp_region_exA (A := ?Ax2) 15 [(0, 35), (1, 36), (2, 37), (3, 38), (4, 39), (5, 40), (6, 41), (7, 42), (8, 43), (9, 44), (10, 45), (11, 46), (12, 47), (13, 48), (14, 6)] [.val (.int .i64 ((i : Nat) : Int)), .val (.int .i64 ((i : Nat) : Int)), .val (.int .i64 ((l.length : Nat) : Int)), .val (.bool true), .val (.bool true), .val (.func (.func 38) #[] #[]), .val (.slice ao l.length cap), .val (.int .i64 ((i : Nat) : Int)), .val (.pointer (pK kI ao i 0)), .val (.agg (idA (l.getD i 0))), .val (.agg (idA x)), .val (.int .i64 (cmpN (l.getD i 0) x)), .val (.bool false), .val (.bool false), .val (.int .i64 ((i : Nat) : Int))] follows (by kernel_rfl) rfl ?hAx2 (opsA_cons ?o0x2 (opsA_cons ?o1x2 (opsA_cons ?o2x2 (opsA_cons ?o3x2 (opsA_cons ?o4x2 (opsA_cons ?o5x2 (opsA_cons ?o6x2 (opsA_cons ?o7x2 (opsA_cons ?o8x2 (opsA_cons ?o9x2 (opsA_cons ?o10x2 (opsA_cons ?o11x2 (opsA_cons ?o12x2 (opsA_cons ?o13x2 (opsA_cons ?o14x2 opsA_nil))))))))))))))) ?restx2
        case hAx2 =>
          intro ptrs
          simp only [full, foldSlots, filledE, postE, List.foldl_cons, List.foldl_nil, List.getD_cons_zero, List.getD_cons_succ, fill_val, List.set_cons_zero, List.set_cons_succ]
          exact rfl
        case o0x2 => exact fun _ _ _ _ => opE_move (v := .int .i64 ((i : Nat) : Int)) _ rfl rfl rfl
        case o1x2 => exact fun _ _ _ _ => opE_move (v := .int .i64 ((i : Nat) : Int)) _ rfl rfl rfl
        case o2x2 => exact fun _ _ _ _ => opE_move (v := .int .i64 ((l.length : Nat) : Int)) _ rfl rfl rfl
        case o3x2 => exact fun _ _ _ _ => opE_value (v := .bool true) rfl (run_lssT 3 _ _ _ rfl ((i : Nat) : Int) ((l.length : Nat) : Int) rfl rfl true hm _)
        case o4x2 => exact fun _ _ _ _ => opE_move (v := .bool true) _ rfl rfl rfl
        case o5x2 => exact fun _ _ _ _ => opE_move (v := .func (.func 38) #[] #[]) _ rfl rfl rfl
        case o6x2 => exact fun _ _ _ _ => opE_move (v := .slice ao l.length cap) _ rfl rfl rfl
        case o7x2 => exact fun _ _ _ _ => opE_move (v := .int .i64 ((i : Nat) : Int)) _ rfl rfl rfl
        case o8x2 => exact fun _ _ hw _ => opE_value (v := .pointer (pK kI ao i 0)) rfl (run_ixK rIk (HL.gro (GG.drew.trans hw)) _ _ rfl rfl i rfl (by omega))
        case o9x2 => exact fun _ _ hw _ => opE_value (v := .agg (idA (l.getD i 0))) rfl (run_ldKI (HL.gro (GG.drew.trans hw)) _ rfl i rfl (by omega))
        case o10x2 => exact fun _ _ hw _ => opE_value (v := .agg (idA x)) rfl (ldI0 _ rfl g1 rfl (hw.has kg1))
        case o11x2 =>
          intro ptrs w' hw hE
          exact opE_callF (.val (.int .i64 (cmpN (l.getD i 0) x))) rfl _ 38 #[] Try.call38 rfl _ rfl rfl _ rfl [.agg (idA (l.getD i 0)), .agg (idA x)] rfl ((cmp_any (l.getD i 0) x (atI HL (by omega)) hx _).mono fun e w' ⟨he, hg⟩ => ⟨_, he, hg, rfl⟩)
        case o12x2 => exact fun _ _ _ _ => opE_value (v := .bool false) rfl (run_eq_k 3 .i64 _ _ _ rfl Try.underlying3 (cmpN (l.getD i 0) x) 0 rfl rfl false ((cmp_zero _ _).trans hq) _)
        case o13x2 => exact fun _ _ _ _ => opE_pick (v := .bool false) _ _ _ rfl rfl true rfl rfl
        case o14x2 => exact fun _ _ _ _ => opE_assign (v := .int .i64 ((i : Nat) : Int)) _ rfl rfl rfl
        intro ptrs w2 GD hxE
        simp only [List.drop_succ_cons, List.drop_zero]
        replace kg1 := GD.has kg1
        replace GG := GG.drew.trans GD
        clear GD
        refine s_val 7 rfl rfl (.bool false) (rfl) ?_
        refine nr ?_; intro U h; simp only [z0, z1] at h; subst h
        refine wpList_nil ?_
        refine then_n ?_
        refine wp_ret ?_
        refine bodyPost_ret (results_tmp2 Try.results37 _ _ _) rfl ?_
        have hf := bs_found hs (by omega) c1 (by rw [hie]; exact c2)
        exact ⟨i, congrArg (fun b => Ending.returned (.tuple #[.int .i64 (i : Int), .bool b])) (by simp only [hf]; exact (decide_eq_false fun h => of_decide_eq_false hq h.2).symm), GG⟩
      · refine wp_region_exA (A := ?Ax3) 15 [(0, 35), (1, 36), (2, 37), (3, 38), (4, 39), (5, 40), (6, 41), (7, 42), (8, 43), (9, 44), (10, 45), (11, 46), (12, 47), (13, 48), (14, 6)] [.val (.int .i64 ((i : Nat) : Int)), .val (.int .i64 ((i : Nat) : Int)), .val (.int .i64 ((l.length : Nat) : Int)), .val (.bool true), .val (.bool true), .val (.func (.func 38) #[] #[]), .val (.slice ao l.length cap), .val (.int .i64 ((i : Nat) : Int)), .val (.pointer (pK kI ao i 0)), .val (.agg (idA (l.getD i 0))), .val (.agg (idA x)), .val (.int .i64 (cmpN (l.getD i 0) x)), .val (.bool true), .val (.bool true), .val (.int .i64 ((i : Nat) : Int))] follows (by kernel_rfl) rfl ?hAx3 (opsA_cons ?o0x3 (opsA_cons ?o1x3 (opsA_cons ?o2x3 (opsA_cons ?o3x3 (opsA_cons ?o4x3 (opsA_cons ?o5x3 (opsA_cons ?o6x3 (opsA_cons ?o7x3 (opsA_cons ?o8x3 (opsA_cons ?o9x3 (opsA_cons ?o10x3 (opsA_cons ?o11x3 (opsA_cons ?o12x3 (opsA_cons ?o13x3 (opsA_cons ?o14x3 opsA_nil))))))))))))))) ?restx3
        case hAx3 =>
          intro ptrs
          simp only [full, foldSlots, filledE, postE, List.foldl_cons, List.foldl_nil, List.getD_cons_zero, List.getD_cons_succ, fill_val, List.set_cons_zero, List.set_cons_succ]
          exact rfl
        case o0x3 => exact fun _ _ _ _ => opE_move (v := .int .i64 ((i : Nat) : Int)) _ rfl rfl rfl
        case o1x3 => exact fun _ _ _ _ => opE_move (v := .int .i64 ((i : Nat) : Int)) _ rfl rfl rfl
        case o2x3 => exact fun _ _ _ _ => opE_move (v := .int .i64 ((l.length : Nat) : Int)) _ rfl rfl rfl
        case o3x3 => exact fun _ _ _ _ => opE_value (v := .bool true) rfl (run_lssT 3 _ _ _ rfl ((i : Nat) : Int) ((l.length : Nat) : Int) rfl rfl true hm _)
        case o4x3 => exact fun _ _ _ _ => opE_move (v := .bool true) _ rfl rfl rfl
        case o5x3 => exact fun _ _ _ _ => opE_move (v := .func (.func 38) #[] #[]) _ rfl rfl rfl
        case o6x3 => exact fun _ _ _ _ => opE_move (v := .slice ao l.length cap) _ rfl rfl rfl
        case o7x3 => exact fun _ _ _ _ => opE_move (v := .int .i64 ((i : Nat) : Int)) _ rfl rfl rfl
        case o8x3 => exact fun _ _ hw _ => opE_value (v := .pointer (pK kI ao i 0)) rfl (run_ixK rIk (HL.gro (GG.drew.trans hw)) _ _ rfl rfl i rfl (by omega))
        case o9x3 => exact fun _ _ hw _ => opE_value (v := .agg (idA (l.getD i 0))) rfl (run_ldKI (HL.gro (GG.drew.trans hw)) _ rfl i rfl (by omega))
        case o10x3 => exact fun _ _ hw _ => opE_value (v := .agg (idA x)) rfl (ldI0 _ rfl g1 rfl (hw.has kg1))
        case o11x3 =>
          intro ptrs w' hw hE
          exact opE_callF (.val (.int .i64 (cmpN (l.getD i 0) x))) rfl _ 38 #[] Try.call38 rfl _ rfl rfl _ rfl [.agg (idA (l.getD i 0)), .agg (idA x)] rfl ((cmp_any (l.getD i 0) x (atI HL (by omega)) hx _).mono fun e w' ⟨he, hg⟩ => ⟨_, he, hg, rfl⟩)
        case o12x3 => exact fun _ _ _ _ => opE_value (v := .bool true) rfl (run_eq_k 3 .i64 _ _ _ rfl Try.underlying3 (cmpN (l.getD i 0) x) 0 rfl rfl true ((cmp_zero _ _).trans hq) _)
        case o13x3 => exact fun _ _ _ _ => opE_pick (v := .bool true) _ _ _ rfl rfl true rfl rfl
        case o14x3 => exact fun _ _ _ _ => opE_assign (v := .int .i64 ((i : Nat) : Int)) _ rfl rfl rfl
        intro ptrs w2 GD hxE
        simp only [List.drop_succ_cons, List.drop_zero]
        replace kg1 := GD.has kg1
        replace GG := GG.drew.trans GD
        clear GD
        refine s_val 7 rfl rfl (.bool true) (rfl) ?_
        refine nr ?_; intro U h; simp only [z0, z1] at h; subst h
        refine wpList_nil ?_
        refine then_n ?_
        refine wp_ret ?_
        refine bodyPost_ret (results_tmp2 Try.results37 _ _ _) rfl ?_
        have hf := bs_found hs (by omega) c1 (by rw [hie]; exact c2)
        exact ⟨i, congrArg (fun b => Ending.returned (.tuple #[.int .i64 (i : Int), .bool b])) (by simp only [hf]; exact (decide_eq_true ⟨hml, of_decide_eq_true hq⟩).symm), GG⟩
  · have hil : i < j := by have := of_decide_eq_true hij1; omega
    obtain ⟨h, hh⟩ : ∃ h, (i + j) / 2 ^ 1 = h := ⟨_, rfl⟩
    have hh2 : (i + j) / 2 = h := hh
    refine s_val 17 rfl rfl (.bool true) (run_lssT 3 _ _ _ rfl ((i : Nat) : Int) ((j : Nat) : Int) rfl rfl true hij1 _) ?_
    refine nr ?_; intro U h; simp only [z0, z1] at h; subst h
    refine wpList_nil ?_
    refine then_n ?_
    refine wp_cond_true rfl ?_
    refine wp_skip ?_
    refine then_n ?_
    refine wp_block ?_
    refine wp_seq ?_
    refine wp_region_lit ?_
    refine s_val 18 rfl rfl (.int .i64 ((i : Nat) : Int)) (rfl) ?_
    refine nr ?_; intro U h; simp only [z0, z1] at h; subst h
    refine s_val 19 rfl rfl (.int .i64 ((j : Nat) : Int)) (rfl) ?_
    refine nr ?_; intro U h; simp only [z0, z1] at h; subst h
    refine s_val 20 rfl rfl (.int .i64 ((i + j : Nat) : Int)) (run_addI 3 _ _ _ rfl ((i : Nat) : Int) ((j : Nat) : Int) ((i + j : Nat) : Int) rfl rfl (by omega) (by omega) (by omega) _) ?_
    refine nr ?_; intro U h; simp only [z0, z1] at h; subst h
    refine s_val 21 rfl rfl (.int .u64 ((i + j : Nat) : Int)) (cv3u _ rfl (i + j) (by omega) rfl _) ?_
    refine nr ?_; intro U h; simp only [z0, z1] at h; subst h
    refine s_val 22 rfl rfl (.int .u64 ((h : Nat) : Int)) (run_shr64 77 77 _ _ rfl (i + j) 1 .u64 rfl rfl (by decide) h hh _) ?_
    refine nr ?_; intro U h; simp only [z0, z1] at h; subst h
    refine s_val 23 rfl rfl (.int .i64 ((h : Nat) : Int)) (cvu3 _ rfl h (by omega) rfl _) ?_
    refine nr ?_; intro U h; simp only [z0, z1] at h; subst h
    refine s_val 11 rfl rfl (.int .i64 ((h : Nat) : Int)) (rfl) ?_
    refine nr ?_; intro U h; simp only [z0, z1] at h; subst h
    refine wpList_nil ?_
    refine then_n ?_
    refine wp_seq ?_
    cases hc : decide ((l.getD h 0) < x)
    · refine wp_region_exA (A := ?Ax4) 6 [(0, 24), (1, 25), (2, 26), (3, 27), (4, 28), (5, 29)] [.val (.func (.func 38) #[] #[]), .val (.slice ao l.length cap), .val (.int .i64 ((h : Nat) : Int)), .val (.pointer (pK kI ao h 0)), .val (.agg (idA (l.getD h 0))), .val (.agg (idA x))] follows (by kernel_rfl) rfl ?hAx4 (opsA_cons ?o0x4 (opsA_cons ?o1x4 (opsA_cons ?o2x4 (opsA_cons ?o3x4 (opsA_cons ?o4x4 (opsA_cons ?o5x4 opsA_nil)))))) ?restx4
      case hAx4 =>
        intro ptrs
        simp only [full, foldSlots, filledE, postE, List.foldl_cons, List.foldl_nil, List.getD_cons_zero, List.getD_cons_succ, fill_val, List.set_cons_zero, List.set_cons_succ]
        exact rfl
      case o0x4 => exact fun _ _ _ _ => opE_move (v := .func (.func 38) #[] #[]) _ rfl rfl rfl
      case o1x4 => exact fun _ _ _ _ => opE_move (v := .slice ao l.length cap) _ rfl rfl rfl
      case o2x4 => exact fun _ _ _ _ => opE_move (v := .int .i64 ((h : Nat) : Int)) _ rfl rfl rfl
      case o3x4 => exact fun _ _ hw _ => opE_value (v := .pointer (pK kI ao h 0)) rfl (run_ixK rIk (HL.gro (GG.drew.trans hw)) _ _ rfl rfl h rfl (by omega))
      case o4x4 => exact fun _ _ hw _ => opE_value (v := .agg (idA (l.getD h 0))) rfl (run_ldKI (HL.gro (GG.drew.trans hw)) _ rfl h rfl (by omega))
      case o5x4 => exact fun _ _ hw _ => opE_value (v := .agg (idA x)) rfl (ldI0 _ rfl g1 rfl (hw.has kg1))
      intro ptrs w2 GD hxE
      simp only [List.drop_succ_cons, List.drop_zero]
      replace kg1 := GD.has kg1
      replace GG := GG.drew.trans GD
      clear GD
      refine s_callF 30 rfl rfl _ 38 #[] Try.call38 rfl _ rfl rfl _ rfl [.agg (idA (l.getD h 0)), .agg (idA x)] rfl (cmp_any (l.getD h 0) x (atI HL (by omega)) hx _) ?_
      intro w3 G
      replace kg1 := G.has kg1
      replace GG := GG.trans G
      clear G
      refine nr ?_; intro U h; simp only [z0, z1] at h; subst h
      refine s_val 31 rfl rfl (.bool false) (run_lssT 3 _ _ _ rfl (cmpN (l.getD h 0) x) 0 rfl rfl false ((cmp_neg _ _).trans hc) _) ?_
      refine nr ?_; intro U h; simp only [z0, z1] at h; subst h
      refine wpList_nil ?_
      refine then_n ?_
      refine wp_cond_false rfl ?_
      refine wp_region_lit ?_
      refine s_val 34 rfl rfl (.int .i64 ((h : Nat) : Int)) (rfl) ?_
      refine nr ?_; intro U h; simp only [z0, z1] at h; subst h
      refine s_val 10 rfl rfl (.int .i64 ((h : Nat) : Int)) (rfl) ?_
      refine nr ?_; intro U h; simp only [z0, z1] at h; subst h
      refine wpList_nil ?_
      refine blk_n ?_
      refine then_n ?_
      exact ⟨h - i, by omega, i, h, (fun kz => ([.int .i64 ((h : Nat) : Int), .int .i64 ((i : Nat) : Int), .int .i64 ((j : Nat) : Int), .bool true, .int .i64 ((i : Nat) : Int), .int .i64 ((j : Nat) : Int), .int .i64 ((i + j : Nat) : Int), .int .u64 ((i + j : Nat) : Int), .int .u64 ((h : Nat) : Int), .int .i64 ((h : Nat) : Int), .func (.func 38) #[] #[], .slice ao l.length cap, .int .i64 ((h : Nat) : Int), .pointer (pK kI ao h 0), .agg (idA (l.getD h 0)), .agg (idA x), .int .i64 (cmpN (l.getD h 0) x), .bool false, us1 18, us1 19, .int .i64 ((h : Nat) : Int)] : List Value).getD kz undef), rfl, rfl, by omega, by omega, c1, .inr (of_decide_eq_false hc), GG, kg1⟩
    · refine wp_region_exA (A := ?Ax5) 6 [(0, 24), (1, 25), (2, 26), (3, 27), (4, 28), (5, 29)] [.val (.func (.func 38) #[] #[]), .val (.slice ao l.length cap), .val (.int .i64 ((h : Nat) : Int)), .val (.pointer (pK kI ao h 0)), .val (.agg (idA (l.getD h 0))), .val (.agg (idA x))] follows (by kernel_rfl) rfl ?hAx5 (opsA_cons ?o0x5 (opsA_cons ?o1x5 (opsA_cons ?o2x5 (opsA_cons ?o3x5 (opsA_cons ?o4x5 (opsA_cons ?o5x5 opsA_nil)))))) ?restx5
      case hAx5 =>
        intro ptrs
        simp only [full, foldSlots, filledE, postE, List.foldl_cons, List.foldl_nil, List.getD_cons_zero, List.getD_cons_succ, fill_val, List.set_cons_zero, List.set_cons_succ]
        exact rfl
      case o0x5 => exact fun _ _ _ _ => opE_move (v := .func (.func 38) #[] #[]) _ rfl rfl rfl
      case o1x5 => exact fun _ _ _ _ => opE_move (v := .slice ao l.length cap) _ rfl rfl rfl
      case o2x5 => exact fun _ _ _ _ => opE_move (v := .int .i64 ((h : Nat) : Int)) _ rfl rfl rfl
      case o3x5 => exact fun _ _ hw _ => opE_value (v := .pointer (pK kI ao h 0)) rfl (run_ixK rIk (HL.gro (GG.drew.trans hw)) _ _ rfl rfl h rfl (by omega))
      case o4x5 => exact fun _ _ hw _ => opE_value (v := .agg (idA (l.getD h 0))) rfl (run_ldKI (HL.gro (GG.drew.trans hw)) _ rfl h rfl (by omega))
      case o5x5 => exact fun _ _ hw _ => opE_value (v := .agg (idA x)) rfl (ldI0 _ rfl g1 rfl (hw.has kg1))
      intro ptrs w2 GD hxE
      simp only [List.drop_succ_cons, List.drop_zero]
      replace kg1 := GD.has kg1
      replace GG := GG.drew.trans GD
      clear GD
      refine s_callF 30 rfl rfl _ 38 #[] Try.call38 rfl _ rfl rfl _ rfl [.agg (idA (l.getD h 0)), .agg (idA x)] rfl (cmp_any (l.getD h 0) x (atI HL (by omega)) hx _) ?_
      intro w3 G
      replace kg1 := G.has kg1
      replace GG := GG.trans G
      clear G
      refine nr ?_; intro U h; simp only [z0, z1] at h; subst h
      refine s_val 31 rfl rfl (.bool true) (run_lssT 3 _ _ _ rfl (cmpN (l.getD h 0) x) 0 rfl rfl true ((cmp_neg _ _).trans hc) _) ?_
      refine nr ?_; intro U h; simp only [z0, z1] at h; subst h
      refine wpList_nil ?_
      refine then_n ?_
      refine wp_cond_true rfl ?_
      refine wp_region_lit ?_
      refine s_val 32 rfl rfl (.int .i64 ((h : Nat) : Int)) (rfl) ?_
      refine nr ?_; intro U h; simp only [z0, z1] at h; subst h
      refine s_val 33 rfl rfl (.int .i64 ((h + 1 : Nat) : Int)) (run_addI 3 _ _ _ rfl ((h : Nat) : Int) 1 ((h + 1 : Nat) : Int) rfl rfl (by omega) (by omega) (by omega) _) ?_
      refine nr ?_; intro U h; simp only [z0, z1] at h; subst h
      refine s_val 9 rfl rfl (.int .i64 ((h + 1 : Nat) : Int)) (rfl) ?_
      refine nr ?_; intro U h; simp only [z0, z1] at h; subst h
      refine wpList_nil ?_
      refine blk_n ?_
      refine then_n ?_
      exact ⟨j - (h + 1), by omega, h + 1, j, (fun kz => ([.int .i64 ((h : Nat) : Int), .int .i64 ((i : Nat) : Int), .int .i64 ((j : Nat) : Int), .bool true, .int .i64 ((i : Nat) : Int), .int .i64 ((j : Nat) : Int), .int .i64 ((i + j : Nat) : Int), .int .u64 ((i + j : Nat) : Int), .int .u64 ((h : Nat) : Int), .int .i64 ((h : Nat) : Int), .func (.func 38) #[] #[], .slice ao l.length cap, .int .i64 ((h : Nat) : Int), .pointer (pK kI ao h 0), .agg (idA (l.getD h 0)), .agg (idA x), .int .i64 (cmpN (l.getD h 0) x), .bool true, .int .i64 ((h : Nat) : Int), .int .i64 ((h + 1 : Nat) : Int), us1 20] : List Value).getD kz undef), rfl, rfl, by omega, hj, .inr (of_decide_eq_true hc), c2, GG, kg1⟩
set_option maxRecDepth 100000 in
set_option maxHeartbeats 4000000 in
theorem among_any (w : World) (ao : Option Addr) (cap : Nat) (l : List Nat) (HL : RK kI w ao cap l) (hl : l.length ≤ 1000000) (hs : l.Pairwise (· < ·)) (x : Nat) (hx : x < top) : Calls Try.prog 19 #[.slice ao l.length cap, .agg (idA x)] w (fun e w' => e = .returned (.bool (decide (x ∈ l))) ∧ Gro w w') := by
  refine s_enter Try.func19 rfl Try.ntmps19 [.slice ao l.length cap, .agg (idA x)] [.slice ao l.length cap, .agg (idA x), undef, undef, undef, undef, undef, undef, undef, undef, undef, undef, undef, undef] rfl ?_
  have GG := Gro.refl w
  refine wp_seq ?_
  refine wp_region_lit ?_
  refine s_box 3 rfl rfl 23 _ rfl _ rfl (idA x) rfl ?_
  intro w1 g1 G eg1 kg1
  have bg1 := size_base GG eg1
  replace GG := GG.trans G
  clear G
  clear eg1
  refine nr ?_; intro U h; simp only [z0, z1] at h; subst h
  refine s_val 4 rfl rfl (.bool false) (rfl) ?_
  refine nr ?_; intro U h; simp only [z0, z1] at h; subst h
  refine wpList_nil ?_
  refine then_n ?_
  refine wp_seq ?_
  refine wp_region_lit ?_
  refine s_val 8 rfl rfl (.slice ao l.length cap) (rfl) ?_
  refine nr ?_; intro U h; simp only [z0, z1] at h; subst h
  refine s_val 9 rfl rfl (.agg (idA x)) (ldI0 _ rfl g1 rfl (kg1)) ?_
  refine nr ?_; intro U h; simp only [z0, z1] at h; subst h
  refine s_callx 10 rfl rfl _ 37 Try.call37 rfl rfl _ rfl [.slice ao l.length cap, .agg (idA x), .func (.func 38) #[] #[]] rfl (bsearch_any _ ao cap l (HL.gro GG) hl hs x hx) (by rintro _ _ ⟨_, he, _⟩; exact ⟨_, he⟩) ?_
  rintro v w2 ⟨i, he, G⟩
  cases he
  replace kg1 := G.has kg1
  replace GG := GG.trans G
  clear G
  refine nr ?_; intro U h; simp only [z0, z1] at h; subst h
  refine s_val 7 rfl rfl (.tuple #[.int .i64 ((i : Nat) : Int), .bool (decide (x ∈ l))]) (rfl) ?_
  refine nr ?_; intro U h; simp only [z0, z1] at h; subst h
  refine s_val 11 rfl rfl (.int .i64 ((i : Nat) : Int)) (rfl) ?_
  refine nr ?_; intro U h; simp only [z0, z1] at h; subst h
  refine s_val 12 rfl rfl (.bool (decide (x ∈ l))) (rfl) ?_
  refine nr ?_; intro U h; simp only [z0, z1] at h; subst h
  refine s_val 5 rfl rfl (.int .i64 ((i : Nat) : Int)) (rfl) ?_
  refine nr ?_; intro U h; simp only [z0, z1] at h; subst h
  refine s_val 6 rfl rfl (.bool (decide (x ∈ l))) (rfl) ?_
  refine nr ?_; intro U h; simp only [z0, z1] at h; subst h
  refine wpList_nil ?_
  refine then_n ?_
  refine wp_seq ?_
  refine wp_region_lit ?_
  refine s_val 13 rfl rfl (.bool (decide (x ∈ l))) (rfl) ?_
  refine nr ?_; intro U h; simp only [z0, z1] at h; subst h
  refine s_val 4 rfl rfl (.bool (decide (x ∈ l))) (rfl) ?_
  refine nr ?_; intro U h; simp only [z0, z1] at h; subst h
  refine wpList_nil ?_
  refine then_n ?_
  refine wp_ret ?_
  refine bodyPost_ret (results_tmp Try.results19 _ _ _) rfl ?_
  exact ⟨rfl, GG⟩
set_option maxRecDepth 100000 in
set_option maxHeartbeats 4000000 in
theorem has36_any (w : World) (B h : Nat) (M : List Nat) (CM : CloM w B h M) (hM : M.length ≤ 1000000) (hs : M.Pairwise (· < ·)) (x : Nat) (hx : x < top) : Calls Try.prog 36 #[.agg (idA x), .pointer (some ⟨h, 0, none⟩)] w (fun e w' => e = .returned (.bool (decide (x ∈ M))) ∧ Gro w w') := by
  refine s_enter Try.func36 rfl Try.ntmps36 [.agg (idA x), .pointer (some ⟨h, 0, none⟩)] [.agg (idA x), .pointer (some ⟨h, 0, none⟩), undef, undef, undef, undef, undef] rfl ?_
  have GG := Gro.refl w
  obtain ⟨mo, mc, _, _, _, kh, HM⟩ := CM.out
  refine wp_seq ?_
  refine wp_region_lit ?_
  refine s_box 2 rfl rfl 23 _ rfl _ rfl (idA x) rfl ?_
  intro w1 g1 G eg1 kg1
  have bg1 := size_base GG eg1
  have dhg1 := lt_new kh eg1
  replace kh := G.has kh
  replace HM := HM.gro G
  replace GG := GG.trans G
  clear G
  clear eg1
  refine nr ?_; intro U h; simp only [z0, z1] at h; subst h
  refine s_val 3 rfl rfl (.bool false) (rfl) ?_
  refine nr ?_; intro U h; simp only [z0, z1] at h; subst h
  refine wpList_nil ?_
  refine then_n ?_
  refine wp_seq ?_
  refine wp_region_lit ?_
  refine s_val 4 rfl rfl (.slice mo M.length mc) (run_ldc 24 _ rfl h 0 rfl 24 _ kh (na24 _) _ rfl) ?_
  refine nr ?_; intro U h; simp only [z0, z1] at h; subst h
  refine s_val 5 rfl rfl (.agg (idA x)) (ldI0 _ rfl g1 rfl (kg1)) ?_
  refine nr ?_; intro U h; simp only [z0, z1] at h; subst h
  refine s_callv 6 rfl rfl _ 19 Try.call19 rfl rfl _ rfl [.slice mo M.length mc, .agg (idA x)] rfl (among_any _ mo mc M HM hM hs x hx) ?_
  intro w2 G
  replace kh := G.has kh
  replace kg1 := G.has kg1
  replace HM := HM.gro G
  replace GG := GG.trans G
  clear G
  refine nr ?_; intro U h; simp only [z0, z1] at h; subst h
  refine s_val 3 rfl rfl (.bool (decide (x ∈ M))) (rfl) ?_
  refine nr ?_; intro U h; simp only [z0, z1] at h; subst h
  refine wpList_nil ?_
  refine then_n ?_
  refine wp_ret ?_
  refine bodyPost_ret (results_tmp Try.results36 _ _ _) rfl ?_
  exact ⟨rfl, GG⟩
set_option maxRecDepth 100000 in
set_option maxHeartbeats 4000000 in
theorem indexM_any (w : World) (ao : Option Addr) (cap : Nat) (l : List Nat) (HL : RK kI w ao cap l) (hl : l.length ≤ 1000000) (B h : Nat) (M : List Nat) (CM : CloM w B h M) (hM : M.length ≤ 1000000) (hs : M.Pairwise (· < ·)) : Calls Try.prog 49 #[.slice ao l.length cap, .func (.func 36) #[] #[.pointer (some ⟨h, 0, none⟩)]] w (fun e w' => ∃ r : Int, e = .returned (.int .i64 r) ∧ Gro w w' ∧ ((r = -1 ∧ ∀ k, k < l.length → l.getD k 0 ∉ M) ∨ ∃ i : Nat, r = (i : Int) ∧ i < l.length ∧ l.getD i 0 ∈ M ∧ ∀ k, k < i → l.getD k 0 ∉ M)) := by
  refine s_enter Try.func49 rfl Try.ntmps49 [.slice ao l.length cap, .func (.func 36) #[] #[.pointer (some ⟨h, 0, none⟩)]] [.slice ao l.length cap, .func (.func 36) #[] #[.pointer (some ⟨h, 0, none⟩)], undef, undef, undef, undef, undef, undef, undef, undef, undef, undef, undef, undef, undef, undef, undef, undef, undef] rfl ?_
  have GG := Gro.refl w
  refine wp_seq ?_
  refine wp_region_lit ?_
  refine s_val 4 rfl rfl (.int .i64 0) (rfl) ?_
  refine nr ?_; intro U h; simp only [z0, z1] at h; subst h
  refine wpList_nil ?_
  refine then_n ?_
  refine wp_seq ?_
  refine wp_seq ?_
  refine wp_region_lit ?_
  refine s_val 6 rfl rfl (.slice ao l.length cap) (rfl) ?_
  refine nr ?_; intro U h; simp only [z0, z1] at h; subst h
  refine s_val 7 rfl rfl (.int .i64 ((l.length : Nat) : Int)) (run_len Try.underlying24 _ rfl _ _ _ rfl _) ?_
  refine nr ?_; intro U h; simp only [z0, z1] at h; subst h
  refine s_val 8 rfl rfl (.int .i64 0) (rfl) ?_
  refine nr ?_; intro U h; simp only [z0, z1] at h; subst h
  refine wpList_nil ?_
  refine then_n ?_
  refine wp_block ?_
  refine wp_loopN (fun mz az wv => ∃ (j : Nat) (us1 : Nat → Value), mz = l.length + 1 - j ∧ az = ⟨[.slice ao l.length cap, .func (.func 36) #[] #[.pointer (some ⟨h, 0, none⟩)], undef, undef, us1 0, us1 1, .slice ao l.length cap, .int .i64 ((l.length : Nat) : Int), .int .i64 ((j : Nat) : Int), us1 2, us1 3, us1 4, us1 5, us1 6, us1 7, us1 8, us1 9, us1 10, us1 11].toArray, []⟩ ∧ j ≤ l.length ∧ (∀ k, k < j → l.getD k 0 ∉ M) ∧ Gro w wv ∧ CloM wv B h M) ?_ _ ⟨0, (fun kz => ([.int .i64 0, undef, undef, undef, undef, undef, undef, undef, undef, undef, undef, undef] : List Value).getD kz undef), rfl, rfl, Nat.zero_le _, fun _ h => absurd h (by omega), GG, CM⟩
  clear GG CM
  rintro mz az wv ⟨j, us1, rfl, rfl, hj, hn, GG, CM⟩
  refine wp_seq ?_
  refine wp_region_lit ?_
  cases hj1 : decide (((j : Nat) : Int) < ((l.length : Nat) : Int))
  · have hje : j = l.length := by have := of_decide_eq_false hj1; omega
    refine s_val 9 rfl rfl (.bool false) (run_lssT 3 _ _ _ rfl ((j : Nat) : Int) ((l.length : Nat) : Int) rfl rfl false hj1 _) ?_
    refine nr ?_; intro U h; simp only [z0, z1] at h; subst h
    refine wpList_nil ?_
    refine then_n ?_
    refine wp_seq ?_
    refine wp_cond_false rfl ?_
    refine wp_exit ?_
    refine then_x ?_
    refine then_x ?_
    refine blk_x ?_
    refine then_n ?_
    refine wp_seq ?_
    refine wp_region_lit ?_
    refine s_val 4 rfl rfl (.int .i64 (-1)) (rfl) ?_
    refine nr ?_; intro U h; simp only [z0, z1] at h; subst h
    refine wpList_nil ?_
    refine then_n ?_
    refine wp_ret ?_
    refine bodyPost_ret (results_tmp Try.results49 _ _ _) rfl ?_
    exact ⟨_, rfl, GG, .inl ⟨rfl, fun k hk => hn k (by omega)⟩⟩
  · have hjl : j < l.length := by have := of_decide_eq_true hj1; omega
    refine s_val 9 rfl rfl (.bool true) (run_lssT 3 _ _ _ rfl ((j : Nat) : Int) ((l.length : Nat) : Int) rfl rfl true hj1 _) ?_
    refine nr ?_; intro U h; simp only [z0, z1] at h; subst h
    refine wpList_nil ?_
    refine then_n ?_
    refine wp_seq ?_
    refine wp_cond_true rfl ?_
    refine wp_skip ?_
    refine then_n ?_
    refine wp_seq ?_
    refine wp_block ?_
    refine wp_seq ?_
    refine wp_region_lit ?_
    refine s_val 10 rfl rfl (.int .i64 ((j : Nat) : Int)) (rfl) ?_
    refine nr ?_; intro U h; simp only [z0, z1] at h; subst h
    refine s_val 5 rfl rfl (.int .i64 ((j : Nat) : Int)) (rfl) ?_
    refine nr ?_; intro U h; simp only [z0, z1] at h; subst h
    refine wpList_nil ?_
    refine then_n ?_
    refine wp_seq ?_
    cases hd : decide (l.getD j 0 ∈ M)
    · refine wp_region_lit ?_
      refine s_val 11 rfl rfl (.func (.func 36) #[] #[.pointer (some ⟨h, 0, none⟩)]) (rfl) ?_
      refine nr ?_; intro U h; simp only [z0, z1] at h; subst h
      refine s_val 12 rfl rfl (.slice ao l.length cap) (rfl) ?_
      refine nr ?_; intro U h; simp only [z0, z1] at h; subst h
      refine s_val 13 rfl rfl (.int .i64 ((j : Nat) : Int)) (rfl) ?_
      refine nr ?_; intro U h; simp only [z0, z1] at h; subst h
      refine s_val 14 rfl rfl (.pointer (pK kI ao j 0)) (run_ixK rIk (HL.gro GG) _ _ rfl rfl j rfl (by omega)) ?_
      refine nr ?_; intro U h; simp only [z0, z1] at h; subst h
      refine s_val 15 rfl rfl (.agg (idA (l.getD j 0))) (run_ldKI (HL.gro GG) _ rfl j rfl (by omega)) ?_
      refine nr ?_; intro U h; simp only [z0, z1] at h; subst h
      refine s_callF 16 rfl rfl _ 36 #[.pointer (some ⟨h, 0, none⟩)] Try.call36 rfl _ rfl rfl _ rfl [.agg (idA (l.getD j 0))] rfl (Calls.bool (has36_any _ B h M CM hM hs (l.getD j 0) (atI HL (by omega))) hd) ?_
      intro w1 G
      replace CM := CM.gro G
      replace GG := GG.trans G
      clear G
      refine nr ?_; intro U h; simp only [z0, z1] at h; subst h
      refine wpList_nil ?_
      refine then_n ?_
      refine wp_cond_false rfl ?_
      refine wp_skip ?_
      refine blk_n ?_
      refine then_n ?_
      refine wp_region_lit ?_
      refine s_val 18 rfl rfl (.int .i64 ((j + 1 : Nat) : Int)) (run_addI 3 _ _ _ rfl ((j : Nat) : Int) 1 ((j + 1 : Nat) : Int) rfl rfl (by omega) (by omega) (by omega) _) ?_
      refine nr ?_; intro U h; simp only [z0, z1] at h; subst h
      refine s_val 8 rfl rfl (.int .i64 ((j + 1 : Nat) : Int)) (rfl) ?_
      refine nr ?_; intro U h; simp only [z0, z1] at h; subst h
      refine wpList_nil ?_
      refine then_n ?_
      exact ⟨l.length + 1 - (j + 1), by omega, j + 1, (fun kz => ([us1 0, .int .i64 ((j : Nat) : Int), .bool true, .int .i64 ((j : Nat) : Int), .func (.func 36) #[] #[.pointer (some ⟨h, 0, none⟩)], .slice ao l.length cap, .int .i64 ((j : Nat) : Int), .pointer (pK kI ao j 0), .agg (idA (l.getD j 0)), .bool false, us1 10, .int .i64 ((j + 1 : Nat) : Int)] : List Value).getD kz undef), rfl, rfl, by omega, uptoZ hn (of_decide_eq_false hd), GG, CM⟩
    · refine wp_region_lit ?_
      refine s_val 11 rfl rfl (.func (.func 36) #[] #[.pointer (some ⟨h, 0, none⟩)]) (rfl) ?_
      refine nr ?_; intro U h; simp only [z0, z1] at h; subst h
      refine s_val 12 rfl rfl (.slice ao l.length cap) (rfl) ?_
      refine nr ?_; intro U h; simp only [z0, z1] at h; subst h
      refine s_val 13 rfl rfl (.int .i64 ((j : Nat) : Int)) (rfl) ?_
      refine nr ?_; intro U h; simp only [z0, z1] at h; subst h
      refine s_val 14 rfl rfl (.pointer (pK kI ao j 0)) (run_ixK rIk (HL.gro GG) _ _ rfl rfl j rfl (by omega)) ?_
      refine nr ?_; intro U h; simp only [z0, z1] at h; subst h
      refine s_val 15 rfl rfl (.agg (idA (l.getD j 0))) (run_ldKI (HL.gro GG) _ rfl j rfl (by omega)) ?_
      refine nr ?_; intro U h; simp only [z0, z1] at h; subst h
      refine s_callF 16 rfl rfl _ 36 #[.pointer (some ⟨h, 0, none⟩)] Try.call36 rfl _ rfl rfl _ rfl [.agg (idA (l.getD j 0))] rfl (Calls.bool (has36_any _ B h M CM hM hs (l.getD j 0) (atI HL (by omega))) hd) ?_
      intro w1 G
      replace CM := CM.gro G
      replace GG := GG.trans G
      clear G
      refine nr ?_; intro U h; simp only [z0, z1] at h; subst h
      refine wpList_nil ?_
      refine then_n ?_
      refine wp_cond_true rfl ?_
      refine wp_seq ?_
      refine wp_region_lit ?_
      refine s_val 17 rfl rfl (.int .i64 ((j : Nat) : Int)) (rfl) ?_
      refine nr ?_; intro U h; simp only [z0, z1] at h; subst h
      refine s_val 4 rfl rfl (.int .i64 ((j : Nat) : Int)) (rfl) ?_
      refine nr ?_; intro U h; simp only [z0, z1] at h; subst h
      refine wpList_nil ?_
      refine then_n ?_
      refine wp_ret ?_
      refine blk_r ?_
      refine then_r ?_
      refine then_r ?_
      refine blk_r ?_
      refine then_r ?_
      refine bodyPost_ret (results_tmp Try.results49 _ _ _) rfl ?_
      exact ⟨_, rfl, GG, .inr ⟨j, rfl, hjl, of_decide_eq_true hd, hn⟩⟩
def out (M l : List Nat) : List Nat := l.filter fun x => !decide (x ∈ M)
theorem out_all {M l : List Nat} (h : ∀ k, k < l.length → l.getD k 0 ∉ M) : out M l = l := List.filter_eq_self.2 fun x hx => by
  obtain ⟨t, ht, rfl⟩ := getD_of_mem 0 hx
  simp only [decide_eq_false (h t ht), Bool.not_false]
theorem out_step (M l : List Nat) (j : Nat) (hj : j < l.length) : out M (l.take (j + 1)) = out M (l.take j) ++ if l.getD j 0 ∈ M then [] else [l.getD j 0] := by
  unfold out
  rw [take_at 0 l j hj, List.filter_append]
  congr 1
  by_cases h : l.getD j 0 ∈ M
  · rw [if_pos h, List.filter_cons, decide_eq_true h]; rfl
  · rw [if_neg h, List.filter_cons, decide_eq_false h]; rfl
theorem out_first {M l : List Nat} {i : Nat} (hi : i < l.length) (h : ∀ k, k < i → l.getD k 0 ∉ M) (hm : l.getD i 0 ∈ M) : l.take i = out M (l.take (i + 1)) := by
  rw [out_step M l i hi, if_pos hm, List.append_nil]
  refine (out_all fun k hk => ?_).symm
  rw [List.length_take] at hk
  rw [List.getD_eq_getElem?_getD, List.getElem?_take, if_pos (by omega), ← List.getD_eq_getElem?_getD]
  exact h k (by omega)
set_option maxRecDepth 100000 in
set_option maxHeartbeats 4000000 in
theorem deleteM_any (w : World) (B : Nat) (ao : Option Addr) (cap : Nat) (l : List Nat) (HO : OW kI 23 w B ao cap l) (hl : l.length ≤ 1000000) (h : Nat) (M : List Nat) (CM : CloM w B h M) (hM : M.length ≤ 1000000) (hs : M.Pairwise (· < ·)) : Calls Try.prog 35 #[.slice ao l.length cap, .func (.func 36) #[] #[.pointer (some ⟨h, 0, none⟩)]] w (CutP kI 23 w B ao cap (out M l)) := by
  refine s_enter Try.func35 rfl Try.ntmps35 [.slice ao l.length cap, .func (.func 36) #[] #[.pointer (some ⟨h, 0, none⟩)]] [.slice ao l.length cap, .func (.func 36) #[] #[.pointer (some ⟨h, 0, none⟩)], undef, undef, undef, undef, undef, undef, undef, undef, undef, undef, undef, undef, undef, undef, undef, undef, undef, undef, undef, undef, undef, undef, undef, undef, undef, undef, undef, undef, undef, undef, undef, undef, undef, undef, undef, undef, undef, undef, undef, undef] rfl ?_
  have GG := GroS.refl (Go.Proofs.Ytfabgonoonanfaa.blk ao) w
  refine wp_seq ?_
  refine wp_region_lit ?_
  refine s_val 4 rfl rfl (.slice none 0 0) (rfl) ?_
  refine nr ?_; intro U h; simp only [z0, z1] at h; subst h
  refine wpList_nil ?_
  refine then_n ?_
  refine wp_seq ?_
  refine wp_region_lit ?_
  refine s_val 8 rfl rfl (.slice ao l.length cap) (rfl) ?_
  refine nr ?_; intro U h; simp only [z0, z1] at h; subst h
  refine s_val 9 rfl rfl (.func (.func 36) #[] #[.pointer (some ⟨h, 0, none⟩)]) (rfl) ?_
  refine nr ?_; intro U h; simp only [z0, z1] at h; subst h
  refine s_callx 10 rfl rfl _ 49 Try.call49 rfl rfl _ rfl [.slice ao l.length cap, .func (.func 36) #[] #[.pointer (some ⟨h, 0, none⟩)]] rfl (indexM_any _ ao cap l HO.re hl B h M CM hM hs) (by rintro _ _ ⟨_, he, _⟩; exact ⟨_, he⟩) ?_
  rintro v w1 ⟨r, he, G, hr⟩
  cases he
  replace HO := HO.gro G
  replace CM := CM.gro G
  replace GG := GG.tg G
  clear G
  rcases hr with ⟨rfl, hno⟩ | ⟨i0, rfl, hi0, him, hin⟩
  · refine nr ?_; intro U h; simp only [z0, z1] at h; subst h
    refine s_val 5 rfl rfl (.int .i64 (-1)) (rfl) ?_
    refine nr ?_; intro U h; simp only [z0, z1] at h; subst h
    refine wpList_nil ?_
    refine then_n ?_
    refine wp_seq ?_
    refine wp_seq ?_
    refine wp_region_lit ?_
    refine s_val 11 rfl rfl (.int .i64 (-1)) (rfl) ?_
    refine nr ?_; intro U h; simp only [z0, z1] at h; subst h
    refine s_val 12 rfl rfl (.bool true) (run_eq_k 3 .i64 _ _ _ rfl Try.underlying3 (-1) (-1) rfl rfl true rfl _) ?_
    refine nr ?_; intro U h; simp only [z0, z1] at h; subst h
    refine wpList_nil ?_
    refine then_n ?_
    refine wp_cond_true rfl ?_
    refine wp_seq ?_
    refine wp_region_lit ?_
    refine s_val 13 rfl rfl (.slice ao l.length cap) (rfl) ?_
    refine nr ?_; intro U h; simp only [z0, z1] at h; subst h
    refine s_val 4 rfl rfl (.slice ao l.length cap) (rfl) ?_
    refine nr ?_; intro U h; simp only [z0, z1] at h; subst h
    refine wpList_nil ?_
    refine then_n ?_
    refine wp_ret ?_
    refine then_r ?_
    refine bodyPost_ret (results_tmp Try.results35 _ _ _) rfl ?_
    exact ⟨by rw [out_all hno]; rfl, GG, by rw [out_all hno]; exact HO⟩
  · refine nr ?_; intro U h; simp only [z0, z1] at h; subst h
    refine s_val 5 rfl rfl (.int .i64 ((i0 : Nat) : Int)) (rfl) ?_
    refine nr ?_; intro U h; simp only [z0, z1] at h; subst h
    refine wpList_nil ?_
    refine then_n ?_
    refine wp_seq ?_
    refine wp_seq ?_
    refine wp_region_lit ?_
    refine s_val 11 rfl rfl (.int .i64 ((i0 : Nat) : Int)) (rfl) ?_
    refine nr ?_; intro U h; simp only [z0, z1] at h; subst h
    refine s_val 12 rfl rfl (.bool false) (run_eq_k 3 .i64 _ _ _ rfl Try.underlying3 ((i0 : Nat) : Int) (-1) rfl rfl false (decide_eq_false (by omega)) _) ?_
    refine nr ?_; intro U h; simp only [z0, z1] at h; subst h
    refine wpList_nil ?_
    refine then_n ?_
    refine wp_cond_false rfl ?_
    refine wp_skip ?_
    refine then_n ?_
    refine wp_seq ?_
    refine wp_seq ?_
    refine wp_region_lit ?_
    refine s_val 14 rfl rfl (.int .i64 ((i0 : Nat) : Int)) (rfl) ?_
    refine nr ?_; intro U h; simp only [z0, z1] at h; subst h
    refine s_val 15 rfl rfl (.int .i64 ((i0 + 1 : Nat) : Int)) (run_addI 3 _ _ _ rfl ((i0 : Nat) : Int) 1 ((i0 + 1 : Nat) : Int) rfl rfl (by omega) (by omega) (by omega) _) ?_
    refine nr ?_; intro U h; simp only [z0, z1] at h; subst h
    refine s_val 6 rfl rfl (.int .i64 ((i0 + 1 : Nat) : Int)) (rfl) ?_
    refine nr ?_; intro U h; simp only [z0, z1] at h; subst h
    refine wpList_nil ?_
    refine then_n ?_
    refine wp_block ?_
    refine wp_loopN (fun mz az wv => ∃ (j : Nat) (i : Nat) (Z : List Nat) (us1 : Nat → Value), mz = l.length + 1 - j ∧ az = ⟨[.slice ao l.length cap, .func (.func 36) #[] #[.pointer (some ⟨h, 0, none⟩)], undef, undef, .slice none 0 0, .int .i64 ((i : Nat) : Int), .int .i64 ((j : Nat) : Int), us1 0, .slice ao l.length cap, .func (.func 36) #[] #[.pointer (some ⟨h, 0, none⟩)], .int .i64 ((i0 : Nat) : Int), .int .i64 ((i0 : Nat) : Int), .bool false, undef, .int .i64 ((i0 : Nat) : Int), .int .i64 ((i0 + 1 : Nat) : Int), us1 1, us1 2, us1 3, us1 4, us1 5, us1 6, us1 7, us1 8, us1 9, us1 10, us1 11, us1 12, us1 13, us1 14, us1 15, us1 16, us1 17, us1 18, us1 19, us1 20, undef, undef, undef, undef, undef, undef].toArray, []⟩ ∧ j ≤ l.length ∧ i + 1 ≤ j ∧ Z.length = l.length ∧ Z.take i = out M (l.take j) ∧ Z.drop j = l.drop j ∧ GroS (Go.Proofs.Ytfabgonoonanfaa.blk ao) w wv ∧ OW kI 23 wv B ao cap Z ∧ CloM wv B h M) ?_ _ ⟨i0 + 1, i0, l, (fun kz => ([undef, undef, undef, undef, undef, undef, undef, undef, undef, undef, undef, undef, undef, undef, undef, undef, undef, undef, undef, undef, undef] : List Value).getD kz undef), rfl, rfl, by omega, by omega, rfl, out_first hi0 hin him, rfl, GG, HO, CM⟩
    clear GG HO CM
    rintro mz az wv ⟨j, i, Z, us1, rfl, rfl, hj, hij, hZ, hZt, hZd, GG, HO, CM⟩
    refine wp_seq ?_
    refine wp_seq ?_
    refine wp_region_lit ?_
    refine s_val 16 rfl rfl (.int .i64 ((j : Nat) : Int)) (rfl) ?_
    refine nr ?_; intro U h; simp only [z0, z1] at h; subst h
    refine s_val 17 rfl rfl (.slice ao l.length cap) (rfl) ?_
    refine nr ?_; intro U h; simp only [z0, z1] at h; subst h
    refine s_val 18 rfl rfl (.int .i64 ((l.length : Nat) : Int)) (run_len Try.underlying24 _ rfl _ _ _ rfl _) ?_
    refine nr ?_; intro U h; simp only [z0, z1] at h; subst h
    cases hj1 : decide (((j : Nat) : Int) < ((l.length : Nat) : Int))
    · have hje : j = l.length := by have := of_decide_eq_false hj1; omega
      refine s_val 19 rfl rfl (.bool false) (run_lssT 3 _ _ _ rfl ((j : Nat) : Int) ((l.length : Nat) : Int) rfl rfl false hj1 _) ?_
      refine nr ?_; intro U h; simp only [z0, z1] at h; subst h
      refine wpList_nil ?_
      refine then_n ?_
      refine wp_cond_false rfl ?_
      refine wp_exit ?_
      refine then_x ?_
      refine then_x ?_
      refine blk_x ?_
      refine then_n ?_
      refine wp_seq ?_
      refine wp_region_lit ?_
      refine s_val 36 rfl rfl (.slice ao l.length cap) (rfl) ?_
      refine nr ?_; intro U h; simp only [z0, z1] at h; subst h
      refine s_val 37 rfl rfl (.int .i64 ((i : Nat) : Int)) (rfl) ?_
      refine nr ?_; intro U h; simp only [z0, z1] at h; subst h
      refine s_val 38 rfl rfl (.slice (if cap = i then ao else ao.map (·.add (i * kI.sz))) (Z.length - i) (cap - i)) (by rw [hZ]; exact run_cutX rIk _ _ rfl ao l.length cap i rfl rfl (by omega) _) ?_
      refine nr ?_; intro U h; simp only [z0, z1] at h; subst h
      refine s_clK rIk (idA 0) zero23 rfl top_0 (by decide) rfl rfl _ rfl HO i (by omega) rfl ?_
      intro w2 HO2 G2
      replace CM := CM.gros G2 HO.own
      replace GG := GG.trans G2
      clear G2 HO
      have HO := HO2
      clear HO2
      refine wpList_nil ?_
      refine then_n ?_
      refine wp_seq ?_
      refine wp_region_lit ?_
      refine s_val 39 rfl rfl (.slice ao l.length cap) (rfl) ?_
      refine nr ?_; intro U h; simp only [z0, z1] at h; subst h
      refine s_val 40 rfl rfl (.int .i64 ((i : Nat) : Int)) (rfl) ?_
      refine nr ?_; intro U h; simp only [z0, z1] at h; subst h
      refine s_val 41 rfl rfl (.slice ao i cap) (cut_end rIk _ _ rfl ao l.length cap i rfl rfl (by have := HO.own.xc.fit; rw [List.length_append, List.length_take, List.length_replicate] at this; omega) _) ?_
      refine nr ?_; intro U h; simp only [z0, z1] at h; subst h
      refine s_val 4 rfl rfl (.slice ao i cap) (rfl) ?_
      refine nr ?_; intro U h; simp only [z0, z1] at h; subst h
      refine wpList_nil ?_
      refine then_n ?_
      refine wp_ret ?_
      refine bodyPost_ret (results_tmp Try.results35 _ _ _) rfl ?_
      rw [hje, List.take_length] at hZt
      have hul : (out M l).length = i := by rw [← hZt, List.length_take]; omega
      have hT := HO.take i (by rw [List.length_append, List.length_take, List.length_replicate]; omega)
      rw [List.take_append_of_le_length (by rw [List.length_take]; omega), List.take_take, Nat.min_self, hZt] at hT
      exact ⟨by rw [hul]; rfl, GG, hT⟩
    · have hjl : j < l.length := by have := of_decide_eq_true hj1; omega
      refine s_val 19 rfl rfl (.bool true) (run_lssT 3 _ _ _ rfl ((j : Nat) : Int) ((l.length : Nat) : Int) rfl rfl true hj1 _) ?_
      refine nr ?_; intro U h; simp only [z0, z1] at h; subst h
      refine wpList_nil ?_
      refine then_n ?_
      refine wp_cond_true rfl ?_
      refine wp_skip ?_
      refine then_n ?_
      refine wp_seq ?_
      refine wp_block ?_
      refine wp_seq ?_
      refine wp_region_lit ?_
      refine s_val 22 rfl rfl (.slice ao l.length cap) (rfl) ?_
      refine nr ?_; intro U h; simp only [z0, z1] at h; subst h
      refine s_val 23 rfl rfl (.int .i64 ((j : Nat) : Int)) (rfl) ?_
      refine nr ?_; intro U h; simp only [z0, z1] at h; subst h
      refine s_val 24 rfl rfl (.pointer (pK kI ao j 0)) (run_ixK rIk (HO.re) _ _ rfl (by rw [hZ]; rfl) j rfl (by rw [hZ]; omega)) ?_
      refine nr ?_; intro U h; simp only [z0, z1] at h; subst h
      refine s_val 25 rfl rfl (.agg (idA (Z.getD j 0))) (run_ldKI (HO.re) _ rfl j rfl (by rw [hZ]; omega)) ?_
      refine nr ?_; intro U h; simp only [z0, z1] at h; subst h
      refine s_alloc 7 rfl rfl 23 rfl _ zero23 (idA 0) rfl ?_
      intro w2 g1 G eg1 kg1
      have bg1 := size_basS GG eg1
      have dHOg1 := HO.ne eg1
      have dCMg1 := CM.ne eg1
      replace HO := HO.gro G
      replace CM := CM.gro G
      replace GG := GG.tg G
      clear G
      clear eg1
      refine nr ?_; intro U h; simp only [z0, z1] at h; subst h
      refine s_store rfl rfl 23 _ _ rfl g1 0 rfl (.agg (idA (Z.getD j 0))) rfl 23 _ kg1 (idA (Z.getD j 0)) rfl (size23' _) (idA_fit _ _) (idA_one _) (idA (Z.getD j 0)) (splice_whole _ _ (idA_sz _ _)) ?_
      intro w3 St
      have kS := kg1
      replace HO := HO.st St dHOg1
      replace CM := CM.st St dCMg1
      replace GG := GG.st St (.inl bg1)
      replace kg1 := St.new
      clear St
      refine wpList_nil ?_
      refine then_n ?_
      refine wp_seq ?_
      cases hd : decide (l.getD j 0 ∈ M)
      · refine wp_region_lit ?_
        refine s_val 26 rfl rfl (.func (.func 36) #[] #[.pointer (some ⟨h, 0, none⟩)]) (rfl) ?_
        refine nr ?_; intro U h; simp only [z0, z1] at h; subst h
        refine s_val 27 rfl rfl (.agg (idA (Z.getD j 0))) (ldI0 _ rfl g1 rfl (kg1)) ?_
        refine nr ?_; intro U h; simp only [z0, z1] at h; subst h
        refine s_callF 28 rfl rfl _ 36 #[.pointer (some ⟨h, 0, none⟩)] Try.call36 rfl _ rfl rfl _ rfl [.agg (idA (Z.getD j 0))] rfl (Calls.bool (q := false) (has36_any _ B h M CM hM hs (Z.getD j 0) (atI HO.re (by rw [hZ]; omega))) (by rw [getC_drop 0 Z l _ j hZd (Nat.le_refl _)]; exact hd)) ?_
        intro w4 G
        replace kg1 := G.has kg1
        replace HO := HO.gro G
        replace CM := CM.gro G
        replace GG := GG.tg G
        clear G
        refine nr ?_; intro U h; simp only [z0, z1] at h; subst h
        refine s_val 29 rfl rfl (.bool true) (run_nt _ _ rfl false rfl) ?_
        refine nr ?_; intro U h; simp only [z0, z1] at h; subst h
        refine wpList_nil ?_
        refine then_n ?_
        refine wp_cond_true rfl ?_
        refine wp_seq ?_
        refine wp_region_lit ?_
        refine s_val 30 rfl rfl (.slice ao l.length cap) (rfl) ?_
        refine nr ?_; intro U h; simp only [z0, z1] at h; subst h
        refine s_val 31 rfl rfl (.int .i64 ((i : Nat) : Int)) (rfl) ?_
        refine nr ?_; intro U h; simp only [z0, z1] at h; subst h
        refine s_val 32 rfl rfl (.agg (idA (Z.getD j 0))) (ldI0 _ rfl g1 rfl (kg1)) ?_
        refine nr ?_; intro U h; simp only [z0, z1] at h; subst h
        refine s_val 33 rfl rfl (.pointer (pK kI ao i 0)) (run_ixK rIk (HO.re) _ _ rfl (by rw [hZ]; rfl) i rfl (by rw [hZ]; omega)) ?_
        refine nr ?_; intro U h; simp only [z0, z1] at h; subst h
        refine s_stK rfl rfl 23 _ _ rfl HO i 0 (by rw [hZ]; omega) rfl (.agg (idA (Z.getD j 0))) rfl (idA (Z.getD j 0)).toList rfl (siIl _) (by rw [idA_len]; decide) (by rw [idA_len]; decide) (idL_one _) (Z.getD j 0) (spl_id _ _) (atI HO.re (by rw [hZ]; omega)) ?_
        intro w5 HO2 G2
        replace kg1 := G2.has kg1 dHOg1
        replace CM := CM.gros G2 HO.own
        replace GG := GG.trans G2
        clear G2 HO
        have HO := HO2
        clear HO2
        refine wpList_nil ?_
        refine then_n ?_
        refine wp_region_lit ?_
        refine s_val 34 rfl rfl (.int .i64 ((i : Nat) : Int)) (rfl) ?_
        refine nr ?_; intro U h; simp only [z0, z1] at h; subst h
        refine s_val 35 rfl rfl (.int .i64 ((i + 1 : Nat) : Int)) (run_addI 3 _ _ _ rfl ((i : Nat) : Int) 1 ((i + 1 : Nat) : Int) rfl rfl (by omega) (by omega) (by omega) _) ?_
        refine nr ?_; intro U h; simp only [z0, z1] at h; subst h
        refine s_val 5 rfl rfl (.int .i64 ((i + 1 : Nat) : Int)) (rfl) ?_
        refine nr ?_; intro U h; simp only [z0, z1] at h; subst h
        refine wpList_nil ?_
        refine blk_n ?_
        refine then_n ?_
        refine wp_region_lit ?_
        refine s_val 20 rfl rfl (.int .i64 ((j : Nat) : Int)) (rfl) ?_
        refine nr ?_; intro U h; simp only [z0, z1] at h; subst h
        refine s_val 21 rfl rfl (.int .i64 ((j + 1 : Nat) : Int)) (run_addI 3 _ _ _ rfl ((j : Nat) : Int) 1 ((j + 1 : Nat) : Int) rfl rfl (by omega) (by omega) (by omega) _) ?_
        refine nr ?_; intro U h; simp only [z0, z1] at h; subst h
        refine s_val 6 rfl rfl (.int .i64 ((j + 1 : Nat) : Int)) (rfl) ?_
        refine nr ?_; intro U h; simp only [z0, z1] at h; subst h
        refine wpList_nil ?_
        refine then_n ?_
        exact ⟨l.length + 1 - (j + 1), by omega, j + 1, i + 1, Z.set i (Z.getD j 0), (fun kz => ([.pointer (some ⟨g1, 0, none⟩), .int .i64 ((j : Nat) : Int), .slice ao l.length cap, .int .i64 ((l.length : Nat) : Int), .bool true, .int .i64 ((j : Nat) : Int), .int .i64 ((j + 1 : Nat) : Int), .slice ao l.length cap, .int .i64 ((j : Nat) : Int), .pointer (pK kI ao j 0), .agg (idA (Z.getD j 0)), .func (.func 36) #[] #[.pointer (some ⟨h, 0, none⟩)], .agg (idA (Z.getD j 0)), .bool false, .bool true, .slice ao l.length cap, .int .i64 ((i : Nat) : Int), .agg (idA (Z.getD j 0)), .pointer (pK kI ao i 0), .int .i64 ((i : Nat) : Int), .int .i64 ((i + 1 : Nat) : Int)] : List Value).getD kz undef), rfl, rfl, by omega, by omega, by rw [List.length_set]; exact hZ, by rw [out_step M l j hjl, if_neg (of_decide_eq_false hd), takeC_set Z i _ (by omega), hZt, getC_drop 0 Z l _ j hZd (Nat.le_refl _)], by rw [List.drop_set_of_lt (by omega)]; exact dropC_step hZd (by omega), GG, HO, CM⟩
      · refine wp_region_lit ?_
        refine s_val 26 rfl rfl (.func (.func 36) #[] #[.pointer (some ⟨h, 0, none⟩)]) (rfl) ?_
        refine nr ?_; intro U h; simp only [z0, z1] at h; subst h
        refine s_val 27 rfl rfl (.agg (idA (Z.getD j 0))) (ldI0 _ rfl g1 rfl (kg1)) ?_
        refine nr ?_; intro U h; simp only [z0, z1] at h; subst h
        refine s_callF 28 rfl rfl _ 36 #[.pointer (some ⟨h, 0, none⟩)] Try.call36 rfl _ rfl rfl _ rfl [.agg (idA (Z.getD j 0))] rfl (Calls.bool (q := true) (has36_any _ B h M CM hM hs (Z.getD j 0) (atI HO.re (by rw [hZ]; omega))) (by rw [getC_drop 0 Z l _ j hZd (Nat.le_refl _)]; exact hd)) ?_
        intro w4 G
        replace kg1 := G.has kg1
        replace HO := HO.gro G
        replace CM := CM.gro G
        replace GG := GG.tg G
        clear G
        refine nr ?_; intro U h; simp only [z0, z1] at h; subst h
        refine s_val 29 rfl rfl (.bool false) (run_nt _ _ rfl true rfl) ?_
        refine nr ?_; intro U h; simp only [z0, z1] at h; subst h
        refine wpList_nil ?_
        refine then_n ?_
        refine wp_cond_false rfl ?_
        refine wp_skip ?_
        refine blk_n ?_
        refine then_n ?_
        refine wp_region_lit ?_
        refine s_val 20 rfl rfl (.int .i64 ((j : Nat) : Int)) (rfl) ?_
        refine nr ?_; intro U h; simp only [z0, z1] at h; subst h
        refine s_val 21 rfl rfl (.int .i64 ((j + 1 : Nat) : Int)) (run_addI 3 _ _ _ rfl ((j : Nat) : Int) 1 ((j + 1 : Nat) : Int) rfl rfl (by omega) (by omega) (by omega) _) ?_
        refine nr ?_; intro U h; simp only [z0, z1] at h; subst h
        refine s_val 6 rfl rfl (.int .i64 ((j + 1 : Nat) : Int)) (rfl) ?_
        refine nr ?_; intro U h; simp only [z0, z1] at h; subst h
        refine wpList_nil ?_
        refine then_n ?_
        exact ⟨l.length + 1 - (j + 1), by omega, j + 1, i, Z, (fun kz => ([.pointer (some ⟨g1, 0, none⟩), .int .i64 ((j : Nat) : Int), .slice ao l.length cap, .int .i64 ((l.length : Nat) : Int), .bool true, .int .i64 ((j : Nat) : Int), .int .i64 ((j + 1 : Nat) : Int), .slice ao l.length cap, .int .i64 ((j : Nat) : Int), .pointer (pK kI ao j 0), .agg (idA (Z.getD j 0)), .func (.func 36) #[] #[.pointer (some ⟨h, 0, none⟩)], .agg (idA (Z.getD j 0)), .bool true, .bool false, us1 15, us1 16, us1 17, us1 18, us1 19, us1 20] : List Value).getD kz undef), rfl, rfl, by omega, by omega, hZ, by rw [out_step M l j hjl, if_pos (of_decide_eq_true hd), List.append_nil]; exact hZt, dropC_step hZd (by omega), GG, HO, CM⟩
end Go.Proofs.Ytfabgonoonanfaa
