/- Found by halves. -/
import Derived.Test.YtjahegiopigblaaHC1
import Derived.Test.YtjahegiopigblaaHW2
namespace Go.Proofs.Ytjahegiopigblaa
open Go.RowKit
section
variable {α : Type} (z : α) {l : List α}
theorem getD_of_mem {x : α} (h : x ∈ l) : ∃ t, t < l.length ∧ l.getD t z = x := by
  obtain ⟨t, ht, e⟩ := List.mem_iff_getElem.1 h
  exact ⟨t, ht, by rw [List.getD_eq_getElem?_getD, List.getElem?_eq_getElem ht, e]; rfl⟩
theorem getD_in {t : Nat} (h : t < l.length) : l.getD t z ∈ l := by
  rw [List.getD_eq_getElem?_getD, List.getElem?_eq_getElem h]
  exact List.getElem_mem h
end
theorem cmp_neg (a b : Nat) : decide (cmpN a b < 0) = decide (a < b) := by
  unfold cmpN
  by_cases h : a < b
  · simp [h]
  · by_cases k : b < a <;> simp [h, k]
theorem cv3u {o : Oper} {A : Act} (x : Operand) (ho : o.op = .convert 3 58 x) (n : Nat) (hn : n < 9223372036854775808) (hx : A.eval x = .int .i64 (n : Int)) (w : World) : (execOp A.eval o).run Try.prog w = .ok (.value (.int .u64 (n : Int))) w := by
  have h : IntKind.u64.wrap (n : Int) = (n : Int) := by
    simp [IntKind.wrap, IntKind.bits, IntKind.signed]
    omega
  unfold execOp
  simp only [ho, hx]
  simp [go_sem, h]
theorem cvu3 {o : Oper} {A : Act} (x : Operand) (ho : o.op = .convert 58 3 x) (n : Nat) (hn : n < 9223372036854775808) (hx : A.eval x = .int .u64 (n : Int)) (w : World) : (execOp A.eval o).run Try.prog w = .ok (.value (.int .i64 (n : Int))) w := by
  have h : IntKind.i64.wrap (n : Int) = (n : Int) := wrap_in _ (by omega) (by omega)
  unfold execOp
  simp only [ho, hx]
  simp [go_sem, h]
theorem cmp_zero (a b : Nat) : decide (cmpN a b = 0) = decide (a = b) := by
  unfold cmpN
  by_cases h : a < b
  · have : a ≠ b := by omega
    simp [h, this]
  · by_cases k : b < a
    · have : a ≠ b := by omega
      simp [h, k, this]
    · have : a = b := by omega
      simp [this]
theorem bs_found {l : List Nat} {x i : Nat} (hs : l.Pairwise (· ≤ ·)) (hi : i ≤ l.length) (c1 : i = 0 ∨ l.getD (i - 1) 0 < x) (c2 : i = l.length ∨ ¬ l.getD i 0 < x) : (x ∈ l) = (i < l.length ∧ l.getD i 0 = x) := by
  apply propext
  have le_of : ∀ p q, p < q → q < l.length → l.getD p 0 ≤ l.getD q 0 := fun p q hpq hq => by
    have := List.pairwise_iff_getElem.1 hs p q (by omega) hq hpq
    rw [List.getD_eq_getElem?_getD, List.getD_eq_getElem?_getD, List.getElem?_eq_getElem hq, List.getElem?_eq_getElem (by omega : p < l.length)]
    exact this
  constructor
  · intro hx
    obtain ⟨t, ht, rfl⟩ := getD_of_mem 0 hx
    have h1 : ¬ t < i := fun h => by
      rcases c1 with c | c
      · omega
      · by_cases e : t = i - 1
        · rw [e] at c; omega
        · have := le_of t (i - 1) (by omega) (by omega); omega
    rcases Nat.lt_or_ge i t with h2 | h2
    · rcases c2 with c | c
      · omega
      · have := le_of i t h2 ht
        exact ⟨by omega, by omega⟩
    · have e : t = i := by omega
      exact ⟨by omega, by rw [e]⟩
  · rintro ⟨h1, h2⟩
    rw [← h2]
    exact getD_in 0 h1
set_option maxRecDepth 100000 in
set_option maxHeartbeats 4000000 in
theorem bsearch_any (w : World) (ao : Option Addr) (cap : Nat) (l : List Nat) (HL : RK kI w ao cap l) (hl : l.length ≤ 1000000) (hs : l.Pairwise (· ≤ ·)) (x : Nat) (hx : x < top) : Calls Try.prog 39 #[.slice ao l.length cap, .agg (idA x), .func (.func 38) #[] #[]] w (fun e w' => ∃ i : Nat, e = .returned (.tuple #[.int .i64 (i : Int), .bool (decide (x ∈ l))]) ∧ Gro w w') := by
  refine s_enter Try.func39 rfl Try.ntmps39 [.slice ao l.length cap, .agg (idA x), .func (.func 38) #[] #[]] [.slice ao l.length cap, .agg (idA x), .func (.func 38) #[] #[], undef, undef, undef, undef, undef, undef, undef, undef, undef, undef, undef, undef, undef, undef, undef, undef, undef, undef, undef, undef, undef, undef, undef, undef, undef, undef, undef, undef, undef, undef, undef, undef, undef, undef, undef, undef, undef, undef, undef, undef, undef, undef, undef, undef, undef, undef] rfl ?_
  have GG := Gro.refl w
  refine wp_seq ?_
  refine wp_region_lit ?_
  refine s_box 4 rfl rfl 23 _ rfl _ rfl (idA x) rfl ?_
  intro w1 g1 G eg1 kg1
  have bg1 := size_base GG eg1
  replace GG := GG.trans G
  clear G
  clear eg1
  refine nr ?_; intro U h; simp only [z0, z1] at h; subst h
  refine s_val 6 rfl rfl (.int .i64 0) (rfl) ?_
  refine nr ?_; intro U h; simp only [z0, z1] at h; subst h
  refine s_val 7 rfl rfl (.bool false) (rfl) ?_
  refine nr ?_; intro U h; simp only [z0, z1] at h; subst h
  refine wpList_nil ?_
  refine then_n ?_
  refine wp_seq ?_
  refine wp_region_lit ?_
  refine s_val 12 rfl rfl (.slice ao l.length cap) (rfl) ?_
  refine nr ?_; intro U h; simp only [z0, z1] at h; subst h
  refine s_val 13 rfl rfl (.int .i64 ((l.length : Nat) : Int)) (run_len Try.underlying24 _ rfl _ _ _ rfl _) ?_
  refine nr ?_; intro U h; simp only [z0, z1] at h; subst h
  refine s_val 8 rfl rfl (.int .i64 ((l.length : Nat) : Int)) (rfl) ?_
  refine nr ?_; intro U h; simp only [z0, z1] at h; subst h
  refine wpList_nil ?_
  refine then_n ?_
  refine wp_seq ?_
  refine wp_region_lit ?_
  refine s_val 14 rfl rfl (.int .i64 ((l.length : Nat) : Int)) (rfl) ?_
  refine nr ?_; intro U h; simp only [z0, z1] at h; subst h
  refine s_val 9 rfl rfl (.int .i64 0) (rfl) ?_
  refine nr ?_; intro U h; simp only [z0, z1] at h; subst h
  refine s_val 10 rfl rfl (.int .i64 ((l.length : Nat) : Int)) (rfl) ?_
  refine nr ?_; intro U h; simp only [z0, z1] at h; subst h
  refine wpList_nil ?_
  refine then_n ?_
  refine wp_seq ?_
  refine wp_block ?_
  refine wp_loopN (fun mz az wv => ∃ (i : Nat) (j : Nat) (us1 : Nat → Value), mz = j - i ∧ az = ⟨[.slice ao l.length cap, .agg (idA x), .func (.func 38) #[] #[], undef, .pointer (some ⟨g1, 0, none⟩), undef, .int .i64 0, .bool false, .int .i64 ((l.length : Nat) : Int), .int .i64 ((i : Nat) : Int), .int .i64 ((j : Nat) : Int), us1 0, .slice ao l.length cap, .int .i64 ((l.length : Nat) : Int), .int .i64 ((l.length : Nat) : Int), us1 1, us1 2, us1 3, us1 4, us1 5, us1 6, us1 7, us1 8, us1 9, us1 10, us1 11, us1 12, us1 13, us1 14, us1 15, us1 16, us1 17, us1 18, us1 19, us1 20, undef, undef, undef, undef, undef, undef, undef, undef, undef, undef, undef, undef, undef, undef].toArray, []⟩ ∧ i ≤ j ∧ j ≤ l.length ∧ (i = 0 ∨ (l.getD (i - 1) 0) < x) ∧ (j = l.length ∨ ¬ (l.getD j 0) < x) ∧ Gro w wv ∧ wv.heap[g1]? = some (.cells (idA x) 23 (0, 0))) ?_ _ ⟨0, l.length, (fun kz => ([undef, undef, undef, undef, undef, undef, undef, undef, undef, undef, undef, undef, undef, undef, undef, undef, undef, undef, undef, undef, undef] : List Value).getD kz undef), rfl, rfl, Nat.zero_le _, Nat.le_refl _, .inl rfl, .inl rfl, GG, kg1⟩
  clear GG kg1
  rintro mz az wv ⟨i, j, us1, rfl, rfl, hij, hj, c1, c2, GG, kg1⟩
  refine wp_seq ?_
  refine wp_seq ?_
  refine wp_region_lit ?_
  refine s_val 15 rfl rfl (.int .i64 ((i : Nat) : Int)) (rfl) ?_
  refine nr ?_; intro U h; simp only [z0, z1] at h; subst h
  refine s_val 16 rfl rfl (.int .i64 ((j : Nat) : Int)) (rfl) ?_
  refine nr ?_; intro U h; simp only [z0, z1] at h; subst h
  cases hij1 : decide (((i : Nat) : Int) < ((j : Nat) : Int))
  · have hie : i = j := by have := of_decide_eq_false hij1; omega
    refine s_val 17 rfl rfl (.bool false) (run_lssT 3 _ _ _ rfl ((i : Nat) : Int) ((j : Nat) : Int) rfl rfl false hij1 _) ?_
    refine nr ?_; intro U h; simp only [z0, z1] at h; subst h
    refine wpList_nil ?_
    refine then_n ?_
    refine wp_cond_false rfl ?_
    refine wp_exit ?_
    refine then_x ?_
    refine then_x ?_
    refine blk_x ?_
    refine then_n ?_
    refine wp_seq ?_
    cases hm : decide (((i : Nat) : Int) < ((l.length : Nat) : Int))
    · have hmn : ¬ i < l.length := by have := of_decide_eq_false hm; omega
      refine wp_region_exA (A := ?Ax1) 15 [(0, 35), (1, 36), (2, 37), (3, 38), (4, 39), (5, 40), (6, 41), (7, 42), (8, 43), (9, 44), (10, 45), (11, 46), (12, 47), (13, 48), (14, 6)] [.val (.int .i64 ((i : Nat) : Int)), .val (.int .i64 ((i : Nat) : Int)), .val (.int .i64 ((l.length : Nat) : Int)), .val (.bool false), .val (.bool false), .val undef, .val undef, .val undef, .val undef, .val undef, .val undef, .val undef, .val undef, .val (.bool false), .val (.int .i64 ((i : Nat) : Int))] follows (by kernel_rfl) rfl ?hAx1 (opsA_cons ?o0x1 (opsA_cons ?o1x1 (opsA_cons ?o2x1 (opsA_cons ?o3x1 (opsA_cons ?o4x1 (opsA_cons ?o5x1 (opsA_cons ?o6x1 (opsA_cons ?o7x1 (opsA_cons ?o8x1 (opsA_cons ?o9x1 (opsA_cons ?o10x1 (opsA_cons ?o11x1 (opsA_cons ?o12x1 (opsA_cons ?o13x1 (opsA_cons ?o14x1 opsA_nil))))))))))))))) ?restx1
      case hAx1 =>
        intro ptrs
        simp only [full, foldSlots, filledE, postE, List.foldl_cons, List.foldl_nil, List.getD_cons_zero, List.getD_cons_succ, fill_val, List.set_cons_zero, List.set_cons_succ]
        exact rfl
      case o0x1 => exact fun _ _ _ _ => opE_move (v := .int .i64 ((i : Nat) : Int)) _ rfl rfl rfl
      case o1x1 => exact fun _ _ _ _ => opE_move (v := .int .i64 ((i : Nat) : Int)) _ rfl rfl rfl
      case o2x1 => exact fun _ _ _ _ => opE_move (v := .int .i64 ((l.length : Nat) : Int)) _ rfl rfl rfl
      case o3x1 => exact fun _ _ _ _ => opE_value (v := .bool false) rfl (run_lssT 3 _ _ _ rfl ((i : Nat) : Int) ((l.length : Nat) : Int) rfl rfl false hm _)
      case o4x1 => exact fun _ _ _ _ => opE_move (v := .bool false) _ rfl rfl rfl
      case o5x1 => exact fun _ _ _ _ => opE_skip rfl
      case o6x1 => exact fun _ _ _ _ => opE_skip rfl
      case o7x1 => exact fun _ _ _ _ => opE_skip rfl
      case o8x1 => exact fun _ _ _ _ => opE_skip rfl
      case o9x1 => exact fun _ _ _ _ => opE_skip rfl
      case o10x1 => exact fun _ _ _ _ => opE_skip rfl
      case o11x1 => exact fun _ _ _ _ => opE_skip rfl
      case o12x1 => exact fun _ _ _ _ => opE_skip rfl
      case o13x1 => exact fun _ _ _ _ => opE_pick (v := .bool false) _ _ _ rfl rfl false rfl rfl
      case o14x1 => exact fun _ _ _ _ => opE_assign (v := .int .i64 ((i : Nat) : Int)) _ rfl rfl rfl
      intro ptrs w2 GD hxE
      simp only [List.drop_succ_cons, List.drop_zero]
      replace kg1 := GD.has kg1
      replace GG := GG.drew.trans GD
      clear GD
      refine s_val 7 rfl rfl (.bool false) (rfl) ?_
      refine nr ?_; intro U h; simp only [z0, z1] at h; subst h
      refine wpList_nil ?_
      refine then_n ?_
      refine wp_ret ?_
      refine bodyPost_ret (results_tmp2 Try.results39 _ _ _) rfl ?_
      have hf := bs_found hs (by omega) c1 (by rw [hie]; exact c2)
      exact ⟨i, congrArg (fun b => Ending.returned (.tuple #[.int .i64 (i : Int), .bool b])) (by simp only [hf]; exact (decide_eq_false fun h => hmn h.1).symm), GG⟩
    · have hml : i < l.length := by have := of_decide_eq_true hm; omega
      cases hq : decide ((l.getD i 0) = x)
      · refine wp_region_exA (A := ?Ax2) 15 [(0, 35), (1, 36), (2, 37), (3, 38), (4, 39), (5, 40), (6, 41), (7, 42), (8, 43), (9, 44), (10, 45), (11, 46), (12, 47), (13, 48), (14, 6)] [.val (.int .i64 ((i : Nat) : Int)), .val (.int .i64 ((i : Nat) : Int)), .val (.int .i64 ((l.length : Nat) : Int)), .val (.bool true), .val (.bool true), .val (.func (.func 38) #[] #[]), .val (.slice ao l.length cap), .val (.int .i64 ((i : Nat) : Int)), .val (.pointer (pK kI ao i 0)), .val (.agg (idA (l.getD i 0))), .val (.agg (idA x)), .val (.int .i64 (cmpN (l.getD i 0) x)), .val (.bool false), .val (.bool false), .val (.int .i64 ((i : Nat) : Int))] follows (by kernel_rfl) rfl ?hAx2 (opsA_cons ?o0x2 (opsA_cons ?o1x2 (opsA_cons ?o2x2 (opsA_cons ?o3x2 (opsA_cons ?o4x2 (opsA_cons ?o5x2 (opsA_cons ?o6x2 (opsA_cons ?o7x2 (opsA_cons ?o8x2 (opsA_cons ?o9x2 (opsA_cons ?o10x2 (opsA_cons ?o11x2 (opsA_cons ?o12x2 (opsA_cons ?o13x2 (opsA_cons ?o14x2 opsA_nil))))))))))))))) ?restx2
        case hAx2 =>
          intro ptrs
          simp only [full, foldSlots, filledE, postE, List.foldl_cons, List.foldl_nil, List.getD_cons_zero, List.getD_cons_succ, fill_val, List.set_cons_zero, List.set_cons_succ]
          exact rfl
        case o0x2 => exact fun _ _ _ _ => opE_move (v := .int .i64 ((i : Nat) : Int)) _ rfl rfl rfl
        case o1x2 => exact fun _ _ _ _ => opE_move (v := .int .i64 ((i : Nat) : Int)) _ rfl rfl rfl
        case o2x2 => exact fun _ _ _ _ => opE_move (v := .int .i64 ((l.length : Nat) : Int)) _ rfl rfl rfl
        case o3x2 => exact fun _ _ _ _ => opE_value (v := .bool true) rfl (run_lssT 3 _ _ _ rfl ((i : Nat) : Int) ((l.length : Nat) : Int) rfl rfl true hm _)
        case o4x2 => exact fun _ _ _ _ => opE_move (v := .bool true) _ rfl rfl rfl
        case o5x2 => exact fun _ _ _ _ => opE_move (v := .func (.func 38) #[] #[]) _ rfl rfl rfl
        case o6x2 => exact fun _ _ _ _ => opE_move (v := .slice ao l.length cap) _ rfl rfl rfl
        case o7x2 => exact fun _ _ _ _ => opE_move (v := .int .i64 ((i : Nat) : Int)) _ rfl rfl rfl
        case o8x2 => exact fun _ _ hw _ => opE_value (v := .pointer (pK kI ao i 0)) rfl (run_ixK rIk (HL.gro (GG.drew.trans hw)) _ _ rfl rfl i rfl (by omega))
        case o9x2 => exact fun _ _ hw _ => opE_value (v := .agg (idA (l.getD i 0))) rfl (run_ldKI (HL.gro (GG.drew.trans hw)) _ rfl i rfl (by omega))
        case o10x2 => exact fun _ _ hw _ => opE_value (v := .agg (idA x)) rfl (ldI0 _ rfl g1 rfl (hw.has kg1))
        case o11x2 =>
          intro ptrs w' hw hE
          exact opE_callF (.val (.int .i64 (cmpN (l.getD i 0) x))) rfl _ 38 #[] Try.call38 rfl _ rfl rfl _ rfl [.agg (idA (l.getD i 0)), .agg (idA x)] rfl ((cmp_any (l.getD i 0) x (atI HL (by omega)) hx _).mono fun e w' ⟨he, hg⟩ => ⟨_, he, hg, rfl⟩)
        case o12x2 => exact fun _ _ _ _ => opE_value (v := .bool false) rfl (run_eq_k 3 .i64 _ _ _ rfl Try.underlying3 (cmpN (l.getD i 0) x) 0 rfl rfl false ((cmp_zero _ _).trans hq) _)
        case o13x2 => exact fun _ _ _ _ => opE_pick (v := .bool false) _ _ _ rfl rfl true rfl rfl
        case o14x2 => exact fun _ _ _ _ => opE_assign (v := .int .i64 ((i : Nat) : Int)) _ rfl rfl rfl
        intro ptrs w2 GD hxE
        simp only [List.drop_succ_cons, List.drop_zero]
        replace kg1 := GD.has kg1
        replace GG := GG.drew.trans GD
        clear GD
        refine s_val 7 rfl rfl (.bool false) (rfl) ?_
        refine nr ?_; intro U h; simp only [z0, z1] at h; subst h
        refine wpList_nil ?_
        refine then_n ?_
        refine wp_ret ?_
        refine bodyPost_ret (results_tmp2 Try.results39 _ _ _) rfl ?_
        have hf := bs_found hs (by omega) c1 (by rw [hie]; exact c2)
        exact ⟨i, congrArg (fun b => Ending.returned (.tuple #[.int .i64 (i : Int), .bool b])) (by simp only [hf]; exact (decide_eq_false fun h => of_decide_eq_false hq h.2).symm), GG⟩
      · refine wp_region_exA (A := ?Ax3) 15 [(0, 35), (1, 36), (2, 37), (3, 38), (4, 39), (5, 40), (6, 41), (7, 42), (8, 43), (9, 44), (10, 45), (11, 46), (12, 47), (13, 48), (14, 6)] [.val (.int .i64 ((i : Nat) : Int)), .val (.int .i64 ((i : Nat) : Int)), .val (.int .i64 ((l.length : Nat) : Int)), .val (.bool true), .val (.bool true), .val (.func (.func 38) #[] #[]), .val (.slice ao l.length cap), .val (.int .i64 ((i : Nat) : Int)), .val (.pointer (pK kI ao i 0)), .val (.agg (idA (l.getD i 0))), .val (.agg (idA x)), .val (.int .i64 (cmpN (l.getD i 0) x)), .val (.bool true), .val (.bool true), .val (.int .i64 ((i : Nat) : Int))] follows (by kernel_rfl) rfl ?hAx3 (opsA_cons ?o0x3 (opsA_cons ?o1x3 (opsA_cons ?o2x3 (opsA_cons ?o3x3 (opsA_cons ?o4x3 (opsA_cons ?o5x3 (opsA_cons ?o6x3 (opsA_cons ?o7x3 (opsA_cons ?o8x3 (opsA_cons ?o9x3 (opsA_cons ?o10x3 (opsA_cons ?o11x3 (opsA_cons ?o12x3 (opsA_cons ?o13x3 (opsA_cons ?o14x3 opsA_nil))))))))))))))) ?restx3
        case hAx3 =>
          intro ptrs
          simp only [full, foldSlots, filledE, postE, List.foldl_cons, List.foldl_nil, List.getD_cons_zero, List.getD_cons_succ, fill_val, List.set_cons_zero, List.set_cons_succ]
          exact rfl
        case o0x3 => exact fun _ _ _ _ => opE_move (v := .int .i64 ((i : Nat) : Int)) _ rfl rfl rfl
        case o1x3 => exact fun _ _ _ _ => opE_move (v := .int .i64 ((i : Nat) : Int)) _ rfl rfl rfl
        case o2x3 => exact fun _ _ _ _ => opE_move (v := .int .i64 ((l.length : Nat) : Int)) _ rfl rfl rfl
        case o3x3 => exact fun _ _ _ _ => opE_value (v := .bool true) rfl (run_lssT 3 _ _ _ rfl ((i : Nat) : Int) ((l.length : Nat) : Int) rfl rfl true hm _)
        case o4x3 => exact fun _ _ _ _ => opE_move (v := .bool true) _ rfl rfl rfl
        case o5x3 => exact fun _ _ _ _ => opE_move (v := .func (.func 38) #[] #[]) _ rfl rfl rfl
        case o6x3 => exact fun _ _ _ _ => opE_move (v := .slice ao l.length cap) _ rfl rfl rfl
        case o7x3 => exact fun _ _ _ _ => opE_move (v := .int .i64 ((i : Nat) : Int)) _ rfl rfl rfl
        case o8x3 => exact fun _ _ hw _ => opE_value (v := .pointer (pK kI ao i 0)) rfl (run_ixK rIk (HL.gro (GG.drew.trans hw)) _ _ rfl rfl i rfl (by omega))
        case o9x3 => exact fun _ _ hw _ => opE_value (v := .agg (idA (l.getD i 0))) rfl (run_ldKI (HL.gro (GG.drew.trans hw)) _ rfl i rfl (by omega))
        case o10x3 => exact fun _ _ hw _ => opE_value (v := .agg (idA x)) rfl (ldI0 _ rfl g1 rfl (hw.has kg1))
        case o11x3 =>
          intro ptrs w' hw hE
          exact opE_callF (.val (.int .i64 (cmpN (l.getD i 0) x))) rfl _ 38 #[] Try.call38 rfl _ rfl rfl _ rfl [.agg (idA (l.getD i 0)), .agg (idA x)] rfl ((cmp_any (l.getD i 0) x (atI HL (by omega)) hx _).mono fun e w' ⟨he, hg⟩ => ⟨_, he, hg, rfl⟩)
        case o12x3 => exact fun _ _ _ _ => opE_value (v := .bool true) rfl (run_eq_k 3 .i64 _ _ _ rfl Try.underlying3 (cmpN (l.getD i 0) x) 0 rfl rfl true ((cmp_zero _ _).trans hq) _)
        case o13x3 => exact fun _ _ _ _ => opE_pick (v := .bool true) _ _ _ rfl rfl true rfl rfl
        case o14x3 => exact fun _ _ _ _ => opE_assign (v := .int .i64 ((i : Nat) : Int)) _ rfl rfl rfl
        intro ptrs w2 GD hxE
        simp only [List.drop_succ_cons, List.drop_zero]
        replace kg1 := GD.has kg1
        replace GG := GG.drew.trans GD
        clear GD
        refine s_val 7 rfl rfl (.bool true) (rfl) ?_
        refine nr ?_; intro U h; simp only [z0, z1] at h; subst h
        refine wpList_nil ?_
        refine then_n ?_
        refine wp_ret ?_
        refine bodyPost_ret (results_tmp2 Try.results39 _ _ _) rfl ?_
        have hf := bs_found hs (by omega) c1 (by rw [hie]; exact c2)
        exact ⟨i, congrArg (fun b => Ending.returned (.tuple #[.int .i64 (i : Int), .bool b])) (by simp only [hf]; exact (decide_eq_true ⟨hml, of_decide_eq_true hq⟩).symm), GG⟩
  · have hil : i < j := by have := of_decide_eq_true hij1; omega
    obtain ⟨h, hh⟩ : ∃ h, (i + j) / 2 ^ 1 = h := ⟨_, rfl⟩
    have hh2 : (i + j) / 2 = h := hh
    refine s_val 17 rfl rfl (.bool true) (run_lssT 3 _ _ _ rfl ((i : Nat) : Int) ((j : Nat) : Int) rfl rfl true hij1 _) ?_
    refine nr ?_; intro U h; simp only [z0, z1] at h; subst h
    refine wpList_nil ?_
    refine then_n ?_
    refine wp_cond_true rfl ?_
    refine wp_skip ?_
    refine then_n ?_
    refine wp_block ?_
    refine wp_seq ?_
    refine wp_region_lit ?_
    refine s_val 18 rfl rfl (.int .i64 ((i : Nat) : Int)) (rfl) ?_
    refine nr ?_; intro U h; simp only [z0, z1] at h; subst h
    refine s_val 19 rfl rfl (.int .i64 ((j : Nat) : Int)) (rfl) ?_
    refine nr ?_; intro U h; simp only [z0, z1] at h; subst h
    refine s_val 20 rfl rfl (.int .i64 ((i + j : Nat) : Int)) (run_addI 3 _ _ _ rfl ((i : Nat) : Int) ((j : Nat) : Int) ((i + j : Nat) : Int) rfl rfl (by omega) (by omega) (by omega) _) ?_
    refine nr ?_; intro U h; simp only [z0, z1] at h; subst h
    refine s_val 21 rfl rfl (.int .u64 ((i + j : Nat) : Int)) (cv3u _ rfl (i + j) (by omega) rfl _) ?_
    refine nr ?_; intro U h; simp only [z0, z1] at h; subst h
    refine s_val 22 rfl rfl (.int .u64 ((h : Nat) : Int)) (run_shr64 58 58 _ _ rfl (i + j) 1 .u64 rfl rfl (by decide) h hh _) ?_
    refine nr ?_; intro U h; simp only [z0, z1] at h; subst h
    refine s_val 23 rfl rfl (.int .i64 ((h : Nat) : Int)) (cvu3 _ rfl h (by omega) rfl _) ?_
    refine nr ?_; intro U h; simp only [z0, z1] at h; subst h
    refine s_val 11 rfl rfl (.int .i64 ((h : Nat) : Int)) (rfl) ?_
    refine nr ?_; intro U h; simp only [z0, z1] at h; subst h
    refine wpList_nil ?_
    refine then_n ?_
    refine wp_seq ?_
    cases hc : decide ((l.getD h 0) < x)
    · refine wp_region_exA (A := ?Ax4) 6 [(0, 24), (1, 25), (2, 26), (3, 27), (4, 28), (5, 29)] [.val (.func (.func 38) #[] #[]), .val (.slice ao l.length cap), .val (.int .i64 ((h : Nat) : Int)), .val (.pointer (pK kI ao h 0)), .val (.agg (idA (l.getD h 0))), .val (.agg (idA x))] follows (by kernel_rfl) rfl ?hAx4 (opsA_cons ?o0x4 (opsA_cons ?o1x4 (opsA_cons ?o2x4 (opsA_cons ?o3x4 (opsA_cons ?o4x4 (opsA_cons ?o5x4 opsA_nil)))))) ?restx4
      case hAx4 =>
        intro ptrs
        simp only [full, foldSlots, filledE, postE, List.foldl_cons, List.foldl_nil, List.getD_cons_zero, List.getD_cons_succ, fill_val, List.set_cons_zero, List.set_cons_succ]
        exact rfl
      case o0x4 => exact fun _ _ _ _ => opE_move (v := .func (.func 38) #[] #[]) _ rfl rfl rfl
      case o1x4 => exact fun _ _ _ _ => opE_move (v := .slice ao l.length cap) _ rfl rfl rfl
      case o2x4 => exact fun _ _ _ _ => opE_move (v := .int .i64 ((h : Nat) : Int)) _ rfl rfl rfl
      case o3x4 => exact fun _ _ hw _ => opE_value (v := .pointer (pK kI ao h 0)) rfl (run_ixK rIk (HL.gro (GG.drew.trans hw)) _ _ rfl rfl h rfl (by omega))
      case o4x4 => exact fun _ _ hw _ => opE_value (v := .agg (idA (l.getD h 0))) rfl (run_ldKI (HL.gro (GG.drew.trans hw)) _ rfl h rfl (by omega))
      case o5x4 => exact fun _ _ hw _ => opE_value (v := .agg (idA x)) rfl (ldI0 _ rfl g1 rfl (hw.has kg1))
      intro ptrs w2 GD hxE
      simp only [List.drop_succ_cons, List.drop_zero]
      replace kg1 := GD.has kg1
      replace GG := GG.drew.trans GD
      clear GD
      refine s_callF 30 rfl rfl _ 38 #[] Try.call38 rfl _ rfl rfl _ rfl [.agg (idA (l.getD h 0)), .agg (idA x)] rfl (cmp_any (l.getD h 0) x (atI HL (by omega)) hx _) ?_
      intro w3 G
      replace kg1 := G.has kg1
      replace GG := GG.trans G
      clear G
      refine nr ?_; intro U h; simp only [z0, z1] at h; subst h
      refine s_val 31 rfl rfl (.bool false) (run_lssT 3 _ _ _ rfl (cmpN (l.getD h 0) x) 0 rfl rfl false ((cmp_neg _ _).trans hc) _) ?_
      refine nr ?_; intro U h; simp only [z0, z1] at h; subst h
      refine wpList_nil ?_
      refine then_n ?_
      refine wp_cond_false rfl ?_
      refine wp_region_lit ?_
      refine s_val 34 rfl rfl (.int .i64 ((h : Nat) : Int)) (rfl) ?_
      refine nr ?_; intro U h; simp only [z0, z1] at h; subst h
      refine s_val 10 rfl rfl (.int .i64 ((h : Nat) : Int)) (rfl) ?_
      refine nr ?_; intro U h; simp only [z0, z1] at h; subst h
      refine wpList_nil ?_
      refine blk_n ?_
      refine then_n ?_
      exact ⟨h - i, by omega, i, h, (fun kz => ([.int .i64 ((h : Nat) : Int), .int .i64 ((i : Nat) : Int), .int .i64 ((j : Nat) : Int), .bool true, .int .i64 ((i : Nat) : Int), .int .i64 ((j : Nat) : Int), .int .i64 ((i + j : Nat) : Int), .int .u64 ((i + j : Nat) : Int), .int .u64 ((h : Nat) : Int), .int .i64 ((h : Nat) : Int), .func (.func 38) #[] #[], .slice ao l.length cap, .int .i64 ((h : Nat) : Int), .pointer (pK kI ao h 0), .agg (idA (l.getD h 0)), .agg (idA x), .int .i64 (cmpN (l.getD h 0) x), .bool false, us1 18, us1 19, .int .i64 ((h : Nat) : Int)] : List Value).getD kz undef), rfl, rfl, by omega, by omega, c1, .inr (of_decide_eq_false hc), GG, kg1⟩
    · refine wp_region_exA (A := ?Ax5) 6 [(0, 24), (1, 25), (2, 26), (3, 27), (4, 28), (5, 29)] [.val (.func (.func 38) #[] #[]), .val (.slice ao l.length cap), .val (.int .i64 ((h : Nat) : Int)), .val (.pointer (pK kI ao h 0)), .val (.agg (idA (l.getD h 0))), .val (.agg (idA x))] follows (by kernel_rfl) rfl ?hAx5 (opsA_cons ?o0x5 (opsA_cons ?o1x5 (opsA_cons ?o2x5 (opsA_cons ?o3x5 (opsA_cons ?o4x5 (opsA_cons ?o5x5 opsA_nil)))))) ?restx5
      case hAx5 =>
        intro ptrs
        simp only [full, foldSlots, filledE, postE, List.foldl_cons, List.foldl_nil, List.getD_cons_zero, List.getD_cons_succ, fill_val, List.set_cons_zero, List.set_cons_succ]
        exact rfl
      case o0x5 => exact fun _ _ _ _ => opE_move (v := .func (.func 38) #[] #[]) _ rfl rfl rfl
      case o1x5 => exact fun _ _ _ _ => opE_move (v := .slice ao l.length cap) _ rfl rfl rfl
      case o2x5 => exact fun _ _ _ _ => opE_move (v := .int .i64 ((h : Nat) : Int)) _ rfl rfl rfl
      case o3x5 => exact fun _ _ hw _ => opE_value (v := .pointer (pK kI ao h 0)) rfl (run_ixK rIk (HL.gro (GG.drew.trans hw)) _ _ rfl rfl h rfl (by omega))
      case o4x5 => exact fun _ _ hw _ => opE_value (v := .agg (idA (l.getD h 0))) rfl (run_ldKI (HL.gro (GG.drew.trans hw)) _ rfl h rfl (by omega))
      case o5x5 => exact fun _ _ hw _ => opE_value (v := .agg (idA x)) rfl (ldI0 _ rfl g1 rfl (hw.has kg1))
      intro ptrs w2 GD hxE
      simp only [List.drop_succ_cons, List.drop_zero]
      replace kg1 := GD.has kg1
      replace GG := GG.drew.trans GD
      clear GD
      refine s_callF 30 rfl rfl _ 38 #[] Try.call38 rfl _ rfl rfl _ rfl [.agg (idA (l.getD h 0)), .agg (idA x)] rfl (cmp_any (l.getD h 0) x (atI HL (by omega)) hx _) ?_
      intro w3 G
      replace kg1 := G.has kg1
      replace GG := GG.trans G
      clear G
      refine nr ?_; intro U h; simp only [z0, z1] at h; subst h
      refine s_val 31 rfl rfl (.bool true) (run_lssT 3 _ _ _ rfl (cmpN (l.getD h 0) x) 0 rfl rfl true ((cmp_neg _ _).trans hc) _) ?_
      refine nr ?_; intro U h; simp only [z0, z1] at h; subst h
      refine wpList_nil ?_
      refine then_n ?_
      refine wp_cond_true rfl ?_
      refine wp_region_lit ?_
      refine s_val 32 rfl rfl (.int .i64 ((h : Nat) : Int)) (rfl) ?_
      refine nr ?_; intro U h; simp only [z0, z1] at h; subst h
      refine s_val 33 rfl rfl (.int .i64 ((h + 1 : Nat) : Int)) (run_addI 3 _ _ _ rfl ((h : Nat) : Int) 1 ((h + 1 : Nat) : Int) rfl rfl (by omega) (by omega) (by omega) _) ?_
      refine nr ?_; intro U h; simp only [z0, z1] at h; subst h
      refine s_val 9 rfl rfl (.int .i64 ((h + 1 : Nat) : Int)) (rfl) ?_
      refine nr ?_; intro U h; simp only [z0, z1] at h; subst h
      refine wpList_nil ?_
      refine blk_n ?_
      refine then_n ?_
      exact ⟨j - (h + 1), by omega, h + 1, j, (fun kz => ([.int .i64 ((h : Nat) : Int), .int .i64 ((i : Nat) : Int), .int .i64 ((j : Nat) : Int), .bool true, .int .i64 ((i : Nat) : Int), .int .i64 ((j : Nat) : Int), .int .i64 ((i + j : Nat) : Int), .int .u64 ((i + j : Nat) : Int), .int .u64 ((h : Nat) : Int), .int .i64 ((h : Nat) : Int), .func (.func 38) #[] #[], .slice ao l.length cap, .int .i64 ((h : Nat) : Int), .pointer (pK kI ao h 0), .agg (idA (l.getD h 0)), .agg (idA x), .int .i64 (cmpN (l.getD h 0) x), .bool true, .int .i64 ((h : Nat) : Int), .int .i64 ((h + 1 : Nat) : Int), us1 20] : List Value).getD kz undef), rfl, rfl, by omega, hj, .inr (of_decide_eq_true hc), c2, GG, kg1⟩
end Go.Proofs.Ytjahegiopigblaa
