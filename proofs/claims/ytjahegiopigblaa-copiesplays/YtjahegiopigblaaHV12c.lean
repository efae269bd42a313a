/- The document's Same of items. -/
import Derived.Test.YtjahegiopigblaaHC6
namespace Go.Proofs.Ytjahegiopigblaa
open Go.RowKit
theorem sg_iff {a b : IM} : a.sg = b.sg ↔ a.key = b.key ∧ eqV a.ver b.ver = true ∧ a.val = b.val := by
  unfold IM.sg eqV IM.ver
  constructor
  · intro h
    injection h with h1 h2 h3 h4
    exact ⟨h1, by simp [h2, h3], h4⟩
  · rintro ⟨h1, h2, h3⟩
    simp only [Bool.and_eq_true, decide_eq_true_eq] at h2
    rw [h1, h2.1, h2.2, h3]
def sameM (l m : List IM) : Prop := l.map IM.sg = m.map IM.sg
theorem sgs_eq {l m : List IM} (hl : l.length = m.length) (h : ∀ j, j < l.length → (l.getD j zM).sg = (m.getD j zM).sg) : sameM l m := by
  apply List.ext_getElem
  · rw [List.length_map, List.length_map, hl]
  · intro j h1 h2
    rw [List.length_map] at h1 h2
    have := h j h1
    rw [List.getD_eq_getElem?_getD, List.getElem?_eq_getElem h1, List.getD_eq_getElem?_getD, List.getElem?_eq_getElem h2] at this
    simpa using this
theorem sgs_at {l m : List IM} (h : sameM l m) (j : Nat) : (l.getD j zM).sg = (m.getD j zM).sg := by
  have h1 : (l.map IM.sg)[j]? = (m.map IM.sg)[j]? := by rw [h]
  rw [List.getElem?_map, List.getElem?_map] at h1
  rw [List.getD_eq_getElem?_getD, List.getD_eq_getElem?_getD]
  cases hl : l[j]? with
  | none =>
    rw [hl] at h1
    cases hm : m[j]? with
    | none => rfl
    | some y => rw [hm] at h1; cases h1
  | some x =>
    rw [hl] at h1
    cases hm : m[j]? with
    | none => rw [hm] at h1; cases h1
    | some y =>
      rw [hm] at h1
      injection h1
theorem sgs_len {l m : List IM} (h : sameM l m) : l.length = m.length := by
  have := congrArg List.length h
  rwa [List.length_map, List.length_map] at this
theorem bas_eq {a b : List Nat} {w : World} {ao bo : Option Addr} {ac bc : Nat} (ha : NC w .u8 ao ac a) (hb : NC w .u8 bo bc b) : bas a = bas b ↔ a = b := ⟨fun h => bas_inj ha.lt256 hb.lt256 h, fun h => by rw [h]⟩
set_option maxRecDepth 100000 in
set_option maxHeartbeats 4000000 in
theorem same_any (w : World) (ao bo : Option Addr) (cap bc : Nat) (l m : List IM) (HA : RK kM w ao cap l) (HB : RK kM w bo bc m) (NA : NCs w l) (NB : NCs w m) (hll : l.length ≤ 4611686018427387904) (q : Bool) (hp : sameM l m → q = true) (hq : ¬ sameM l m → q = false) : Calls Try.prog 25 #[.slice ao l.length cap, .slice bo m.length bc] w (fun e w' => e = .returned (.bool q) ∧ Gro w w') := by
  refine s_enter Try.func25 rfl Try.ntmps25 [.slice ao l.length cap, .slice bo m.length bc] [.slice ao l.length cap, .slice bo m.length bc, undef, undef, undef, undef, undef, undef, undef, undef, undef, undef, undef, undef, undef, undef, undef, undef, undef, undef, undef, undef, undef, undef, undef, undef, undef, undef, undef, undef, undef, undef, undef, undef, undef, undef, undef, undef, undef, undef, undef, undef, undef, undef, undef, undef, undef, undef, undef, undef, undef, undef, undef, undef, undef, undef] rfl ?_
  have GG := Gro.refl w
  refine wp_seq ?_
  refine wp_region_lit ?_
  refine s_val 4 rfl rfl (.bool false) (rfl) ?_
  refine nr ?_; intro U h; simp only [z0, z1] at h; subst h
  refine wpList_nil ?_
  refine then_n ?_
  refine wp_seq ?_
  refine wp_seq ?_
  cases t1 : decide (((l.length : Nat) : Int) = ((m.length : Nat) : Int))
  · have hc := of_decide_eq_false t1
    refine wp_region_lit ?_
    refine s_val 6 rfl rfl (.slice ao l.length cap) (rfl) ?_
    refine nr ?_; intro U h; simp only [z0, z1] at h; subst h
    refine s_val 7 rfl rfl (.int .i64 ((l.length : Nat) : Int)) (run_len Try.underlying40 _ rfl _ _ _ rfl _) ?_
    refine nr ?_; intro U h; simp only [z0, z1] at h; subst h
    refine s_val 8 rfl rfl (.slice bo m.length bc) (rfl) ?_
    refine nr ?_; intro U h; simp only [z0, z1] at h; subst h
    refine s_val 9 rfl rfl (.int .i64 ((m.length : Nat) : Int)) (run_len Try.underlying40 _ rfl _ _ _ rfl _) ?_
    refine nr ?_; intro U h; simp only [z0, z1] at h; subst h
    refine s_val 10 rfl rfl (.bool true) (run_neq_k 3 .i64 _ _ _ rfl Try.underlying3 ((l.length : Nat) : Int) ((m.length : Nat) : Int) rfl rfl true t1 _) ?_
    refine nr ?_; intro U h; simp only [z0, z1] at h; subst h
    refine wpList_nil ?_
    refine then_n ?_
    refine wp_cond_true rfl ?_
    refine wp_seq ?_
    refine wp_region_lit ?_
    refine s_val 4 rfl rfl (.bool false) (rfl) ?_
    refine nr ?_; intro U h; simp only [z0, z1] at h; subst h
    refine wpList_nil ?_
    refine then_n ?_
    refine wp_ret ?_
    refine then_r ?_
    refine bodyPost_ret (results_tmp Try.results25 _ _ _) rfl ?_
    refine ⟨?_, GG⟩
    rw [hq (fun e => hc (by rw [sgs_len e]))]
    rfl
  · have hlm : l.length = m.length := by have := of_decide_eq_true t1; omega
    refine wp_region_lit ?_
    refine s_val 6 rfl rfl (.slice ao l.length cap) (rfl) ?_
    refine nr ?_; intro U h; simp only [z0, z1] at h; subst h
    refine s_val 7 rfl rfl (.int .i64 ((l.length : Nat) : Int)) (run_len Try.underlying40 _ rfl _ _ _ rfl _) ?_
    refine nr ?_; intro U h; simp only [z0, z1] at h; subst h
    refine s_val 8 rfl rfl (.slice bo m.length bc) (rfl) ?_
    refine nr ?_; intro U h; simp only [z0, z1] at h; subst h
    refine s_val 9 rfl rfl (.int .i64 ((m.length : Nat) : Int)) (run_len Try.underlying40 _ rfl _ _ _ rfl _) ?_
    refine nr ?_; intro U h; simp only [z0, z1] at h; subst h
    refine s_val 10 rfl rfl (.bool false) (run_neq_k 3 .i64 _ _ _ rfl Try.underlying3 ((l.length : Nat) : Int) ((m.length : Nat) : Int) rfl rfl false t1 _) ?_
    refine nr ?_; intro U h; simp only [z0, z1] at h; subst h
    refine wpList_nil ?_
    refine then_n ?_
    refine wp_cond_false rfl ?_
    refine wp_skip ?_
    refine then_n ?_
    refine wp_seq ?_
    refine wp_seq ?_
    refine wp_region_lit ?_
    refine s_val 5 rfl rfl (.int .i64 0) (rfl) ?_
    refine nr ?_; intro U h; simp only [z0, z1] at h; subst h
    refine wpList_nil ?_
    refine then_n ?_
    refine wp_block ?_
    refine wp_loopN (fun mz az wv => ∃ (i : Nat) (us1 : Nat → Value), mz = l.length - i ∧ az = ⟨[.slice ao l.length cap, .slice bo m.length bc, undef, undef, us1 0, .int .i64 ((i : Nat) : Int), .slice ao l.length cap, .int .i64 ((l.length : Nat) : Int), .slice bo m.length bc, .int .i64 ((m.length : Nat) : Int), .bool false, us1 1, us1 2, us1 3, us1 4, us1 5, us1 6, us1 7, us1 8, us1 9, us1 10, us1 11, us1 12, us1 13, us1 14, us1 15, us1 16, us1 17, us1 18, us1 19, us1 20, us1 21, us1 22, us1 23, us1 24, us1 25, us1 26, us1 27, us1 28, us1 29, us1 30, us1 31, us1 32, us1 33, us1 34, us1 35, us1 36, us1 37, us1 38, us1 39, us1 40, us1 41, us1 42, us1 43, us1 44, us1 45].toArray, []⟩ ∧ Gro w wv ∧ i ≤ l.length ∧ (∀ j, j < i → (l.getD j zM).sg = (m.getD j zM).sg)) ?_ _ ⟨0, (fun kz => ([.bool false, undef, undef, undef, undef, undef, undef, undef, undef, undef, undef, undef, undef, undef, undef, undef, undef, undef, undef, undef, undef, undef, undef, undef, undef, undef, undef, undef, undef, undef, undef, undef, undef, undef, undef, undef, undef, undef, undef, undef, undef, undef, undef, undef, undef, undef] : List Value).getD kz undef), rfl, rfl, GG, Nat.zero_le _, fun _ h => absurd h (Nat.not_lt_zero _)⟩
    clear GG
    rintro mz az wv ⟨i, us1, rfl, rfl, GG, hi, hE⟩
    refine wp_seq ?_
    refine wp_seq ?_
    cases t2 : decide (((i : Nat) : Int) < ((l.length : Nat) : Int))
    · refine wp_region_lit ?_
      refine s_val 11 rfl rfl (.int .i64 ((i : Nat) : Int)) (rfl) ?_
      refine nr ?_; intro U h; simp only [z0, z1] at h; subst h
      refine s_val 12 rfl rfl (.slice ao l.length cap) (rfl) ?_
      refine nr ?_; intro U h; simp only [z0, z1] at h; subst h
      refine s_val 13 rfl rfl (.int .i64 ((l.length : Nat) : Int)) (run_len Try.underlying40 _ rfl _ _ _ rfl _) ?_
      refine nr ?_; intro U h; simp only [z0, z1] at h; subst h
      refine s_val 14 rfl rfl (.bool false) (run_lssT 3 _ _ _ rfl ((i : Nat) : Int) ((l.length : Nat) : Int) rfl rfl false t2 _) ?_
      refine nr ?_; intro U h; simp only [z0, z1] at h; subst h
      refine wpList_nil ?_
      refine then_n ?_
      refine wp_cond_false rfl ?_
      refine wp_exit ?_
      refine then_x ?_
      refine then_x ?_
      refine blk_x ?_
      refine then_n ?_
      refine wp_seq ?_
      refine wp_region_lit ?_
      refine s_val 4 rfl rfl (.bool true) (rfl) ?_
      refine nr ?_; intro U h; simp only [z0, z1] at h; subst h
      refine wpList_nil ?_
      refine then_n ?_
      refine wp_ret ?_
      refine bodyPost_ret (results_tmp Try.results25 _ _ _) rfl ?_
      have hil : i = l.length := by have := of_decide_eq_false t2; omega
      refine ⟨?_, GG⟩
      rw [hp (sgs_eq hlm (fun j hj => hE j (by omega)))]
      rfl
    · have hlt : i < l.length := by have := of_decide_eq_true t2; omega
      have hlt2 : i < m.length := by omega
      refine wp_region_lit ?_
      refine s_val 11 rfl rfl (.int .i64 ((i : Nat) : Int)) (rfl) ?_
      refine nr ?_; intro U h; simp only [z0, z1] at h; subst h
      refine s_val 12 rfl rfl (.slice ao l.length cap) (rfl) ?_
      refine nr ?_; intro U h; simp only [z0, z1] at h; subst h
      refine s_val 13 rfl rfl (.int .i64 ((l.length : Nat) : Int)) (run_len Try.underlying40 _ rfl _ _ _ rfl _) ?_
      refine nr ?_; intro U h; simp only [z0, z1] at h; subst h
      refine s_val 14 rfl rfl (.bool true) (run_lssT 3 _ _ _ rfl ((i : Nat) : Int) ((l.length : Nat) : Int) rfl rfl true t2 _) ?_
      refine nr ?_; intro U h; simp only [z0, z1] at h; subst h
      refine wpList_nil ?_
      refine then_n ?_
      refine wp_cond_true rfl ?_
      refine wp_skip ?_
      refine then_n ?_
      refine wp_seq ?_
      refine wp_block ?_
      refine wp_seq ?_
      cases k1 : decide ((l.getD i zM).key = (m.getD i zM).key)
      · have hne : ¬ (l.getD i zM).sg = (m.getD i zM).sg := fun e => of_decide_eq_false k1 (sg_iff.1 e).1
        refine wp_region_exA (A := ?Ax1) 38 [(0, 17), (1, 18), (2, 19), (3, 20), (4, 21), (5, 22), (6, 23), (7, 24), (8, 25), (9, 26), (10, 27), (11, 28), (12, 29), (13, 30), (14, 31), (15, 32), (16, 33), (17, 34), (18, 35), (19, 36), (20, 37), (21, 38), (22, 39), (23, 40), (24, 41), (25, 42), (26, 43), (27, 44), (28, 45), (29, 46), (30, 47), (31, 48), (32, 49), (33, 50), (34, 51), (35, 52), (36, 53), (37, 54)] [.val (.slice ao l.length cap), .val (.int .i64 ((i : Nat) : Int)), .val (.pointer (pK kM ao i 0)), .val (.pointer (pK kM ao i 0)), .val (.agg (idA (l.getD i zM).key)), .val (.slice bo m.length bc), .val (.int .i64 ((i : Nat) : Int)), .val (.pointer (pK kM bo i 0)), .val (.pointer (pK kM bo i 0)), .val (.agg (idA (m.getD i zM).key)), .val (.bool true), .val (.bool true), .val undef, .val undef, .val undef, .val undef, .val undef, .val undef, .val undef, .val undef, .val undef, .val undef, .val undef, .val (.bool true), .val (.bool true), .val undef, .val undef, .val undef, .val undef, .val undef, .val undef, .val undef, .val undef, .val undef, .val undef, .val undef, .val undef, .val undef] follows (by kernel_rfl) rfl ?hAx1 (opsA_cons ?o0x1 (opsA_cons ?o1x1 (opsA_cons ?o2x1 (opsA_cons ?o3x1 (opsA_cons ?o4x1 (opsA_cons ?o5x1 (opsA_cons ?o6x1 (opsA_cons ?o7x1 (opsA_cons ?o8x1 (opsA_cons ?o9x1 (opsA_cons ?o10x1 (opsA_cons ?o11x1 (opsA_cons ?o12x1 (opsA_cons ?o13x1 (opsA_cons ?o14x1 (opsA_cons ?o15x1 (opsA_cons ?o16x1 (opsA_cons ?o17x1 (opsA_cons ?o18x1 (opsA_cons ?o19x1 (opsA_cons ?o20x1 (opsA_cons ?o21x1 (opsA_cons ?o22x1 (opsA_cons ?o23x1 (opsA_cons ?o24x1 (opsA_cons ?o25x1 (opsA_cons ?o26x1 (opsA_cons ?o27x1 (opsA_cons ?o28x1 (opsA_cons ?o29x1 (opsA_cons ?o30x1 (opsA_cons ?o31x1 (opsA_cons ?o32x1 (opsA_cons ?o33x1 (opsA_cons ?o34x1 (opsA_cons ?o35x1 (opsA_cons ?o36x1 (opsA_cons ?o37x1 opsA_nil)))))))))))))))))))))))))))))))))))))) ?restx1
        case hAx1 =>
          intro ptrs
          simp only [full, foldSlots, filledE, postE, List.foldl_cons, List.foldl_nil, List.getD_cons_zero, List.getD_cons_succ, fill_val, List.set_cons_zero, List.set_cons_succ]
          exact rfl
        case o0x1 => exact fun _ _ _ _ => opE_move (v := .slice ao l.length cap) _ rfl rfl rfl
        case o1x1 => exact fun _ _ _ _ => opE_move (v := .int .i64 ((i : Nat) : Int)) _ rfl rfl rfl
        case o2x1 => exact fun _ _ hw _ => opE_value (v := .pointer (pK kM ao i 0)) rfl (run_ixK rM (((HA.gro GG)).gro ((Gro.refl _).drew.trans hw)) _ _ rfl rfl i rfl (by omega))
        case o3x1 => exact fun _ _ hw _ => opE_value (v := .pointer (pK kM ao i 0)) rfl (run_fdK (((HA.gro GG)).gro ((Gro.refl _).drew.trans hw)) 46 _ 0 0 (fdM_0 _) rfl i rfl (by omega))
        case o4x1 => exact fun _ _ hw _ => opE_value (v := .agg (idA (l.getD i zM).key)) rfl (run_ldKMk (((HA.gro GG)).gro ((Gro.refl _).drew.trans hw)) _ rfl i rfl (by omega))
        case o5x1 => exact fun _ _ _ _ => opE_move (v := .slice bo m.length bc) _ rfl rfl rfl
        case o6x1 => exact fun _ _ _ _ => opE_move (v := .int .i64 ((i : Nat) : Int)) _ rfl rfl rfl
        case o7x1 => exact fun _ _ hw _ => opE_value (v := .pointer (pK kM bo i 0)) rfl (run_ixK rM (((HB.gro GG)).gro ((Gro.refl _).drew.trans hw)) _ _ rfl rfl i rfl (by omega))
        case o8x1 => exact fun _ _ hw _ => opE_value (v := .pointer (pK kM bo i 0)) rfl (run_fdK (((HB.gro GG)).gro ((Gro.refl _).drew.trans hw)) 46 _ 0 0 (fdM_0 _) rfl i rfl (by omega))
        case o9x1 => exact fun _ _ hw _ => opE_value (v := .agg (idA (m.getD i zM).key)) rfl (run_ldKMk (((HB.gro GG)).gro ((Gro.refl _).drew.trans hw)) _ rfl i rfl (by omega))
        case o10x1 => exact fun _ _ _ _ => opE_value (v := .bool true) rfl (run_neI _ _ _ rfl _ _ rfl rfl (atM HA hlt).key (atM HB hlt2).key true k1)
        case o11x1 => exact fun _ _ _ _ => opE_move (v := .bool true) _ rfl rfl rfl
        case o12x1 => exact fun _ _ _ _ => opE_skip rfl
        case o13x1 => exact fun _ _ _ _ => opE_skip rfl
        case o14x1 => exact fun _ _ _ _ => opE_skip rfl
        case o15x1 => exact fun _ _ _ _ => opE_skip rfl
        case o16x1 => exact fun _ _ _ _ => opE_skip rfl
        case o17x1 => exact fun _ _ _ _ => opE_skip rfl
        case o18x1 => exact fun _ _ _ _ => opE_skip rfl
        case o19x1 => exact fun _ _ _ _ => opE_skip rfl
        case o20x1 => exact fun _ _ _ _ => opE_skip rfl
        case o21x1 => exact fun _ _ _ _ => opE_skip rfl
        case o22x1 => exact fun _ _ _ _ => opE_skip rfl
        case o23x1 => exact fun _ _ _ _ => opE_pick (v := .bool true) _ _ _ rfl rfl true rfl rfl
        case o24x1 => exact fun _ _ _ _ => opE_move (v := .bool true) _ rfl rfl rfl
        case o25x1 => exact fun _ _ _ _ => opE_skip rfl
        case o26x1 => exact fun _ _ _ _ => opE_skip rfl
        case o27x1 => exact fun _ _ _ _ => opE_skip rfl
        case o28x1 => exact fun _ _ _ _ => opE_skip rfl
        case o29x1 => exact fun _ _ _ _ => opE_skip rfl
        case o30x1 => exact fun _ _ _ _ => opE_skip rfl
        case o31x1 => exact fun _ _ _ _ => opE_skip rfl
        case o32x1 => exact fun _ _ _ _ => opE_skip rfl
        case o33x1 => exact fun _ _ _ _ => opE_skip rfl
        case o34x1 => exact fun _ _ _ _ => opE_skip rfl
        case o35x1 => exact fun _ _ _ _ => opE_skip rfl
        case o36x1 => exact fun _ _ _ _ => opE_skip rfl
        case o37x1 => exact fun _ _ _ _ => opE_skip rfl
        intro ptrs w1 GD hxE
        simp only [List.drop_succ_cons, List.drop_zero]
        replace GG := GG.drew.trans GD
        clear GD
        refine s_val 55 rfl rfl (.bool true) (rfl) ?_
        refine nr ?_; intro U h; simp only [z0, z1] at h; subst h
        refine wpList_nil ?_
        refine then_n ?_
        refine wp_cond_true rfl ?_
        refine wp_seq ?_
        refine wp_region_lit ?_
        refine s_val 4 rfl rfl (.bool false) (rfl) ?_
        refine nr ?_; intro U h; simp only [z0, z1] at h; subst h
        refine wpList_nil ?_
        refine then_n ?_
        refine wp_ret ?_
        refine blk_r ?_
        refine then_r ?_
        refine then_r ?_
        refine blk_r ?_
        refine then_r ?_
        refine bodyPost_ret (results_tmp Try.results25 _ _ _) rfl ?_
        refine ⟨?_, GG⟩
        rw [hq (fun e => hne (sgs_at e i))]
        rfl
      · cases k2 : eqV (l.getD i zM).ver (m.getD i zM).ver
        · have hne : ¬ (l.getD i zM).sg = (m.getD i zM).sg := fun e => absurd ((sg_iff.1 e).2.1.symm.trans k2) (by decide)
          refine wp_region_exA (A := ?Ax2) 38 [(0, 17), (1, 18), (2, 19), (3, 20), (4, 21), (5, 22), (6, 23), (7, 24), (8, 25), (9, 26), (10, 27), (11, 28), (12, 29), (13, 30), (14, 31), (15, 32), (16, 33), (17, 34), (18, 35), (19, 36), (20, 37), (21, 38), (22, 39), (23, 40), (24, 41), (25, 42), (26, 43), (27, 44), (28, 45), (29, 46), (30, 47), (31, 48), (32, 49), (33, 50), (34, 51), (35, 52), (36, 53), (37, 54)] [.val (.slice ao l.length cap), .val (.int .i64 ((i : Nat) : Int)), .val (.pointer (pK kM ao i 0)), .val (.pointer (pK kM ao i 0)), .val (.agg (idA (l.getD i zM).key)), .val (.slice bo m.length bc), .val (.int .i64 ((i : Nat) : Int)), .val (.pointer (pK kM bo i 0)), .val (.pointer (pK kM bo i 0)), .val (.agg (idA (m.getD i zM).key)), .val (.bool false), .val (.bool false), .val (.slice ao l.length cap), .val (.int .i64 ((i : Nat) : Int)), .val (.pointer (pK kM ao i 0)), .val (.pointer (pK kM ao i 16)), .val (.agg (veA (l.getD i zM).ver)), .val (.slice bo m.length bc), .val (.int .i64 ((i : Nat) : Int)), .val (.pointer (pK kM bo i 0)), .val (.pointer (pK kM bo i 16)), .val (.agg (veA (m.getD i zM).ver)), .val (.bool true), .val (.bool true), .val (.bool true), .val undef, .val undef, .val undef, .val undef, .val undef, .val undef, .val undef, .val undef, .val undef, .val undef, .val undef, .val undef, .val undef] follows (by kernel_rfl) rfl ?hAx2 (opsA_cons ?o0x2 (opsA_cons ?o1x2 (opsA_cons ?o2x2 (opsA_cons ?o3x2 (opsA_cons ?o4x2 (opsA_cons ?o5x2 (opsA_cons ?o6x2 (opsA_cons ?o7x2 (opsA_cons ?o8x2 (opsA_cons ?o9x2 (opsA_cons ?o10x2 (opsA_cons ?o11x2 (opsA_cons ?o12x2 (opsA_cons ?o13x2 (opsA_cons ?o14x2 (opsA_cons ?o15x2 (opsA_cons ?o16x2 (opsA_cons ?o17x2 (opsA_cons ?o18x2 (opsA_cons ?o19x2 (opsA_cons ?o20x2 (opsA_cons ?o21x2 (opsA_cons ?o22x2 (opsA_cons ?o23x2 (opsA_cons ?o24x2 (opsA_cons ?o25x2 (opsA_cons ?o26x2 (opsA_cons ?o27x2 (opsA_cons ?o28x2 (opsA_cons ?o29x2 (opsA_cons ?o30x2 (opsA_cons ?o31x2 (opsA_cons ?o32x2 (opsA_cons ?o33x2 (opsA_cons ?o34x2 (opsA_cons ?o35x2 (opsA_cons ?o36x2 (opsA_cons ?o37x2 opsA_nil)))))))))))))))))))))))))))))))))))))) ?restx2
          case hAx2 =>
            intro ptrs
            simp only [full, foldSlots, filledE, postE, List.foldl_cons, List.foldl_nil, List.getD_cons_zero, List.getD_cons_succ, fill_val, List.set_cons_zero, List.set_cons_succ]
            exact rfl
          case o0x2 => exact fun _ _ _ _ => opE_move (v := .slice ao l.length cap) _ rfl rfl rfl
          case o1x2 => exact fun _ _ _ _ => opE_move (v := .int .i64 ((i : Nat) : Int)) _ rfl rfl rfl
          case o2x2 => exact fun _ _ hw _ => opE_value (v := .pointer (pK kM ao i 0)) rfl (run_ixK rM (((HA.gro GG)).gro ((Gro.refl _).drew.trans hw)) _ _ rfl rfl i rfl (by omega))
          case o3x2 => exact fun _ _ hw _ => opE_value (v := .pointer (pK kM ao i 0)) rfl (run_fdK (((HA.gro GG)).gro ((Gro.refl _).drew.trans hw)) 46 _ 0 0 (fdM_0 _) rfl i rfl (by omega))
          case o4x2 => exact fun _ _ hw _ => opE_value (v := .agg (idA (l.getD i zM).key)) rfl (run_ldKMk (((HA.gro GG)).gro ((Gro.refl _).drew.trans hw)) _ rfl i rfl (by omega))
          case o5x2 => exact fun _ _ _ _ => opE_move (v := .slice bo m.length bc) _ rfl rfl rfl
          case o6x2 => exact fun _ _ _ _ => opE_move (v := .int .i64 ((i : Nat) : Int)) _ rfl rfl rfl
          case o7x2 => exact fun _ _ hw _ => opE_value (v := .pointer (pK kM bo i 0)) rfl (run_ixK rM (((HB.gro GG)).gro ((Gro.refl _).drew.trans hw)) _ _ rfl rfl i rfl (by omega))
          case o8x2 => exact fun _ _ hw _ => opE_value (v := .pointer (pK kM bo i 0)) rfl (run_fdK (((HB.gro GG)).gro ((Gro.refl _).drew.trans hw)) 46 _ 0 0 (fdM_0 _) rfl i rfl (by omega))
          case o9x2 => exact fun _ _ hw _ => opE_value (v := .agg (idA (m.getD i zM).key)) rfl (run_ldKMk (((HB.gro GG)).gro ((Gro.refl _).drew.trans hw)) _ rfl i rfl (by omega))
          case o10x2 => exact fun _ _ _ _ => opE_value (v := .bool false) rfl (run_neI _ _ _ rfl _ _ rfl rfl (atM HA hlt).key (atM HB hlt2).key false k1)
          case o11x2 => exact fun _ _ _ _ => opE_move (v := .bool false) _ rfl rfl rfl
          case o12x2 => exact fun _ _ _ _ => opE_move (v := .slice ao l.length cap) _ rfl rfl rfl
          case o13x2 => exact fun _ _ _ _ => opE_move (v := .int .i64 ((i : Nat) : Int)) _ rfl rfl rfl
          case o14x2 => exact fun _ _ hw _ => opE_value (v := .pointer (pK kM ao i 0)) rfl (run_ixK rM (((HA.gro GG)).gro ((Gro.refl _).drew.trans hw)) _ _ rfl rfl i rfl (by omega))
          case o15x2 => exact fun _ _ hw _ => opE_value (v := .pointer (pK kM ao i 16)) rfl (run_fdK (((HA.gro GG)).gro ((Gro.refl _).drew.trans hw)) 46 _ 1 16 (fdM_1 _) rfl i rfl (by omega))
          case o16x2 => exact fun _ _ hw _ => opE_value (v := .agg (veA (l.getD i zM).ver)) rfl (run_ldKMv (((HA.gro GG)).gro ((Gro.refl _).drew.trans hw)) _ rfl i rfl (by omega))
          case o17x2 => exact fun _ _ _ _ => opE_move (v := .slice bo m.length bc) _ rfl rfl rfl
          case o18x2 => exact fun _ _ _ _ => opE_move (v := .int .i64 ((i : Nat) : Int)) _ rfl rfl rfl
          case o19x2 => exact fun _ _ hw _ => opE_value (v := .pointer (pK kM bo i 0)) rfl (run_ixK rM (((HB.gro GG)).gro ((Gro.refl _).drew.trans hw)) _ _ rfl rfl i rfl (by omega))
          case o20x2 => exact fun _ _ hw _ => opE_value (v := .pointer (pK kM bo i 16)) rfl (run_fdK (((HB.gro GG)).gro ((Gro.refl _).drew.trans hw)) 46 _ 1 16 (fdM_1 _) rfl i rfl (by omega))
          case o21x2 => exact fun _ _ hw _ => opE_value (v := .agg (veA (m.getD i zM).ver)) rfl (run_ldKMv (((HB.gro GG)).gro ((Gro.refl _).drew.trans hw)) _ rfl i rfl (by omega))
          case o22x2 => exact fun _ _ _ _ => opE_value (v := .bool true) rfl (run_neV _ _ _ rfl _ _ rfl rfl (atM HA hlt).ver (atM HB hlt2).ver true k2)
          case o23x2 => exact fun _ _ _ _ => opE_pick (v := .bool true) _ _ _ rfl rfl false rfl rfl
          case o24x2 => exact fun _ _ _ _ => opE_move (v := .bool true) _ rfl rfl rfl
          case o25x2 => exact fun _ _ _ _ => opE_skip rfl
          case o26x2 => exact fun _ _ _ _ => opE_skip rfl
          case o27x2 => exact fun _ _ _ _ => opE_skip rfl
          case o28x2 => exact fun _ _ _ _ => opE_skip rfl
          case o29x2 => exact fun _ _ _ _ => opE_skip rfl
          case o30x2 => exact fun _ _ _ _ => opE_skip rfl
          case o31x2 => exact fun _ _ _ _ => opE_skip rfl
          case o32x2 => exact fun _ _ _ _ => opE_skip rfl
          case o33x2 => exact fun _ _ _ _ => opE_skip rfl
          case o34x2 => exact fun _ _ _ _ => opE_skip rfl
          case o35x2 => exact fun _ _ _ _ => opE_skip rfl
          case o36x2 => exact fun _ _ _ _ => opE_skip rfl
          case o37x2 => exact fun _ _ _ _ => opE_skip rfl
          intro ptrs w1 GD hxE
          simp only [List.drop_succ_cons, List.drop_zero]
          replace GG := GG.drew.trans GD
          clear GD
          refine s_val 55 rfl rfl (.bool true) (rfl) ?_
          refine nr ?_; intro U h; simp only [z0, z1] at h; subst h
          refine wpList_nil ?_
          refine then_n ?_
          refine wp_cond_true rfl ?_
          refine wp_seq ?_
          refine wp_region_lit ?_
          refine s_val 4 rfl rfl (.bool false) (rfl) ?_
          refine nr ?_; intro U h; simp only [z0, z1] at h; subst h
          refine wpList_nil ?_
          refine then_n ?_
          refine wp_ret ?_
          refine blk_r ?_
          refine then_r ?_
          refine then_r ?_
          refine blk_r ?_
          refine then_r ?_
          refine bodyPost_ret (results_tmp Try.results25 _ _ _) rfl ?_
          refine ⟨?_, GG⟩
          rw [hq (fun e => hne (sgs_at e i))]
          rfl
        · cases k3 : decide (bas (l.getD i zM).val = bas (m.getD i zM).val)
          · have hne : ¬ (l.getD i zM).sg = (m.getD i zM).sg := fun e => of_decide_eq_false k3 ((bas_eq (NA.at hlt) (NB.at hlt2)).2 (sg_iff.1 e).2.2)
            refine wp_region_exA (A := ?Ax3) 38 [(0, 17), (1, 18), (2, 19), (3, 20), (4, 21), (5, 22), (6, 23), (7, 24), (8, 25), (9, 26), (10, 27), (11, 28), (12, 29), (13, 30), (14, 31), (15, 32), (16, 33), (17, 34), (18, 35), (19, 36), (20, 37), (21, 38), (22, 39), (23, 40), (24, 41), (25, 42), (26, 43), (27, 44), (28, 45), (29, 46), (30, 47), (31, 48), (32, 49), (33, 50), (34, 51), (35, 52), (36, 53), (37, 54)] [.val (.slice ao l.length cap), .val (.int .i64 ((i : Nat) : Int)), .val (.pointer (pK kM ao i 0)), .val (.pointer (pK kM ao i 0)), .val (.agg (idA (l.getD i zM).key)), .val (.slice bo m.length bc), .val (.int .i64 ((i : Nat) : Int)), .val (.pointer (pK kM bo i 0)), .val (.pointer (pK kM bo i 0)), .val (.agg (idA (m.getD i zM).key)), .val (.bool false), .val (.bool false), .val (.slice ao l.length cap), .val (.int .i64 ((i : Nat) : Int)), .val (.pointer (pK kM ao i 0)), .val (.pointer (pK kM ao i 16)), .val (.agg (veA (l.getD i zM).ver)), .val (.slice bo m.length bc), .val (.int .i64 ((i : Nat) : Int)), .val (.pointer (pK kM bo i 0)), .val (.pointer (pK kM bo i 16)), .val (.agg (veA (m.getD i zM).ver)), .val (.bool false), .val (.bool false), .val (.bool false), .val (.slice ao l.length cap), .val (.int .i64 ((i : Nat) : Int)), .val (.pointer (pK kM ao i 0)), .val (.pointer (pK kM ao i 33)), .val (.slice (l.getD i zM).ao (l.getD i zM).val.length (l.getD i zM).cap), .val (.string (bas (l.getD i zM).val)), .val (.slice bo m.length bc), .val (.int .i64 ((i : Nat) : Int)), .val (.pointer (pK kM bo i 0)), .val (.pointer (pK kM bo i 33)), .val (.slice (m.getD i zM).ao (m.getD i zM).val.length (m.getD i zM).cap), .val (.string (bas (m.getD i zM).val)), .val (.bool true)] follows (by kernel_rfl) rfl ?hAx3 (opsA_cons ?o0x3 (opsA_cons ?o1x3 (opsA_cons ?o2x3 (opsA_cons ?o3x3 (opsA_cons ?o4x3 (opsA_cons ?o5x3 (opsA_cons ?o6x3 (opsA_cons ?o7x3 (opsA_cons ?o8x3 (opsA_cons ?o9x3 (opsA_cons ?o10x3 (opsA_cons ?o11x3 (opsA_cons ?o12x3 (opsA_cons ?o13x3 (opsA_cons ?o14x3 (opsA_cons ?o15x3 (opsA_cons ?o16x3 (opsA_cons ?o17x3 (opsA_cons ?o18x3 (opsA_cons ?o19x3 (opsA_cons ?o20x3 (opsA_cons ?o21x3 (opsA_cons ?o22x3 (opsA_cons ?o23x3 (opsA_cons ?o24x3 (opsA_cons ?o25x3 (opsA_cons ?o26x3 (opsA_cons ?o27x3 (opsA_cons ?o28x3 (opsA_cons ?o29x3 (opsA_cons ?o30x3 (opsA_cons ?o31x3 (opsA_cons ?o32x3 (opsA_cons ?o33x3 (opsA_cons ?o34x3 (opsA_cons ?o35x3 (opsA_cons ?o36x3 (opsA_cons ?o37x3 opsA_nil)))))))))))))))))))))))))))))))))))))) ?restx3
            case hAx3 =>
              intro ptrs
              simp only [full, foldSlots, filledE, postE, List.foldl_cons, List.foldl_nil, List.getD_cons_zero, List.getD_cons_succ, fill_val, List.set_cons_zero, List.set_cons_succ]
              exact rfl
            case o0x3 => exact fun _ _ _ _ => opE_move (v := .slice ao l.length cap) _ rfl rfl rfl
            case o1x3 => exact fun _ _ _ _ => opE_move (v := .int .i64 ((i : Nat) : Int)) _ rfl rfl rfl
            case o2x3 => exact fun _ _ hw _ => opE_value (v := .pointer (pK kM ao i 0)) rfl (run_ixK rM (((HA.gro GG)).gro ((Gro.refl _).drew.trans hw)) _ _ rfl rfl i rfl (by omega))
            case o3x3 => exact fun _ _ hw _ => opE_value (v := .pointer (pK kM ao i 0)) rfl (run_fdK (((HA.gro GG)).gro ((Gro.refl _).drew.trans hw)) 46 _ 0 0 (fdM_0 _) rfl i rfl (by omega))
            case o4x3 => exact fun _ _ hw _ => opE_value (v := .agg (idA (l.getD i zM).key)) rfl (run_ldKMk (((HA.gro GG)).gro ((Gro.refl _).drew.trans hw)) _ rfl i rfl (by omega))
            case o5x3 => exact fun _ _ _ _ => opE_move (v := .slice bo m.length bc) _ rfl rfl rfl
            case o6x3 => exact fun _ _ _ _ => opE_move (v := .int .i64 ((i : Nat) : Int)) _ rfl rfl rfl
            case o7x3 => exact fun _ _ hw _ => opE_value (v := .pointer (pK kM bo i 0)) rfl (run_ixK rM (((HB.gro GG)).gro ((Gro.refl _).drew.trans hw)) _ _ rfl rfl i rfl (by omega))
            case o8x3 => exact fun _ _ hw _ => opE_value (v := .pointer (pK kM bo i 0)) rfl (run_fdK (((HB.gro GG)).gro ((Gro.refl _).drew.trans hw)) 46 _ 0 0 (fdM_0 _) rfl i rfl (by omega))
            case o9x3 => exact fun _ _ hw _ => opE_value (v := .agg (idA (m.getD i zM).key)) rfl (run_ldKMk (((HB.gro GG)).gro ((Gro.refl _).drew.trans hw)) _ rfl i rfl (by omega))
            case o10x3 => exact fun _ _ _ _ => opE_value (v := .bool false) rfl (run_neI _ _ _ rfl _ _ rfl rfl (atM HA hlt).key (atM HB hlt2).key false k1)
            case o11x3 => exact fun _ _ _ _ => opE_move (v := .bool false) _ rfl rfl rfl
            case o12x3 => exact fun _ _ _ _ => opE_move (v := .slice ao l.length cap) _ rfl rfl rfl
            case o13x3 => exact fun _ _ _ _ => opE_move (v := .int .i64 ((i : Nat) : Int)) _ rfl rfl rfl
            case o14x3 => exact fun _ _ hw _ => opE_value (v := .pointer (pK kM ao i 0)) rfl (run_ixK rM (((HA.gro GG)).gro ((Gro.refl _).drew.trans hw)) _ _ rfl rfl i rfl (by omega))
            case o15x3 => exact fun _ _ hw _ => opE_value (v := .pointer (pK kM ao i 16)) rfl (run_fdK (((HA.gro GG)).gro ((Gro.refl _).drew.trans hw)) 46 _ 1 16 (fdM_1 _) rfl i rfl (by omega))
            case o16x3 => exact fun _ _ hw _ => opE_value (v := .agg (veA (l.getD i zM).ver)) rfl (run_ldKMv (((HA.gro GG)).gro ((Gro.refl _).drew.trans hw)) _ rfl i rfl (by omega))
            case o17x3 => exact fun _ _ _ _ => opE_move (v := .slice bo m.length bc) _ rfl rfl rfl
            case o18x3 => exact fun _ _ _ _ => opE_move (v := .int .i64 ((i : Nat) : Int)) _ rfl rfl rfl
            case o19x3 => exact fun _ _ hw _ => opE_value (v := .pointer (pK kM bo i 0)) rfl (run_ixK rM (((HB.gro GG)).gro ((Gro.refl _).drew.trans hw)) _ _ rfl rfl i rfl (by omega))
            case o20x3 => exact fun _ _ hw _ => opE_value (v := .pointer (pK kM bo i 16)) rfl (run_fdK (((HB.gro GG)).gro ((Gro.refl _).drew.trans hw)) 46 _ 1 16 (fdM_1 _) rfl i rfl (by omega))
            case o21x3 => exact fun _ _ hw _ => opE_value (v := .agg (veA (m.getD i zM).ver)) rfl (run_ldKMv (((HB.gro GG)).gro ((Gro.refl _).drew.trans hw)) _ rfl i rfl (by omega))
            case o22x3 => exact fun _ _ _ _ => opE_value (v := .bool false) rfl (run_neV _ _ _ rfl _ _ rfl rfl (atM HA hlt).ver (atM HB hlt2).ver false k2)
            case o23x3 => exact fun _ _ _ _ => opE_pick (v := .bool false) _ _ _ rfl rfl false rfl rfl
            case o24x3 => exact fun _ _ _ _ => opE_move (v := .bool false) _ rfl rfl rfl
            case o25x3 => exact fun _ _ _ _ => opE_move (v := .slice ao l.length cap) _ rfl rfl rfl
            case o26x3 => exact fun _ _ _ _ => opE_move (v := .int .i64 ((i : Nat) : Int)) _ rfl rfl rfl
            case o27x3 => exact fun _ _ hw _ => opE_value (v := .pointer (pK kM ao i 0)) rfl (run_ixK rM (((HA.gro GG)).gro ((Gro.refl _).drew.trans hw)) _ _ rfl rfl i rfl (by omega))
            case o28x3 => exact fun _ _ hw _ => opE_value (v := .pointer (pK kM ao i 33)) rfl (run_fdK (((HA.gro GG)).gro ((Gro.refl _).drew.trans hw)) 46 _ 2 33 (fdM_2 _) rfl i rfl (by omega))
            case o29x3 => exact fun _ _ hw _ => opE_value (v := .slice (l.getD i zM).ao (l.getD i zM).val.length (l.getD i zM).cap) rfl (run_ldKMr (((HA.gro GG)).gro ((Gro.refl _).drew.trans hw)) _ rfl i rfl (by omega))
            case o30x3 => exact fun _ _ hw _ => opE_value (v := .string (bas (l.getD i zM).val)) rfl (run_text_op bT 9 rfl _ rfl rfl ((((NA.at hlt).gro GG)).gro ((Gro.refl _).drew.trans hw)))
            case o31x3 => exact fun _ _ _ _ => opE_move (v := .slice bo m.length bc) _ rfl rfl rfl
            case o32x3 => exact fun _ _ _ _ => opE_move (v := .int .i64 ((i : Nat) : Int)) _ rfl rfl rfl
            case o33x3 => exact fun _ _ hw _ => opE_value (v := .pointer (pK kM bo i 0)) rfl (run_ixK rM (((HB.gro GG)).gro ((Gro.refl _).drew.trans hw)) _ _ rfl rfl i rfl (by omega))
            case o34x3 => exact fun _ _ hw _ => opE_value (v := .pointer (pK kM bo i 33)) rfl (run_fdK (((HB.gro GG)).gro ((Gro.refl _).drew.trans hw)) 46 _ 2 33 (fdM_2 _) rfl i rfl (by omega))
            case o35x3 => exact fun _ _ hw _ => opE_value (v := .slice (m.getD i zM).ao (m.getD i zM).val.length (m.getD i zM).cap) rfl (run_ldKMr (((HB.gro GG)).gro ((Gro.refl _).drew.trans hw)) _ rfl i rfl (by omega))
            case o36x3 => exact fun _ _ hw _ => opE_value (v := .string (bas (m.getD i zM).val)) rfl (run_text_op bT 9 rfl _ rfl rfl ((((NB.at hlt2).gro GG)).gro ((Gro.refl _).drew.trans hw)))
            case o37x3 => exact fun _ _ _ _ => opE_value (v := .bool true) rfl (run_nes_op _ _ _ rfl _ _ rfl rfl true k3 _)
            intro ptrs w1 GD hxE
            simp only [List.drop_succ_cons, List.drop_zero]
            replace GG := GG.drew.trans GD
            clear GD
            refine s_val 55 rfl rfl (.bool true) (rfl) ?_
            refine nr ?_; intro U h; simp only [z0, z1] at h; subst h
            refine wpList_nil ?_
            refine then_n ?_
            refine wp_cond_true rfl ?_
            refine wp_seq ?_
            refine wp_region_lit ?_
            refine s_val 4 rfl rfl (.bool false) (rfl) ?_
            refine nr ?_; intro U h; simp only [z0, z1] at h; subst h
            refine wpList_nil ?_
            refine then_n ?_
            refine wp_ret ?_
            refine blk_r ?_
            refine then_r ?_
            refine then_r ?_
            refine blk_r ?_
            refine then_r ?_
            refine bodyPost_ret (results_tmp Try.results25 _ _ _) rfl ?_
            refine ⟨?_, GG⟩
            rw [hq (fun e => hne (sgs_at e i))]
            rfl
          · have hsg : (l.getD i zM).sg = (m.getD i zM).sg := sg_iff.2 ⟨of_decide_eq_true k1, k2, (bas_eq (NA.at hlt) (NB.at hlt2)).1 (of_decide_eq_true k3)⟩
            refine wp_region_exA (A := ?Ax4) 38 [(0, 17), (1, 18), (2, 19), (3, 20), (4, 21), (5, 22), (6, 23), (7, 24), (8, 25), (9, 26), (10, 27), (11, 28), (12, 29), (13, 30), (14, 31), (15, 32), (16, 33), (17, 34), (18, 35), (19, 36), (20, 37), (21, 38), (22, 39), (23, 40), (24, 41), (25, 42), (26, 43), (27, 44), (28, 45), (29, 46), (30, 47), (31, 48), (32, 49), (33, 50), (34, 51), (35, 52), (36, 53), (37, 54)] [.val (.slice ao l.length cap), .val (.int .i64 ((i : Nat) : Int)), .val (.pointer (pK kM ao i 0)), .val (.pointer (pK kM ao i 0)), .val (.agg (idA (l.getD i zM).key)), .val (.slice bo m.length bc), .val (.int .i64 ((i : Nat) : Int)), .val (.pointer (pK kM bo i 0)), .val (.pointer (pK kM bo i 0)), .val (.agg (idA (m.getD i zM).key)), .val (.bool false), .val (.bool false), .val (.slice ao l.length cap), .val (.int .i64 ((i : Nat) : Int)), .val (.pointer (pK kM ao i 0)), .val (.pointer (pK kM ao i 16)), .val (.agg (veA (l.getD i zM).ver)), .val (.slice bo m.length bc), .val (.int .i64 ((i : Nat) : Int)), .val (.pointer (pK kM bo i 0)), .val (.pointer (pK kM bo i 16)), .val (.agg (veA (m.getD i zM).ver)), .val (.bool false), .val (.bool false), .val (.bool false), .val (.slice ao l.length cap), .val (.int .i64 ((i : Nat) : Int)), .val (.pointer (pK kM ao i 0)), .val (.pointer (pK kM ao i 33)), .val (.slice (l.getD i zM).ao (l.getD i zM).val.length (l.getD i zM).cap), .val (.string (bas (l.getD i zM).val)), .val (.slice bo m.length bc), .val (.int .i64 ((i : Nat) : Int)), .val (.pointer (pK kM bo i 0)), .val (.pointer (pK kM bo i 33)), .val (.slice (m.getD i zM).ao (m.getD i zM).val.length (m.getD i zM).cap), .val (.string (bas (m.getD i zM).val)), .val (.bool false)] follows (by kernel_rfl) rfl ?hAx4 (opsA_cons ?o0x4 (opsA_cons ?o1x4 (opsA_cons ?o2x4 (opsA_cons ?o3x4 (opsA_cons ?o4x4 (opsA_cons ?o5x4 (opsA_cons ?o6x4 (opsA_cons ?o7x4 (opsA_cons ?o8x4 (opsA_cons ?o9x4 (opsA_cons ?o10x4 (opsA_cons ?o11x4 (opsA_cons ?o12x4 (opsA_cons ?o13x4 (opsA_cons ?o14x4 (opsA_cons ?o15x4 (opsA_cons ?o16x4 (opsA_cons ?o17x4 (opsA_cons ?o18x4 (opsA_cons ?o19x4 (opsA_cons ?o20x4 (opsA_cons ?o21x4 (opsA_cons ?o22x4 (opsA_cons ?o23x4 (opsA_cons ?o24x4 (opsA_cons ?o25x4 (opsA_cons ?o26x4 (opsA_cons ?o27x4 (opsA_cons ?o28x4 (opsA_cons ?o29x4 (opsA_cons ?o30x4 (opsA_cons ?o31x4 (opsA_cons ?o32x4 (opsA_cons ?o33x4 (opsA_cons ?o34x4 (opsA_cons ?o35x4 (opsA_cons ?o36x4 (opsA_cons ?o37x4 opsA_nil)))))))))))))))))))))))))))))))))))))) ?restx4
            case hAx4 =>
              intro ptrs
              simp only [full, foldSlots, filledE, postE, List.foldl_cons, List.foldl_nil, List.getD_cons_zero, List.getD_cons_succ, fill_val, List.set_cons_zero, List.set_cons_succ]
              exact rfl
            case o0x4 => exact fun _ _ _ _ => opE_move (v := .slice ao l.length cap) _ rfl rfl rfl
            case o1x4 => exact fun _ _ _ _ => opE_move (v := .int .i64 ((i : Nat) : Int)) _ rfl rfl rfl
            case o2x4 => exact fun _ _ hw _ => opE_value (v := .pointer (pK kM ao i 0)) rfl (run_ixK rM (((HA.gro GG)).gro ((Gro.refl _).drew.trans hw)) _ _ rfl rfl i rfl (by omega))
            case o3x4 => exact fun _ _ hw _ => opE_value (v := .pointer (pK kM ao i 0)) rfl (run_fdK (((HA.gro GG)).gro ((Gro.refl _).drew.trans hw)) 46 _ 0 0 (fdM_0 _) rfl i rfl (by omega))
            case o4x4 => exact fun _ _ hw _ => opE_value (v := .agg (idA (l.getD i zM).key)) rfl (run_ldKMk (((HA.gro GG)).gro ((Gro.refl _).drew.trans hw)) _ rfl i rfl (by omega))
            case o5x4 => exact fun _ _ _ _ => opE_move (v := .slice bo m.length bc) _ rfl rfl rfl
            case o6x4 => exact fun _ _ _ _ => opE_move (v := .int .i64 ((i : Nat) : Int)) _ rfl rfl rfl
            case o7x4 => exact fun _ _ hw _ => opE_value (v := .pointer (pK kM bo i 0)) rfl (run_ixK rM (((HB.gro GG)).gro ((Gro.refl _).drew.trans hw)) _ _ rfl rfl i rfl (by omega))
            case o8x4 => exact fun _ _ hw _ => opE_value (v := .pointer (pK kM bo i 0)) rfl (run_fdK (((HB.gro GG)).gro ((Gro.refl _).drew.trans hw)) 46 _ 0 0 (fdM_0 _) rfl i rfl (by omega))
            case o9x4 => exact fun _ _ hw _ => opE_value (v := .agg (idA (m.getD i zM).key)) rfl (run_ldKMk (((HB.gro GG)).gro ((Gro.refl _).drew.trans hw)) _ rfl i rfl (by omega))
            case o10x4 => exact fun _ _ _ _ => opE_value (v := .bool false) rfl (run_neI _ _ _ rfl _ _ rfl rfl (atM HA hlt).key (atM HB hlt2).key false k1)
            case o11x4 => exact fun _ _ _ _ => opE_move (v := .bool false) _ rfl rfl rfl
            case o12x4 => exact fun _ _ _ _ => opE_move (v := .slice ao l.length cap) _ rfl rfl rfl
            case o13x4 => exact fun _ _ _ _ => opE_move (v := .int .i64 ((i : Nat) : Int)) _ rfl rfl rfl
            case o14x4 => exact fun _ _ hw _ => opE_value (v := .pointer (pK kM ao i 0)) rfl (run_ixK rM (((HA.gro GG)).gro ((Gro.refl _).drew.trans hw)) _ _ rfl rfl i rfl (by omega))
            case o15x4 => exact fun _ _ hw _ => opE_value (v := .pointer (pK kM ao i 16)) rfl (run_fdK (((HA.gro GG)).gro ((Gro.refl _).drew.trans hw)) 46 _ 1 16 (fdM_1 _) rfl i rfl (by omega))
            case o16x4 => exact fun _ _ hw _ => opE_value (v := .agg (veA (l.getD i zM).ver)) rfl (run_ldKMv (((HA.gro GG)).gro ((Gro.refl _).drew.trans hw)) _ rfl i rfl (by omega))
            case o17x4 => exact fun _ _ _ _ => opE_move (v := .slice bo m.length bc) _ rfl rfl rfl
            case o18x4 => exact fun _ _ _ _ => opE_move (v := .int .i64 ((i : Nat) : Int)) _ rfl rfl rfl
            case o19x4 => exact fun _ _ hw _ => opE_value (v := .pointer (pK kM bo i 0)) rfl (run_ixK rM (((HB.gro GG)).gro ((Gro.refl _).drew.trans hw)) _ _ rfl rfl i rfl (by omega))
            case o20x4 => exact fun _ _ hw _ => opE_value (v := .pointer (pK kM bo i 16)) rfl (run_fdK (((HB.gro GG)).gro ((Gro.refl _).drew.trans hw)) 46 _ 1 16 (fdM_1 _) rfl i rfl (by omega))
            case o21x4 => exact fun _ _ hw _ => opE_value (v := .agg (veA (m.getD i zM).ver)) rfl (run_ldKMv (((HB.gro GG)).gro ((Gro.refl _).drew.trans hw)) _ rfl i rfl (by omega))
            case o22x4 => exact fun _ _ _ _ => opE_value (v := .bool false) rfl (run_neV _ _ _ rfl _ _ rfl rfl (atM HA hlt).ver (atM HB hlt2).ver false k2)
            case o23x4 => exact fun _ _ _ _ => opE_pick (v := .bool false) _ _ _ rfl rfl false rfl rfl
            case o24x4 => exact fun _ _ _ _ => opE_move (v := .bool false) _ rfl rfl rfl
            case o25x4 => exact fun _ _ _ _ => opE_move (v := .slice ao l.length cap) _ rfl rfl rfl
            case o26x4 => exact fun _ _ _ _ => opE_move (v := .int .i64 ((i : Nat) : Int)) _ rfl rfl rfl
            case o27x4 => exact fun _ _ hw _ => opE_value (v := .pointer (pK kM ao i 0)) rfl (run_ixK rM (((HA.gro GG)).gro ((Gro.refl _).drew.trans hw)) _ _ rfl rfl i rfl (by omega))
            case o28x4 => exact fun _ _ hw _ => opE_value (v := .pointer (pK kM ao i 33)) rfl (run_fdK (((HA.gro GG)).gro ((Gro.refl _).drew.trans hw)) 46 _ 2 33 (fdM_2 _) rfl i rfl (by omega))
            case o29x4 => exact fun _ _ hw _ => opE_value (v := .slice (l.getD i zM).ao (l.getD i zM).val.length (l.getD i zM).cap) rfl (run_ldKMr (((HA.gro GG)).gro ((Gro.refl _).drew.trans hw)) _ rfl i rfl (by omega))
            case o30x4 => exact fun _ _ hw _ => opE_value (v := .string (bas (l.getD i zM).val)) rfl (run_text_op bT 9 rfl _ rfl rfl ((((NA.at hlt).gro GG)).gro ((Gro.refl _).drew.trans hw)))
            case o31x4 => exact fun _ _ _ _ => opE_move (v := .slice bo m.length bc) _ rfl rfl rfl
            case o32x4 => exact fun _ _ _ _ => opE_move (v := .int .i64 ((i : Nat) : Int)) _ rfl rfl rfl
            case o33x4 => exact fun _ _ hw _ => opE_value (v := .pointer (pK kM bo i 0)) rfl (run_ixK rM (((HB.gro GG)).gro ((Gro.refl _).drew.trans hw)) _ _ rfl rfl i rfl (by omega))
            case o34x4 => exact fun _ _ hw _ => opE_value (v := .pointer (pK kM bo i 33)) rfl (run_fdK (((HB.gro GG)).gro ((Gro.refl _).drew.trans hw)) 46 _ 2 33 (fdM_2 _) rfl i rfl (by omega))
            case o35x4 => exact fun _ _ hw _ => opE_value (v := .slice (m.getD i zM).ao (m.getD i zM).val.length (m.getD i zM).cap) rfl (run_ldKMr (((HB.gro GG)).gro ((Gro.refl _).drew.trans hw)) _ rfl i rfl (by omega))
            case o36x4 => exact fun _ _ hw _ => opE_value (v := .string (bas (m.getD i zM).val)) rfl (run_text_op bT 9 rfl _ rfl rfl ((((NB.at hlt2).gro GG)).gro ((Gro.refl _).drew.trans hw)))
            case o37x4 => exact fun _ _ _ _ => opE_value (v := .bool false) rfl (run_nes_op _ _ _ rfl _ _ rfl rfl false k3 _)
            intro ptrs w1 GD hxE
            simp only [List.drop_succ_cons, List.drop_zero]
            replace GG := GG.drew.trans GD
            clear GD
            refine s_val 55 rfl rfl (.bool false) (rfl) ?_
            refine nr ?_; intro U h; simp only [z0, z1] at h; subst h
            refine wpList_nil ?_
            refine then_n ?_
            refine wp_cond_false rfl ?_
            refine wp_skip ?_
            refine blk_n ?_
            refine then_n ?_
            refine wp_region_lit ?_
            refine s_val 15 rfl rfl (.int .i64 ((i : Nat) : Int)) (rfl) ?_
            refine nr ?_; intro U h; simp only [z0, z1] at h; subst h
            refine s_val 16 rfl rfl (.int .i64 ((i + 1 : Nat) : Int)) (run_addI 3 _ _ _ rfl ((i : Nat) : Int) 1 ((i + 1 : Nat) : Int) rfl rfl (by omega) (by omega) (by omega) _) ?_
            refine nr ?_; intro U h; simp only [z0, z1] at h; subst h
            refine s_val 5 rfl rfl (.int .i64 ((i + 1 : Nat) : Int)) (rfl) ?_
            refine nr ?_; intro U h; simp only [z0, z1] at h; subst h
            refine wpList_nil ?_
            refine then_n ?_
            exact ⟨_, by omega, i + 1, (fun kz => ([us1 0, .int .i64 ((i : Nat) : Int), .slice ao l.length cap, .int .i64 ((l.length : Nat) : Int), .bool true, .int .i64 ((i : Nat) : Int), .int .i64 ((i + 1 : Nat) : Int), .slice ao l.length cap, .int .i64 ((i : Nat) : Int), .pointer (pK kM ao i 0), .pointer (pK kM ao i 0), .agg (idA (l.getD i zM).key), .slice bo m.length bc, .int .i64 ((i : Nat) : Int), .pointer (pK kM bo i 0), .pointer (pK kM bo i 0), .agg (idA (m.getD i zM).key), .bool false, .bool false, .slice ao l.length cap, .int .i64 ((i : Nat) : Int), .pointer (pK kM ao i 0), .pointer (pK kM ao i 16), .agg (veA (l.getD i zM).ver), .slice bo m.length bc, .int .i64 ((i : Nat) : Int), .pointer (pK kM bo i 0), .pointer (pK kM bo i 16), .agg (veA (m.getD i zM).ver), .bool false, .bool false, .bool false, .slice ao l.length cap, .int .i64 ((i : Nat) : Int), .pointer (pK kM ao i 0), .pointer (pK kM ao i 33), .slice (l.getD i zM).ao (l.getD i zM).val.length (l.getD i zM).cap, .string (bas (l.getD i zM).val), .slice bo m.length bc, .int .i64 ((i : Nat) : Int), .pointer (pK kM bo i 0), .pointer (pK kM bo i 33), .slice (m.getD i zM).ao (m.getD i zM).val.length (m.getD i zM).cap, .string (bas (m.getD i zM).val), .bool false, .bool false] : List Value).getD kz undef), rfl, rfl, GG, by omega, fun j hj => by (rcases Nat.lt_or_ge j i with c | c; (exact hE j c); (rw [show j = i by omega]; exact hsg))⟩
end Go.Proofs.Ytjahegiopigblaa
