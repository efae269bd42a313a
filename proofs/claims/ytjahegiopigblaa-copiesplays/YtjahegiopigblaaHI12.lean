/- The document's calls: sorted, who is wanted, next. -/
import Derived.Test.YtjahegiopigblaaHI11
namespace Go.Proofs.Ytjahegiopigblaa
open Go.RowKit
theorem tw_take (k : Nat → Nat) (x : Nat) : ∀ (out : List Nat) (a : Nat), a ≤ out.length → (∀ j, j < a → k (out.getD j 0) < k x) → (a < out.length → ¬ k (out.getD a 0) < k x) → insK k x out = out.take a ++ [x] ++ out.drop a
  | [], 0, _, _, _ => rfl
  | y :: r, 0, _, _, h => by
    have h0 : ¬ k y < k x := by simpa using h (by simp)
    rw [insK_cons, if_neg h0]
    rfl
  | y :: r, a + 1, ha, h1, h2 => by
    have h0 : k y < k x := by simpa using h1 0 (by omega)
    rw [insK_cons, if_pos h0, tw_take k x r a (by simpa using ha) (fun j hj => by simpa using h1 (j + 1) (by omega)) (fun hl => by simpa using h2 (by simpa using hl))]
    rfl
theorem base_of {w wv : World} {g : Nat} {x : Obj} {ao : Option Addr} {cap : Nat} {l : List Nat} (kg : wv.heap[g]? = some x) (H : RC wv ao cap l) (GG : Gro w wv) : ∃ B, wv.heap.size = B ∧ g < B ∧ (∀ ad, ao = some ad → 0 < (fl l).length → ad.block < B) ∧ w.heap.size ≤ B :=
  ⟨_, rfl, lt_of_heap kg, H.lt, GG.size⟩
/-- A row that lies in new memory. -/
def RowF (w : World) (L : List Nat) (e : Ending) (w' : World) : Prop := ∃ ao cap, e = .returned (.slice ao L.length cap) ∧ Gro w w' ∧ RC w' ao cap L ∧ ∀ ad, ao = some ad → w.heap.size ≤ ad.block
set_option maxRecDepth 100000 in
set_option maxHeartbeats 4000000 in
theorem refsorted_own (w : World) (ao : Option Addr) (cap : Nat) (l : List Nat) (H : RC w ao cap l) (hl : l.length ≤ 1000000) (s : Nat) (hs : s < top) : Calls Try.prog 35 #[.agg (idA s), .slice ao l.length cap] w (RowF w (lin (kc 0) s l)) := by
  refine s_enter Try.func35 rfl Try.ntmps35 [.agg (idA s), .slice ao l.length cap] [.agg (idA s), .slice ao l.length cap, undef, undef, undef, undef, undef, undef, undef, undef, undef, undef, undef, undef, undef, undef, undef, undef, undef, undef, undef, undef, undef, undef, undef, undef, undef, undef, undef, undef, undef, undef, undef, undef, undef, undef, undef, undef, undef, undef, undef, undef, undef, undef, undef, undef, undef, undef, undef, undef, undef, undef, undef, undef, undef, undef, undef, undef, undef, undef, undef, undef, undef, undef] rfl ?_
  have GG := Gro.refl w
  refine wp_seq ?_
  refine wp_region_lit ?_
  refine s_box 2 rfl rfl 23 _ rfl _ rfl (idA s) rfl ?_
  intro w1 g1 G eg1 kg1
  have bg1 := size_base GG eg1
  replace GG := GG.trans G
  clear G
  clear eg1
  refine nr ?_; intro U h; simp only [z0, z1] at h; subst h
  refine s_val 4 rfl rfl (.slice none 0 0) (rfl) ?_
  refine nr ?_; intro U h; simp only [z0, z1] at h; subst h
  refine wpList_nil ?_
  refine then_n ?_
  refine wp_seq ?_
  refine wp_region_lit ?_
  refine s_val 5 rfl rfl (.slice none 0 0) (rfl) ?_
  refine nr ?_; intro U h; simp only [z0, z1] at h; subst h
  refine wpList_nil ?_
  refine then_n ?_
  refine wp_seq ?_
  refine wp_seq ?_
  refine wp_region_lit ?_
  refine s_val 6 rfl rfl (.int .i64 0) (rfl) ?_
  refine nr ?_; intro U h; simp only [z0, z1] at h; subst h
  refine wpList_nil ?_
  refine then_n ?_
  refine wp_block ?_
  refine wp_loopN (fun mz az wv => ∃ (i : Nat) (oo : Option Addr) (oc : Nat) (us1 : Nat → Value), mz = l.length - i ∧ az = ⟨[.agg (idA s), .slice ao l.length cap, .pointer (some ⟨g1, 0, none⟩), undef, .slice none 0 0, .slice oo ((lin (kc 0) s (l.take i)).length) oc, .int .i64 ((i : Nat) : Int), us1 0, us1 1, us1 2, us1 3, us1 4, us1 5, us1 6, us1 7, us1 8, us1 9, us1 10, us1 11, us1 12, us1 13, us1 14, us1 15, us1 16, us1 17, us1 18, us1 19, us1 20, us1 21, us1 22, us1 23, us1 24, us1 25, us1 26, us1 27, us1 28, us1 29, us1 30, us1 31, us1 32, us1 33, us1 34, us1 35, us1 36, us1 37, us1 38, us1 39, us1 40, us1 41, us1 42, us1 43, us1 44, us1 45, us1 46, us1 47, us1 48, us1 49, us1 50, us1 51, us1 52, us1 53, us1 54, us1 55, undef].toArray, []⟩ ∧ i ≤ l.length ∧ Gro w wv ∧ wv.heap[g1]? = some (.cells (idA s) 23 (0, 0)) ∧ RC wv oo oc (lin (kc 0) s (l.take i)) ∧ (∀ ad, oo = some ad → w.heap.size ≤ ad.block)) ?_ _ ⟨0, none, 0, (fun kz => ([undef, undef, undef, undef, undef, undef, undef, undef, undef, undef, undef, undef, undef, undef, undef, undef, undef, undef, undef, undef, undef, undef, undef, undef, undef, undef, undef, undef, undef, undef, undef, undef, undef, undef, undef, undef, undef, undef, undef, undef, undef, undef, undef, undef, undef, undef, undef, undef, undef, undef, undef, undef, undef, undef, undef, undef] : List Value).getD kz undef), rfl, rfl, Nat.zero_le _, GG, kg1, (RC.nil _), (fun _ h => by cases h)⟩
  clear GG kg1
  rintro mz az wv ⟨i, oo, oc, us1, rfl, rfl, hi, GG, kg1, HO, HF⟩
  have hol := lin_len (kc 0) s (l.take i)
  rw [List.length_take] at hol
  refine wp_seq ?_
  refine wp_seq ?_
  refine wp_region_lit ?_
  refine s_val 9 rfl rfl (.int .i64 ((i : Nat) : Int)) (rfl) ?_
  refine nr ?_; intro U h; simp only [z0, z1] at h; subst h
  refine s_val 10 rfl rfl (.slice ao l.length cap) (rfl) ?_
  refine nr ?_; intro U h; simp only [z0, z1] at h; subst h
  refine s_val 11 rfl rfl (.int .i64 ((l.length : Nat) : Int)) (run_len Try.underlying24 _ rfl _ _ _ rfl _) ?_
  refine nr ?_; intro U h; simp only [z0, z1] at h; subst h
  cases hi1 : decide (((i : Nat) : Int) < ((l.length : Nat) : Int))
  · have hie : i = l.length := by have := of_decide_eq_false hi1; omega
    refine s_val 12 rfl rfl (.bool false) (run_lssT 3 _ _ _ rfl ((i : Nat) : Int) ((l.length : Nat) : Int) rfl rfl false hi1 _) ?_
    refine nr ?_; intro U h; simp only [z0, z1] at h; subst h
    refine wpList_nil ?_
    refine then_n ?_
    refine wp_cond_false rfl ?_
    refine wp_exit ?_
    refine then_x ?_
    refine then_x ?_
    refine blk_x ?_
    refine then_n ?_
    refine wp_seq ?_
    refine wp_region_lit ?_
    refine s_val 63 rfl rfl (.slice oo ((lin (kc 0) s (l.take i)).length) oc) (rfl) ?_
    refine nr ?_; intro U h; simp only [z0, z1] at h; subst h
    refine s_val 4 rfl rfl (.slice oo ((lin (kc 0) s (l.take i)).length) oc) (rfl) ?_
    refine nr ?_; intro U h; simp only [z0, z1] at h; subst h
    refine wpList_nil ?_
    refine then_n ?_
    refine wp_ret ?_
    refine bodyPost_ret (results_tmp Try.results35 _ _ _) rfl ?_
    subst hie
    rw [List.take_length] at HO
    exact ⟨oo, oc, (by rw [List.take_length]; rfl), GG, HO, HF⟩
  · have hil : i < l.length := by have := of_decide_eq_true hi1; omega
    refine s_val 12 rfl rfl (.bool true) (run_lssT 3 _ _ _ rfl ((i : Nat) : Int) ((l.length : Nat) : Int) rfl rfl true hi1 _) ?_
    refine nr ?_; intro U h; simp only [z0, z1] at h; subst h
    refine wpList_nil ?_
    refine then_n ?_
    refine wp_cond_true rfl ?_
    refine wp_skip ?_
    refine then_n ?_
    refine wp_seq ?_
    refine wp_block ?_
    refine wp_seq ?_
    refine wp_seq ?_
    cases hq1 : decide ((l.getD i 0) = s)
    · cases hq2 : decide ((l.getD i 0) ∈ (lin (kc 0) s (l.take i)))
      · refine wp_region_exA (A := ?Ax11) 13 [(0, 15), (1, 16), (2, 17), (3, 18), (4, 19), (5, 20), (6, 21), (7, 22), (8, 23), (9, 24), (10, 25), (11, 26), (12, 27)] [.val (.slice ao l.length cap), .val (.int .i64 ((i : Nat) : Int)), .val (.pointer (pA ao i)), .val (.agg (idA (l.getD i 0))), .val (.agg (idA s)), .val (.bool false), .val (.bool false), .val (.slice oo ((lin (kc 0) s (l.take i)).length) oc), .val (.slice ao l.length cap), .val (.int .i64 ((i : Nat) : Int)), .val (.pointer (pA ao i)), .val (.agg (idA (l.getD i 0))), .val (.bool false)] follows (by kernel_rfl) rfl ?hAx11 (opsA_cons ?o0x11 (opsA_cons ?o1x11 (opsA_cons ?o2x11 (opsA_cons ?o3x11 (opsA_cons ?o4x11 (opsA_cons ?o5x11 (opsA_cons ?o6x11 (opsA_cons ?o7x11 (opsA_cons ?o8x11 (opsA_cons ?o9x11 (opsA_cons ?o10x11 (opsA_cons ?o11x11 (opsA_cons ?o12x11 opsA_nil))))))))))))) ?restx11
        case hAx11 =>
          intro ptrs
          simp only [full, foldSlots, filledE, postE, List.foldl_cons, List.foldl_nil, List.getD_cons_zero, List.getD_cons_succ, fill_val, List.set_cons_zero, List.set_cons_succ]
          exact rfl
        case o0x11 => exact fun _ _ _ _ => opE_move (v := .slice ao l.length cap) _ rfl rfl rfl
        case o1x11 => exact fun _ _ _ _ => opE_move (v := .int .i64 ((i : Nat) : Int)) _ rfl rfl rfl
        case o2x11 => exact fun _ _ hw _ => opE_value (v := .pointer (pA ao i)) rfl (run_ixI (H.gro (GG.drew.trans hw)) _ _ rfl rfl i rfl hil)
        case o3x11 => exact fun _ _ hw _ => opE_value (v := .agg (idA (l.getD i 0))) rfl (run_ldI (H.gro (GG.drew.trans hw)) _ rfl i rfl hil)
        case o4x11 => exact fun _ _ hw _ => opE_value (v := .agg (idA s)) rfl (run_ldB _ rfl g1 _ rfl (hw.has kg1))
        case o5x11 => exact fun _ _ _ _ => opE_value (v := .bool false) rfl (run_eqIi _ _ _ rfl _ _ rfl rfl (H.at hil) hs false hq1)
        case o6x11 => exact fun _ _ _ _ => opE_move (v := .bool false) _ rfl rfl rfl
        case o7x11 => exact fun _ _ _ _ => opE_move (v := .slice oo ((lin (kc 0) s (l.take i)).length) oc) _ rfl rfl rfl
        case o8x11 => exact fun _ _ _ _ => opE_move (v := .slice ao l.length cap) _ rfl rfl rfl
        case o9x11 => exact fun _ _ _ _ => opE_move (v := .int .i64 ((i : Nat) : Int)) _ rfl rfl rfl
        case o10x11 => exact fun _ _ hw _ => opE_value (v := .pointer (pA ao i)) rfl (run_ixI (H.gro (GG.drew.trans hw)) _ _ rfl rfl i rfl hil)
        case o11x11 => exact fun _ _ hw _ => opE_value (v := .agg (idA (l.getD i 0))) rfl (run_ldI (H.gro (GG.drew.trans hw)) _ rfl i rfl hil)
        case o12x11 =>
          intro ptrs w' hw hE
          exact opE_call (.val (.bool false)) rfl _ 40 Try.call40 rfl rfl _ rfl [.slice oo ((lin (kc 0) s (l.take i)).length) oc, .agg (idA (l.getD i 0))] rfl ((Calls.boolW (refhas_any _ oo oc (lin (kc 0) s (l.take i)) (HO.gro ((Gro.refl _).drew.trans hw)) (by omega) (l.getD i 0) (H.at hil)) hq2).mono fun e w' ⟨he, hg⟩ => ⟨_, he, hg, rfl⟩)
        intro ptrs w2 GD hxE
        simp only [List.drop_succ_cons, List.drop_zero]
        replace kg1 := GD.has kg1
        replace HO := HO.gro ((Gro.refl _).drew.trans GD)
        replace GG := GG.drew.trans GD
        clear GD
        refine s_val 28 rfl rfl (.bool false) (rfl) ?_
        refine nr ?_; intro U h; simp only [z0, z1] at h; subst h
        refine wpList_nil ?_
        refine then_n ?_
        refine wp_cond_false rfl ?_
        refine wp_skip ?_
        refine then_n ?_
        refine wp_seq ?_
        refine wp_region_lit ?_
        refine s_val 7 rfl rfl (.int .i64 0) (rfl) ?_
        refine nr ?_; intro U h; simp only [z0, z1] at h; subst h
        refine wpList_nil ?_
        refine then_n ?_
        refine wp_seq ?_
        refine wp_block ?_
        refine wp_loopN (fun mz az wv => ∃ (a : Nat) (us2 : Nat → Value), mz = (lin (kc 0) s (l.take i)).length - a ∧ az = ⟨[.agg (idA s), .slice ao l.length cap, .pointer (some ⟨g1, 0, none⟩), undef, .slice none 0 0, .slice oo ((lin (kc 0) s (l.take i)).length) oc, .int .i64 ((i : Nat) : Int), .int .i64 ((a : Nat) : Int), us1 1, .int .i64 ((i : Nat) : Int), .slice ao l.length cap, .int .i64 ((l.length : Nat) : Int), .bool true, us1 6, us1 7, .slice ao l.length cap, .int .i64 ((i : Nat) : Int), .pointer (pA ao i), .agg (idA (l.getD i 0)), .agg (idA s), .bool false, .bool false, .slice oo ((lin (kc 0) s (l.take i)).length) oc, .slice ao l.length cap, .int .i64 ((i : Nat) : Int), .pointer (pA ao i), .agg (idA (l.getD i 0)), .bool false, .bool false, us2 0, us2 1, us2 2, us2 3, us2 4, us2 5, us2 6, us2 7, us2 8, us2 9, us2 10, us2 11, us2 12, us2 13, us2 14, us2 15, us2 16, us1 39, us1 40, us1 41, us1 42, us1 43, us1 44, us1 45, us1 46, us1 47, us1 48, us1 49, us1 50, us1 51, us1 52, us1 53, us1 54, us1 55, undef].toArray, []⟩ ∧ a ≤ (lin (kc 0) s (l.take i)).length ∧ (∀ j, j < a → (lin (kc 0) s (l.take i)).getD j 0 < l.getD i 0) ∧ Gro w wv ∧ wv.heap[g1]? = some (.cells (idA s) 23 (0, 0)) ∧ RC wv oo oc (lin (kc 0) s (l.take i))) ?_ _ ⟨0, (fun kz => ([us1 22, us1 23, us1 24, us1 25, us1 26, us1 27, us1 28, us1 29, us1 30, us1 31, us1 32, us1 33, us1 34, us1 35, us1 36, us1 37, us1 38] : List Value).getD kz undef), rfl, rfl, Nat.zero_le _, (fun j hj => absurd hj (Nat.not_lt_zero j)), GG, kg1, HO⟩
        clear GG kg1 HO
        rintro mz az wv ⟨a, us2, rfl, rfl, ha, hlt, GG, kg1, HO⟩
        refine wp_seq ?_
        refine wp_seq ?_
        cases hr1 : decide (((a : Nat) : Int) < (((lin (kc 0) s (l.take i)).length : Nat) : Int))
        · have hae : a = (lin (kc 0) s (l.take i)).length := by have := of_decide_eq_false hr1; omega
          refine wp_region_exA (A := ?Ax12) 14 [(0, 29), (1, 30), (2, 31), (3, 32), (4, 33), (5, 34), (6, 35), (7, 36), (8, 37), (9, 38), (10, 39), (11, 40), (12, 41), (13, 42)] [.val (.int .i64 ((a : Nat) : Int)), .val (.slice oo ((lin (kc 0) s (l.take i)).length) oc), .val (.int .i64 (((lin (kc 0) s (l.take i)).length : Nat) : Int)), .val (.bool false), .val (.bool false), .val undef, .val undef, .val undef, .val undef, .val undef, .val undef, .val undef, .val undef, .val undef] follows (by kernel_rfl) rfl ?hAx12 (opsA_cons ?o0x12 (opsA_cons ?o1x12 (opsA_cons ?o2x12 (opsA_cons ?o3x12 (opsA_cons ?o4x12 (opsA_cons ?o5x12 (opsA_cons ?o6x12 (opsA_cons ?o7x12 (opsA_cons ?o8x12 (opsA_cons ?o9x12 (opsA_cons ?o10x12 (opsA_cons ?o11x12 (opsA_cons ?o12x12 (opsA_cons ?o13x12 opsA_nil)))))))))))))) ?restx12
          case hAx12 =>
            intro ptrs
            simp only [full, foldSlots, filledE, postE, List.foldl_cons, List.foldl_nil, List.getD_cons_zero, List.getD_cons_succ, fill_val, List.set_cons_zero, List.set_cons_succ]
            exact rfl
          case o0x12 => exact fun _ _ _ _ => opE_move (v := .int .i64 ((a : Nat) : Int)) _ rfl rfl rfl
          case o1x12 => exact fun _ _ _ _ => opE_move (v := .slice oo ((lin (kc 0) s (l.take i)).length) oc) _ rfl rfl rfl
          case o2x12 => exact fun _ _ _ _ => opE_value (v := .int .i64 (((lin (kc 0) s (l.take i)).length : Nat) : Int)) rfl (run_len Try.underlying24 _ rfl _ _ _ rfl _)
          case o3x12 => exact fun _ _ _ _ => opE_value (v := .bool false) rfl (run_lssT 3 _ _ _ rfl ((a : Nat) : Int) (((lin (kc 0) s (l.take i)).length : Nat) : Int) rfl rfl false hr1 _)
          case o4x12 => exact fun _ _ _ _ => opE_move (v := .bool false) _ rfl rfl rfl
          case o5x12 => exact fun _ _ _ _ => opE_skip rfl
          case o6x12 => exact fun _ _ _ _ => opE_skip rfl
          case o7x12 => exact fun _ _ _ _ => opE_skip rfl
          case o8x12 => exact fun _ _ _ _ => opE_skip rfl
          case o9x12 => exact fun _ _ _ _ => opE_skip rfl
          case o10x12 => exact fun _ _ _ _ => opE_skip rfl
          case o11x12 => exact fun _ _ _ _ => opE_skip rfl
          case o12x12 => exact fun _ _ _ _ => opE_skip rfl
          case o13x12 => exact fun _ _ _ _ => opE_skip rfl
          intro ptrs w3 GD hxE
          simp only [List.drop_succ_cons, List.drop_zero]
          replace kg1 := GD.has kg1
          replace HO := HO.gro ((Gro.refl _).drew.trans GD)
          replace GG := GG.drew.trans GD
          clear GD
          refine s_val 43 rfl rfl (.bool false) (rfl) ?_
          refine nr ?_; intro U h; simp only [z0, z1] at h; subst h
          refine wpList_nil ?_
          refine then_n ?_
          refine wp_cond_false rfl ?_
          refine wp_exit ?_
          refine then_x ?_
          refine then_x ?_
          refine blk_x ?_
          refine then_n ?_
          refine wp_seq ?_
          refine wp_region_lit ?_
          refine s_val 8 rfl rfl (.slice none 0 0) (rfl) ?_
          refine nr ?_; intro U h; simp only [z0, z1] at h; subst h
          refine wpList_nil ?_
          refine then_n ?_
          refine wp_seq ?_
          obtain ⟨B, hB, hgB, hoB, hwB⟩ := base_of kg1 HO GG
          have hins : insK (kc 0) (l.getD i 0) (lin (kc 0) s (l.take i)) = [] ++ (lin (kc 0) s (l.take i)).take a ++ [(l.getD i 0)] ++ (lin (kc 0) s (l.take i)).drop a := tw_take (kc 0) (l.getD i 0) (lin (kc 0) s (l.take i)) a ha (fun j hj => by rw [kc_0 (HO.at (by omega)), kc_0 (H.at hil)]; exact hlt j hj) (fun hal => by rw [kc_0 (HO.at hal), kc_0 (H.at hil)]; exact absurd hal (by omega))
          refine wp_region_lit ?_
          refine s_val 46 rfl rfl (.slice none 0 0) (rfl) ?_
          refine nr ?_; intro U h; simp only [z0, z1] at h; subst h
          refine s_val 47 rfl rfl (.slice oo ((lin (kc 0) s (l.take i)).length) oc) (rfl) ?_
          refine nr ?_; intro U h; simp only [z0, z1] at h; subst h
          refine s_val 48 rfl rfl (.int .i64 ((a : Nat) : Int)) (rfl) ?_
          refine nr ?_; intro U h; simp only [z0, z1] at h; subst h
          refine s_val 49 rfl rfl (.slice oo (((lin (kc 0) s (l.take i)).take a).length) oc) ((run_cut0X rI _ _ rfl oo (lin (kc 0) s (l.take i)).length oc a rfl rfl (by have := HO.fit; omega) _).trans (by rw [List.length_take, Nat.min_eq_left ha])) ?_
          refine nr ?_; intro U h; simp only [z0, z1] at h; subst h
          refine s_appI (B := B) 50 rfl rfl _ _ rfl (l := ([] : List Nat)) rfl (OI.nil _ B) rfl (HO.take a ha) (by simp; omega) (Nat.le_of_eq hB.symm) ?_
          intro ao7 cap7 w4 HO7 HB
          have hBw := Nat.le_trans (Nat.le_of_eq hB.symm) HB.size
          replace kg1 := (HB.block g1 hgB).trans kg1
          replace HO := HO.below HB hoB
          replace GG := below_gro GG HB hwB
          clear HB
          refine nr ?_; intro U h; simp only [z0, z1] at h; subst h
          refine s_val 8 rfl rfl (.slice ao7 ((([] : List Nat) ++ ((lin (kc 0) s (l.take i)).take a)).length) cap7) (rfl) ?_
          refine nr ?_; intro U h; simp only [z0, z1] at h; subst h
          refine wpList_nil ?_
          refine then_n ?_
          refine wp_seq ?_
          refine wp_region_lit ?_
          refine s_val 51 rfl rfl (.slice ao7 ((([] : List Nat) ++ ((lin (kc 0) s (l.take i)).take a)).length) cap7) (rfl) ?_
          refine nr ?_; intro U h; simp only [z0, z1] at h; subst h
          refine s_val 52 rfl rfl (.slice ao l.length cap) (rfl) ?_
          refine nr ?_; intro U h; simp only [z0, z1] at h; subst h
          refine s_val 53 rfl rfl (.int .i64 ((i : Nat) : Int)) (rfl) ?_
          refine nr ?_; intro U h; simp only [z0, z1] at h; subst h
          refine s_val 54 rfl rfl (.pointer (pA ao i)) (run_ixI (H.gro GG) _ _ rfl rfl i rfl hil) ?_
          refine nr ?_; intro U h; simp only [z0, z1] at h; subst h
          refine s_val 55 rfl rfl (.agg (idA (l.getD i 0))) (run_ldI (H.gro GG) _ rfl i rfl hil) ?_
          refine nr ?_; intro U h; simp only [z0, z1] at h; subst h
          refine s_bsl 56 rfl rfl 24 1 _ rfl [(0, .agg (idA (l.getD i 0)))] rfl (fl [(l.getD i 0)]).toArray 23 (bs1i (l.getD i 0) _) ?_
          intro w5 q9 G eq9 kq9
          replace hBw := Nat.le_trans hBw G.size
          replace HO7 := HO7.gro G
          replace kg1 := G.has kg1
          replace HO := HO.gro G
          replace GG := GG.trans G
          clear G
          have HQ : RC _ (some ⟨q9, 0, none⟩) 1 [(l.getD i 0)] := RC.all_blk kq9 (all_of [(l.getD i 0)] ⟨(H.at hil), trivial⟩) (Nat.le_refl _)
          clear eq9
          refine nr ?_; intro U h; simp only [z0, z1] at h; subst h
          refine s_appI (B := B) 57 rfl rfl _ _ rfl (l := ([] ++ (lin (kc 0) s (l.take i)).take a)) rfl HO7 rfl HQ (by simp; omega) hBw ?_
          intro ao8 cap8 w6 HO8 HB
          replace hBw := Nat.le_trans hBw HB.size
          replace kg1 := (HB.block g1 hgB).trans kg1
          replace HO := HO.below HB hoB
          replace GG := below_gro GG HB hwB
          clear HB
          refine nr ?_; intro U h; simp only [z0, z1] at h; subst h
          refine s_val 8 rfl rfl (.slice ao8 ((([] ++ (lin (kc 0) s (l.take i)).take a) ++ [(l.getD i 0)]).length) cap8) (rfl) ?_
          refine nr ?_; intro U h; simp only [z0, z1] at h; subst h
          refine wpList_nil ?_
          refine then_n ?_
          refine wp_region_lit ?_
          refine s_val 58 rfl rfl (.slice ao8 ((([] ++ (lin (kc 0) s (l.take i)).take a) ++ [(l.getD i 0)]).length) cap8) (rfl) ?_
          refine nr ?_; intro U h; simp only [z0, z1] at h; subst h
          refine s_val 59 rfl rfl (.slice oo ((lin (kc 0) s (l.take i)).length) oc) (rfl) ?_
          refine nr ?_; intro U h; simp only [z0, z1] at h; subst h
          refine s_val 60 rfl rfl (.int .i64 ((a : Nat) : Int)) (rfl) ?_
          refine nr ?_; intro U h; simp only [z0, z1] at h; subst h
          refine s_val 61 rfl rfl (.slice (if oc = a then oo else oo.map (·.add (a * 16))) (((lin (kc 0) s (l.take i)).drop a).length) (oc - a)) ((run_cutX rI _ _ rfl oo (lin (kc 0) s (l.take i)).length oc a rfl rfl ha _).trans (by rw [List.length_drop])) ?_
          refine nr ?_; intro U h; simp only [z0, z1] at h; subst h
          refine s_appI (B := B) 62 rfl rfl _ _ rfl (l := ([] ++ (lin (kc 0) s (l.take i)).take a ++ [(l.getD i 0)])) rfl HO8 rfl (HO.drop a ha) (by simp; omega) hBw ?_
          intro ao9 cap9 w7 HO9 HB
          replace hBw := Nat.le_trans hBw HB.size
          replace kg1 := (HB.block g1 hgB).trans kg1
          replace HO := HO.below HB hoB
          replace GG := below_gro GG HB hwB
          clear HB
          refine nr ?_; intro U h; simp only [z0, z1] at h; subst h
          refine s_val 5 rfl rfl (.slice ao9 ((([] ++ (lin (kc 0) s (l.take i)).take a ++ [(l.getD i 0)]) ++ ((lin (kc 0) s (l.take i)).drop a)).length) cap9) (rfl) ?_
          refine nr ?_; intro U h; simp only [z0, z1] at h; subst h
          refine wpList_nil ?_
          refine blk_n ?_
          refine then_n ?_
          refine wp_region_lit ?_
          refine s_val 13 rfl rfl (.int .i64 ((i : Nat) : Int)) (rfl) ?_
          refine nr ?_; intro U h; simp only [z0, z1] at h; subst h
          refine s_val 14 rfl rfl (.int .i64 ((i + 1 : Nat) : Int)) (run_addIi 3 _ _ _ rfl ((i : Nat) : Int) 1 ((i + 1 : Nat) : Int) rfl rfl (by omega) (by omega) (by omega) _) ?_
          refine nr ?_; intro U h; simp only [z0, z1] at h; subst h
          refine s_val 6 rfl rfl (.int .i64 ((i + 1 : Nat) : Int)) (rfl) ?_
          refine nr ?_; intro U h; simp only [z0, z1] at h; subst h
          refine wpList_nil ?_
          refine then_n ?_
          have hsn := lin_snoc (k := kc 0) (wo := s) (l := l.take i) (l.getD i 0)
          rw [← take_snoc l i hil, linS] at hsn
          rw [if_neg (fun hc => hc.elim (of_decide_eq_false hq1) (of_decide_eq_false hq2)), hins] at hsn
          exact ⟨_, (by omega : l.length - (i + 1) < l.length - i), i + 1, ao9, cap9, (fun kz => ([.int .i64 ((a : Nat) : Int), .slice ao8 ((([] ++ (lin (kc 0) s (l.take i)).take a) ++ [(l.getD i 0)]).length) cap8, .int .i64 ((i : Nat) : Int), .slice ao l.length cap, .int .i64 ((l.length : Nat) : Int), .bool true, .int .i64 ((i : Nat) : Int), .int .i64 ((i + 1 : Nat) : Int), .slice ao l.length cap, .int .i64 ((i : Nat) : Int), .pointer (pA ao i), .agg (idA (l.getD i 0)), .agg (idA s), .bool false, .bool false, .slice oo ((lin (kc 0) s (l.take i)).length) oc, .slice ao l.length cap, .int .i64 ((i : Nat) : Int), .pointer (pA ao i), .agg (idA (l.getD i 0)), .bool false, .bool false, .int .i64 ((a : Nat) : Int), .slice oo ((lin (kc 0) s (l.take i)).length) oc, .int .i64 (((lin (kc 0) s (l.take i)).length : Nat) : Int), .bool false, .bool false, undef, undef, undef, undef, undef, undef, undef, undef, undef, .bool false, us2 15, us2 16, .slice none 0 0, .slice oo ((lin (kc 0) s (l.take i)).length) oc, .int .i64 ((a : Nat) : Int), .slice oo (((lin (kc 0) s (l.take i)).take a).length) oc, .slice ao7 ((([] : List Nat) ++ ((lin (kc 0) s (l.take i)).take a)).length) cap7, .slice ao7 ((([] : List Nat) ++ ((lin (kc 0) s (l.take i)).take a)).length) cap7, .slice ao l.length cap, .int .i64 ((i : Nat) : Int), .pointer (pA ao i), .agg (idA (l.getD i 0)), .slice (some ⟨q9, 0, none⟩) 1 1, .slice ao8 ((([] ++ (lin (kc 0) s (l.take i)).take a) ++ [(l.getD i 0)]).length) cap8, .slice ao8 ((([] ++ (lin (kc 0) s (l.take i)).take a) ++ [(l.getD i 0)]).length) cap8, .slice oo ((lin (kc 0) s (l.take i)).length) oc, .int .i64 ((a : Nat) : Int), .slice (if oc = a then oo else oo.map (·.add (a * 16))) (((lin (kc 0) s (l.take i)).drop a).length) (oc - a), .slice ao9 ((([] ++ (lin (kc 0) s (l.take i)).take a ++ [(l.getD i 0)]) ++ ((lin (kc 0) s (l.take i)).drop a)).length) cap9] : List Value).getD kz undef), rfl, (by rw [hsn]; first | done | rfl), hil, GG, kg1, (by rw [hsn]; exact HO9.rc), (fun ad h => Nat.le_trans hwB (HO9.own.ge ad h).1)⟩
        · have hal1 : a < (lin (kc 0) s (l.take i)).length := by have := of_decide_eq_true hr1; omega
          cases hr2 : decide (((lin (kc 0) s (l.take i)).getD a 0) < (l.getD i 0))
          · refine wp_region_exA (A := ?Ax13) 14 [(0, 29), (1, 30), (2, 31), (3, 32), (4, 33), (5, 34), (6, 35), (7, 36), (8, 37), (9, 38), (10, 39), (11, 40), (12, 41), (13, 42)] [.val (.int .i64 ((a : Nat) : Int)), .val (.slice oo ((lin (kc 0) s (l.take i)).length) oc), .val (.int .i64 (((lin (kc 0) s (l.take i)).length : Nat) : Int)), .val (.bool true), .val (.bool true), .val (.slice oo ((lin (kc 0) s (l.take i)).length) oc), .val (.int .i64 ((a : Nat) : Int)), .val (.pointer (pA oo a)), .val (.agg (idA ((lin (kc 0) s (l.take i)).getD a 0))), .val (.slice ao l.length cap), .val (.int .i64 ((i : Nat) : Int)), .val (.pointer (pA ao i)), .val (.agg (idA (l.getD i 0))), .val (.bool false)] follows (by kernel_rfl) rfl ?hAx13 (opsA_cons ?o0x13 (opsA_cons ?o1x13 (opsA_cons ?o2x13 (opsA_cons ?o3x13 (opsA_cons ?o4x13 (opsA_cons ?o5x13 (opsA_cons ?o6x13 (opsA_cons ?o7x13 (opsA_cons ?o8x13 (opsA_cons ?o9x13 (opsA_cons ?o10x13 (opsA_cons ?o11x13 (opsA_cons ?o12x13 (opsA_cons ?o13x13 opsA_nil)))))))))))))) ?restx13
            case hAx13 =>
              intro ptrs
              simp only [full, foldSlots, filledE, postE, List.foldl_cons, List.foldl_nil, List.getD_cons_zero, List.getD_cons_succ, fill_val, List.set_cons_zero, List.set_cons_succ]
              exact rfl
            case o0x13 => exact fun _ _ _ _ => opE_move (v := .int .i64 ((a : Nat) : Int)) _ rfl rfl rfl
            case o1x13 => exact fun _ _ _ _ => opE_move (v := .slice oo ((lin (kc 0) s (l.take i)).length) oc) _ rfl rfl rfl
            case o2x13 => exact fun _ _ _ _ => opE_value (v := .int .i64 (((lin (kc 0) s (l.take i)).length : Nat) : Int)) rfl (run_len Try.underlying24 _ rfl _ _ _ rfl _)
            case o3x13 => exact fun _ _ _ _ => opE_value (v := .bool true) rfl (run_lssT 3 _ _ _ rfl ((a : Nat) : Int) (((lin (kc 0) s (l.take i)).length : Nat) : Int) rfl rfl true hr1 _)
            case o4x13 => exact fun _ _ _ _ => opE_move (v := .bool true) _ rfl rfl rfl
            case o5x13 => exact fun _ _ _ _ => opE_move (v := .slice oo ((lin (kc 0) s (l.take i)).length) oc) _ rfl rfl rfl
            case o6x13 => exact fun _ _ _ _ => opE_move (v := .int .i64 ((a : Nat) : Int)) _ rfl rfl rfl
            case o7x13 => exact fun _ _ hw _ => opE_value (v := .pointer (pA oo a)) rfl (run_ixI (HO.gro ((Gro.refl _).drew.trans hw)) _ _ rfl rfl a rfl hal1)
            case o8x13 => exact fun _ _ hw _ => opE_value (v := .agg (idA ((lin (kc 0) s (l.take i)).getD a 0))) rfl (run_ldI (HO.gro ((Gro.refl _).drew.trans hw)) _ rfl a rfl hal1)
            case o9x13 => exact fun _ _ _ _ => opE_move (v := .slice ao l.length cap) _ rfl rfl rfl
            case o10x13 => exact fun _ _ _ _ => opE_move (v := .int .i64 ((i : Nat) : Int)) _ rfl rfl rfl
            case o11x13 => exact fun _ _ hw _ => opE_value (v := .pointer (pA ao i)) rfl (run_ixI (H.gro (GG.drew.trans hw)) _ _ rfl rfl i rfl hil)
            case o12x13 => exact fun _ _ hw _ => opE_value (v := .agg (idA (l.getD i 0))) rfl (run_ldI (H.gro (GG.drew.trans hw)) _ rfl i rfl hil)
            case o13x13 =>
              intro ptrs w' hw hE
              exact opE_call (.val (.bool false)) rfl _ 43 Try.call43 rfl rfl _ rfl [.agg (idA ((lin (kc 0) s (l.take i)).getD a 0)), .agg (idA (l.getD i 0))] rfl ((Calls.boolW (less_any ((lin (kc 0) s (l.take i)).getD a 0) (l.getD i 0) (HO.at hal1) (H.at hil) _) hr2).mono fun e w' ⟨he, hg⟩ => ⟨_, he, hg, rfl⟩)
            intro ptrs w3 GD hxE
            simp only [List.drop_succ_cons, List.drop_zero]
            replace kg1 := GD.has kg1
            replace HO := HO.gro ((Gro.refl _).drew.trans GD)
            replace GG := GG.drew.trans GD
            clear GD
            refine s_val 43 rfl rfl (.bool false) (rfl) ?_
            refine nr ?_; intro U h; simp only [z0, z1] at h; subst h
            refine wpList_nil ?_
            refine then_n ?_
            refine wp_cond_false rfl ?_
            refine wp_exit ?_
            refine then_x ?_
            refine then_x ?_
            refine blk_x ?_
            refine then_n ?_
            refine wp_seq ?_
            refine wp_region_lit ?_
            refine s_val 8 rfl rfl (.slice none 0 0) (rfl) ?_
            refine nr ?_; intro U h; simp only [z0, z1] at h; subst h
            refine wpList_nil ?_
            refine then_n ?_
            refine wp_seq ?_
            obtain ⟨B, hB, hgB, hoB, hwB⟩ := base_of kg1 HO GG
            have hins : insK (kc 0) (l.getD i 0) (lin (kc 0) s (l.take i)) = [] ++ (lin (kc 0) s (l.take i)).take a ++ [(l.getD i 0)] ++ (lin (kc 0) s (l.take i)).drop a := tw_take (kc 0) (l.getD i 0) (lin (kc 0) s (l.take i)) a ha (fun j hj => by rw [kc_0 (HO.at (by omega)), kc_0 (H.at hil)]; exact hlt j hj) (fun hal => by rw [kc_0 (HO.at hal), kc_0 (H.at hil)]; exact of_decide_eq_false hr2)
            refine wp_region_lit ?_
            refine s_val 46 rfl rfl (.slice none 0 0) (rfl) ?_
            refine nr ?_; intro U h; simp only [z0, z1] at h; subst h
            refine s_val 47 rfl rfl (.slice oo ((lin (kc 0) s (l.take i)).length) oc) (rfl) ?_
            refine nr ?_; intro U h; simp only [z0, z1] at h; subst h
            refine s_val 48 rfl rfl (.int .i64 ((a : Nat) : Int)) (rfl) ?_
            refine nr ?_; intro U h; simp only [z0, z1] at h; subst h
            refine s_val 49 rfl rfl (.slice oo (((lin (kc 0) s (l.take i)).take a).length) oc) ((run_cut0X rI _ _ rfl oo (lin (kc 0) s (l.take i)).length oc a rfl rfl (by have := HO.fit; omega) _).trans (by rw [List.length_take, Nat.min_eq_left ha])) ?_
            refine nr ?_; intro U h; simp only [z0, z1] at h; subst h
            refine s_appI (B := B) 50 rfl rfl _ _ rfl (l := ([] : List Nat)) rfl (OI.nil _ B) rfl (HO.take a ha) (by simp; omega) (Nat.le_of_eq hB.symm) ?_
            intro ao7 cap7 w4 HO7 HB
            have hBw := Nat.le_trans (Nat.le_of_eq hB.symm) HB.size
            replace kg1 := (HB.block g1 hgB).trans kg1
            replace HO := HO.below HB hoB
            replace GG := below_gro GG HB hwB
            clear HB
            refine nr ?_; intro U h; simp only [z0, z1] at h; subst h
            refine s_val 8 rfl rfl (.slice ao7 ((([] : List Nat) ++ ((lin (kc 0) s (l.take i)).take a)).length) cap7) (rfl) ?_
            refine nr ?_; intro U h; simp only [z0, z1] at h; subst h
            refine wpList_nil ?_
            refine then_n ?_
            refine wp_seq ?_
            refine wp_region_lit ?_
            refine s_val 51 rfl rfl (.slice ao7 ((([] : List Nat) ++ ((lin (kc 0) s (l.take i)).take a)).length) cap7) (rfl) ?_
            refine nr ?_; intro U h; simp only [z0, z1] at h; subst h
            refine s_val 52 rfl rfl (.slice ao l.length cap) (rfl) ?_
            refine nr ?_; intro U h; simp only [z0, z1] at h; subst h
            refine s_val 53 rfl rfl (.int .i64 ((i : Nat) : Int)) (rfl) ?_
            refine nr ?_; intro U h; simp only [z0, z1] at h; subst h
            refine s_val 54 rfl rfl (.pointer (pA ao i)) (run_ixI (H.gro GG) _ _ rfl rfl i rfl hil) ?_
            refine nr ?_; intro U h; simp only [z0, z1] at h; subst h
            refine s_val 55 rfl rfl (.agg (idA (l.getD i 0))) (run_ldI (H.gro GG) _ rfl i rfl hil) ?_
            refine nr ?_; intro U h; simp only [z0, z1] at h; subst h
            refine s_bsl 56 rfl rfl 24 1 _ rfl [(0, .agg (idA (l.getD i 0)))] rfl (fl [(l.getD i 0)]).toArray 23 (bs1i (l.getD i 0) _) ?_
            intro w5 q9 G eq9 kq9
            replace hBw := Nat.le_trans hBw G.size
            replace HO7 := HO7.gro G
            replace kg1 := G.has kg1
            replace HO := HO.gro G
            replace GG := GG.trans G
            clear G
            have HQ : RC _ (some ⟨q9, 0, none⟩) 1 [(l.getD i 0)] := RC.all_blk kq9 (all_of [(l.getD i 0)] ⟨(H.at hil), trivial⟩) (Nat.le_refl _)
            clear eq9
            refine nr ?_; intro U h; simp only [z0, z1] at h; subst h
            refine s_appI (B := B) 57 rfl rfl _ _ rfl (l := ([] ++ (lin (kc 0) s (l.take i)).take a)) rfl HO7 rfl HQ (by simp; omega) hBw ?_
            intro ao8 cap8 w6 HO8 HB
            replace hBw := Nat.le_trans hBw HB.size
            replace kg1 := (HB.block g1 hgB).trans kg1
            replace HO := HO.below HB hoB
            replace GG := below_gro GG HB hwB
            clear HB
            refine nr ?_; intro U h; simp only [z0, z1] at h; subst h
            refine s_val 8 rfl rfl (.slice ao8 ((([] ++ (lin (kc 0) s (l.take i)).take a) ++ [(l.getD i 0)]).length) cap8) (rfl) ?_
            refine nr ?_; intro U h; simp only [z0, z1] at h; subst h
            refine wpList_nil ?_
            refine then_n ?_
            refine wp_region_lit ?_
            refine s_val 58 rfl rfl (.slice ao8 ((([] ++ (lin (kc 0) s (l.take i)).take a) ++ [(l.getD i 0)]).length) cap8) (rfl) ?_
            refine nr ?_; intro U h; simp only [z0, z1] at h; subst h
            refine s_val 59 rfl rfl (.slice oo ((lin (kc 0) s (l.take i)).length) oc) (rfl) ?_
            refine nr ?_; intro U h; simp only [z0, z1] at h; subst h
            refine s_val 60 rfl rfl (.int .i64 ((a : Nat) : Int)) (rfl) ?_
            refine nr ?_; intro U h; simp only [z0, z1] at h; subst h
            refine s_val 61 rfl rfl (.slice (if oc = a then oo else oo.map (·.add (a * 16))) (((lin (kc 0) s (l.take i)).drop a).length) (oc - a)) ((run_cutX rI _ _ rfl oo (lin (kc 0) s (l.take i)).length oc a rfl rfl ha _).trans (by rw [List.length_drop])) ?_
            refine nr ?_; intro U h; simp only [z0, z1] at h; subst h
            refine s_appI (B := B) 62 rfl rfl _ _ rfl (l := ([] ++ (lin (kc 0) s (l.take i)).take a ++ [(l.getD i 0)])) rfl HO8 rfl (HO.drop a ha) (by simp; omega) hBw ?_
            intro ao9 cap9 w7 HO9 HB
            replace hBw := Nat.le_trans hBw HB.size
            replace kg1 := (HB.block g1 hgB).trans kg1
            replace HO := HO.below HB hoB
            replace GG := below_gro GG HB hwB
            clear HB
            refine nr ?_; intro U h; simp only [z0, z1] at h; subst h
            refine s_val 5 rfl rfl (.slice ao9 ((([] ++ (lin (kc 0) s (l.take i)).take a ++ [(l.getD i 0)]) ++ ((lin (kc 0) s (l.take i)).drop a)).length) cap9) (rfl) ?_
            refine nr ?_; intro U h; simp only [z0, z1] at h; subst h
            refine wpList_nil ?_
            refine blk_n ?_
            refine then_n ?_
            refine wp_region_lit ?_
            refine s_val 13 rfl rfl (.int .i64 ((i : Nat) : Int)) (rfl) ?_
            refine nr ?_; intro U h; simp only [z0, z1] at h; subst h
            refine s_val 14 rfl rfl (.int .i64 ((i + 1 : Nat) : Int)) (run_addIi 3 _ _ _ rfl ((i : Nat) : Int) 1 ((i + 1 : Nat) : Int) rfl rfl (by omega) (by omega) (by omega) _) ?_
            refine nr ?_; intro U h; simp only [z0, z1] at h; subst h
            refine s_val 6 rfl rfl (.int .i64 ((i + 1 : Nat) : Int)) (rfl) ?_
            refine nr ?_; intro U h; simp only [z0, z1] at h; subst h
            refine wpList_nil ?_
            refine then_n ?_
            have hsn := lin_snoc (k := kc 0) (wo := s) (l := l.take i) (l.getD i 0)
            rw [← take_snoc l i hil, linS] at hsn
            rw [if_neg (fun hc => hc.elim (of_decide_eq_false hq1) (of_decide_eq_false hq2)), hins] at hsn
            exact ⟨_, (by omega : l.length - (i + 1) < l.length - i), i + 1, ao9, cap9, (fun kz => ([.int .i64 ((a : Nat) : Int), .slice ao8 ((([] ++ (lin (kc 0) s (l.take i)).take a) ++ [(l.getD i 0)]).length) cap8, .int .i64 ((i : Nat) : Int), .slice ao l.length cap, .int .i64 ((l.length : Nat) : Int), .bool true, .int .i64 ((i : Nat) : Int), .int .i64 ((i + 1 : Nat) : Int), .slice ao l.length cap, .int .i64 ((i : Nat) : Int), .pointer (pA ao i), .agg (idA (l.getD i 0)), .agg (idA s), .bool false, .bool false, .slice oo ((lin (kc 0) s (l.take i)).length) oc, .slice ao l.length cap, .int .i64 ((i : Nat) : Int), .pointer (pA ao i), .agg (idA (l.getD i 0)), .bool false, .bool false, .int .i64 ((a : Nat) : Int), .slice oo ((lin (kc 0) s (l.take i)).length) oc, .int .i64 (((lin (kc 0) s (l.take i)).length : Nat) : Int), .bool true, .bool true, .slice oo ((lin (kc 0) s (l.take i)).length) oc, .int .i64 ((a : Nat) : Int), .pointer (pA oo a), .agg (idA ((lin (kc 0) s (l.take i)).getD a 0)), .slice ao l.length cap, .int .i64 ((i : Nat) : Int), .pointer (pA ao i), .agg (idA (l.getD i 0)), .bool false, .bool false, us2 15, us2 16, .slice none 0 0, .slice oo ((lin (kc 0) s (l.take i)).length) oc, .int .i64 ((a : Nat) : Int), .slice oo (((lin (kc 0) s (l.take i)).take a).length) oc, .slice ao7 ((([] : List Nat) ++ ((lin (kc 0) s (l.take i)).take a)).length) cap7, .slice ao7 ((([] : List Nat) ++ ((lin (kc 0) s (l.take i)).take a)).length) cap7, .slice ao l.length cap, .int .i64 ((i : Nat) : Int), .pointer (pA ao i), .agg (idA (l.getD i 0)), .slice (some ⟨q9, 0, none⟩) 1 1, .slice ao8 ((([] ++ (lin (kc 0) s (l.take i)).take a) ++ [(l.getD i 0)]).length) cap8, .slice ao8 ((([] ++ (lin (kc 0) s (l.take i)).take a) ++ [(l.getD i 0)]).length) cap8, .slice oo ((lin (kc 0) s (l.take i)).length) oc, .int .i64 ((a : Nat) : Int), .slice (if oc = a then oo else oo.map (·.add (a * 16))) (((lin (kc 0) s (l.take i)).drop a).length) (oc - a), .slice ao9 ((([] ++ (lin (kc 0) s (l.take i)).take a ++ [(l.getD i 0)]) ++ ((lin (kc 0) s (l.take i)).drop a)).length) cap9] : List Value).getD kz undef), rfl, (by rw [hsn]; first | done | rfl), hil, GG, kg1, (by rw [hsn]; exact HO9.rc), (fun ad h => Nat.le_trans hwB (HO9.own.ge ad h).1)⟩
          · refine wp_region_exA (A := ?Ax14) 14 [(0, 29), (1, 30), (2, 31), (3, 32), (4, 33), (5, 34), (6, 35), (7, 36), (8, 37), (9, 38), (10, 39), (11, 40), (12, 41), (13, 42)] [.val (.int .i64 ((a : Nat) : Int)), .val (.slice oo ((lin (kc 0) s (l.take i)).length) oc), .val (.int .i64 (((lin (kc 0) s (l.take i)).length : Nat) : Int)), .val (.bool true), .val (.bool true), .val (.slice oo ((lin (kc 0) s (l.take i)).length) oc), .val (.int .i64 ((a : Nat) : Int)), .val (.pointer (pA oo a)), .val (.agg (idA ((lin (kc 0) s (l.take i)).getD a 0))), .val (.slice ao l.length cap), .val (.int .i64 ((i : Nat) : Int)), .val (.pointer (pA ao i)), .val (.agg (idA (l.getD i 0))), .val (.bool true)] follows (by kernel_rfl) rfl ?hAx14 (opsA_cons ?o0x14 (opsA_cons ?o1x14 (opsA_cons ?o2x14 (opsA_cons ?o3x14 (opsA_cons ?o4x14 (opsA_cons ?o5x14 (opsA_cons ?o6x14 (opsA_cons ?o7x14 (opsA_cons ?o8x14 (opsA_cons ?o9x14 (opsA_cons ?o10x14 (opsA_cons ?o11x14 (opsA_cons ?o12x14 (opsA_cons ?o13x14 opsA_nil)))))))))))))) ?restx14
            case hAx14 =>
              intro ptrs
              simp only [full, foldSlots, filledE, postE, List.foldl_cons, List.foldl_nil, List.getD_cons_zero, List.getD_cons_succ, fill_val, List.set_cons_zero, List.set_cons_succ]
              exact rfl
            case o0x14 => exact fun _ _ _ _ => opE_move (v := .int .i64 ((a : Nat) : Int)) _ rfl rfl rfl
            case o1x14 => exact fun _ _ _ _ => opE_move (v := .slice oo ((lin (kc 0) s (l.take i)).length) oc) _ rfl rfl rfl
            case o2x14 => exact fun _ _ _ _ => opE_value (v := .int .i64 (((lin (kc 0) s (l.take i)).length : Nat) : Int)) rfl (run_len Try.underlying24 _ rfl _ _ _ rfl _)
            case o3x14 => exact fun _ _ _ _ => opE_value (v := .bool true) rfl (run_lssT 3 _ _ _ rfl ((a : Nat) : Int) (((lin (kc 0) s (l.take i)).length : Nat) : Int) rfl rfl true hr1 _)
            case o4x14 => exact fun _ _ _ _ => opE_move (v := .bool true) _ rfl rfl rfl
            case o5x14 => exact fun _ _ _ _ => opE_move (v := .slice oo ((lin (kc 0) s (l.take i)).length) oc) _ rfl rfl rfl
            case o6x14 => exact fun _ _ _ _ => opE_move (v := .int .i64 ((a : Nat) : Int)) _ rfl rfl rfl
            case o7x14 => exact fun _ _ hw _ => opE_value (v := .pointer (pA oo a)) rfl (run_ixI (HO.gro ((Gro.refl _).drew.trans hw)) _ _ rfl rfl a rfl hal1)
            case o8x14 => exact fun _ _ hw _ => opE_value (v := .agg (idA ((lin (kc 0) s (l.take i)).getD a 0))) rfl (run_ldI (HO.gro ((Gro.refl _).drew.trans hw)) _ rfl a rfl hal1)
            case o9x14 => exact fun _ _ _ _ => opE_move (v := .slice ao l.length cap) _ rfl rfl rfl
            case o10x14 => exact fun _ _ _ _ => opE_move (v := .int .i64 ((i : Nat) : Int)) _ rfl rfl rfl
            case o11x14 => exact fun _ _ hw _ => opE_value (v := .pointer (pA ao i)) rfl (run_ixI (H.gro (GG.drew.trans hw)) _ _ rfl rfl i rfl hil)
            case o12x14 => exact fun _ _ hw _ => opE_value (v := .agg (idA (l.getD i 0))) rfl (run_ldI (H.gro (GG.drew.trans hw)) _ rfl i rfl hil)
            case o13x14 =>
              intro ptrs w' hw hE
              exact opE_call (.val (.bool true)) rfl _ 43 Try.call43 rfl rfl _ rfl [.agg (idA ((lin (kc 0) s (l.take i)).getD a 0)), .agg (idA (l.getD i 0))] rfl ((Calls.boolW (less_any ((lin (kc 0) s (l.take i)).getD a 0) (l.getD i 0) (HO.at hal1) (H.at hil) _) hr2).mono fun e w' ⟨he, hg⟩ => ⟨_, he, hg, rfl⟩)
            intro ptrs w3 GD hxE
            simp only [List.drop_succ_cons, List.drop_zero]
            replace kg1 := GD.has kg1
            replace HO := HO.gro ((Gro.refl _).drew.trans GD)
            replace GG := GG.drew.trans GD
            clear GD
            refine s_val 43 rfl rfl (.bool true) (rfl) ?_
            refine nr ?_; intro U h; simp only [z0, z1] at h; subst h
            refine wpList_nil ?_
            refine then_n ?_
            refine wp_cond_true rfl ?_
            refine wp_skip ?_
            refine then_n ?_
            refine wp_block ?_
            refine wp_region_lit ?_
            refine s_val 44 rfl rfl (.int .i64 ((a : Nat) : Int)) (rfl) ?_
            refine nr ?_; intro U h; simp only [z0, z1] at h; subst h
            refine s_val 45 rfl rfl (.int .i64 ((a + 1 : Nat) : Int)) (run_addIi 3 _ _ _ rfl ((a : Nat) : Int) 1 ((a + 1 : Nat) : Int) rfl rfl (by omega) (by omega) (by omega) _) ?_
            refine nr ?_; intro U h; simp only [z0, z1] at h; subst h
            refine s_val 7 rfl rfl (.int .i64 ((a + 1 : Nat) : Int)) (rfl) ?_
            refine nr ?_; intro U h; simp only [z0, z1] at h; subst h
            refine wpList_nil ?_
            refine blk_n ?_
            refine then_n ?_
            exact ⟨_, (by omega : (lin (kc 0) s (l.take i)).length - (a + 1) < (lin (kc 0) s (l.take i)).length - a), a + 1, (fun kz => ([.int .i64 ((a : Nat) : Int), .slice oo ((lin (kc 0) s (l.take i)).length) oc, .int .i64 (((lin (kc 0) s (l.take i)).length : Nat) : Int), .bool true, .bool true, .slice oo ((lin (kc 0) s (l.take i)).length) oc, .int .i64 ((a : Nat) : Int), .pointer (pA oo a), .agg (idA ((lin (kc 0) s (l.take i)).getD a 0)), .slice ao l.length cap, .int .i64 ((i : Nat) : Int), .pointer (pA ao i), .agg (idA (l.getD i 0)), .bool true, .bool true, .int .i64 ((a : Nat) : Int), .int .i64 ((a + 1 : Nat) : Int)] : List Value).getD kz undef), rfl, rfl, hal1, (upto_succ hlt (of_decide_eq_true hr2)), GG, kg1, HO⟩
      · refine wp_region_exA (A := ?Ax15) 13 [(0, 15), (1, 16), (2, 17), (3, 18), (4, 19), (5, 20), (6, 21), (7, 22), (8, 23), (9, 24), (10, 25), (11, 26), (12, 27)] [.val (.slice ao l.length cap), .val (.int .i64 ((i : Nat) : Int)), .val (.pointer (pA ao i)), .val (.agg (idA (l.getD i 0))), .val (.agg (idA s)), .val (.bool false), .val (.bool false), .val (.slice oo ((lin (kc 0) s (l.take i)).length) oc), .val (.slice ao l.length cap), .val (.int .i64 ((i : Nat) : Int)), .val (.pointer (pA ao i)), .val (.agg (idA (l.getD i 0))), .val (.bool true)] follows (by kernel_rfl) rfl ?hAx15 (opsA_cons ?o0x15 (opsA_cons ?o1x15 (opsA_cons ?o2x15 (opsA_cons ?o3x15 (opsA_cons ?o4x15 (opsA_cons ?o5x15 (opsA_cons ?o6x15 (opsA_cons ?o7x15 (opsA_cons ?o8x15 (opsA_cons ?o9x15 (opsA_cons ?o10x15 (opsA_cons ?o11x15 (opsA_cons ?o12x15 opsA_nil))))))))))))) ?restx15
        case hAx15 =>
          intro ptrs
          simp only [full, foldSlots, filledE, postE, List.foldl_cons, List.foldl_nil, List.getD_cons_zero, List.getD_cons_succ, fill_val, List.set_cons_zero, List.set_cons_succ]
          exact rfl
        case o0x15 => exact fun _ _ _ _ => opE_move (v := .slice ao l.length cap) _ rfl rfl rfl
        case o1x15 => exact fun _ _ _ _ => opE_move (v := .int .i64 ((i : Nat) : Int)) _ rfl rfl rfl
        case o2x15 => exact fun _ _ hw _ => opE_value (v := .pointer (pA ao i)) rfl (run_ixI (H.gro (GG.drew.trans hw)) _ _ rfl rfl i rfl hil)
        case o3x15 => exact fun _ _ hw _ => opE_value (v := .agg (idA (l.getD i 0))) rfl (run_ldI (H.gro (GG.drew.trans hw)) _ rfl i rfl hil)
        case o4x15 => exact fun _ _ hw _ => opE_value (v := .agg (idA s)) rfl (run_ldB _ rfl g1 _ rfl (hw.has kg1))
        case o5x15 => exact fun _ _ _ _ => opE_value (v := .bool false) rfl (run_eqIi _ _ _ rfl _ _ rfl rfl (H.at hil) hs false hq1)
        case o6x15 => exact fun _ _ _ _ => opE_move (v := .bool false) _ rfl rfl rfl
        case o7x15 => exact fun _ _ _ _ => opE_move (v := .slice oo ((lin (kc 0) s (l.take i)).length) oc) _ rfl rfl rfl
        case o8x15 => exact fun _ _ _ _ => opE_move (v := .slice ao l.length cap) _ rfl rfl rfl
        case o9x15 => exact fun _ _ _ _ => opE_move (v := .int .i64 ((i : Nat) : Int)) _ rfl rfl rfl
        case o10x15 => exact fun _ _ hw _ => opE_value (v := .pointer (pA ao i)) rfl (run_ixI (H.gro (GG.drew.trans hw)) _ _ rfl rfl i rfl hil)
        case o11x15 => exact fun _ _ hw _ => opE_value (v := .agg (idA (l.getD i 0))) rfl (run_ldI (H.gro (GG.drew.trans hw)) _ rfl i rfl hil)
        case o12x15 =>
          intro ptrs w' hw hE
          exact opE_call (.val (.bool true)) rfl _ 40 Try.call40 rfl rfl _ rfl [.slice oo ((lin (kc 0) s (l.take i)).length) oc, .agg (idA (l.getD i 0))] rfl ((Calls.boolW (refhas_any _ oo oc (lin (kc 0) s (l.take i)) (HO.gro ((Gro.refl _).drew.trans hw)) (by omega) (l.getD i 0) (H.at hil)) hq2).mono fun e w' ⟨he, hg⟩ => ⟨_, he, hg, rfl⟩)
        intro ptrs w2 GD hxE
        simp only [List.drop_succ_cons, List.drop_zero]
        replace kg1 := GD.has kg1
        replace HO := HO.gro ((Gro.refl _).drew.trans GD)
        replace GG := GG.drew.trans GD
        clear GD
        refine s_val 28 rfl rfl (.bool true) (rfl) ?_
        refine nr ?_; intro U h; simp only [z0, z1] at h; subst h
        refine wpList_nil ?_
        refine then_n ?_
        refine wp_cond_true rfl ?_
        refine wp_exit ?_
        refine then_x ?_
        refine blk_x ?_
        refine then_n ?_
        refine wp_region_lit ?_
        refine s_val 13 rfl rfl (.int .i64 ((i : Nat) : Int)) (rfl) ?_
        refine nr ?_; intro U h; simp only [z0, z1] at h; subst h
        refine s_val 14 rfl rfl (.int .i64 ((i + 1 : Nat) : Int)) (run_addIi 3 _ _ _ rfl ((i : Nat) : Int) 1 ((i + 1 : Nat) : Int) rfl rfl (by omega) (by omega) (by omega) _) ?_
        refine nr ?_; intro U h; simp only [z0, z1] at h; subst h
        refine s_val 6 rfl rfl (.int .i64 ((i + 1 : Nat) : Int)) (rfl) ?_
        refine nr ?_; intro U h; simp only [z0, z1] at h; subst h
        refine wpList_nil ?_
        refine then_n ?_
        have hsn := lin_snoc (k := kc 0) (wo := s) (l := l.take i) (l.getD i 0)
        rw [← take_snoc l i hil, linS] at hsn
        rw [if_pos (.inr (of_decide_eq_true hq2))] at hsn
        exact ⟨_, (by omega : l.length - (i + 1) < l.length - i), i + 1, oo, oc, (fun kz => ([us1 0, us1 1, .int .i64 ((i : Nat) : Int), .slice ao l.length cap, .int .i64 ((l.length : Nat) : Int), .bool true, .int .i64 ((i : Nat) : Int), .int .i64 ((i + 1 : Nat) : Int), .slice ao l.length cap, .int .i64 ((i : Nat) : Int), .pointer (pA ao i), .agg (idA (l.getD i 0)), .agg (idA s), .bool false, .bool false, .slice oo ((lin (kc 0) s (l.take i)).length) oc, .slice ao l.length cap, .int .i64 ((i : Nat) : Int), .pointer (pA ao i), .agg (idA (l.getD i 0)), .bool true, .bool true, us1 22, us1 23, us1 24, us1 25, us1 26, us1 27, us1 28, us1 29, us1 30, us1 31, us1 32, us1 33, us1 34, us1 35, us1 36, us1 37, us1 38, us1 39, us1 40, us1 41, us1 42, us1 43, us1 44, us1 45, us1 46, us1 47, us1 48, us1 49, us1 50, us1 51, us1 52, us1 53, us1 54, us1 55] : List Value).getD kz undef), rfl, (by rw [hsn]; first | done | rfl), hil, GG, kg1, (by rw [hsn]; exact HO), HF⟩
    · refine wp_region_exA (A := ?Ax16) 13 [(0, 15), (1, 16), (2, 17), (3, 18), (4, 19), (5, 20), (6, 21), (7, 22), (8, 23), (9, 24), (10, 25), (11, 26), (12, 27)] [.val (.slice ao l.length cap), .val (.int .i64 ((i : Nat) : Int)), .val (.pointer (pA ao i)), .val (.agg (idA (l.getD i 0))), .val (.agg (idA s)), .val (.bool true), .val (.bool true), .val undef, .val undef, .val undef, .val undef, .val undef, .val undef] follows (by kernel_rfl) rfl ?hAx16 (opsA_cons ?o0x16 (opsA_cons ?o1x16 (opsA_cons ?o2x16 (opsA_cons ?o3x16 (opsA_cons ?o4x16 (opsA_cons ?o5x16 (opsA_cons ?o6x16 (opsA_cons ?o7x16 (opsA_cons ?o8x16 (opsA_cons ?o9x16 (opsA_cons ?o10x16 (opsA_cons ?o11x16 (opsA_cons ?o12x16 opsA_nil))))))))))))) ?restx16
      case hAx16 =>
        intro ptrs
        simp only [full, foldSlots, filledE, postE, List.foldl_cons, List.foldl_nil, List.getD_cons_zero, List.getD_cons_succ, fill_val, List.set_cons_zero, List.set_cons_succ]
        exact rfl
      case o0x16 => exact fun _ _ _ _ => opE_move (v := .slice ao l.length cap) _ rfl rfl rfl
      case o1x16 => exact fun _ _ _ _ => opE_move (v := .int .i64 ((i : Nat) : Int)) _ rfl rfl rfl
      case o2x16 => exact fun _ _ hw _ => opE_value (v := .pointer (pA ao i)) rfl (run_ixI (H.gro (GG.drew.trans hw)) _ _ rfl rfl i rfl hil)
      case o3x16 => exact fun _ _ hw _ => opE_value (v := .agg (idA (l.getD i 0))) rfl (run_ldI (H.gro (GG.drew.trans hw)) _ rfl i rfl hil)
      case o4x16 => exact fun _ _ hw _ => opE_value (v := .agg (idA s)) rfl (run_ldB _ rfl g1 _ rfl (hw.has kg1))
      case o5x16 => exact fun _ _ _ _ => opE_value (v := .bool true) rfl (run_eqIi _ _ _ rfl _ _ rfl rfl (H.at hil) hs true hq1)
      case o6x16 => exact fun _ _ _ _ => opE_move (v := .bool true) _ rfl rfl rfl
      case o7x16 => exact fun _ _ _ _ => opE_skip rfl
      case o8x16 => exact fun _ _ _ _ => opE_skip rfl
      case o9x16 => exact fun _ _ _ _ => opE_skip rfl
      case o10x16 => exact fun _ _ _ _ => opE_skip rfl
      case o11x16 => exact fun _ _ _ _ => opE_skip rfl
      case o12x16 => exact fun _ _ _ _ => opE_skip rfl
      intro ptrs w2 GD hxE
      simp only [List.drop_succ_cons, List.drop_zero]
      replace kg1 := GD.has kg1
      replace HO := HO.gro ((Gro.refl _).drew.trans GD)
      replace GG := GG.drew.trans GD
      clear GD
      refine s_val 28 rfl rfl (.bool true) (rfl) ?_
      refine nr ?_; intro U h; simp only [z0, z1] at h; subst h
      refine wpList_nil ?_
      refine then_n ?_
      refine wp_cond_true rfl ?_
      refine wp_exit ?_
      refine then_x ?_
      refine blk_x ?_
      refine then_n ?_
      refine wp_region_lit ?_
      refine s_val 13 rfl rfl (.int .i64 ((i : Nat) : Int)) (rfl) ?_
      refine nr ?_; intro U h; simp only [z0, z1] at h; subst h
      refine s_val 14 rfl rfl (.int .i64 ((i + 1 : Nat) : Int)) (run_addIi 3 _ _ _ rfl ((i : Nat) : Int) 1 ((i + 1 : Nat) : Int) rfl rfl (by omega) (by omega) (by omega) _) ?_
      refine nr ?_; intro U h; simp only [z0, z1] at h; subst h
      refine s_val 6 rfl rfl (.int .i64 ((i + 1 : Nat) : Int)) (rfl) ?_
      refine nr ?_; intro U h; simp only [z0, z1] at h; subst h
      refine wpList_nil ?_
      refine then_n ?_
      have hsn := lin_snoc (k := kc 0) (wo := s) (l := l.take i) (l.getD i 0)
      rw [← take_snoc l i hil, linS] at hsn
      rw [if_pos (.inl (of_decide_eq_true hq1))] at hsn
      exact ⟨_, (by omega : l.length - (i + 1) < l.length - i), i + 1, oo, oc, (fun kz => ([us1 0, us1 1, .int .i64 ((i : Nat) : Int), .slice ao l.length cap, .int .i64 ((l.length : Nat) : Int), .bool true, .int .i64 ((i : Nat) : Int), .int .i64 ((i + 1 : Nat) : Int), .slice ao l.length cap, .int .i64 ((i : Nat) : Int), .pointer (pA ao i), .agg (idA (l.getD i 0)), .agg (idA s), .bool true, .bool true, undef, undef, undef, undef, undef, undef, .bool true, us1 22, us1 23, us1 24, us1 25, us1 26, us1 27, us1 28, us1 29, us1 30, us1 31, us1 32, us1 33, us1 34, us1 35, us1 36, us1 37, us1 38, us1 39, us1 40, us1 41, us1 42, us1 43, us1 44, us1 45, us1 46, us1 47, us1 48, us1 49, us1 50, us1 51, us1 52, us1 53, us1 54, us1 55] : List Value).getD kz undef), rfl, (by rw [hsn]; first | done | rfl), hil, GG, kg1, (by rw [hsn]; exact HO), HF⟩
end Go.Proofs.Ytjahegiopigblaa
