/- What is known: the program's and the document's. -/
import Derived.Test.YtipfllalfifheaaR3
namespace Go.Proofs.Ytipfllalfifheaa
open Go.RowKit Go.Maps

theorem OE.apK {α : Type} {K : Kd α} {e : TypeId} {w w' : World} {B B2 : Nat} {ao bo : Option Addr} {cap bap : Nat} {l : List α} {L : List En} (h : OE w B2 bo bap L) (ha : OW K e w B ao cap l) (G : GroS (Go.Proofs.Ytipfllalfifheaa.blk ao) w w') (he : 57 ≠ e) : OE w' B2 bo bap L :=
  h.gros G fun k hk hm => by
    obtain ⟨_, cur, hc⟩ := h.own.at k hk
    exact ha.own.ne hc he hm
theorem take_at {α : Type} (z : α) (l : List α) (i : Nat) (hi : i < l.length) : l.take (i + 1) = l.take i ++ [l.getD i z] := by
  have hg : l.getD i z = l[i] := by simp [List.getD_eq_getElem?_getD, hi]
  rw [List.take_add_one, List.getElem?_eq_getElem hi, Option.toList_some, hg]
theorem nk_step {s : Nat} {N : List Nr} {l2 : List Ch} {i : Nat} (h : l2 = selfC s :: (N.take i).map nearC) (hi : i < N.length) : l2 ++ [mkC (N.getD i zN).id true zP (N.getD i zN).n] = selfC s :: (N.take (i + 1)).map nearC := by
  rw [h, take_at zN N i hi, List.map_append]
  rfl
theorem nk_len {s : Nat} {N : List Nr} {l2 : List Ch} {i : Nat} (h : l2 = selfC s :: (N.take i).map nearC) (hi : i < N.length) : l2.length = 1 + i := by
  rw [h, List.length_cons, List.length_map, List.length_take]
  omega
theorem kn_step {A l5 : List Ch} {L : List En} {j : Nat} (h : l5 = A ++ (L.take j).flatMap ends) (hj : j < L.length) {E : List Ch} (hE : ends (L.getD j zE) = E) : l5 ++ E = A ++ (L.take (j + 1)).flatMap ends := by
  rw [h, take_at zE L j hj, List.flatMap_append, List.flatMap_singleton, hE, List.append_assoc]
theorem kn_len {s : Nat} {N : List Nr} {l5 : List Ch} {L : List En} {j : Nat} (h : l5 = (selfC s :: N.map nearC) ++ (L.take j).flatMap ends) (hN : N.length ≤ 600000) (hL : L.length ≤ 1000) : l5.length ≤ 700000 := by
  have h1 := ends_sum (L.take j)
  rw [List.length_take] at h1
  rw [h, List.length_append, List.length_cons, List.length_map]
  omega
set_option maxRecDepth 100000 in
set_option maxHeartbeats 4000000 in
theorem known_any (w : World) (s : Nat) (hs : s < top) (an : Option Addr) (cn : Nat) (N : List Nr) (HN : RK kN w an cn N) (hNl : N.length ≤ 600000) (t b room : Nat) (L : List En) (kt : w.heap[t]? = some (.cells (tbA room b) 72 (0, 0))) (HT : TM w b L) (hris : Ris L) (hlen : L.length ≤ 1000) : Calls Try.prog 11 #[.agg (idA s), .slice an N.length cn, .pointer (some ⟨t, 0, none⟩)] w (RowK kC 40 w (knw s N L)) := by
  refine s_enter Try.func11 rfl Try.ntmps11 [.agg (idA s), .slice an N.length cn, .pointer (some ⟨t, 0, none⟩)] [.agg (idA s), .slice an N.length cn, .pointer (some ⟨t, 0, none⟩), undef, undef, undef, undef, undef, undef, undef, undef, undef, undef, undef, undef, undef, undef, undef, undef, undef, undef, undef, undef, undef, undef, undef, undef, undef, undef, undef, undef, undef, undef, undef, undef, undef, undef, undef, undef, undef, undef, undef, undef, undef, undef, undef, undef, undef, undef, undef, undef, undef, undef, undef, undef, undef, undef, undef, undef, undef, undef, undef, undef, undef, undef] rfl ?_
  have GG := Gro.refl w
  have HAll := HT.all
  refine wp_seq ?_
  refine wp_region_lit ?_
  refine s_box 3 rfl rfl 23 _ rfl _ rfl (idA s) rfl ?_
  intro w1 g1 G eg1 kg1
  have bg1 := size_base GG eg1
  replace GG := GG.trans G
  clear G
  clear eg1
  refine nr ?_; intro U h; simp only [z0, z1] at h; subst h
  refine s_val 6 rfl rfl (.slice none 0 0) (rfl) ?_
  refine nr ?_; intro U h; simp only [z0, z1] at h; subst h
  refine wpList_nil ?_
  refine then_n ?_
  refine wp_seq ?_
  refine wp_region_lit ?_
  refine s_val 12 rfl rfl (.agg (idA s)) (ldI0 _ rfl g1 rfl (kg1)) ?_
  refine nr ?_; intro U h; simp only [z0, z1] at h; subst h
  refine s_val 13 rfl rfl (.agg (chA (mkC s false zP (-1)))) (run_bd 40 _ rfl [(0, .agg (idA s)), (3, .int .i64 (-1))] rfl _ (bdC03 _ _ _)) ?_
  refine nr ?_; intro U h; simp only [z0, z1] at h; subst h
  refine s_bsl 14 rfl rfl 32 1 _ rfl [(0, .agg (chA (mkC s false zP (-1))))] rfl ([(mkC s false zP (-1))].flatMap kC.E).toArray 40 (bsC (mkC s false zP (-1)) _) ?_
  intro w2 q6 G eq6 kq6
  have bq6 := size_base GG eq6
  replace kg1 := G.has kg1
  replace GG := GG.trans G
  clear G
  have HR6 : RK kC _ (some ⟨q6, 0, none⟩) 1 [(mkC s false zP (-1))] := RK.blk kq6 (one_all (mkC_ok hs zP_ok m1_i64)) (Nat.le_refl _)
  clear eq6
  refine nr ?_; intro U h; simp only [z0, z1] at h; subst h
  refine s_val 7 rfl rfl (.slice (some ⟨q6, 0, none⟩) 1 1) (rfl) ?_
  refine nr ?_; intro U h; simp only [z0, z1] at h; subst h
  refine wpList_nil ?_
  refine then_n ?_
  refine wp_seq ?_
  refine wp_seq ?_
  refine wp_region_lit ?_
  refine s_val 15 rfl rfl (.slice an N.length cn) (rfl) ?_
  refine nr ?_; intro U h; simp only [z0, z1] at h; subst h
  refine s_val 16 rfl rfl (.int .i64 ((N.length : Nat) : Int)) (run_len Try.underlying24 _ rfl _ _ _ rfl _) ?_
  refine nr ?_; intro U h; simp only [z0, z1] at h; subst h
  refine s_val 17 rfl rfl (.int .i64 0) (rfl) ?_
  refine nr ?_; intro U h; simp only [z0, z1] at h; subst h
  refine wpList_nil ?_
  refine then_n ?_
  refine wp_block ?_
  refine wp_loopN (fun mz az wv => ∃ (i : Nat) (ao1 : Option Addr) (cap1 : Nat) (l2 : List Ch) (us1 : Nat → Value), mz = N.length + 1 - i ∧ az = ⟨[.agg (idA s), .slice an N.length cn, .pointer (some ⟨t, 0, none⟩), .pointer (some ⟨g1, 0, none⟩), undef, undef, .slice none 0 0, .slice ao1 l2.length cap1, undef, us1 0, undef, undef, .agg (idA s), .agg (chA (mkC s false zP (-1))), .slice (some ⟨q6, 0, none⟩) 1 1, .slice an N.length cn, .int .i64 ((N.length : Nat) : Int), .int .i64 ((i : Nat) : Int), us1 1, us1 2, us1 3, us1 4, us1 5, us1 6, us1 7, us1 8, us1 9, us1 10, us1 11, us1 12, undef, undef, undef, undef, undef, undef, undef, undef, undef, undef, undef, undef, undef, undef, undef, undef, undef, undef, undef, undef, undef, undef, undef, undef, undef, undef, undef, undef, undef, undef, undef, undef, undef, undef, undef].toArray, []⟩ ∧ i ≤ N.length ∧ Gro w wv ∧ OW kC 40 wv w.heap.size ao1 cap1 l2 ∧ l2 = selfC s :: (N.take i).map nearC) ?_ _ ⟨0, (some ⟨q6, 0, none⟩), 1, [(mkC s false zP (-1))], (fun kz => ([undef, undef, undef, undef, undef, undef, undef, undef, undef, undef, undef, undef, undef] : List Value).getD kz undef), rfl, rfl, Nat.zero_le _, GG, OW.blk kq6 (one_all (mkC_ok hs zP_ok m1_i64)) bq6 (Nat.le_of_ble_eq_true rfl), rfl⟩
  clear GG
  rintro mz az wv ⟨i, ao1, cap1, l2, us1, rfl, rfl, hi, GG, HO, hl2⟩
  refine wp_seq ?_
  refine wp_region_lit ?_
  cases hi1 : decide (((i : Nat) : Int) < ((N.length : Nat) : Int))
  · have hie : i = N.length := by have := of_decide_eq_false hi1; omega
    refine s_val 18 rfl rfl (.bool false) (run_lssT 3 _ _ _ rfl ((i : Nat) : Int) ((N.length : Nat) : Int) rfl rfl false hi1 _) ?_
    refine nr ?_; intro U h; simp only [z0, z1] at h; subst h
    refine wpList_nil ?_
    refine then_n ?_
    refine wp_seq ?_
    refine wp_cond_false rfl ?_
    refine wp_exit ?_
    refine then_x ?_
    refine then_x ?_
    refine blk_x ?_
    refine then_n ?_
    refine wp_seq ?_
    refine wp_seq ?_
    refine wp_region_lit ?_
    refine s_val 30 rfl rfl (.pointer (some ⟨t, 0, none⟩)) (rfl) ?_
    refine nr ?_; intro U h; simp only [z0, z1] at h; subst h
    refine s_callx 31 rfl rfl _ 28 Try.call28 rfl rfl _ rfl [.pointer (some ⟨t, 0, none⟩)] rfl (all_any _ t b room L (GG.has kt) (HT.gro GG) hris hlen) (by rintro _ _ ⟨_, _, he, _⟩; exact ⟨_, he⟩) ?_
    rintro v w3 ⟨ao7, cap7, he, G, HO7⟩
    cases he
    replace HO7 := HO7.mono GG.size
    replace HO := HO.gro G
    replace GG := GG.trans G
    clear G
    have HR7 := HO7.re
    refine nr ?_; intro U h; simp only [z0, z1] at h; subst h
    refine s_val 32 rfl rfl (.int .i64 ((L.length : Nat) : Int)) (run_len Try.underlying25 _ rfl _ _ _ rfl _) ?_
    refine nr ?_; intro U h; simp only [z0, z1] at h; subst h
    refine s_val 33 rfl rfl (.int .i64 0) (rfl) ?_
    refine nr ?_; intro U h; simp only [z0, z1] at h; subst h
    refine wpList_nil ?_
    refine then_n ?_
    refine wp_block ?_
    refine wp_loopN (fun mz az wv => ∃ (j : Nat) (ao5 : Option Addr) (cap5 : Nat) (l5 : List Ch) (us2 : Nat → Value), mz = L.length + 1 - j ∧ az = ⟨[.agg (idA s), .slice an N.length cn, .pointer (some ⟨t, 0, none⟩), .pointer (some ⟨g1, 0, none⟩), undef, undef, .slice none 0 0, .slice ao5 l5.length cap5, undef, us1 0, undef, us2 0, .agg (idA s), .agg (chA (mkC s false zP (-1))), .slice (some ⟨q6, 0, none⟩) 1 1, .slice an N.length cn, .int .i64 ((N.length : Nat) : Int), .int .i64 ((i : Nat) : Int), .bool false, us1 2, us1 3, us1 4, us1 5, us1 6, us1 7, us1 8, us1 9, us1 10, us1 11, us1 12, .pointer (some ⟨t, 0, none⟩), .slice ao7 L.length cap7, .int .i64 ((L.length : Nat) : Int), .int .i64 ((j : Nat) : Int), us2 1, us2 2, us2 3, us2 4, us2 5, us2 6, us2 7, us2 8, us2 9, us2 10, us2 11, us2 12, us2 13, us2 14, us2 15, us2 16, us2 17, us2 18, us2 19, us2 20, us2 21, us2 22, us2 23, us2 24, us2 25, us2 26, us2 27, us2 28, us2 29, us2 30, undef].toArray, []⟩ ∧ j ≤ L.length ∧ Gro w wv ∧ OW kC 40 wv w.heap.size ao5 cap5 l5 ∧ OE wv w.heap.size ao7 cap7 L ∧ l5 = (selfC s :: N.map nearC) ++ (L.take j).flatMap ends) ?_ _ ⟨0, ao1, cap1, l2, (fun kz => ([undef, undef, undef, undef, undef, undef, undef, undef, undef, undef, undef, undef, undef, undef, undef, undef, undef, undef, undef, undef, undef, undef, undef, undef, undef, undef, undef, undef, undef, undef, undef] : List Value).getD kz undef), rfl, rfl, Nat.zero_le _, GG, HO, HO7, by rw [hl2, hie, List.take_length, List.take_zero, List.flatMap_nil, List.append_nil]⟩
    clear GG HO HO7
    rintro mz az wv ⟨j, ao5, cap5, l5, us2, rfl, rfl, hj, GG, HO, HO7, hl5⟩
    have hkl := kn_len hl5 hNl hlen
    refine wp_seq ?_
    refine wp_region_lit ?_
    cases hj1 : decide (((j : Nat) : Int) < ((L.length : Nat) : Int))
    · have hje : j = L.length := by have := of_decide_eq_false hj1; omega
      refine s_val 34 rfl rfl (.bool false) (run_lssT 3 _ _ _ rfl ((j : Nat) : Int) ((L.length : Nat) : Int) rfl rfl false hj1 _) ?_
      refine nr ?_; intro U h; simp only [z0, z1] at h; subst h
      refine wpList_nil ?_
      refine then_n ?_
      refine wp_seq ?_
      refine wp_cond_false rfl ?_
      refine wp_exit ?_
      refine then_x ?_
      refine then_x ?_
      refine blk_x ?_
      refine then_n ?_
      refine wp_seq ?_
      refine wp_region_lit ?_
      refine s_val 64 rfl rfl (.slice ao5 l5.length cap5) (rfl) ?_
      refine nr ?_; intro U h; simp only [z0, z1] at h; subst h
      refine s_val 6 rfl rfl (.slice ao5 l5.length cap5) (rfl) ?_
      refine nr ?_; intro U h; simp only [z0, z1] at h; subst h
      refine wpList_nil ?_
      refine then_n ?_
      refine wp_ret ?_
      refine bodyPost_ret (results_tmp Try.results11 _ _ _) rfl ?_
      have e1 : l5 = knw s N L := by rw [hl5, hje, List.take_length]; rfl
      rw [e1] at HO
      exact ⟨ao5, cap5, by rw [e1]; rfl, GG, HO⟩
    · have hjl : j < L.length := by have := of_decide_eq_true hj1; omega
      refine s_val 34 rfl rfl (.bool true) (run_lssT 3 _ _ _ rfl ((j : Nat) : Int) ((L.length : Nat) : Int) rfl rfl true hj1 _) ?_
      refine nr ?_; intro U h; simp only [z0, z1] at h; subst h
      refine wpList_nil ?_
      refine then_n ?_
      refine wp_seq ?_
      refine wp_cond_true rfl ?_
      refine wp_skip ?_
      refine then_n ?_
      refine wp_seq ?_
      refine wp_block ?_
      refine wp_seq ?_
      refine wp_region_lit ?_
      refine s_val 35 rfl rfl (.pointer (pE ao7 j 0)) (run_ixE (HO7.re) _ _ rfl rfl j rfl (by omega)) ?_
      refine nr ?_; intro U h; simp only [z0, z1] at h; subst h
      refine s_val 36 rfl rfl (.agg (enA (L.getD j zE))) (run_ldE (HO7.re) _ rfl j rfl (by omega)) ?_
      refine nr ?_; intro U h; simp only [z0, z1] at h; subst h
      refine s_alloc 11 rfl rfl 57 rfl _ zero33 (enA zE) rfl ?_
      intro w4 g2 G eg2 kg2
      have bg2 := size_base GG eg2
      have dHOg2 := HO.ne eg2
      have dHO7g2 := HO7.ne eg2
      replace HO := HO.gro G
      replace HO7 := HO7.gro G
      replace GG := GG.trans G
      clear G
      clear eg2
      refine nr ?_; intro U h; simp only [z0, z1] at h; subst h
      refine s_store rfl rfl 57 _ _ rfl g2 0 rfl (.agg (enA (L.getD j zE))) rfl 57 _ kg2 (enA (L.getD j zE)) rfl (si33' _) (enA_fit _ _) (enA_one _) (enA (L.getD j zE)) (splice_whole _ _ (enA_sz _ _)) ?_
      intro w5 St
      have kS := kg2
      replace HO := HO.st St dHOg2
      replace HO7 := HO7.st St dHO7g2
      replace GG := GG.store St bg2
      replace kg2 := St.new
      clear St
      refine wpList_nil ?_
      refine then_n ?_
      refine wp_seq ?_
      refine wp_seq ?_
      refine wp_region_lit ?_
      refine s_val 37 rfl rfl (.pointer (some ⟨g2, 49, none⟩)) (run_fld 57 _ 3 rfl g2 0 rfl 49 (by kernel_rfl)) ?_
      refine nr ?_; intro U h; simp only [z0, z1] at h; subst h
      refine s_val 38 rfl rfl (.int .i64 (L.getD j zE).na) (ldEna _ rfl g2 rfl (kg2)) ?_
      refine nr ?_; intro U h; simp only [z0, z1] at h; subst h
      cases hna : decide (0 ≤ (L.getD j zE).na)
      · refine s_val 39 rfl rfl (.bool false) (run_geqT 3 _ _ _ rfl (L.getD j zE).na 0 rfl rfl false hna _) ?_
        refine nr ?_; intro U h; simp only [z0, z1] at h; subst h
        refine wpList_nil ?_
        refine then_n ?_
        refine wp_cond_false rfl ?_
        refine wp_skip ?_
        refine then_n ?_
        refine wp_seq ?_
        refine wp_region_lit ?_
        refine s_val 50 rfl rfl (.pointer (some ⟨g2, 50, none⟩)) (run_fld 57 _ 4 rfl g2 0 rfl 50 (by kernel_rfl)) ?_
        refine nr ?_; intro U h; simp only [z0, z1] at h; subst h
        refine s_val 51 rfl rfl (.int .i64 (L.getD j zE).nb) (ldEnb _ rfl g2 rfl (kg2)) ?_
        refine nr ?_; intro U h; simp only [z0, z1] at h; subst h
        cases hnb : decide (0 ≤ (L.getD j zE).nb)
        · refine s_val 52 rfl rfl (.bool false) (run_geqT 3 _ _ _ rfl (L.getD j zE).nb 0 rfl rfl false hnb _) ?_
          refine nr ?_; intro U h; simp only [z0, z1] at h; subst h
          refine wpList_nil ?_
          refine then_n ?_
          refine wp_cond_false rfl ?_
          refine wp_skip ?_
          refine blk_n ?_
          refine then_n ?_
          refine wp_region_lit ?_
          refine s_val 63 rfl rfl (.int .i64 ((j + 1 : Nat) : Int)) (run_addI 3 _ _ _ rfl ((j : Nat) : Int) 1 ((j + 1 : Nat) : Int) rfl rfl (by omega) (by omega) (by omega) _) ?_
          refine nr ?_; intro U h; simp only [z0, z1] at h; subst h
          refine s_val 33 rfl rfl (.int .i64 ((j + 1 : Nat) : Int)) (rfl) ?_
          refine nr ?_; intro U h; simp only [z0, z1] at h; subst h
          refine wpList_nil ?_
          refine then_n ?_
          exact ⟨L.length + 1 - (j + 1), by omega, j + 1, ao5, cap5, l5, (fun kz => ([.pointer (some ⟨g2, 0, none⟩), .bool true, .pointer (pE ao7 j 0), .agg (enA (L.getD j zE)), .pointer (some ⟨g2, 49, none⟩), .int .i64 (L.getD j zE).na, .bool false, us2 7, us2 8, us2 9, us2 10, us2 11, us2 12, us2 13, us2 14, us2 15, us2 16, .pointer (some ⟨g2, 50, none⟩), .int .i64 (L.getD j zE).nb, .bool false, us2 20, us2 21, us2 22, us2 23, us2 24, us2 25, us2 26, us2 27, us2 28, us2 29, .int .i64 ((j + 1 : Nat) : Int)] : List Value).getD kz undef), rfl, rfl, by omega, GG, HO, HO7, by have h9 := kn_step (E := []) hl5 hjl (by unfold ends; rw [if_neg (of_decide_eq_false hna), if_neg (of_decide_eq_false hnb)]; rfl); rwa [List.append_nil] at h9⟩
        · refine s_val 52 rfl rfl (.bool true) (run_geqT 3 _ _ _ rfl (L.getD j zE).nb 0 rfl rfl true hnb _) ?_
          refine nr ?_; intro U h; simp only [z0, z1] at h; subst h
          refine wpList_nil ?_
          refine then_n ?_
          refine wp_cond_true rfl ?_
          refine wp_region_lit ?_
          refine s_val 53 rfl rfl (.slice ao5 l5.length cap5) (rfl) ?_
          refine nr ?_; intro U h; simp only [z0, z1] at h; subst h
          refine s_val 54 rfl rfl (.pointer (some ⟨g2, 33, none⟩)) (run_fld 57 _ 2 rfl g2 0 rfl 33 (by kernel_rfl)) ?_
          refine nr ?_; intro U h; simp only [z0, z1] at h; subst h
          refine s_val 55 rfl rfl (.agg (idA (L.getD j zE).b)) (ldEb _ rfl g2 rfl (kg2)) ?_
          refine nr ?_; intro U h; simp only [z0, z1] at h; subst h
          refine s_val 56 rfl rfl (.pointer (some ⟨g2, 0, none⟩)) (run_fld 57 _ 0 rfl g2 0 rfl 0 (by kernel_rfl)) ?_
          refine nr ?_; intro U h; simp only [z0, z1] at h; subst h
          refine s_val 57 rfl rfl (.agg (paA (L.getD j zE).p)) (ldEp _ rfl g2 rfl (kg2)) ?_
          refine nr ?_; intro U h; simp only [z0, z1] at h; subst h
          refine s_val 58 rfl rfl (.pointer (some ⟨g2, 50, none⟩)) (run_fld 57 _ 4 rfl g2 0 rfl 50 (by kernel_rfl)) ?_
          refine nr ?_; intro U h; simp only [z0, z1] at h; subst h
          refine s_val 59 rfl rfl (.int .i64 (L.getD j zE).nb) (ldEnb _ rfl g2 rfl (kg2)) ?_
          refine nr ?_; intro U h; simp only [z0, z1] at h; subst h
          refine s_val 60 rfl rfl (.agg (chA (mkC (L.getD j zE).b false (L.getD j zE).p (L.getD j zE).nb))) (run_bd 40 _ rfl [(0, .agg (idA (L.getD j zE).b)), (2, .agg (paA (L.getD j zE).p)), (3, .int .i64 (L.getD j zE).nb)] rfl _ (bdC023 _ _ _ _)) ?_
          refine nr ?_; intro U h; simp only [z0, z1] at h; subst h
          refine s_bsl 61 rfl rfl 32 1 _ rfl [(0, .agg (chA (mkC (L.getD j zE).b false (L.getD j zE).p (L.getD j zE).nb)))] rfl ([(mkC (L.getD j zE).b false (L.getD j zE).p (L.getD j zE).nb)].flatMap kC.E).toArray 40 (bsC (mkC (L.getD j zE).b false (L.getD j zE).p (L.getD j zE).nb) _) ?_
          intro w6 q8 G eq8 kq8
          have bq8 := size_base GG eq8
          replace kg2 := G.has kg2
          replace HO := HO.gro G
          replace HO7 := HO7.gro G
          replace GG := GG.trans G
          clear G
          have HR8 : RK kC _ (some ⟨q8, 0, none⟩) 1 [(mkC (L.getD j zE).b false (L.getD j zE).p (L.getD j zE).nb)] := RK.blk kq8 (one_all (mkC_ok (HAll.at hjl).b (HAll.at hjl).p (HAll.at hjl).nb)) (Nat.le_refl _)
          clear eq8
          refine nr ?_; intro U h; simp only [z0, z1] at h; subst h
          refine s_appK rC (by decide) (by decide) 62 rfl rfl _ _ rfl rfl HO rfl HR8 (by simp only [List.length_cons, List.length_nil]; omega) GG.size ?_
          intro ao4 cap4 w7 HO2 G2 _
          replace kg2 := G2.has kg2 (HO.own.ne kg2 (by decide))
          replace HO7 := HO7.apK HO G2 (by decide)
          replace GG := G2.gro GG (fun k hk => HO.own.base k hk)
          clear G2 HO
          have HO := HO2
          clear HO2
          refine nr ?_; intro U h; simp only [z0, z1] at h; subst h
          refine s_val 7 rfl rfl (.slice ao4 (l5 ++ [(mkC (L.getD j zE).b false (L.getD j zE).p (L.getD j zE).nb)]).length cap4) (rfl) ?_
          refine nr ?_; intro U h; simp only [z0, z1] at h; subst h
          refine wpList_nil ?_
          refine blk_n ?_
          refine then_n ?_
          refine wp_region_lit ?_
          refine s_val 63 rfl rfl (.int .i64 ((j + 1 : Nat) : Int)) (run_addI 3 _ _ _ rfl ((j : Nat) : Int) 1 ((j + 1 : Nat) : Int) rfl rfl (by omega) (by omega) (by omega) _) ?_
          refine nr ?_; intro U h; simp only [z0, z1] at h; subst h
          refine s_val 33 rfl rfl (.int .i64 ((j + 1 : Nat) : Int)) (rfl) ?_
          refine nr ?_; intro U h; simp only [z0, z1] at h; subst h
          refine wpList_nil ?_
          refine then_n ?_
          exact ⟨L.length + 1 - (j + 1), by omega, j + 1, ao4, cap4, l5 ++ [mkC (L.getD j zE).b false (L.getD j zE).p (L.getD j zE).nb], (fun kz => ([.pointer (some ⟨g2, 0, none⟩), .bool true, .pointer (pE ao7 j 0), .agg (enA (L.getD j zE)), .pointer (some ⟨g2, 49, none⟩), .int .i64 (L.getD j zE).na, .bool false, us2 7, us2 8, us2 9, us2 10, us2 11, us2 12, us2 13, us2 14, us2 15, us2 16, .pointer (some ⟨g2, 50, none⟩), .int .i64 (L.getD j zE).nb, .bool true, .slice ao5 l5.length cap5, .pointer (some ⟨g2, 33, none⟩), .agg (idA (L.getD j zE).b), .pointer (some ⟨g2, 0, none⟩), .agg (paA (L.getD j zE).p), .pointer (some ⟨g2, 50, none⟩), .int .i64 (L.getD j zE).nb, .agg (chA (mkC (L.getD j zE).b false (L.getD j zE).p (L.getD j zE).nb)), .slice (some ⟨q8, 0, none⟩) 1 1, .slice ao4 (l5 ++ [(mkC (L.getD j zE).b false (L.getD j zE).p (L.getD j zE).nb)]).length cap4, .int .i64 ((j + 1 : Nat) : Int)] : List Value).getD kz undef), rfl, rfl, by omega, GG, HO, HO7, kn_step hl5 hjl (by unfold ends; rw [if_neg (of_decide_eq_false hna), if_pos (of_decide_eq_true hnb)]; rfl)⟩
      · refine s_val 39 rfl rfl (.bool true) (run_geqT 3 _ _ _ rfl (L.getD j zE).na 0 rfl rfl true hna _) ?_
        refine nr ?_; intro U h; simp only [z0, z1] at h; subst h
        refine wpList_nil ?_
        refine then_n ?_
        refine wp_cond_true rfl ?_
        refine wp_region_lit ?_
        refine s_val 40 rfl rfl (.slice ao5 l5.length cap5) (rfl) ?_
        refine nr ?_; intro U h; simp only [z0, z1] at h; subst h
        refine s_val 41 rfl rfl (.pointer (some ⟨g2, 17, none⟩)) (run_fld 57 _ 1 rfl g2 0 rfl 17 (by kernel_rfl)) ?_
        refine nr ?_; intro U h; simp only [z0, z1] at h; subst h
        refine s_val 42 rfl rfl (.agg (idA (L.getD j zE).a)) (ldEa _ rfl g2 rfl (kg2)) ?_
        refine nr ?_; intro U h; simp only [z0, z1] at h; subst h
        refine s_val 43 rfl rfl (.pointer (some ⟨g2, 0, none⟩)) (run_fld 57 _ 0 rfl g2 0 rfl 0 (by kernel_rfl)) ?_
        refine nr ?_; intro U h; simp only [z0, z1] at h; subst h
        refine s_val 44 rfl rfl (.agg (paA (L.getD j zE).p)) (ldEp _ rfl g2 rfl (kg2)) ?_
        refine nr ?_; intro U h; simp only [z0, z1] at h; subst h
        refine s_val 45 rfl rfl (.pointer (some ⟨g2, 49, none⟩)) (run_fld 57 _ 3 rfl g2 0 rfl 49 (by kernel_rfl)) ?_
        refine nr ?_; intro U h; simp only [z0, z1] at h; subst h
        refine s_val 46 rfl rfl (.int .i64 (L.getD j zE).na) (ldEna _ rfl g2 rfl (kg2)) ?_
        refine nr ?_; intro U h; simp only [z0, z1] at h; subst h
        refine s_val 47 rfl rfl (.agg (chA (mkC (L.getD j zE).a false (L.getD j zE).p (L.getD j zE).na))) (run_bd 40 _ rfl [(0, .agg (idA (L.getD j zE).a)), (2, .agg (paA (L.getD j zE).p)), (3, .int .i64 (L.getD j zE).na)] rfl _ (bdC023 _ _ _ _)) ?_
        refine nr ?_; intro U h; simp only [z0, z1] at h; subst h
        refine s_bsl 48 rfl rfl 32 1 _ rfl [(0, .agg (chA (mkC (L.getD j zE).a false (L.getD j zE).p (L.getD j zE).na)))] rfl ([(mkC (L.getD j zE).a false (L.getD j zE).p (L.getD j zE).na)].flatMap kC.E).toArray 40 (bsC (mkC (L.getD j zE).a false (L.getD j zE).p (L.getD j zE).na) _) ?_
        intro w6 q8 G eq8 kq8
        have bq8 := size_base GG eq8
        replace kg2 := G.has kg2
        replace HO := HO.gro G
        replace HO7 := HO7.gro G
        replace GG := GG.trans G
        clear G
        have HR8 : RK kC _ (some ⟨q8, 0, none⟩) 1 [(mkC (L.getD j zE).a false (L.getD j zE).p (L.getD j zE).na)] := RK.blk kq8 (one_all (mkC_ok (HAll.at hjl).a (HAll.at hjl).p (HAll.at hjl).na)) (Nat.le_refl _)
        clear eq8
        refine nr ?_; intro U h; simp only [z0, z1] at h; subst h
        refine s_appK rC (by decide) (by decide) 49 rfl rfl _ _ rfl rfl HO rfl HR8 (by simp only [List.length_cons, List.length_nil]; omega) GG.size ?_
        intro ao3 cap3 w7 HO2 G2 _
        replace kg2 := G2.has kg2 (HO.own.ne kg2 (by decide))
        replace HO7 := HO7.apK HO G2 (by decide)
        replace GG := G2.gro GG (fun k hk => HO.own.base k hk)
        clear G2 HO
        have HO := HO2
        clear HO2
        refine nr ?_; intro U h; simp only [z0, z1] at h; subst h
        refine s_val 7 rfl rfl (.slice ao3 (l5 ++ [(mkC (L.getD j zE).a false (L.getD j zE).p (L.getD j zE).na)]).length cap3) (rfl) ?_
        refine nr ?_; intro U h; simp only [z0, z1] at h; subst h
        refine wpList_nil ?_
        refine then_n ?_
        refine wp_seq ?_
        refine wp_region_lit ?_
        refine s_val 50 rfl rfl (.pointer (some ⟨g2, 50, none⟩)) (run_fld 57 _ 4 rfl g2 0 rfl 50 (by kernel_rfl)) ?_
        refine nr ?_; intro U h; simp only [z0, z1] at h; subst h
        refine s_val 51 rfl rfl (.int .i64 (L.getD j zE).nb) (ldEnb _ rfl g2 rfl (kg2)) ?_
        refine nr ?_; intro U h; simp only [z0, z1] at h; subst h
        cases hnb : decide (0 ≤ (L.getD j zE).nb)
        · refine s_val 52 rfl rfl (.bool false) (run_geqT 3 _ _ _ rfl (L.getD j zE).nb 0 rfl rfl false hnb _) ?_
          refine nr ?_; intro U h; simp only [z0, z1] at h; subst h
          refine wpList_nil ?_
          refine then_n ?_
          refine wp_cond_false rfl ?_
          refine wp_skip ?_
          refine blk_n ?_
          refine then_n ?_
          refine wp_region_lit ?_
          refine s_val 63 rfl rfl (.int .i64 ((j + 1 : Nat) : Int)) (run_addI 3 _ _ _ rfl ((j : Nat) : Int) 1 ((j + 1 : Nat) : Int) rfl rfl (by omega) (by omega) (by omega) _) ?_
          refine nr ?_; intro U h; simp only [z0, z1] at h; subst h
          refine s_val 33 rfl rfl (.int .i64 ((j + 1 : Nat) : Int)) (rfl) ?_
          refine nr ?_; intro U h; simp only [z0, z1] at h; subst h
          refine wpList_nil ?_
          refine then_n ?_
          exact ⟨L.length + 1 - (j + 1), by omega, j + 1, ao3, cap3, l5 ++ [mkC (L.getD j zE).a false (L.getD j zE).p (L.getD j zE).na], (fun kz => ([.pointer (some ⟨g2, 0, none⟩), .bool true, .pointer (pE ao7 j 0), .agg (enA (L.getD j zE)), .pointer (some ⟨g2, 49, none⟩), .int .i64 (L.getD j zE).na, .bool true, .slice ao5 l5.length cap5, .pointer (some ⟨g2, 17, none⟩), .agg (idA (L.getD j zE).a), .pointer (some ⟨g2, 0, none⟩), .agg (paA (L.getD j zE).p), .pointer (some ⟨g2, 49, none⟩), .int .i64 (L.getD j zE).na, .agg (chA (mkC (L.getD j zE).a false (L.getD j zE).p (L.getD j zE).na)), .slice (some ⟨q8, 0, none⟩) 1 1, .slice ao3 (l5 ++ [(mkC (L.getD j zE).a false (L.getD j zE).p (L.getD j zE).na)]).length cap3, .pointer (some ⟨g2, 50, none⟩), .int .i64 (L.getD j zE).nb, .bool false, us2 20, us2 21, us2 22, us2 23, us2 24, us2 25, us2 26, us2 27, us2 28, us2 29, .int .i64 ((j + 1 : Nat) : Int)] : List Value).getD kz undef), rfl, rfl, by omega, GG, HO, HO7, kn_step hl5 hjl (by unfold ends; rw [if_pos (of_decide_eq_true hna), if_neg (of_decide_eq_false hnb)]; rfl)⟩
        · refine s_val 52 rfl rfl (.bool true) (run_geqT 3 _ _ _ rfl (L.getD j zE).nb 0 rfl rfl true hnb _) ?_
          refine nr ?_; intro U h; simp only [z0, z1] at h; subst h
          refine wpList_nil ?_
          refine then_n ?_
          refine wp_cond_true rfl ?_
          refine wp_region_lit ?_
          refine s_val 53 rfl rfl (.slice ao3 (l5 ++ [(mkC (L.getD j zE).a false (L.getD j zE).p (L.getD j zE).na)]).length cap3) (rfl) ?_
          refine nr ?_; intro U h; simp only [z0, z1] at h; subst h
          refine s_val 54 rfl rfl (.pointer (some ⟨g2, 33, none⟩)) (run_fld 57 _ 2 rfl g2 0 rfl 33 (by kernel_rfl)) ?_
          refine nr ?_; intro U h; simp only [z0, z1] at h; subst h
          refine s_val 55 rfl rfl (.agg (idA (L.getD j zE).b)) (ldEb _ rfl g2 rfl (kg2)) ?_
          refine nr ?_; intro U h; simp only [z0, z1] at h; subst h
          refine s_val 56 rfl rfl (.pointer (some ⟨g2, 0, none⟩)) (run_fld 57 _ 0 rfl g2 0 rfl 0 (by kernel_rfl)) ?_
          refine nr ?_; intro U h; simp only [z0, z1] at h; subst h
          refine s_val 57 rfl rfl (.agg (paA (L.getD j zE).p)) (ldEp _ rfl g2 rfl (kg2)) ?_
          refine nr ?_; intro U h; simp only [z0, z1] at h; subst h
          refine s_val 58 rfl rfl (.pointer (some ⟨g2, 50, none⟩)) (run_fld 57 _ 4 rfl g2 0 rfl 50 (by kernel_rfl)) ?_
          refine nr ?_; intro U h; simp only [z0, z1] at h; subst h
          refine s_val 59 rfl rfl (.int .i64 (L.getD j zE).nb) (ldEnb _ rfl g2 rfl (kg2)) ?_
          refine nr ?_; intro U h; simp only [z0, z1] at h; subst h
          refine s_val 60 rfl rfl (.agg (chA (mkC (L.getD j zE).b false (L.getD j zE).p (L.getD j zE).nb))) (run_bd 40 _ rfl [(0, .agg (idA (L.getD j zE).b)), (2, .agg (paA (L.getD j zE).p)), (3, .int .i64 (L.getD j zE).nb)] rfl _ (bdC023 _ _ _ _)) ?_
          refine nr ?_; intro U h; simp only [z0, z1] at h; subst h
          refine s_bsl 61 rfl rfl 32 1 _ rfl [(0, .agg (chA (mkC (L.getD j zE).b false (L.getD j zE).p (L.getD j zE).nb)))] rfl ([(mkC (L.getD j zE).b false (L.getD j zE).p (L.getD j zE).nb)].flatMap kC.E).toArray 40 (bsC (mkC (L.getD j zE).b false (L.getD j zE).p (L.getD j zE).nb) _) ?_
          intro w8 q9 G eq9 kq9
          have bq9 := size_base GG eq9
          replace kg2 := G.has kg2
          replace HO := HO.gro G
          replace HO7 := HO7.gro G
          replace GG := GG.trans G
          clear G
          have HR9 : RK kC _ (some ⟨q9, 0, none⟩) 1 [(mkC (L.getD j zE).b false (L.getD j zE).p (L.getD j zE).nb)] := RK.blk kq9 (one_all (mkC_ok (HAll.at hjl).b (HAll.at hjl).p (HAll.at hjl).nb)) (Nat.le_refl _)
          clear eq9
          refine nr ?_; intro U h; simp only [z0, z1] at h; subst h
          refine s_appK rC (by decide) (by decide) 62 rfl rfl _ _ rfl rfl HO rfl HR9 (by simp only [List.length_append, List.length_cons, List.length_nil]; omega) GG.size ?_
          intro ao4 cap4 w9 HO2 G2 _
          replace kg2 := G2.has kg2 (HO.own.ne kg2 (by decide))
          replace HO7 := HO7.apK HO G2 (by decide)
          replace GG := G2.gro GG (fun k hk => HO.own.base k hk)
          clear G2 HO
          have HO := HO2
          clear HO2
          refine nr ?_; intro U h; simp only [z0, z1] at h; subst h
          refine s_val 7 rfl rfl (.slice ao4 ((l5 ++ [(mkC (L.getD j zE).a false (L.getD j zE).p (L.getD j zE).na)]) ++ [(mkC (L.getD j zE).b false (L.getD j zE).p (L.getD j zE).nb)]).length cap4) (rfl) ?_
          refine nr ?_; intro U h; simp only [z0, z1] at h; subst h
          refine wpList_nil ?_
          refine blk_n ?_
          refine then_n ?_
          refine wp_region_lit ?_
          refine s_val 63 rfl rfl (.int .i64 ((j + 1 : Nat) : Int)) (run_addI 3 _ _ _ rfl ((j : Nat) : Int) 1 ((j + 1 : Nat) : Int) rfl rfl (by omega) (by omega) (by omega) _) ?_
          refine nr ?_; intro U h; simp only [z0, z1] at h; subst h
          refine s_val 33 rfl rfl (.int .i64 ((j + 1 : Nat) : Int)) (rfl) ?_
          refine nr ?_; intro U h; simp only [z0, z1] at h; subst h
          refine wpList_nil ?_
          refine then_n ?_
          exact ⟨L.length + 1 - (j + 1), by omega, j + 1, ao4, cap4, (l5 ++ [mkC (L.getD j zE).a false (L.getD j zE).p (L.getD j zE).na]) ++ [mkC (L.getD j zE).b false (L.getD j zE).p (L.getD j zE).nb], (fun kz => ([.pointer (some ⟨g2, 0, none⟩), .bool true, .pointer (pE ao7 j 0), .agg (enA (L.getD j zE)), .pointer (some ⟨g2, 49, none⟩), .int .i64 (L.getD j zE).na, .bool true, .slice ao5 l5.length cap5, .pointer (some ⟨g2, 17, none⟩), .agg (idA (L.getD j zE).a), .pointer (some ⟨g2, 0, none⟩), .agg (paA (L.getD j zE).p), .pointer (some ⟨g2, 49, none⟩), .int .i64 (L.getD j zE).na, .agg (chA (mkC (L.getD j zE).a false (L.getD j zE).p (L.getD j zE).na)), .slice (some ⟨q8, 0, none⟩) 1 1, .slice ao3 (l5 ++ [(mkC (L.getD j zE).a false (L.getD j zE).p (L.getD j zE).na)]).length cap3, .pointer (some ⟨g2, 50, none⟩), .int .i64 (L.getD j zE).nb, .bool true, .slice ao3 (l5 ++ [(mkC (L.getD j zE).a false (L.getD j zE).p (L.getD j zE).na)]).length cap3, .pointer (some ⟨g2, 33, none⟩), .agg (idA (L.getD j zE).b), .pointer (some ⟨g2, 0, none⟩), .agg (paA (L.getD j zE).p), .pointer (some ⟨g2, 50, none⟩), .int .i64 (L.getD j zE).nb, .agg (chA (mkC (L.getD j zE).b false (L.getD j zE).p (L.getD j zE).nb)), .slice (some ⟨q9, 0, none⟩) 1 1, .slice ao4 ((l5 ++ [(mkC (L.getD j zE).a false (L.getD j zE).p (L.getD j zE).na)]) ++ [(mkC (L.getD j zE).b false (L.getD j zE).p (L.getD j zE).nb)]).length cap4, .int .i64 ((j + 1 : Nat) : Int)] : List Value).getD kz undef), rfl, rfl, by omega, GG, HO, HO7, by rw [List.append_assoc]; exact kn_step hl5 hjl (by unfold ends; rw [if_pos (of_decide_eq_true hna), if_pos (of_decide_eq_true hnb)]; rfl)⟩
  · have hil : i < N.length := by have := of_decide_eq_true hi1; omega
    refine s_val 18 rfl rfl (.bool true) (run_lssT 3 _ _ _ rfl ((i : Nat) : Int) ((N.length : Nat) : Int) rfl rfl true hi1 _) ?_
    refine nr ?_; intro U h; simp only [z0, z1] at h; subst h
    refine wpList_nil ?_
    refine then_n ?_
    refine wp_seq ?_
    refine wp_cond_true rfl ?_
    refine wp_skip ?_
    refine then_n ?_
    refine wp_seq ?_
    refine wp_block ?_
    refine wp_seq ?_
    refine wp_region_lit ?_
    refine s_val 19 rfl rfl (.pointer (pK kN an i 0)) (run_ixK rN (HN.gro GG) _ _ rfl rfl i rfl (by omega)) ?_
    refine nr ?_; intro U h; simp only [z0, z1] at h; subst h
    refine s_val 20 rfl rfl (.agg (nrA (N.getD i zN))) (run_ldKN (HN.gro GG) _ rfl i rfl (by omega)) ?_
    refine nr ?_; intro U h; simp only [z0, z1] at h; subst h
    refine s_alloc 9 rfl rfl 55 rfl _ zeroN (nrA zN) rfl ?_
    intro w3 g2 G eg2 kg2
    have bg2 := size_base GG eg2
    have dHOg2 := HO.ne eg2
    replace HO := HO.gro G
    replace GG := GG.trans G
    clear G
    clear eg2
    refine nr ?_; intro U h; simp only [z0, z1] at h; subst h
    refine s_store rfl rfl 55 _ _ rfl g2 0 rfl (.agg (nrA (N.getD i zN))) rfl 55 _ kg2 (nrA (N.getD i zN)) rfl (siN' _) (nrA_fit _ _) (nrA_one _) (nrA (N.getD i zN)) (splice_whole _ _ (nrA_sz _ _)) ?_
    intro w4 St
    have kS := kg2
    replace HO := HO.st St dHOg2
    replace GG := GG.store St bg2
    replace kg2 := St.new
    clear St
    refine wpList_nil ?_
    refine then_n ?_
    refine wp_region_lit ?_
    refine s_val 21 rfl rfl (.slice ao1 l2.length cap1) (rfl) ?_
    refine nr ?_; intro U h; simp only [z0, z1] at h; subst h
    refine s_val 22 rfl rfl (.pointer (some ⟨g2, 1, none⟩)) (run_fld 55 _ 1 rfl g2 0 rfl 1 (by kernel_rfl)) ?_
    refine nr ?_; intro U h; simp only [z0, z1] at h; subst h
    refine s_val 23 rfl rfl (.agg (idA (N.getD i zN).id)) (ldRi _ rfl g2 rfl (kg2)) ?_
    refine nr ?_; intro U h; simp only [z0, z1] at h; subst h
    refine s_val 24 rfl rfl (.pointer (some ⟨g2, 0, none⟩)) (run_fld 55 _ 0 rfl g2 0 rfl 0 (by kernel_rfl)) ?_
    refine nr ?_; intro U h; simp only [z0, z1] at h; subst h
    refine s_val 25 rfl rfl (.int .i64 (N.getD i zN).n) (ldRn _ rfl g2 rfl (kg2)) ?_
    refine nr ?_; intro U h; simp only [z0, z1] at h; subst h
    refine s_val 26 rfl rfl (.agg (chA (mkC (N.getD i zN).id true zP (N.getD i zN).n))) (run_bd 40 _ rfl [(0, .agg (idA (N.getD i zN).id)), (1, .bool true), (3, .int .i64 (N.getD i zN).n)] rfl _ (bdC013 _ _ _ _)) ?_
    refine nr ?_; intro U h; simp only [z0, z1] at h; subst h
    refine s_bsl 27 rfl rfl 32 1 _ rfl [(0, .agg (chA (mkC (N.getD i zN).id true zP (N.getD i zN).n)))] rfl ([(mkC (N.getD i zN).id true zP (N.getD i zN).n)].flatMap kC.E).toArray 40 (bsC (mkC (N.getD i zN).id true zP (N.getD i zN).n) _) ?_
    intro w5 q7 G eq7 kq7
    have bq7 := size_base GG eq7
    replace kg2 := G.has kg2
    replace HO := HO.gro G
    replace GG := GG.trans G
    clear G
    have HR7 : RK kC _ (some ⟨q7, 0, none⟩) 1 [(mkC (N.getD i zN).id true zP (N.getD i zN).n)] := RK.blk kq7 (one_all (mkC_ok (atN HN.all hil).id zP_ok (atN HN.all hil).n)) (Nat.le_refl _)
    clear eq7
    refine nr ?_; intro U h; simp only [z0, z1] at h; subst h
    refine s_appK rC (by decide) (by decide) 28 rfl rfl _ _ rfl rfl HO rfl HR7 (by have := nk_len hl2 hil; simp only [List.length_cons, List.length_nil]; omega) GG.size ?_
    intro ao2 cap2 w6 HO2 G2 _
    replace kg2 := G2.has kg2 (HO.own.ne kg2 (by decide))
    replace GG := G2.gro GG (fun k hk => HO.own.base k hk)
    clear G2 HO
    have HO := HO2
    clear HO2
    refine nr ?_; intro U h; simp only [z0, z1] at h; subst h
    refine s_val 7 rfl rfl (.slice ao2 (l2 ++ [(mkC (N.getD i zN).id true zP (N.getD i zN).n)]).length cap2) (rfl) ?_
    refine nr ?_; intro U h; simp only [z0, z1] at h; subst h
    refine wpList_nil ?_
    refine blk_n ?_
    refine then_n ?_
    refine wp_region_lit ?_
    refine s_val 29 rfl rfl (.int .i64 ((i + 1 : Nat) : Int)) (run_addI 3 _ _ _ rfl ((i : Nat) : Int) 1 ((i + 1 : Nat) : Int) rfl rfl (by omega) (by omega) (by omega) _) ?_
    refine nr ?_; intro U h; simp only [z0, z1] at h; subst h
    refine s_val 17 rfl rfl (.int .i64 ((i + 1 : Nat) : Int)) (rfl) ?_
    refine nr ?_; intro U h; simp only [z0, z1] at h; subst h
    refine wpList_nil ?_
    refine then_n ?_
    exact ⟨N.length + 1 - (i + 1), by omega, i + 1, ao2, cap2, l2 ++ [mkC (N.getD i zN).id true zP (N.getD i zN).n], (fun kz => ([.pointer (some ⟨g2, 0, none⟩), .bool true, .pointer (pK kN an i 0), .agg (nrA (N.getD i zN)), .slice ao1 l2.length cap1, .pointer (some ⟨g2, 1, none⟩), .agg (idA (N.getD i zN).id), .pointer (some ⟨g2, 0, none⟩), .int .i64 (N.getD i zN).n, .agg (chA (mkC (N.getD i zN).id true zP (N.getD i zN).n)), .slice (some ⟨q7, 0, none⟩) 1 1, .slice ao2 (l2 ++ [(mkC (N.getD i zN).id true zP (N.getD i zN).n)]).length cap2, .int .i64 ((i + 1 : Nat) : Int)] : List Value).getD kz undef), rfl, rfl, by omega, GG, HO, nk_step hl2 hil⟩
set_option maxRecDepth 100000 in
set_option maxHeartbeats 4000000 in
theorem rknown_any (w : World) (s : Nat) (hs : s < top) (an : Option Addr) (cn : Nat) (N : List Nr) (HN : RK kN w an cn N) (hNl : N.length ≤ 600000) (ao : Option Addr) (cap : Nat) (L : List En) (HL : RE w ao cap L) (hlen : L.length ≤ 1000) : Calls Try.prog 12 #[.agg (idA s), .slice an N.length cn, .slice ao L.length cap] w (RowK kC 42 w (knw s N L)) := by
  refine s_enter Try.func12 rfl Try.ntmps12 [.agg (idA s), .slice an N.length cn, .slice ao L.length cap] [.agg (idA s), .slice an N.length cn, .slice ao L.length cap, undef, undef, undef, undef, undef, undef, undef, undef, undef, undef, undef, undef, undef, undef, undef, undef, undef, undef, undef, undef, undef, undef, undef, undef, undef, undef, undef, undef, undef, undef, undef, undef, undef, undef, undef, undef, undef, undef, undef, undef, undef, undef, undef, undef, undef, undef, undef, undef, undef, undef, undef, undef, undef, undef, undef, undef, undef, undef, undef, undef, undef, undef, undef, undef, undef, undef, undef, undef, undef, undef, undef, undef, undef, undef, undef, undef, undef, undef, undef, undef, undef, undef, undef, undef, undef, undef, undef] rfl ?_
  have GG := Gro.refl w
  have HAll := HL.all
  refine wp_seq ?_
  refine wp_region_lit ?_
  refine s_box 3 rfl rfl 23 _ rfl _ rfl (idA s) rfl ?_
  intro w1 g1 G eg1 kg1
  have bg1 := size_base GG eg1
  replace GG := GG.trans G
  clear G
  clear eg1
  refine nr ?_; intro U h; simp only [z0, z1] at h; subst h
  refine s_val 6 rfl rfl (.slice none 0 0) (rfl) ?_
  refine nr ?_; intro U h; simp only [z0, z1] at h; subst h
  refine wpList_nil ?_
  refine then_n ?_
  refine wp_seq ?_
  refine wp_region_lit ?_
  refine s_val 10 rfl rfl (.agg (idA s)) (ldI0 _ rfl g1 rfl (kg1)) ?_
  refine nr ?_; intro U h; simp only [z0, z1] at h; subst h
  refine s_val 11 rfl rfl (.agg (chA (mkC s false zP (-1)))) (run_bd 42 _ rfl [(0, .agg (idA s)), (3, .int .i64 (-1))] rfl _ (bdD03 _ _ _)) ?_
  refine nr ?_; intro U h; simp only [z0, z1] at h; subst h
  refine s_bsl 12 rfl rfl 34 1 _ rfl [(0, .agg (chA (mkC s false zP (-1))))] rfl ([(mkC s false zP (-1))].flatMap kC.E).toArray 42 (bsD (mkC s false zP (-1)) _) ?_
  intro w2 q21 G eq21 kq21
  have bq21 := size_base GG eq21
  replace kg1 := G.has kg1
  replace GG := GG.trans G
  clear G
  have HR21 : RK kC _ (some ⟨q21, 0, none⟩) 1 [(mkC s false zP (-1))] := RK.blk kq21 (one_all (mkC_ok hs zP_ok m1_i64)) (Nat.le_refl _)
  clear eq21
  refine nr ?_; intro U h; simp only [z0, z1] at h; subst h
  refine s_val 7 rfl rfl (.slice (some ⟨q21, 0, none⟩) 1 1) (rfl) ?_
  refine nr ?_; intro U h; simp only [z0, z1] at h; subst h
  refine wpList_nil ?_
  refine then_n ?_
  refine wp_seq ?_
  refine wp_seq ?_
  refine wp_region_lit ?_
  refine s_val 8 rfl rfl (.int .i64 0) (rfl) ?_
  refine nr ?_; intro U h; simp only [z0, z1] at h; subst h
  refine wpList_nil ?_
  refine then_n ?_
  refine wp_block ?_
  refine wp_loopN (fun mz az wv => ∃ (i : Nat) (ao1 : Option Addr) (cap1 : Nat) (l2 : List Ch) (us1 : Nat → Value), mz = N.length + 1 - i ∧ az = ⟨[.agg (idA s), .slice an N.length cn, .slice ao L.length cap, .pointer (some ⟨g1, 0, none⟩), undef, undef, .slice none 0 0, .slice ao1 l2.length cap1, .int .i64 ((i : Nat) : Int), undef, .agg (idA s), .agg (chA (mkC s false zP (-1))), .slice (some ⟨q21, 0, none⟩) 1 1, us1 0, us1 1, us1 2, us1 3, us1 4, us1 5, us1 6, us1 7, us1 8, us1 9, us1 10, us1 11, us1 12, us1 13, us1 14, us1 15, us1 16, us1 17, us1 18, us1 19, undef, undef, undef, undef, undef, undef, undef, undef, undef, undef, undef, undef, undef, undef, undef, undef, undef, undef, undef, undef, undef, undef, undef, undef, undef, undef, undef, undef, undef, undef, undef, undef, undef, undef, undef, undef, undef, undef, undef, undef, undef, undef, undef, undef, undef, undef, undef, undef, undef, undef, undef, undef, undef, undef, undef, undef, undef].toArray, []⟩ ∧ i ≤ N.length ∧ Gro w wv ∧ OW kC 42 wv w.heap.size ao1 cap1 l2 ∧ l2 = selfC s :: (N.take i).map nearC) ?_ _ ⟨0, (some ⟨q21, 0, none⟩), 1, [(mkC s false zP (-1))], (fun kz => ([undef, undef, undef, undef, undef, undef, undef, undef, undef, undef, undef, undef, undef, undef, undef, undef, undef, undef, undef, undef] : List Value).getD kz undef), rfl, rfl, Nat.zero_le _, GG, OW.blk kq21 (one_all (mkC_ok hs zP_ok m1_i64)) bq21 (Nat.le_of_ble_eq_true rfl), rfl⟩
  clear GG
  rintro mz az wv ⟨i, ao1, cap1, l2, us1, rfl, rfl, hi, GG, HO, hl2⟩
  refine wp_seq ?_
  refine wp_seq ?_
  refine wp_region_lit ?_
  refine s_val 13 rfl rfl (.int .i64 ((i : Nat) : Int)) (rfl) ?_
  refine nr ?_; intro U h; simp only [z0, z1] at h; subst h
  refine s_val 14 rfl rfl (.slice an N.length cn) (rfl) ?_
  refine nr ?_; intro U h; simp only [z0, z1] at h; subst h
  refine s_val 15 rfl rfl (.int .i64 ((N.length : Nat) : Int)) (run_len Try.underlying24 _ rfl _ _ _ rfl _) ?_
  refine nr ?_; intro U h; simp only [z0, z1] at h; subst h
  cases hi1 : decide (((i : Nat) : Int) < ((N.length : Nat) : Int))
  · have hie : i = N.length := by have := of_decide_eq_false hi1; omega
    refine s_val 16 rfl rfl (.bool false) (run_lssT 3 _ _ _ rfl ((i : Nat) : Int) ((N.length : Nat) : Int) rfl rfl false hi1 _) ?_
    refine nr ?_; intro U h; simp only [z0, z1] at h; subst h
    refine wpList_nil ?_
    refine then_n ?_
    refine wp_cond_false rfl ?_
    refine wp_exit ?_
    refine then_x ?_
    refine then_x ?_
    refine blk_x ?_
    refine then_n ?_
    refine wp_seq ?_
    refine wp_seq ?_
    refine wp_region_lit ?_
    refine s_val 9 rfl rfl (.int .i64 0) (rfl) ?_
    refine nr ?_; intro U h; simp only [z0, z1] at h; subst h
    refine wpList_nil ?_
    refine then_n ?_
    refine wp_block ?_
    refine wp_loopN (fun mz az wv => ∃ (j : Nat) (ao5 : Option Addr) (cap5 : Nat) (l5 : List Ch) (us2 : Nat → Value), mz = L.length + 1 - j ∧ az = ⟨[.agg (idA s), .slice an N.length cn, .slice ao L.length cap, .pointer (some ⟨g1, 0, none⟩), undef, undef, .slice none 0 0, .slice ao5 l5.length cap5, .int .i64 ((i : Nat) : Int), .int .i64 ((j : Nat) : Int), .agg (idA s), .agg (chA (mkC s false zP (-1))), .slice (some ⟨q21, 0, none⟩) 1 1, .int .i64 ((i : Nat) : Int), .slice an N.length cn, .int .i64 ((N.length : Nat) : Int), .bool false, us1 4, us1 5, us1 6, us1 7, us1 8, us1 9, us1 10, us1 11, us1 12, us1 13, us1 14, us1 15, us1 16, us1 17, us1 18, us1 19, us2 0, us2 1, us2 2, us2 3, us2 4, us2 5, us2 6, us2 7, us2 8, us2 9, us2 10, us2 11, us2 12, us2 13, us2 14, us2 15, us2 16, us2 17, us2 18, us2 19, us2 20, us2 21, us2 22, us2 23, us2 24, us2 25, us2 26, us2 27, us2 28, us2 29, us2 30, us2 31, us2 32, us2 33, us2 34, us2 35, us2 36, us2 37, us2 38, us2 39, us2 40, us2 41, us2 42, us2 43, us2 44, us2 45, us2 46, us2 47, us2 48, us2 49, us2 50, us2 51, us2 52, us2 53, us2 54, us2 55, undef].toArray, []⟩ ∧ j ≤ L.length ∧ Gro w wv ∧ OW kC 42 wv w.heap.size ao5 cap5 l5 ∧ l5 = (selfC s :: N.map nearC) ++ (L.take j).flatMap ends) ?_ _ ⟨0, ao1, cap1, l2, (fun kz => ([undef, undef, undef, undef, undef, undef, undef, undef, undef, undef, undef, undef, undef, undef, undef, undef, undef, undef, undef, undef, undef, undef, undef, undef, undef, undef, undef, undef, undef, undef, undef, undef, undef, undef, undef, undef, undef, undef, undef, undef, undef, undef, undef, undef, undef, undef, undef, undef, undef, undef, undef, undef, undef, undef, undef, undef] : List Value).getD kz undef), rfl, rfl, Nat.zero_le _, GG, HO, by rw [hl2, hie, List.take_length, List.take_zero, List.flatMap_nil, List.append_nil]⟩
    clear GG HO
    rintro mz az wv ⟨j, ao5, cap5, l5, us2, rfl, rfl, hj, GG, HO, hl5⟩
    have hkl := kn_len hl5 hNl hlen
    refine wp_seq ?_
    refine wp_seq ?_
    refine wp_region_lit ?_
    refine s_val 33 rfl rfl (.int .i64 ((j : Nat) : Int)) (rfl) ?_
    refine nr ?_; intro U h; simp only [z0, z1] at h; subst h
    refine s_val 34 rfl rfl (.slice ao L.length cap) (rfl) ?_
    refine nr ?_; intro U h; simp only [z0, z1] at h; subst h
    refine s_val 35 rfl rfl (.int .i64 ((L.length : Nat) : Int)) (run_len Try.underlying25 _ rfl _ _ _ rfl _) ?_
    refine nr ?_; intro U h; simp only [z0, z1] at h; subst h
    cases hj1 : decide (((j : Nat) : Int) < ((L.length : Nat) : Int))
    · have hje : j = L.length := by have := of_decide_eq_false hj1; omega
      refine s_val 36 rfl rfl (.bool false) (run_lssT 3 _ _ _ rfl ((j : Nat) : Int) ((L.length : Nat) : Int) rfl rfl false hj1 _) ?_
      refine nr ?_; intro U h; simp only [z0, z1] at h; subst h
      refine wpList_nil ?_
      refine then_n ?_
      refine wp_cond_false rfl ?_
      refine wp_exit ?_
      refine then_x ?_
      refine then_x ?_
      refine blk_x ?_
      refine then_n ?_
      refine wp_seq ?_
      refine wp_region_lit ?_
      refine s_val 89 rfl rfl (.slice ao5 l5.length cap5) (rfl) ?_
      refine nr ?_; intro U h; simp only [z0, z1] at h; subst h
      refine s_val 6 rfl rfl (.slice ao5 l5.length cap5) (rfl) ?_
      refine nr ?_; intro U h; simp only [z0, z1] at h; subst h
      refine wpList_nil ?_
      refine then_n ?_
      refine wp_ret ?_
      refine bodyPost_ret (results_tmp Try.results12 _ _ _) rfl ?_
      have e1 : l5 = knw s N L := by rw [hl5, hje, List.take_length]; rfl
      rw [e1] at HO
      exact ⟨ao5, cap5, by rw [e1]; rfl, GG, HO⟩
    · have hjl : j < L.length := by have := of_decide_eq_true hj1; omega
      refine s_val 36 rfl rfl (.bool true) (run_lssT 3 _ _ _ rfl ((j : Nat) : Int) ((L.length : Nat) : Int) rfl rfl true hj1 _) ?_
      refine nr ?_; intro U h; simp only [z0, z1] at h; subst h
      refine wpList_nil ?_
      refine then_n ?_
      refine wp_cond_true rfl ?_
      refine wp_skip ?_
      refine then_n ?_
      refine wp_seq ?_
      refine wp_block ?_
      refine wp_seq ?_
      refine wp_seq ?_
      refine wp_region_lit ?_
      refine s_val 39 rfl rfl (.slice ao L.length cap) (rfl) ?_
      refine nr ?_; intro U h; simp only [z0, z1] at h; subst h
      refine s_val 40 rfl rfl (.int .i64 ((j : Nat) : Int)) (rfl) ?_
      refine nr ?_; intro U h; simp only [z0, z1] at h; subst h
      refine s_val 41 rfl rfl (.pointer (pE ao j 0)) (run_ixE (HL.gro GG) _ _ rfl rfl j rfl (by omega)) ?_
      refine nr ?_; intro U h; simp only [z0, z1] at h; subst h
      refine s_val 42 rfl rfl (.pointer (pE ao j 49)) (run_fdE (HL.gro GG) _ 3 49 (fd33_3 _) rfl j rfl (by omega)) ?_
      refine nr ?_; intro U h; simp only [z0, z1] at h; subst h
      refine s_val 43 rfl rfl (.int .i64 (L.getD j zE).na) (run_ldEna (HL.gro GG) _ rfl j rfl (by omega)) ?_
      refine nr ?_; intro U h; simp only [z0, z1] at h; subst h
      cases hna : decide (0 ≤ (L.getD j zE).na)
      · refine s_val 44 rfl rfl (.bool false) (run_geqT 3 _ _ _ rfl (L.getD j zE).na 0 rfl rfl false hna _) ?_
        refine nr ?_; intro U h; simp only [z0, z1] at h; subst h
        refine wpList_nil ?_
        refine then_n ?_
        refine wp_cond_false rfl ?_
        refine wp_skip ?_
        refine then_n ?_
        refine wp_seq ?_
        refine wp_region_lit ?_
        refine s_val 64 rfl rfl (.slice ao L.length cap) (rfl) ?_
        refine nr ?_; intro U h; simp only [z0, z1] at h; subst h
        refine s_val 65 rfl rfl (.int .i64 ((j : Nat) : Int)) (rfl) ?_
        refine nr ?_; intro U h; simp only [z0, z1] at h; subst h
        refine s_val 66 rfl rfl (.pointer (pE ao j 0)) (run_ixE (HL.gro GG) _ _ rfl rfl j rfl (by omega)) ?_
        refine nr ?_; intro U h; simp only [z0, z1] at h; subst h
        refine s_val 67 rfl rfl (.pointer (pE ao j 50)) (run_fdE (HL.gro GG) _ 4 50 (fd33_4 _) rfl j rfl (by omega)) ?_
        refine nr ?_; intro U h; simp only [z0, z1] at h; subst h
        refine s_val 68 rfl rfl (.int .i64 (L.getD j zE).nb) (run_ldEnb (HL.gro GG) _ rfl j rfl (by omega)) ?_
        refine nr ?_; intro U h; simp only [z0, z1] at h; subst h
        cases hnb : decide (0 ≤ (L.getD j zE).nb)
        · refine s_val 69 rfl rfl (.bool false) (run_geqT 3 _ _ _ rfl (L.getD j zE).nb 0 rfl rfl false hnb _) ?_
          refine nr ?_; intro U h; simp only [z0, z1] at h; subst h
          refine wpList_nil ?_
          refine then_n ?_
          refine wp_cond_false rfl ?_
          refine wp_skip ?_
          refine blk_n ?_
          refine then_n ?_
          refine wp_region_lit ?_
          refine s_val 37 rfl rfl (.int .i64 ((j : Nat) : Int)) (rfl) ?_
          refine nr ?_; intro U h; simp only [z0, z1] at h; subst h
          refine s_val 38 rfl rfl (.int .i64 ((j + 1 : Nat) : Int)) (run_addI 3 _ _ _ rfl ((j : Nat) : Int) 1 ((j + 1 : Nat) : Int) rfl rfl (by omega) (by omega) (by omega) _) ?_
          refine nr ?_; intro U h; simp only [z0, z1] at h; subst h
          refine s_val 9 rfl rfl (.int .i64 ((j + 1 : Nat) : Int)) (rfl) ?_
          refine nr ?_; intro U h; simp only [z0, z1] at h; subst h
          refine wpList_nil ?_
          refine then_n ?_
          exact ⟨L.length + 1 - (j + 1), by omega, j + 1, ao5, cap5, l5, (fun kz => ([.int .i64 ((j : Nat) : Int), .slice ao L.length cap, .int .i64 ((L.length : Nat) : Int), .bool true, .int .i64 ((j : Nat) : Int), .int .i64 ((j + 1 : Nat) : Int), .slice ao L.length cap, .int .i64 ((j : Nat) : Int), .pointer (pE ao j 0), .pointer (pE ao j 49), .int .i64 (L.getD j zE).na, .bool false, us2 12, us2 13, us2 14, us2 15, us2 16, us2 17, us2 18, us2 19, us2 20, us2 21, us2 22, us2 23, us2 24, us2 25, us2 26, us2 27, us2 28, us2 29, us2 30, .slice ao L.length cap, .int .i64 ((j : Nat) : Int), .pointer (pE ao j 0), .pointer (pE ao j 50), .int .i64 (L.getD j zE).nb, .bool false, us2 37, us2 38, us2 39, us2 40, us2 41, us2 42, us2 43, us2 44, us2 45, us2 46, us2 47, us2 48, us2 49, us2 50, us2 51, us2 52, us2 53, us2 54, us2 55] : List Value).getD kz undef), rfl, rfl, by omega, GG, HO, by have h9 := kn_step (E := []) hl5 hjl (by unfold ends; rw [if_neg (of_decide_eq_false hna), if_neg (of_decide_eq_false hnb)]; rfl); rwa [List.append_nil] at h9⟩
        · refine s_val 69 rfl rfl (.bool true) (run_geqT 3 _ _ _ rfl (L.getD j zE).nb 0 rfl rfl true hnb _) ?_
          refine nr ?_; intro U h; simp only [z0, z1] at h; subst h
          refine wpList_nil ?_
          refine then_n ?_
          refine wp_cond_true rfl ?_
          refine wp_region_exA (A := ?Ax1) 18 [(0, 70), (1, 71), (2, 72), (3, 73), (4, 74), (5, 75), (6, 76), (7, 77), (8, 78), (9, 79), (10, 80), (11, 81), (12, 82), (13, 83), (14, 84), (15, 85), (16, 86), (17, 87)] [.val (.slice ao5 l5.length cap5), .val (.slice ao L.length cap), .val (.int .i64 ((j : Nat) : Int)), .val (.pointer (pE ao j 0)), .val (.pointer (pE ao j 33)), .val (.agg (idA (L.getD j zE).b)), .val (.slice ao L.length cap), .val (.int .i64 ((j : Nat) : Int)), .val (.pointer (pE ao j 0)), .val (.pointer (pE ao j 0)), .val (.agg (paA (L.getD j zE).p)), .val (.slice ao L.length cap), .val (.int .i64 ((j : Nat) : Int)), .val (.pointer (pE ao j 0)), .val (.pointer (pE ao j 50)), .val (.int .i64 (L.getD j zE).nb), .val (.agg (chA (mkC (L.getD j zE).b false (L.getD j zE).p (L.getD j zE).nb))), rowK kC [(mkC (L.getD j zE).b false (L.getD j zE).p (L.getD j zE).nb)]] follows (by kernel_rfl) rfl ?hAx1 (opsA_cons ?o0x1 (opsA_cons ?o1x1 (opsA_cons ?o2x1 (opsA_cons ?o3x1 (opsA_cons ?o4x1 (opsA_cons ?o5x1 (opsA_cons ?o6x1 (opsA_cons ?o7x1 (opsA_cons ?o8x1 (opsA_cons ?o9x1 (opsA_cons ?o10x1 (opsA_cons ?o11x1 (opsA_cons ?o12x1 (opsA_cons ?o13x1 (opsA_cons ?o14x1 (opsA_cons ?o15x1 (opsA_cons ?o16x1 (opsA_cons ?o17x1 opsA_nil)))))))))))))))))) ?restx1
          case hAx1 =>
            intro ptrs
            simp only [full, foldSlots, filledE, postE, List.foldl_cons, List.foldl_nil, List.getD_cons_zero, List.getD_cons_succ, fill_val, fill_rowK, List.set_cons_zero, List.set_cons_succ]
            exact rfl
          case o0x1 => exact fun _ _ _ _ => opE_move (v := .slice ao5 l5.length cap5) _ rfl rfl rfl
          case o1x1 => exact fun _ _ _ _ => opE_move (v := .slice ao L.length cap) _ rfl rfl rfl
          case o2x1 => exact fun _ _ _ _ => opE_move (v := .int .i64 ((j : Nat) : Int)) _ rfl rfl rfl
          case o3x1 => exact fun _ _ hw _ => opE_value (v := .pointer (pE ao j 0)) rfl (run_ixE (HL.gro (GG.drew.trans hw)) _ _ rfl rfl j rfl (by omega))
          case o4x1 => exact fun _ _ hw _ => opE_value (v := .pointer (pE ao j 33)) rfl (run_fdE (HL.gro (GG.drew.trans hw)) _ 2 33 (fd33_2 _) rfl j rfl (by omega))
          case o5x1 => exact fun _ _ hw _ => opE_value (v := .agg (idA (L.getD j zE).b)) rfl (run_ldEb (HL.gro (GG.drew.trans hw)) _ rfl j rfl (by omega))
          case o6x1 => exact fun _ _ _ _ => opE_move (v := .slice ao L.length cap) _ rfl rfl rfl
          case o7x1 => exact fun _ _ _ _ => opE_move (v := .int .i64 ((j : Nat) : Int)) _ rfl rfl rfl
          case o8x1 => exact fun _ _ hw _ => opE_value (v := .pointer (pE ao j 0)) rfl (run_ixE (HL.gro (GG.drew.trans hw)) _ _ rfl rfl j rfl (by omega))
          case o9x1 => exact fun _ _ hw _ => opE_value (v := .pointer (pE ao j 0)) rfl (run_fdE (HL.gro (GG.drew.trans hw)) _ 0 0 (fd33_0 _) rfl j rfl (by omega))
          case o10x1 => exact fun _ _ hw _ => opE_value (v := .agg (paA (L.getD j zE).p)) rfl (run_ldEp (HL.gro (GG.drew.trans hw)) _ rfl j rfl (by omega))
          case o11x1 => exact fun _ _ _ _ => opE_move (v := .slice ao L.length cap) _ rfl rfl rfl
          case o12x1 => exact fun _ _ _ _ => opE_move (v := .int .i64 ((j : Nat) : Int)) _ rfl rfl rfl
          case o13x1 => exact fun _ _ hw _ => opE_value (v := .pointer (pE ao j 0)) rfl (run_ixE (HL.gro (GG.drew.trans hw)) _ _ rfl rfl j rfl (by omega))
          case o14x1 => exact fun _ _ hw _ => opE_value (v := .pointer (pE ao j 50)) rfl (run_fdE (HL.gro (GG.drew.trans hw)) _ 4 50 (fd33_4 _) rfl j rfl (by omega))
          case o15x1 => exact fun _ _ hw _ => opE_value (v := .int .i64 (L.getD j zE).nb) rfl (run_ldEnb (HL.gro (GG.drew.trans hw)) _ rfl j rfl (by omega))
          case o16x1 => exact fun _ _ _ _ => opE_value (v := .agg (chA (mkC (L.getD j zE).b false (L.getD j zE).p (L.getD j zE).nb))) rfl (run_bd 42 _ rfl [(0, .agg (idA (L.getD j zE).b)), (2, .agg (paA (L.getD j zE).p)), (3, .int .i64 (L.getD j zE).nb)] rfl _ (bdD023 _ _ _ _))
          case o17x1 => exact fun _ _ _ _ => opE_bs rfl 34 _ rfl [(0, .agg (chA (mkC (L.getD j zE).b false (L.getD j zE).p (L.getD j zE).nb)))] rfl (mkC (L.getD j zE).b false (L.getD j zE).p (L.getD j zE).nb) (mkC_ok (HAll.at hjl).b (HAll.at hjl).p (HAll.at hjl).nb) (bsD (mkC (L.getD j zE).b false (L.getD j zE).p (L.getD j zE).nb) _)
          intro ptrs w3 GD hxE
          simp only [List.drop_succ_cons, List.drop_zero]
          replace HO := HO.gro ((Gro.refl _).drew.trans GD)
          replace GG := GG.drew.trans GD
          obtain ⟨⟨ao22, cap22, hx22, HR22⟩, _⟩ := hxE
          simp only [hx22]
          clear hx22
          clear GD
          refine s_appK rD (by decide) (by decide) 88 rfl rfl _ _ rfl rfl HO rfl HR22 (by simp only [List.length_cons, List.length_nil]; omega) GG.size ?_
          intro ao4 cap4 w4 HO2 G2 _
          replace GG := G2.gro GG (fun k hk => HO.own.base k hk)
          clear G2 HO
          have HO := HO2
          clear HO2
          refine nr ?_; intro U h; simp only [z0, z1] at h; subst h
          refine s_val 7 rfl rfl (.slice ao4 (l5 ++ [(mkC (L.getD j zE).b false (L.getD j zE).p (L.getD j zE).nb)]).length cap4) (rfl) ?_
          refine nr ?_; intro U h; simp only [z0, z1] at h; subst h
          refine wpList_nil ?_
          refine blk_n ?_
          refine then_n ?_
          refine wp_region_lit ?_
          refine s_val 37 rfl rfl (.int .i64 ((j : Nat) : Int)) (rfl) ?_
          refine nr ?_; intro U h; simp only [z0, z1] at h; subst h
          refine s_val 38 rfl rfl (.int .i64 ((j + 1 : Nat) : Int)) (run_addI 3 _ _ _ rfl ((j : Nat) : Int) 1 ((j + 1 : Nat) : Int) rfl rfl (by omega) (by omega) (by omega) _) ?_
          refine nr ?_; intro U h; simp only [z0, z1] at h; subst h
          refine s_val 9 rfl rfl (.int .i64 ((j + 1 : Nat) : Int)) (rfl) ?_
          refine nr ?_; intro U h; simp only [z0, z1] at h; subst h
          refine wpList_nil ?_
          refine then_n ?_
          exact ⟨L.length + 1 - (j + 1), by omega, j + 1, ao4, cap4, l5 ++ [mkC (L.getD j zE).b false (L.getD j zE).p (L.getD j zE).nb], (fun kz => ([.int .i64 ((j : Nat) : Int), .slice ao L.length cap, .int .i64 ((L.length : Nat) : Int), .bool true, .int .i64 ((j : Nat) : Int), .int .i64 ((j + 1 : Nat) : Int), .slice ao L.length cap, .int .i64 ((j : Nat) : Int), .pointer (pE ao j 0), .pointer (pE ao j 49), .int .i64 (L.getD j zE).na, .bool false, us2 12, us2 13, us2 14, us2 15, us2 16, us2 17, us2 18, us2 19, us2 20, us2 21, us2 22, us2 23, us2 24, us2 25, us2 26, us2 27, us2 28, us2 29, us2 30, .slice ao L.length cap, .int .i64 ((j : Nat) : Int), .pointer (pE ao j 0), .pointer (pE ao j 50), .int .i64 (L.getD j zE).nb, .bool true, .slice ao5 l5.length cap5, .slice ao L.length cap, .int .i64 ((j : Nat) : Int), .pointer (pE ao j 0), .pointer (pE ao j 33), .agg (idA (L.getD j zE).b), .slice ao L.length cap, .int .i64 ((j : Nat) : Int), .pointer (pE ao j 0), .pointer (pE ao j 0), .agg (paA (L.getD j zE).p), .slice ao L.length cap, .int .i64 ((j : Nat) : Int), .pointer (pE ao j 0), .pointer (pE ao j 50), .int .i64 (L.getD j zE).nb, .agg (chA (mkC (L.getD j zE).b false (L.getD j zE).p (L.getD j zE).nb)), .slice ao22 ([(mkC (L.getD j zE).b false (L.getD j zE).p (L.getD j zE).nb)]).length cap22, .slice ao4 (l5 ++ [(mkC (L.getD j zE).b false (L.getD j zE).p (L.getD j zE).nb)]).length cap4] : List Value).getD kz undef), rfl, rfl, by omega, GG, HO, kn_step hl5 hjl (by unfold ends; rw [if_neg (of_decide_eq_false hna), if_pos (of_decide_eq_true hnb)]; rfl)⟩
      · refine s_val 44 rfl rfl (.bool true) (run_geqT 3 _ _ _ rfl (L.getD j zE).na 0 rfl rfl true hna _) ?_
        refine nr ?_; intro U h; simp only [z0, z1] at h; subst h
        refine wpList_nil ?_
        refine then_n ?_
        refine wp_cond_true rfl ?_
        refine wp_region_exA (A := ?Ax2) 18 [(0, 45), (1, 46), (2, 47), (3, 48), (4, 49), (5, 50), (6, 51), (7, 52), (8, 53), (9, 54), (10, 55), (11, 56), (12, 57), (13, 58), (14, 59), (15, 60), (16, 61), (17, 62)] [.val (.slice ao5 l5.length cap5), .val (.slice ao L.length cap), .val (.int .i64 ((j : Nat) : Int)), .val (.pointer (pE ao j 0)), .val (.pointer (pE ao j 17)), .val (.agg (idA (L.getD j zE).a)), .val (.slice ao L.length cap), .val (.int .i64 ((j : Nat) : Int)), .val (.pointer (pE ao j 0)), .val (.pointer (pE ao j 0)), .val (.agg (paA (L.getD j zE).p)), .val (.slice ao L.length cap), .val (.int .i64 ((j : Nat) : Int)), .val (.pointer (pE ao j 0)), .val (.pointer (pE ao j 49)), .val (.int .i64 (L.getD j zE).na), .val (.agg (chA (mkC (L.getD j zE).a false (L.getD j zE).p (L.getD j zE).na))), rowK kC [(mkC (L.getD j zE).a false (L.getD j zE).p (L.getD j zE).na)]] follows (by kernel_rfl) rfl ?hAx2 (opsA_cons ?o0x2 (opsA_cons ?o1x2 (opsA_cons ?o2x2 (opsA_cons ?o3x2 (opsA_cons ?o4x2 (opsA_cons ?o5x2 (opsA_cons ?o6x2 (opsA_cons ?o7x2 (opsA_cons ?o8x2 (opsA_cons ?o9x2 (opsA_cons ?o10x2 (opsA_cons ?o11x2 (opsA_cons ?o12x2 (opsA_cons ?o13x2 (opsA_cons ?o14x2 (opsA_cons ?o15x2 (opsA_cons ?o16x2 (opsA_cons ?o17x2 opsA_nil)))))))))))))))))) ?restx2
        case hAx2 =>
          intro ptrs
          simp only [full, foldSlots, filledE, postE, List.foldl_cons, List.foldl_nil, List.getD_cons_zero, List.getD_cons_succ, fill_val, fill_rowK, List.set_cons_zero, List.set_cons_succ]
          exact rfl
        case o0x2 => exact fun _ _ _ _ => opE_move (v := .slice ao5 l5.length cap5) _ rfl rfl rfl
        case o1x2 => exact fun _ _ _ _ => opE_move (v := .slice ao L.length cap) _ rfl rfl rfl
        case o2x2 => exact fun _ _ _ _ => opE_move (v := .int .i64 ((j : Nat) : Int)) _ rfl rfl rfl
        case o3x2 => exact fun _ _ hw _ => opE_value (v := .pointer (pE ao j 0)) rfl (run_ixE (HL.gro (GG.drew.trans hw)) _ _ rfl rfl j rfl (by omega))
        case o4x2 => exact fun _ _ hw _ => opE_value (v := .pointer (pE ao j 17)) rfl (run_fdE (HL.gro (GG.drew.trans hw)) _ 1 17 (fd33_1 _) rfl j rfl (by omega))
        case o5x2 => exact fun _ _ hw _ => opE_value (v := .agg (idA (L.getD j zE).a)) rfl (run_ldEa (HL.gro (GG.drew.trans hw)) _ rfl j rfl (by omega))
        case o6x2 => exact fun _ _ _ _ => opE_move (v := .slice ao L.length cap) _ rfl rfl rfl
        case o7x2 => exact fun _ _ _ _ => opE_move (v := .int .i64 ((j : Nat) : Int)) _ rfl rfl rfl
        case o8x2 => exact fun _ _ hw _ => opE_value (v := .pointer (pE ao j 0)) rfl (run_ixE (HL.gro (GG.drew.trans hw)) _ _ rfl rfl j rfl (by omega))
        case o9x2 => exact fun _ _ hw _ => opE_value (v := .pointer (pE ao j 0)) rfl (run_fdE (HL.gro (GG.drew.trans hw)) _ 0 0 (fd33_0 _) rfl j rfl (by omega))
        case o10x2 => exact fun _ _ hw _ => opE_value (v := .agg (paA (L.getD j zE).p)) rfl (run_ldEp (HL.gro (GG.drew.trans hw)) _ rfl j rfl (by omega))
        case o11x2 => exact fun _ _ _ _ => opE_move (v := .slice ao L.length cap) _ rfl rfl rfl
        case o12x2 => exact fun _ _ _ _ => opE_move (v := .int .i64 ((j : Nat) : Int)) _ rfl rfl rfl
        case o13x2 => exact fun _ _ hw _ => opE_value (v := .pointer (pE ao j 0)) rfl (run_ixE (HL.gro (GG.drew.trans hw)) _ _ rfl rfl j rfl (by omega))
        case o14x2 => exact fun _ _ hw _ => opE_value (v := .pointer (pE ao j 49)) rfl (run_fdE (HL.gro (GG.drew.trans hw)) _ 3 49 (fd33_3 _) rfl j rfl (by omega))
        case o15x2 => exact fun _ _ hw _ => opE_value (v := .int .i64 (L.getD j zE).na) rfl (run_ldEna (HL.gro (GG.drew.trans hw)) _ rfl j rfl (by omega))
        case o16x2 => exact fun _ _ _ _ => opE_value (v := .agg (chA (mkC (L.getD j zE).a false (L.getD j zE).p (L.getD j zE).na))) rfl (run_bd 42 _ rfl [(0, .agg (idA (L.getD j zE).a)), (2, .agg (paA (L.getD j zE).p)), (3, .int .i64 (L.getD j zE).na)] rfl _ (bdD023 _ _ _ _))
        case o17x2 => exact fun _ _ _ _ => opE_bs rfl 34 _ rfl [(0, .agg (chA (mkC (L.getD j zE).a false (L.getD j zE).p (L.getD j zE).na)))] rfl (mkC (L.getD j zE).a false (L.getD j zE).p (L.getD j zE).na) (mkC_ok (HAll.at hjl).a (HAll.at hjl).p (HAll.at hjl).na) (bsD (mkC (L.getD j zE).a false (L.getD j zE).p (L.getD j zE).na) _)
        intro ptrs w3 GD hxE
        simp only [List.drop_succ_cons, List.drop_zero]
        replace HO := HO.gro ((Gro.refl _).drew.trans GD)
        replace GG := GG.drew.trans GD
        obtain ⟨⟨ao22, cap22, hx22, HR22⟩, _⟩ := hxE
        simp only [hx22]
        clear hx22
        clear GD
        refine s_appK rD (by decide) (by decide) 63 rfl rfl _ _ rfl rfl HO rfl HR22 (by simp only [List.length_cons, List.length_nil]; omega) GG.size ?_
        intro ao3 cap3 w4 HO2 G2 _
        replace GG := G2.gro GG (fun k hk => HO.own.base k hk)
        clear G2 HO
        have HO := HO2
        clear HO2
        refine nr ?_; intro U h; simp only [z0, z1] at h; subst h
        refine s_val 7 rfl rfl (.slice ao3 (l5 ++ [(mkC (L.getD j zE).a false (L.getD j zE).p (L.getD j zE).na)]).length cap3) (rfl) ?_
        refine nr ?_; intro U h; simp only [z0, z1] at h; subst h
        refine wpList_nil ?_
        refine then_n ?_
        refine wp_seq ?_
        refine wp_region_lit ?_
        refine s_val 64 rfl rfl (.slice ao L.length cap) (rfl) ?_
        refine nr ?_; intro U h; simp only [z0, z1] at h; subst h
        refine s_val 65 rfl rfl (.int .i64 ((j : Nat) : Int)) (rfl) ?_
        refine nr ?_; intro U h; simp only [z0, z1] at h; subst h
        refine s_val 66 rfl rfl (.pointer (pE ao j 0)) (run_ixE (HL.gro GG) _ _ rfl rfl j rfl (by omega)) ?_
        refine nr ?_; intro U h; simp only [z0, z1] at h; subst h
        refine s_val 67 rfl rfl (.pointer (pE ao j 50)) (run_fdE (HL.gro GG) _ 4 50 (fd33_4 _) rfl j rfl (by omega)) ?_
        refine nr ?_; intro U h; simp only [z0, z1] at h; subst h
        refine s_val 68 rfl rfl (.int .i64 (L.getD j zE).nb) (run_ldEnb (HL.gro GG) _ rfl j rfl (by omega)) ?_
        refine nr ?_; intro U h; simp only [z0, z1] at h; subst h
        cases hnb : decide (0 ≤ (L.getD j zE).nb)
        · refine s_val 69 rfl rfl (.bool false) (run_geqT 3 _ _ _ rfl (L.getD j zE).nb 0 rfl rfl false hnb _) ?_
          refine nr ?_; intro U h; simp only [z0, z1] at h; subst h
          refine wpList_nil ?_
          refine then_n ?_
          refine wp_cond_false rfl ?_
          refine wp_skip ?_
          refine blk_n ?_
          refine then_n ?_
          refine wp_region_lit ?_
          refine s_val 37 rfl rfl (.int .i64 ((j : Nat) : Int)) (rfl) ?_
          refine nr ?_; intro U h; simp only [z0, z1] at h; subst h
          refine s_val 38 rfl rfl (.int .i64 ((j + 1 : Nat) : Int)) (run_addI 3 _ _ _ rfl ((j : Nat) : Int) 1 ((j + 1 : Nat) : Int) rfl rfl (by omega) (by omega) (by omega) _) ?_
          refine nr ?_; intro U h; simp only [z0, z1] at h; subst h
          refine s_val 9 rfl rfl (.int .i64 ((j + 1 : Nat) : Int)) (rfl) ?_
          refine nr ?_; intro U h; simp only [z0, z1] at h; subst h
          refine wpList_nil ?_
          refine then_n ?_
          exact ⟨L.length + 1 - (j + 1), by omega, j + 1, ao3, cap3, l5 ++ [mkC (L.getD j zE).a false (L.getD j zE).p (L.getD j zE).na], (fun kz => ([.int .i64 ((j : Nat) : Int), .slice ao L.length cap, .int .i64 ((L.length : Nat) : Int), .bool true, .int .i64 ((j : Nat) : Int), .int .i64 ((j + 1 : Nat) : Int), .slice ao L.length cap, .int .i64 ((j : Nat) : Int), .pointer (pE ao j 0), .pointer (pE ao j 49), .int .i64 (L.getD j zE).na, .bool true, .slice ao5 l5.length cap5, .slice ao L.length cap, .int .i64 ((j : Nat) : Int), .pointer (pE ao j 0), .pointer (pE ao j 17), .agg (idA (L.getD j zE).a), .slice ao L.length cap, .int .i64 ((j : Nat) : Int), .pointer (pE ao j 0), .pointer (pE ao j 0), .agg (paA (L.getD j zE).p), .slice ao L.length cap, .int .i64 ((j : Nat) : Int), .pointer (pE ao j 0), .pointer (pE ao j 49), .int .i64 (L.getD j zE).na, .agg (chA (mkC (L.getD j zE).a false (L.getD j zE).p (L.getD j zE).na)), .slice ao22 ([(mkC (L.getD j zE).a false (L.getD j zE).p (L.getD j zE).na)]).length cap22, .slice ao3 (l5 ++ [(mkC (L.getD j zE).a false (L.getD j zE).p (L.getD j zE).na)]).length cap3, .slice ao L.length cap, .int .i64 ((j : Nat) : Int), .pointer (pE ao j 0), .pointer (pE ao j 50), .int .i64 (L.getD j zE).nb, .bool false, us2 37, us2 38, us2 39, us2 40, us2 41, us2 42, us2 43, us2 44, us2 45, us2 46, us2 47, us2 48, us2 49, us2 50, us2 51, us2 52, us2 53, us2 54, us2 55] : List Value).getD kz undef), rfl, rfl, by omega, GG, HO, kn_step hl5 hjl (by unfold ends; rw [if_pos (of_decide_eq_true hna), if_neg (of_decide_eq_false hnb)]; rfl)⟩
        · refine s_val 69 rfl rfl (.bool true) (run_geqT 3 _ _ _ rfl (L.getD j zE).nb 0 rfl rfl true hnb _) ?_
          refine nr ?_; intro U h; simp only [z0, z1] at h; subst h
          refine wpList_nil ?_
          refine then_n ?_
          refine wp_cond_true rfl ?_
          refine wp_region_exA (A := ?Ax3) 18 [(0, 70), (1, 71), (2, 72), (3, 73), (4, 74), (5, 75), (6, 76), (7, 77), (8, 78), (9, 79), (10, 80), (11, 81), (12, 82), (13, 83), (14, 84), (15, 85), (16, 86), (17, 87)] [.val (.slice ao3 (l5 ++ [(mkC (L.getD j zE).a false (L.getD j zE).p (L.getD j zE).na)]).length cap3), .val (.slice ao L.length cap), .val (.int .i64 ((j : Nat) : Int)), .val (.pointer (pE ao j 0)), .val (.pointer (pE ao j 33)), .val (.agg (idA (L.getD j zE).b)), .val (.slice ao L.length cap), .val (.int .i64 ((j : Nat) : Int)), .val (.pointer (pE ao j 0)), .val (.pointer (pE ao j 0)), .val (.agg (paA (L.getD j zE).p)), .val (.slice ao L.length cap), .val (.int .i64 ((j : Nat) : Int)), .val (.pointer (pE ao j 0)), .val (.pointer (pE ao j 50)), .val (.int .i64 (L.getD j zE).nb), .val (.agg (chA (mkC (L.getD j zE).b false (L.getD j zE).p (L.getD j zE).nb))), rowK kC [(mkC (L.getD j zE).b false (L.getD j zE).p (L.getD j zE).nb)]] follows (by kernel_rfl) rfl ?hAx3 (opsA_cons ?o0x3 (opsA_cons ?o1x3 (opsA_cons ?o2x3 (opsA_cons ?o3x3 (opsA_cons ?o4x3 (opsA_cons ?o5x3 (opsA_cons ?o6x3 (opsA_cons ?o7x3 (opsA_cons ?o8x3 (opsA_cons ?o9x3 (opsA_cons ?o10x3 (opsA_cons ?o11x3 (opsA_cons ?o12x3 (opsA_cons ?o13x3 (opsA_cons ?o14x3 (opsA_cons ?o15x3 (opsA_cons ?o16x3 (opsA_cons ?o17x3 opsA_nil)))))))))))))))))) ?restx3
          case hAx3 =>
            intro ptrs
            simp only [full, foldSlots, filledE, postE, List.foldl_cons, List.foldl_nil, List.getD_cons_zero, List.getD_cons_succ, fill_val, fill_rowK, List.set_cons_zero, List.set_cons_succ]
            exact rfl
          case o0x3 => exact fun _ _ _ _ => opE_move (v := .slice ao3 (l5 ++ [(mkC (L.getD j zE).a false (L.getD j zE).p (L.getD j zE).na)]).length cap3) _ rfl rfl rfl
          case o1x3 => exact fun _ _ _ _ => opE_move (v := .slice ao L.length cap) _ rfl rfl rfl
          case o2x3 => exact fun _ _ _ _ => opE_move (v := .int .i64 ((j : Nat) : Int)) _ rfl rfl rfl
          case o3x3 => exact fun _ _ hw _ => opE_value (v := .pointer (pE ao j 0)) rfl (run_ixE (HL.gro (GG.drew.trans hw)) _ _ rfl rfl j rfl (by omega))
          case o4x3 => exact fun _ _ hw _ => opE_value (v := .pointer (pE ao j 33)) rfl (run_fdE (HL.gro (GG.drew.trans hw)) _ 2 33 (fd33_2 _) rfl j rfl (by omega))
          case o5x3 => exact fun _ _ hw _ => opE_value (v := .agg (idA (L.getD j zE).b)) rfl (run_ldEb (HL.gro (GG.drew.trans hw)) _ rfl j rfl (by omega))
          case o6x3 => exact fun _ _ _ _ => opE_move (v := .slice ao L.length cap) _ rfl rfl rfl
          case o7x3 => exact fun _ _ _ _ => opE_move (v := .int .i64 ((j : Nat) : Int)) _ rfl rfl rfl
          case o8x3 => exact fun _ _ hw _ => opE_value (v := .pointer (pE ao j 0)) rfl (run_ixE (HL.gro (GG.drew.trans hw)) _ _ rfl rfl j rfl (by omega))
          case o9x3 => exact fun _ _ hw _ => opE_value (v := .pointer (pE ao j 0)) rfl (run_fdE (HL.gro (GG.drew.trans hw)) _ 0 0 (fd33_0 _) rfl j rfl (by omega))
          case o10x3 => exact fun _ _ hw _ => opE_value (v := .agg (paA (L.getD j zE).p)) rfl (run_ldEp (HL.gro (GG.drew.trans hw)) _ rfl j rfl (by omega))
          case o11x3 => exact fun _ _ _ _ => opE_move (v := .slice ao L.length cap) _ rfl rfl rfl
          case o12x3 => exact fun _ _ _ _ => opE_move (v := .int .i64 ((j : Nat) : Int)) _ rfl rfl rfl
          case o13x3 => exact fun _ _ hw _ => opE_value (v := .pointer (pE ao j 0)) rfl (run_ixE (HL.gro (GG.drew.trans hw)) _ _ rfl rfl j rfl (by omega))
          case o14x3 => exact fun _ _ hw _ => opE_value (v := .pointer (pE ao j 50)) rfl (run_fdE (HL.gro (GG.drew.trans hw)) _ 4 50 (fd33_4 _) rfl j rfl (by omega))
          case o15x3 => exact fun _ _ hw _ => opE_value (v := .int .i64 (L.getD j zE).nb) rfl (run_ldEnb (HL.gro (GG.drew.trans hw)) _ rfl j rfl (by omega))
          case o16x3 => exact fun _ _ _ _ => opE_value (v := .agg (chA (mkC (L.getD j zE).b false (L.getD j zE).p (L.getD j zE).nb))) rfl (run_bd 42 _ rfl [(0, .agg (idA (L.getD j zE).b)), (2, .agg (paA (L.getD j zE).p)), (3, .int .i64 (L.getD j zE).nb)] rfl _ (bdD023 _ _ _ _))
          case o17x3 => exact fun _ _ _ _ => opE_bs rfl 34 _ rfl [(0, .agg (chA (mkC (L.getD j zE).b false (L.getD j zE).p (L.getD j zE).nb)))] rfl (mkC (L.getD j zE).b false (L.getD j zE).p (L.getD j zE).nb) (mkC_ok (HAll.at hjl).b (HAll.at hjl).p (HAll.at hjl).nb) (bsD (mkC (L.getD j zE).b false (L.getD j zE).p (L.getD j zE).nb) _)
          intro ptrs w5 GD hxE
          simp only [List.drop_succ_cons, List.drop_zero]
          replace HO := HO.gro ((Gro.refl _).drew.trans GD)
          replace GG := GG.drew.trans GD
          obtain ⟨⟨ao23, cap23, hx23, HR23⟩, _⟩ := hxE
          simp only [hx23]
          clear hx23
          clear GD
          refine s_appK rD (by decide) (by decide) 88 rfl rfl _ _ rfl rfl HO rfl HR23 (by simp only [List.length_append, List.length_cons, List.length_nil]; omega) GG.size ?_
          intro ao4 cap4 w6 HO2 G2 _
          replace GG := G2.gro GG (fun k hk => HO.own.base k hk)
          clear G2 HO
          have HO := HO2
          clear HO2
          refine nr ?_; intro U h; simp only [z0, z1] at h; subst h
          refine s_val 7 rfl rfl (.slice ao4 ((l5 ++ [(mkC (L.getD j zE).a false (L.getD j zE).p (L.getD j zE).na)]) ++ [(mkC (L.getD j zE).b false (L.getD j zE).p (L.getD j zE).nb)]).length cap4) (rfl) ?_
          refine nr ?_; intro U h; simp only [z0, z1] at h; subst h
          refine wpList_nil ?_
          refine blk_n ?_
          refine then_n ?_
          refine wp_region_lit ?_
          refine s_val 37 rfl rfl (.int .i64 ((j : Nat) : Int)) (rfl) ?_
          refine nr ?_; intro U h; simp only [z0, z1] at h; subst h
          refine s_val 38 rfl rfl (.int .i64 ((j + 1 : Nat) : Int)) (run_addI 3 _ _ _ rfl ((j : Nat) : Int) 1 ((j + 1 : Nat) : Int) rfl rfl (by omega) (by omega) (by omega) _) ?_
          refine nr ?_; intro U h; simp only [z0, z1] at h; subst h
          refine s_val 9 rfl rfl (.int .i64 ((j + 1 : Nat) : Int)) (rfl) ?_
          refine nr ?_; intro U h; simp only [z0, z1] at h; subst h
          refine wpList_nil ?_
          refine then_n ?_
          exact ⟨L.length + 1 - (j + 1), by omega, j + 1, ao4, cap4, (l5 ++ [mkC (L.getD j zE).a false (L.getD j zE).p (L.getD j zE).na]) ++ [mkC (L.getD j zE).b false (L.getD j zE).p (L.getD j zE).nb], (fun kz => ([.int .i64 ((j : Nat) : Int), .slice ao L.length cap, .int .i64 ((L.length : Nat) : Int), .bool true, .int .i64 ((j : Nat) : Int), .int .i64 ((j + 1 : Nat) : Int), .slice ao L.length cap, .int .i64 ((j : Nat) : Int), .pointer (pE ao j 0), .pointer (pE ao j 49), .int .i64 (L.getD j zE).na, .bool true, .slice ao5 l5.length cap5, .slice ao L.length cap, .int .i64 ((j : Nat) : Int), .pointer (pE ao j 0), .pointer (pE ao j 17), .agg (idA (L.getD j zE).a), .slice ao L.length cap, .int .i64 ((j : Nat) : Int), .pointer (pE ao j 0), .pointer (pE ao j 0), .agg (paA (L.getD j zE).p), .slice ao L.length cap, .int .i64 ((j : Nat) : Int), .pointer (pE ao j 0), .pointer (pE ao j 49), .int .i64 (L.getD j zE).na, .agg (chA (mkC (L.getD j zE).a false (L.getD j zE).p (L.getD j zE).na)), .slice ao22 ([(mkC (L.getD j zE).a false (L.getD j zE).p (L.getD j zE).na)]).length cap22, .slice ao3 (l5 ++ [(mkC (L.getD j zE).a false (L.getD j zE).p (L.getD j zE).na)]).length cap3, .slice ao L.length cap, .int .i64 ((j : Nat) : Int), .pointer (pE ao j 0), .pointer (pE ao j 50), .int .i64 (L.getD j zE).nb, .bool true, .slice ao3 (l5 ++ [(mkC (L.getD j zE).a false (L.getD j zE).p (L.getD j zE).na)]).length cap3, .slice ao L.length cap, .int .i64 ((j : Nat) : Int), .pointer (pE ao j 0), .pointer (pE ao j 33), .agg (idA (L.getD j zE).b), .slice ao L.length cap, .int .i64 ((j : Nat) : Int), .pointer (pE ao j 0), .pointer (pE ao j 0), .agg (paA (L.getD j zE).p), .slice ao L.length cap, .int .i64 ((j : Nat) : Int), .pointer (pE ao j 0), .pointer (pE ao j 50), .int .i64 (L.getD j zE).nb, .agg (chA (mkC (L.getD j zE).b false (L.getD j zE).p (L.getD j zE).nb)), .slice ao23 ([(mkC (L.getD j zE).b false (L.getD j zE).p (L.getD j zE).nb)]).length cap23, .slice ao4 ((l5 ++ [(mkC (L.getD j zE).a false (L.getD j zE).p (L.getD j zE).na)]) ++ [(mkC (L.getD j zE).b false (L.getD j zE).p (L.getD j zE).nb)]).length cap4] : List Value).getD kz undef), rfl, rfl, by omega, GG, HO, by rw [List.append_assoc]; exact kn_step hl5 hjl (by unfold ends; rw [if_pos (of_decide_eq_true hna), if_pos (of_decide_eq_true hnb)]; rfl)⟩
  · have hil : i < N.length := by have := of_decide_eq_true hi1; omega
    refine s_val 16 rfl rfl (.bool true) (run_lssT 3 _ _ _ rfl ((i : Nat) : Int) ((N.length : Nat) : Int) rfl rfl true hi1 _) ?_
    refine nr ?_; intro U h; simp only [z0, z1] at h; subst h
    refine wpList_nil ?_
    refine then_n ?_
    refine wp_cond_true rfl ?_
    refine wp_skip ?_
    refine then_n ?_
    refine wp_seq ?_
    refine wp_block ?_
    refine wp_region_exA (A := ?Ax4) 13 [(0, 19), (1, 20), (2, 21), (3, 22), (4, 23), (5, 24), (6, 25), (7, 26), (8, 27), (9, 28), (10, 29), (11, 30), (12, 31)] [.val (.slice ao1 l2.length cap1), .val (.slice an N.length cn), .val (.int .i64 ((i : Nat) : Int)), .val (.pointer (pK kN an i 0)), .val (.pointer (pK kN an i 1)), .val (.agg (idA (N.getD i zN).id)), .val (.slice an N.length cn), .val (.int .i64 ((i : Nat) : Int)), .val (.pointer (pK kN an i 0)), .val (.pointer (pK kN an i 0)), .val (.int .i64 (N.getD i zN).n), .val (.agg (chA (mkC (N.getD i zN).id true zP (N.getD i zN).n))), rowK kC [(mkC (N.getD i zN).id true zP (N.getD i zN).n)]] follows (by kernel_rfl) rfl ?hAx4 (opsA_cons ?o0x4 (opsA_cons ?o1x4 (opsA_cons ?o2x4 (opsA_cons ?o3x4 (opsA_cons ?o4x4 (opsA_cons ?o5x4 (opsA_cons ?o6x4 (opsA_cons ?o7x4 (opsA_cons ?o8x4 (opsA_cons ?o9x4 (opsA_cons ?o10x4 (opsA_cons ?o11x4 (opsA_cons ?o12x4 opsA_nil))))))))))))) ?restx4
    case hAx4 =>
      intro ptrs
      simp only [full, foldSlots, filledE, postE, List.foldl_cons, List.foldl_nil, List.getD_cons_zero, List.getD_cons_succ, fill_val, fill_rowK, List.set_cons_zero, List.set_cons_succ]
      exact rfl
    case o0x4 => exact fun _ _ _ _ => opE_move (v := .slice ao1 l2.length cap1) _ rfl rfl rfl
    case o1x4 => exact fun _ _ _ _ => opE_move (v := .slice an N.length cn) _ rfl rfl rfl
    case o2x4 => exact fun _ _ _ _ => opE_move (v := .int .i64 ((i : Nat) : Int)) _ rfl rfl rfl
    case o3x4 => exact fun _ _ hw _ => opE_value (v := .pointer (pK kN an i 0)) rfl (run_ixK rN (HN.gro (GG.drew.trans hw)) _ _ rfl rfl i rfl (by omega))
    case o4x4 => exact fun _ _ hw _ => opE_value (v := .pointer (pK kN an i 1)) rfl (run_fdK (HN.gro (GG.drew.trans hw)) 55 _ 1 1 (fdN_1 _) rfl i rfl (by omega))
    case o5x4 => exact fun _ _ hw _ => opE_value (v := .agg (idA (N.getD i zN).id)) rfl (run_ldKNi (HN.gro (GG.drew.trans hw)) _ rfl i rfl (by omega))
    case o6x4 => exact fun _ _ _ _ => opE_move (v := .slice an N.length cn) _ rfl rfl rfl
    case o7x4 => exact fun _ _ _ _ => opE_move (v := .int .i64 ((i : Nat) : Int)) _ rfl rfl rfl
    case o8x4 => exact fun _ _ hw _ => opE_value (v := .pointer (pK kN an i 0)) rfl (run_ixK rN (HN.gro (GG.drew.trans hw)) _ _ rfl rfl i rfl (by omega))
    case o9x4 => exact fun _ _ hw _ => opE_value (v := .pointer (pK kN an i 0)) rfl (run_fdK (HN.gro (GG.drew.trans hw)) 55 _ 0 0 (fdN_0 _) rfl i rfl (by omega))
    case o10x4 => exact fun _ _ hw _ => opE_value (v := .int .i64 (N.getD i zN).n) rfl (run_ldKNn (HN.gro (GG.drew.trans hw)) _ rfl i rfl (by omega))
    case o11x4 => exact fun _ _ _ _ => opE_value (v := .agg (chA (mkC (N.getD i zN).id true zP (N.getD i zN).n))) rfl (run_bd 42 _ rfl [(0, .agg (idA (N.getD i zN).id)), (1, .bool true), (3, .int .i64 (N.getD i zN).n)] rfl _ (bdD013 _ _ _ _))
    case o12x4 => exact fun _ _ _ _ => opE_bs rfl 34 _ rfl [(0, .agg (chA (mkC (N.getD i zN).id true zP (N.getD i zN).n)))] rfl (mkC (N.getD i zN).id true zP (N.getD i zN).n) (mkC_ok (atN HN.all hil).id zP_ok (atN HN.all hil).n) (bsD (mkC (N.getD i zN).id true zP (N.getD i zN).n) _)
    intro ptrs w3 GD hxE
    simp only [List.drop_succ_cons, List.drop_zero]
    replace HO := HO.gro ((Gro.refl _).drew.trans GD)
    replace GG := GG.drew.trans GD
    obtain ⟨⟨ao22, cap22, hx22, HR22⟩, _⟩ := hxE
    simp only [hx22]
    clear hx22
    clear GD
    refine s_appK rD (by decide) (by decide) 32 rfl rfl _ _ rfl rfl HO rfl HR22 (by have := nk_len hl2 hil; simp only [List.length_cons, List.length_nil]; omega) GG.size ?_
    intro ao2 cap2 w4 HO2 G2 _
    replace GG := G2.gro GG (fun k hk => HO.own.base k hk)
    clear G2 HO
    have HO := HO2
    clear HO2
    refine nr ?_; intro U h; simp only [z0, z1] at h; subst h
    refine s_val 7 rfl rfl (.slice ao2 (l2 ++ [(mkC (N.getD i zN).id true zP (N.getD i zN).n)]).length cap2) (rfl) ?_
    refine nr ?_; intro U h; simp only [z0, z1] at h; subst h
    refine wpList_nil ?_
    refine blk_n ?_
    refine then_n ?_
    refine wp_region_lit ?_
    refine s_val 17 rfl rfl (.int .i64 ((i : Nat) : Int)) (rfl) ?_
    refine nr ?_; intro U h; simp only [z0, z1] at h; subst h
    refine s_val 18 rfl rfl (.int .i64 ((i + 1 : Nat) : Int)) (run_addI 3 _ _ _ rfl ((i : Nat) : Int) 1 ((i + 1 : Nat) : Int) rfl rfl (by omega) (by omega) (by omega) _) ?_
    refine nr ?_; intro U h; simp only [z0, z1] at h; subst h
    refine s_val 8 rfl rfl (.int .i64 ((i + 1 : Nat) : Int)) (rfl) ?_
    refine nr ?_; intro U h; simp only [z0, z1] at h; subst h
    refine wpList_nil ?_
    refine then_n ?_
    exact ⟨N.length + 1 - (i + 1), by omega, i + 1, ao2, cap2, l2 ++ [mkC (N.getD i zN).id true zP (N.getD i zN).n], (fun kz => ([.int .i64 ((i : Nat) : Int), .slice an N.length cn, .int .i64 ((N.length : Nat) : Int), .bool true, .int .i64 ((i : Nat) : Int), .int .i64 ((i + 1 : Nat) : Int), .slice ao1 l2.length cap1, .slice an N.length cn, .int .i64 ((i : Nat) : Int), .pointer (pK kN an i 0), .pointer (pK kN an i 1), .agg (idA (N.getD i zN).id), .slice an N.length cn, .int .i64 ((i : Nat) : Int), .pointer (pK kN an i 0), .pointer (pK kN an i 0), .int .i64 (N.getD i zN).n, .agg (chA (mkC (N.getD i zN).id true zP (N.getD i zN).n)), .slice ao22 ([(mkC (N.getD i zN).id true zP (N.getD i zN).n)]).length cap22, .slice ao2 (l2 ++ [(mkC (N.getD i zN).id true zP (N.getD i zN).n)]).length cap2] : List Value).getD kz undef), rfl, rfl, by omega, GG, HO, nk_step hl2 hil⟩
end Go.Proofs.Ytipfllalfifheaa
