/- All identities turned by one way. -/
import Derived.Test.YtipfllalfifheaaR7
namespace Go.Proofs.Ytipfllalfifheaa
open Classical
open Go.RowKit Go.Maps

theorem spE_a (x : En) (i : Nat) : splice (enA x) 17 (idA i) = enA { x with a := i } := by kernel_rfl
theorem spE_b (x : En) (i : Nat) : splice (enA x) 33 (idA i) = enA { x with b := i } := by kernel_rfl
theorem OW.apE {α : Type} {K : Kd α} {e : TypeId} {w w' : World} {B B2 : Nat} {ao bo : Option Addr} {cap bap : Nat} {l : List α} {L : List En} (h : OW K e w B2 bo bap l) (ha : OE w B ao cap L) (G : GroS (Go.Proofs.Ytipfllalfifheaa.blk ao) w w') (he : e ≠ 57) : OW K e w' B2 bo bap l :=
  h.gros G fun k hk hm => by
    obtain ⟨_, cur, hc⟩ := h.own.at k hk
    exact ha.own.ne hc he hm
theorem tn_step {y : Nat} {N : List Nr} {l2 : List Nr} {i : Nat} (h : l2 = (N.take i).map (tnN y)) (hi : i < N.length) : l2 ++ [mkN (N.getD i zN).n (addN (N.getD i zN).id y)] = (N.take (i + 1)).map (tnN y) := by
  rw [h, take_at zN N i hi, List.map_append]
  rfl
theorem tn_len {y : Nat} {N : List Nr} {l2 : List Nr} {i : Nat} (h : l2 = (N.take i).map (tnN y)) (hi : i ≤ N.length) : l2.length = i := by
  rw [h, List.length_map, List.length_take]
  omega
theorem te_step {y : Nat} {E : List En} {l5 : List En} {j : Nat} (h : l5 = (E.take j).map (tnE y)) (hj : j < E.length) : l5 ++ [tnE y (E.getD j zE)] = (E.take (j + 1)).map (tnE y) := by
  rw [h, take_at zE E j hj, List.map_append]
  rfl
theorem te_len {y : Nat} {E : List En} {l5 : List En} {j : Nat} (h : l5 = (E.take j).map (tnE y)) (hj : j ≤ E.length) : l5.length = j := by
  rw [h, List.length_map, List.length_take]
  omega
theorem AllE.turned {y : Nat} {E : List En} (h : AllE E) : AllE (E.map (tnE y)) := fun x hx => by
  obtain ⟨z, hz, rfl⟩ := List.mem_map.1 hx
  exact tnE_ok (h z hz)
set_option maxRecDepth 100000 in
set_option maxHeartbeats 4000000 in
theorem routeTurned_any (w : World) (d s y : Nat) (hd : d < top) (hs : s < top) (hy : y < top) (an : Option Addr) (cn : Nat) (N : List Nr) (HN : RK kN w an cn N) (hNl : N.length ≤ 600000) (ae : Option Addr) (ce : Nat) (E : List En) (HE : RE w ae ce E) (hEl : E.length ≤ 600000) : Calls Try.prog 8 #[.agg (idA d), .agg (plA s an N.length cn ae E.length ce), .agg (idA y)] w (fun e w' => e = .returned (.bool true) ∧ Gro w w') := by
  refine s_enter Try.func8 rfl Try.ntmps8 [.agg (idA d), .agg (plA s an N.length cn ae E.length ce), .agg (idA y)] [.agg (idA d), .agg (plA s an N.length cn ae E.length ce), .agg (idA y), undef, undef, undef, undef, undef, undef, undef, undef, undef, undef, undef, undef, undef, undef, undef, undef, undef, undef, undef, undef, undef, undef, undef, undef, undef, undef, undef, undef, undef, undef, undef, undef, undef, undef, undef, undef, undef, undef, undef, undef, undef, undef, undef, undef, undef, undef, undef, undef, undef, undef, undef, undef, undef, undef, undef, undef, undef, undef, undef, undef, undef, undef, undef, undef, undef, undef, undef, undef, undef, undef, undef, undef, undef, undef, undef, undef, undef, undef, undef, undef, undef, undef, undef, undef, undef, undef, undef, undef, undef, undef, undef, undef, undef, undef, undef, undef, undef, undef, undef, undef, undef, undef, undef, undef, undef] rfl ?_
  have GG := Gro.refl w
  have hAll : AllE (layL [] E) := layL_ok AllE.nil HE.all
  have hRis : Ris (layL [] E) := layL_ris AllE.nil Ris.nil HE.all
  have hLl : (layL [] E).length ≤ 1000 := Nat.le_trans (layL_le (by decide)) (by decide)
  have hEY : AllE (E.map (tnE y)) := HE.all.turned
  have hAll2 : AllE (layL [] (E.map (tnE y))) := layL_ok AllE.nil hEY
  have hRis2 : Ris (layL [] (E.map (tnE y))) := layL_ris AllE.nil Ris.nil hEY
  have hLl2 : (layL [] (E.map (tnE y))).length ≤ 1000 := Nat.le_trans (layL_le (by decide)) (by decide)
  have hC3 : (cho (addN d y) (addN s y) (N.map (tnN y)) (layL [] (E.map (tnE y)))) = (tnC y (cho d s N (layL [] E))) := by rw [show (layL [] (E.map (tnE y))) = (layL [] E).map (tnE y) from layL_turned (M := []) HE.all]; exact cho_turned hd hs HN.all hAll
  have hC2 : (cho (addN d y) (addN s y) (N.map (tnN y)) (layL [] (E.map (tnE y)))).ok := by rw [hC3]; exact tnC_ok (cho_ok hs HN.all hAll)
  refine wp_seq ?_
  refine wp_region_lit ?_
  refine s_box 3 rfl rfl 23 _ rfl _ rfl (idA d) rfl ?_
  intro w1 g1 G eg1 kg1
  have bg1 := size_base GG eg1
  replace GG := GG.trans G
  clear G
  clear eg1
  refine nr ?_; intro U h; simp only [z0, z1] at h; subst h
  refine s_box 4 rfl rfl 27 _ rfl _ rfl (plA s an N.length cn ae E.length ce) rfl ?_
  intro w2 g2 G eg2 kg2
  have bg2 := size_base GG eg2
  have dg1g2 := lt_new kg1 eg2
  replace kg1 := G.has kg1
  replace GG := GG.trans G
  clear G
  clear eg2
  refine nr ?_; intro U h; simp only [z0, z1] at h; subst h
  refine s_box 5 rfl rfl 23 _ rfl _ rfl (idA y) rfl ?_
  intro w3 g3 G eg3 kg3
  have bg3 := size_base GG eg3
  have dg1g3 := lt_new kg1 eg3
  have dg2g3 := lt_new kg2 eg3
  replace kg1 := G.has kg1
  replace kg2 := G.has kg2
  replace GG := GG.trans G
  clear G
  clear eg3
  refine nr ?_; intro U h; simp only [z0, z1] at h; subst h
  refine s_val 6 rfl rfl (.bool false) (rfl) ?_
  refine nr ?_; intro U h; simp only [z0, z1] at h; subst h
  refine wpList_nil ?_
  refine then_n ?_
  refine wp_seq ?_
  refine wp_region_lit ?_
  refine s_val 19 rfl rfl (.func (.func 21) #[] #[.pointer (some ⟨g3, 0, none⟩)]) (run_mkF 21 _ rfl _ rfl) ?_
  refine nr ?_; intro U h; simp only [z0, z1] at h; subst h
  refine s_val 7 rfl rfl (.func (.func 21) #[] #[.pointer (some ⟨g3, 0, none⟩)]) (rfl) ?_
  refine nr ?_; intro U h; simp only [z0, z1] at h; subst h
  refine wpList_nil ?_
  refine then_n ?_
  refine wp_seq ?_
  refine wp_region_lit ?_
  refine s_val 20 rfl rfl (.func (.func 21) #[] #[.pointer (some ⟨g3, 0, none⟩)]) (rfl) ?_
  refine nr ?_; intro U h; simp only [z0, z1] at h; subst h
  refine s_val 21 rfl rfl (.pointer (some ⟨g2, 0, none⟩)) (run_fld 27 _ 0 rfl g2 0 rfl 0 (by kernel_rfl)) ?_
  refine nr ?_; intro U h; simp only [z0, z1] at h; subst h
  refine s_val 22 rfl rfl (.agg (idA s)) (ldLs _ rfl g2 rfl (kg2)) ?_
  refine nr ?_; intro U h; simp only [z0, z1] at h; subst h
  refine s_callF 23 rfl rfl _ 21 #[.pointer (some ⟨g3, 0, none⟩)] Try.call21 rfl _ rfl rfl _ rfl [.agg (idA s)] rfl (turn_any s y g3 hs hy _ (kg3)) ?_
  intro w4 G
  replace kg1 := G.has kg1
  replace kg2 := G.has kg2
  replace kg3 := G.has kg3
  replace GG := GG.trans G
  clear G
  refine nr ?_; intro U h; simp only [z0, z1] at h; subst h
  refine s_val 24 rfl rfl (.agg (plA (addN s y) none 0 0 none 0 0)) (run_bd 27 _ rfl [(0, .agg (idA (addN s y)))] rfl _ (bdP _ _)) ?_
  refine nr ?_; intro U h; simp only [z0, z1] at h; subst h
  refine s_alloc 8 rfl rfl 27 rfl _ zeroP (plA 0 none 0 0 none 0 0) rfl ?_
  intro w5 g4 G eg4 kg4
  have bg4 := size_base GG eg4
  have dg1g4 := lt_new kg1 eg4
  have dg2g4 := lt_new kg2 eg4
  have dg3g4 := lt_new kg3 eg4
  replace kg1 := G.has kg1
  replace kg2 := G.has kg2
  replace kg3 := G.has kg3
  replace GG := GG.trans G
  clear G
  clear eg4
  refine nr ?_; intro U h; simp only [z0, z1] at h; subst h
  refine s_store rfl rfl 27 _ _ rfl g4 0 rfl (.agg (plA (addN s y) none 0 0 none 0 0)) rfl 27 _ kg4 (plA (addN s y) none 0 0 none 0 0) rfl (siP') (plA_fit) (plA_one) (plA (addN s y) none 0 0 none 0 0) (splice_whole _ _ (plA_sz)) ?_
  intro w6 St
  have kS := kg4
  replace kg1 := St.has (by omega) kg1
  replace kg2 := St.has (by omega) kg2
  replace kg3 := St.has (by omega) kg3
  replace GG := GG.store St bg4
  replace kg4 := St.new
  clear St
  refine wpList_nil ?_
  refine then_n ?_
  refine wp_seq ?_
  refine wp_seq ?_
  refine wp_region_lit ?_
  refine s_val 25 rfl rfl (.pointer (some ⟨g2, 16, none⟩)) (run_fld 27 _ 1 rfl g2 0 rfl 16 (by kernel_rfl)) ?_
  refine nr ?_; intro U h; simp only [z0, z1] at h; subst h
  refine s_val 26 rfl rfl (.slice an N.length cn) (ldLn _ rfl g2 rfl (kg2)) ?_
  refine nr ?_; intro U h; simp only [z0, z1] at h; subst h
  refine s_val 27 rfl rfl (.int .i64 ((N.length : Nat) : Int)) (run_len Try.underlying24 _ rfl _ _ _ rfl _) ?_
  refine nr ?_; intro U h; simp only [z0, z1] at h; subst h
  refine s_val 28 rfl rfl (.int .i64 0) (rfl) ?_
  refine nr ?_; intro U h; simp only [z0, z1] at h; subst h
  refine wpList_nil ?_
  refine then_n ?_
  refine wp_block ?_
  refine wp_loopN (fun mz az wv => ∃ (i : Nat) (ao1 : Option Addr) (cap1 : Nat) (l2 : List Nr) (us1 : Nat → Value), mz = N.length + 1 - i ∧ az = ⟨[.agg (idA d), .agg (plA s an N.length cn ae E.length ce), .agg (idA y), .pointer (some ⟨g1, 0, none⟩), .pointer (some ⟨g2, 0, none⟩), .pointer (some ⟨g3, 0, none⟩), .bool false, .func (.func 21) #[] #[.pointer (some ⟨g3, 0, none⟩)], .pointer (some ⟨g4, 0, none⟩), undef, us1 0, undef, undef, undef, undef, undef, undef, undef, undef, .func (.func 21) #[] #[.pointer (some ⟨g3, 0, none⟩)], .func (.func 21) #[] #[.pointer (some ⟨g3, 0, none⟩)], .pointer (some ⟨g2, 0, none⟩), .agg (idA s), .agg (idA (addN s y)), .agg (plA (addN s y) none 0 0 none 0 0), .pointer (some ⟨g2, 16, none⟩), .slice an N.length cn, .int .i64 ((N.length : Nat) : Int), .int .i64 ((i : Nat) : Int), us1 1, us1 2, us1 3, us1 4, us1 5, us1 6, us1 7, us1 8, us1 9, us1 10, us1 11, us1 12, us1 13, us1 14, us1 15, us1 16, undef, undef, undef, undef, undef, undef, undef, undef, undef, undef, undef, undef, undef, undef, undef, undef, undef, undef, undef, undef, undef, undef, undef, undef, undef, undef, undef, undef, undef, undef, undef, undef, undef, undef, undef, undef, undef, undef, undef, undef, undef, undef, undef, undef, undef, undef, undef, undef, undef, undef, undef, undef, undef, undef, undef, undef, undef, undef, undef, undef, undef, undef, undef].toArray, []⟩ ∧ i ≤ N.length ∧ Gro w wv ∧ wv.heap[g1]? = some (.cells (idA d) 23 (0, 0)) ∧ wv.heap[g2]? = some (.cells (plA s an N.length cn ae E.length ce) 27 (0, 0)) ∧ wv.heap[g3]? = some (.cells (idA y) 23 (0, 0)) ∧ wv.heap[g4]? = some (.cells (plA (addN s y) ao1 l2.length cap1 none 0 0) 27 (0, 0)) ∧ OW kN 55 wv w.heap.size ao1 cap1 l2 ∧ l2 = (N.take i).map (tnN y)) ?_ _ ⟨0, none, 0, [], (fun kz => ([undef, undef, undef, undef, undef, undef, undef, undef, undef, undef, undef, undef, undef, undef, undef, undef, undef] : List Value).getD kz undef), rfl, rfl, Nat.zero_le _, GG, kg1, kg2, kg3, kg4, OW.nil _ _, rfl⟩
  clear GG kg1 kg2 kg3 kg4
  rintro mz az wv ⟨i, ao1, cap1, l2, us1, rfl, rfl, hi, GG, kg1, kg2, kg3, kg4, HO, hl2⟩
  have hl2n := tn_len hl2 hi
  refine wp_seq ?_
  refine wp_region_lit ?_
  cases hi1 : decide (((i : Nat) : Int) < ((N.length : Nat) : Int))
  · have hie : i = N.length := by have := of_decide_eq_false hi1; omega
    refine s_val 29 rfl rfl (.bool false) (run_lssT 3 _ _ _ rfl ((i : Nat) : Int) ((N.length : Nat) : Int) rfl rfl false hi1 _) ?_
    refine nr ?_; intro U h; simp only [z0, z1] at h; subst h
    refine wpList_nil ?_
    refine then_n ?_
    refine wp_seq ?_
    refine wp_cond_false rfl ?_
    refine wp_exit ?_
    refine then_x ?_
    refine then_x ?_
    refine blk_x ?_
    refine then_n ?_
    refine wp_seq ?_
    refine wp_seq ?_
    refine wp_region_lit ?_
    refine s_val 45 rfl rfl (.pointer (some ⟨g2, 17, none⟩)) (run_fld 27 _ 2 rfl g2 0 rfl 17 (by kernel_rfl)) ?_
    refine nr ?_; intro U h; simp only [z0, z1] at h; subst h
    refine s_val 46 rfl rfl (.slice ae E.length ce) (ldLe _ rfl g2 rfl (kg2)) ?_
    refine nr ?_; intro U h; simp only [z0, z1] at h; subst h
    refine s_val 47 rfl rfl (.int .i64 ((E.length : Nat) : Int)) (run_len Try.underlying25 _ rfl _ _ _ rfl _) ?_
    refine nr ?_; intro U h; simp only [z0, z1] at h; subst h
    refine s_val 48 rfl rfl (.int .i64 0) (rfl) ?_
    refine nr ?_; intro U h; simp only [z0, z1] at h; subst h
    refine wpList_nil ?_
    refine then_n ?_
    refine wp_block ?_
    have e2 : l2 = (N.map (tnN y)) := by rw [hl2, hie, List.take_length]
    subst e2
    clear hl2
    refine wp_loopN (fun mz az wv => ∃ (j : Nat) (ao5 : Option Addr) (cap5 : Nat) (l5 : List En) (us2 : Nat → Value), mz = E.length + 1 - j ∧ az = ⟨[.agg (idA d), .agg (plA s an N.length cn ae E.length ce), .agg (idA y), .pointer (some ⟨g1, 0, none⟩), .pointer (some ⟨g2, 0, none⟩), .pointer (some ⟨g3, 0, none⟩), .bool false, .func (.func 21) #[] #[.pointer (some ⟨g3, 0, none⟩)], .pointer (some ⟨g4, 0, none⟩), undef, us1 0, undef, us2 0, undef, undef, undef, undef, undef, undef, .func (.func 21) #[] #[.pointer (some ⟨g3, 0, none⟩)], .func (.func 21) #[] #[.pointer (some ⟨g3, 0, none⟩)], .pointer (some ⟨g2, 0, none⟩), .agg (idA s), .agg (idA (addN s y)), .agg (plA (addN s y) none 0 0 none 0 0), .pointer (some ⟨g2, 16, none⟩), .slice an N.length cn, .int .i64 ((N.length : Nat) : Int), .int .i64 ((i : Nat) : Int), .bool false, us1 2, us1 3, us1 4, us1 5, us1 6, us1 7, us1 8, us1 9, us1 10, us1 11, us1 12, us1 13, us1 14, us1 15, us1 16, .pointer (some ⟨g2, 17, none⟩), .slice ae E.length ce, .int .i64 ((E.length : Nat) : Int), .int .i64 ((j : Nat) : Int), us2 1, us2 2, us2 3, us2 4, us2 5, us2 6, us2 7, us2 8, us2 9, us2 10, us2 11, us2 12, us2 13, us2 14, us2 15, us2 16, us2 17, us2 18, us2 19, us2 20, undef, undef, undef, undef, undef, undef, undef, undef, undef, undef, undef, undef, undef, undef, undef, undef, undef, undef, undef, undef, undef, undef, undef, undef, undef, undef, undef, undef, undef, undef, undef, undef, undef, undef, undef, undef, undef, undef, undef].toArray, []⟩ ∧ j ≤ E.length ∧ Gro w wv ∧ wv.heap[g1]? = some (.cells (idA d) 23 (0, 0)) ∧ wv.heap[g2]? = some (.cells (plA s an N.length cn ae E.length ce) 27 (0, 0)) ∧ wv.heap[g3]? = some (.cells (idA y) 23 (0, 0)) ∧ wv.heap[g4]? = some (.cells (plA (addN s y) ao1 (N.map (tnN y)).length cap1 ao5 l5.length cap5) 27 (0, 0)) ∧ OW kN 55 wv w.heap.size ao1 cap1 (N.map (tnN y)) ∧ OE wv w.heap.size ao5 cap5 l5 ∧ l5 = (E.take j).map (tnE y)) ?_ _ ⟨0, none, 0, [], (fun kz => ([undef, undef, undef, undef, undef, undef, undef, undef, undef, undef, undef, undef, undef, undef, undef, undef, undef, undef, undef, undef, undef] : List Value).getD kz undef), rfl, rfl, Nat.zero_le _, GG, kg1, kg2, kg3, kg4, HO, OE.nil _ _, rfl⟩
    clear GG kg1 kg2 kg3 kg4 HO
    rintro mz az wv ⟨j, ao5, cap5, l5, us2, rfl, rfl, hj, GG, kg1, kg2, kg3, kg4, HO, HO3, hl5⟩
    have hl5n := te_len hl5 hj
    refine wp_seq ?_
    refine wp_region_lit ?_
    cases hj1 : decide (((j : Nat) : Int) < ((E.length : Nat) : Int))
    · have hje : j = E.length := by have := of_decide_eq_false hj1; omega
      refine s_val 49 rfl rfl (.bool false) (run_lssT 3 _ _ _ rfl ((j : Nat) : Int) ((E.length : Nat) : Int) rfl rfl false hj1 _) ?_
      refine nr ?_; intro U h; simp only [z0, z1] at h; subst h
      refine wpList_nil ?_
      refine then_n ?_
      refine wp_seq ?_
      refine wp_cond_false rfl ?_
      refine wp_exit ?_
      refine then_x ?_
      refine then_x ?_
      refine blk_x ?_
      refine then_n ?_
      refine wp_seq ?_
      have e5 : l5 = (E.map (tnE y)) := by rw [hl5, hje, List.take_length]
      subst e5
      clear hl5
      refine wp_region_lit ?_
      refine s_val 70 rfl rfl (.pointer (some ⟨g2, 17, none⟩)) (run_fld 27 _ 2 rfl g2 0 rfl 17 (by kernel_rfl)) ?_
      refine nr ?_; intro U h; simp only [z0, z1] at h; subst h
      refine s_val 71 rfl rfl (.slice ae E.length ce) (ldLe _ rfl g2 rfl (kg2)) ?_
      refine nr ?_; intro U h; simp only [z0, z1] at h; subst h
      refine s_callx 72 rfl rfl _ 9 Try.call9 rfl rfl _ rfl [.slice ae E.length ce] rfl (laid_any _ ae ce E (HE.gro GG) (le_big hEl)) (by rintro _ _ ⟨_, _, _, _, he, _⟩; exact ⟨_, he⟩) ?_
      rintro v w7 ⟨t, b, lat, lct, he, G, kt, HTt, HLt⟩
      cases he
      replace kg1 := G.has kg1
      replace kg2 := G.has kg2
      replace kg3 := G.has kg3
      replace kg4 := G.has kg4
      replace HO := HO.gro G
      replace HO3 := HO3.gro G
      replace GG := GG.trans G
      clear G
      refine nr ?_; intro U h; simp only [z0, z1] at h; subst h
      refine s_val 69 rfl rfl (.tuple #[.pointer (some ⟨t, 0, none⟩), .slice lat (layL [] E).length lct]) (rfl) ?_
      refine nr ?_; intro U h; simp only [z0, z1] at h; subst h
      refine s_val 73 rfl rfl (.pointer (some ⟨t, 0, none⟩)) (rfl) ?_
      refine nr ?_; intro U h; simp only [z0, z1] at h; subst h
      refine s_val 74 rfl rfl (.slice lat (layL [] E).length lct) (rfl) ?_
      refine nr ?_; intro U h; simp only [z0, z1] at h; subst h
      refine s_val 13 rfl rfl (.pointer (some ⟨t, 0, none⟩)) (rfl) ?_
      refine nr ?_; intro U h; simp only [z0, z1] at h; subst h
      refine s_val 14 rfl rfl (.slice lat (layL [] E).length lct) (rfl) ?_
      refine nr ?_; intro U h; simp only [z0, z1] at h; subst h
      refine wpList_nil ?_
      refine then_n ?_
      refine wp_seq ?_
      refine wp_region_lit ?_
      refine s_val 76 rfl rfl (.pointer (some ⟨g4, 17, none⟩)) (run_fld 27 _ 2 rfl g4 0 rfl 17 (by kernel_rfl)) ?_
      refine nr ?_; intro U h; simp only [z0, z1] at h; subst h
      refine s_val 77 rfl rfl (.slice ao5 (E.map (tnE y)).length cap5) (ldLe _ rfl g4 rfl (kg4)) ?_
      refine nr ?_; intro U h; simp only [z0, z1] at h; subst h
      refine s_callx 78 rfl rfl _ 9 Try.call9 rfl rfl _ rfl [.slice ao5 (E.map (tnE y)).length cap5] rfl (laid_any _ ao5 cap5 (E.map (tnE y)) HO3.re (le_big (by rw [List.length_map]; exact hEl))) (by rintro _ _ ⟨_, _, _, _, he, _⟩; exact ⟨_, he⟩) ?_
      rintro v w8 ⟨t2, b2, lat2, lct2, he, G, kt2, HTt2, HLt2⟩
      cases he
      replace kg1 := G.has kg1
      replace kg2 := G.has kg2
      replace kg3 := G.has kg3
      replace kg4 := G.has kg4
      replace kt := G.has kt
      replace HO := HO.gro G
      replace HO3 := HO3.gro G
      replace HTt := HTt.gro G
      replace HLt := HLt.gro G
      replace GG := GG.trans G
      clear G
      refine nr ?_; intro U h; simp only [z0, z1] at h; subst h
      refine s_val 75 rfl rfl (.tuple #[.pointer (some ⟨t2, 0, none⟩), .slice lat2 (layL [] (E.map (tnE y))).length lct2]) (rfl) ?_
      refine nr ?_; intro U h; simp only [z0, z1] at h; subst h
      refine s_val 79 rfl rfl (.pointer (some ⟨t2, 0, none⟩)) (rfl) ?_
      refine nr ?_; intro U h; simp only [z0, z1] at h; subst h
      refine s_val 80 rfl rfl (.slice lat2 (layL [] (E.map (tnE y))).length lct2) (rfl) ?_
      refine nr ?_; intro U h; simp only [z0, z1] at h; subst h
      refine s_val 15 rfl rfl (.pointer (some ⟨t2, 0, none⟩)) (rfl) ?_
      refine nr ?_; intro U h; simp only [z0, z1] at h; subst h
      refine s_val 16 rfl rfl (.slice lat2 (layL [] (E.map (tnE y))).length lct2) (rfl) ?_
      refine nr ?_; intro U h; simp only [z0, z1] at h; subst h
      refine wpList_nil ?_
      refine then_n ?_
      refine wp_seq ?_
      refine wp_region_g2A (A := ?Ax1) 18 [(0, 81), (1, 82), (2, 83), (3, 84), (4, 85), (5, 86), (6, 87), (7, 88), (8, 89), (9, 90), (10, 91), (11, 92), (12, 93), (13, 94), (14, 95), (15, 96), (16, 17), (17, 18)] [.val (.agg (idA d)), .val (.pointer (some ⟨g2, 0, none⟩)), .val (.agg (idA s)), .val (.pointer (some ⟨g2, 16, none⟩)), .val (.slice an N.length cn), .val (.pointer (some ⟨t, 0, none⟩)), .val (.agg (chA (cho d s N (layL [] E)))), .val (.func (.func 21) #[] #[.pointer (some ⟨g3, 0, none⟩)]), .val (.agg (idA d)), .val (.agg (idA (addN d y))), .val (.pointer (some ⟨g4, 0, none⟩)), .val (.agg (idA (addN s y))), .val (.pointer (some ⟨g4, 16, none⟩)), .val (.slice ao1 (N.map (tnN y)).length cap1), .val (.pointer (some ⟨t2, 0, none⟩)), .val (.agg (chA (cho (addN d y) (addN s y) (N.map (tnN y)) (layL [] (E.map (tnE y)))))), .new 40 (chA zC) (chA zC) 999, .new 40 (chA zC) (chA zC) 999] follows (by kernel_rfl) (by kernel_rfl) rfl ?hAx1 (opsA2_cons ?o0x1 (opsA2_cons ?o1x1 (opsA2_cons ?o2x1 (opsA2_cons ?o3x1 (opsA2_cons ?o4x1 (opsA2_cons ?o5x1 (opsA2_cons ?o6x1 (opsA2_cons ?o7x1 (opsA2_cons ?o8x1 (opsA2_cons ?o9x1 (opsA2_cons ?o10x1 (opsA2_cons ?o11x1 (opsA2_cons ?o12x1 (opsA2_cons ?o13x1 (opsA2_cons ?o14x1 (opsA2_cons ?o15x1 (opsA2_cons ?o16x1 (opsA2_cons ?o17x1 opsA2_nil)))))))))))))))))) ?restx1
      case hAx1 =>
        intro ptrs
        simp only [full, foldSlots, filled2, postAt2, List.foldl_cons, List.foldl_nil, List.getD_cons_zero, List.getD_cons_succ, PostS.fill, PostS.val, PostS.new, List.set_cons_zero, List.set_cons_succ]
        exact rfl
      case o0x1 => exact fun _ _ _ hw _ _ => OpOK2.of_val (ok_value (v := .agg (idA d)) rfl (ldI0 _ rfl g1 rfl (hw.has kg1)))
      case o1x1 => exact fun _ _ _ _ _ _ => OpOK2.of_val (ok_value (v := .pointer (some ⟨g2, 0, none⟩)) rfl (run_fld 27 _ 0 rfl g2 0 rfl 0 (by kernel_rfl)))
      case o2x1 => exact fun _ _ _ hw _ _ => OpOK2.of_val (ok_value (v := .agg (idA s)) rfl (ldLs _ rfl g2 rfl (hw.has kg2)))
      case o3x1 => exact fun _ _ _ _ _ _ => OpOK2.of_val (ok_value (v := .pointer (some ⟨g2, 16, none⟩)) rfl (run_fld 27 _ 1 rfl g2 0 rfl 16 (by kernel_rfl)))
      case o4x1 => exact fun _ _ _ hw _ _ => OpOK2.of_val (ok_value (v := .slice an N.length cn) rfl (ldLn _ rfl g2 rfl (hw.has kg2)))
      case o5x1 => exact fun _ _ _ _ _ _ => OpOK2.of_val (ok_value (v := .pointer (some ⟨t, 0, none⟩)) rfl rfl)
      case o6x1 => exact fun _ _ _ hw _ _ => OpOK2.of_val (ok_call rfl _ 14 Try.call14 rfl rfl _ rfl [.agg (idA d), .agg (idA s), .slice an N.length cn, .pointer (some ⟨t, 0, none⟩)] rfl _ (choose_any _ d s hd hs an cn N (HN.gro (GG.drew.trans hw)) hNl t b 128 (layL [] E) (hw.has kt) (HTt.gro ((Gro.refl _).drew.trans hw)) hRis hLl))
      case o7x1 => exact fun _ _ _ _ _ _ => OpOK2.of_val (ok_value (v := .func (.func 21) #[] #[.pointer (some ⟨g3, 0, none⟩)]) rfl rfl)
      case o8x1 => exact fun _ _ _ hw _ _ => OpOK2.of_val (ok_value (v := .agg (idA d)) rfl (ldI0 _ rfl g1 rfl (hw.has kg1)))
      case o9x1 => exact fun _ _ _ hw _ _ => OpOK2.of_val (ok_callF rfl _ 21 #[.pointer (some ⟨g3, 0, none⟩)] Try.call21 rfl _ rfl rfl _ rfl [.agg (idA d)] rfl _ (turn_any d y g3 hd hy _ (hw.has kg3)))
      case o10x1 => exact fun _ _ _ _ _ _ => OpOK2.of_val (ok_value (v := .pointer (some ⟨g4, 0, none⟩)) rfl (run_fld 27 _ 0 rfl g4 0 rfl 0 (by kernel_rfl)))
      case o11x1 => exact fun _ _ _ hw _ _ => OpOK2.of_val (ok_value (v := .agg (idA (addN s y))) rfl (ldLs _ rfl g4 rfl (hw.has kg4)))
      case o12x1 => exact fun _ _ _ _ _ _ => OpOK2.of_val (ok_value (v := .pointer (some ⟨g4, 16, none⟩)) rfl (run_fld 27 _ 1 rfl g4 0 rfl 16 (by kernel_rfl)))
      case o13x1 => exact fun _ _ _ hw _ _ => OpOK2.of_val (ok_value (v := .slice ao1 (N.map (tnN y)).length cap1) rfl (ldLn _ rfl g4 rfl (hw.has kg4)))
      case o14x1 => exact fun _ _ _ _ _ _ => OpOK2.of_val (ok_value (v := .pointer (some ⟨t2, 0, none⟩)) rfl rfl)
      case o15x1 => exact fun _ _ _ hw _ _ => OpOK2.of_val (ok_call rfl _ 14 Try.call14 rfl rfl _ rfl [.agg (idA (addN d y)), .agg (idA (addN s y)), .slice ao1 (N.map (tnN y)).length cap1, .pointer (some ⟨t2, 0, none⟩)] rfl _ (choose_any _ (addN d y) (addN s y) (addN_lt _ _) (addN_lt _ _) ao1 cap1 (N.map (tnN y)) (HO.gro ((Gro.refl _).drew.trans hw)).re (by rw [List.length_map]; exact hNl) t2 b2 128 (layL [] (E.map (tnE y))) (hw.has kt2) (HTt2.gro ((Gro.refl _).drew.trans hw)) hRis2 hLl2))
      case o16x1 => exact fun _ _ _ _ _ _ => OpOK2.of_new (ok_alloc rfl 40 rfl _ zeroC)
      case o17x1 => exact fun _ _ _ _ _ _ => OpOK2.of_new (ok_alloc rfl 40 rfl _ zeroC)
      intro ptrs Lz w9 GD hLz hnz hapz
      obtain ⟨⟨ga, pzga, kga, czga⟩, ⟨⟨gb, pzgb, kgb, czgb⟩, hzz⟩⟩ := hnz
      simp only [List.drop_succ_cons, List.drop_zero, pzga, pzgb]
      replace kga : w9.heap[ga]? = some (.cells (chA zC) 40 (0, 0)) := by
        have kk : w9.heap[ga]? = some (.cells (if Lz 999 = true then (chA zC) else (chA zC)) 40 (0, 0)) := kga
        rwa [ite_self] at kk
      replace kgb : w9.heap[gb]? = some (.cells (chA zC) 40 (0, 0)) := by
        have kk : w9.heap[gb]? = some (.cells (if Lz 999 = true then (chA zC) else (chA zC)) 40 (0, 0)) := kgb
        rwa [ite_self] at kk
      have ngagb : ga ≠ gb := fun e => apart_two (i := 16) (j := 17) hapz (by kernel_rfl) (by rw [pzga, pzgb, e])
      clear hzz hapz hLz
      have dg1ga : g1 < ga := Nat.lt_of_lt_of_le (lt_of_heap kg1) czga
      have dg2ga : g2 < ga := Nat.lt_of_lt_of_le (lt_of_heap kg2) czga
      have dg3ga : g3 < ga := Nat.lt_of_lt_of_le (lt_of_heap kg3) czga
      have dg4ga : g4 < ga := Nat.lt_of_lt_of_le (lt_of_heap kg4) czga
      have dtga : t < ga := Nat.lt_of_lt_of_le (lt_of_heap kt) czga
      have dt2ga : t2 < ga := Nat.lt_of_lt_of_le (lt_of_heap kt2) czga
      have dHOga := HO.neG czga
      have dHO3ga := HO3.neG czga
      have dHTtga := HTt.neG czga
      have dHLtga := HLt.neG czga
      have dHTt2ga := HTt2.neG czga
      have dHLt2ga := HLt2.neG czga
      have dg1gb : g1 < gb := Nat.lt_of_lt_of_le (lt_of_heap kg1) czgb
      have dg2gb : g2 < gb := Nat.lt_of_lt_of_le (lt_of_heap kg2) czgb
      have dg3gb : g3 < gb := Nat.lt_of_lt_of_le (lt_of_heap kg3) czgb
      have dg4gb : g4 < gb := Nat.lt_of_lt_of_le (lt_of_heap kg4) czgb
      have dtgb : t < gb := Nat.lt_of_lt_of_le (lt_of_heap kt) czgb
      have dt2gb : t2 < gb := Nat.lt_of_lt_of_le (lt_of_heap kt2) czgb
      have dHOgb := HO.neG czgb
      have dHO3gb := HO3.neG czgb
      have dHTtgb := HTt.neG czgb
      have dHLtgb := HLt.neG czgb
      have dHTt2gb := HTt2.neG czgb
      have dHLt2gb := HLt2.neG czgb
      replace kg1 := GD.has kg1
      replace kg2 := GD.has kg2
      replace kg3 := GD.has kg3
      replace kg4 := GD.has kg4
      replace kt := GD.has kt
      replace kt2 := GD.has kt2
      replace HO := HO.gro ((Gro.refl _).drew.trans GD)
      replace HO3 := HO3.gro ((Gro.refl _).drew.trans GD)
      replace HTt := HTt.gro ((Gro.refl _).drew.trans GD)
      replace HLt := HLt.gro ((Gro.refl _).drew.trans GD)
      replace HTt2 := HTt2.gro ((Gro.refl _).drew.trans GD)
      replace HLt2 := HLt2.gro ((Gro.refl _).drew.trans GD)
      have bga := Nat.le_trans GG.size czga
      have bgb := Nat.le_trans GG.size czgb
      replace GG := GG.drew.trans GD
      clear GD pzga czga pzgb czgb
      refine s_store rfl rfl 40 _ _ rfl ga 0 rfl (.agg (chA (cho d s N (layL [] E)))) rfl 40 _ kga (chA (cho d s N (layL [] E))) rfl (siC' _) (chA_fit _ _) (chA_one _) (chA (cho d s N (layL [] E))) (splice_whole _ _ (chA_sz _ _)) ?_
      intro w10 St
      have kS := kga
      replace kg1 := St.has (by omega) kg1
      replace kg2 := St.has (by omega) kg2
      replace kg3 := St.has (by omega) kg3
      replace kg4 := St.has (by omega) kg4
      replace kt := St.has (by omega) kt
      replace kt2 := St.has (by omega) kt2
      replace kgb := St.has (by omega) kgb
      replace HO := HO.st St dHOga
      replace HO3 := HO3.st St dHO3ga
      replace HTt := HTt.st St dHTtga
      replace HLt := HLt.st St dHLtga
      replace HTt2 := HTt2.st St dHTt2ga
      replace HLt2 := HLt2.st St dHLt2ga
      replace GG := GG.store St bga
      replace kga := St.new
      clear St
      refine s_store rfl rfl 40 _ _ rfl gb 0 rfl (.agg (chA (cho (addN d y) (addN s y) (N.map (tnN y)) (layL [] (E.map (tnE y)))))) rfl 40 _ kgb (chA (cho (addN d y) (addN s y) (N.map (tnN y)) (layL [] (E.map (tnE y))))) rfl (siC' _) (chA_fit _ _) (chA_one _) (chA (cho (addN d y) (addN s y) (N.map (tnN y)) (layL [] (E.map (tnE y))))) (splice_whole _ _ (chA_sz _ _)) ?_
      intro w11 St
      have kS := kgb
      replace kg1 := St.has (by omega) kg1
      replace kg2 := St.has (by omega) kg2
      replace kg3 := St.has (by omega) kg3
      replace kg4 := St.has (by omega) kg4
      replace kt := St.has (by omega) kt
      replace kt2 := St.has (by omega) kt2
      replace kga := St.has (by omega) kga
      replace HO := HO.st St dHOgb
      replace HO3 := HO3.st St dHO3gb
      replace HTt := HTt.st St dHTtgb
      replace HLt := HLt.st St dHLtgb
      replace HTt2 := HTt2.st St dHTt2gb
      replace HLt2 := HLt2.st St dHLt2gb
      replace GG := GG.store St bgb
      replace kgb := St.new
      clear St
      refine wpList_nil ?_
      refine then_n ?_
      refine wp_seq ?_
      refine wp_region_lit ?_
      refine s_val 97 rfl rfl (.func (.func 21) #[] #[.pointer (some ⟨g3, 0, none⟩)]) (rfl) ?_
      refine nr ?_; intro U h; simp only [z0, z1] at h; subst h
      refine s_val 98 rfl rfl (.pointer (some ⟨ga, 0, none⟩)) (run_fld 40 _ 0 rfl ga 0 rfl 0 (by kernel_rfl)) ?_
      refine nr ?_; intro U h; simp only [z0, z1] at h; subst h
      refine s_val 99 rfl rfl (.agg (idA (cho d s N (layL [] E)).id)) (ldCi _ rfl ga rfl (kga)) ?_
      refine nr ?_; intro U h; simp only [z0, z1] at h; subst h
      refine s_callF 100 rfl rfl _ 21 #[.pointer (some ⟨g3, 0, none⟩)] Try.call21 rfl _ rfl rfl _ rfl [.agg (idA (cho d s N (layL [] E)).id)] rfl (turn_any (cho d s N (layL [] E)).id y g3 (cho_ok hs HN.all hAll).id hy _ (kg3)) ?_
      intro w12 G
      replace kg1 := G.has kg1
      replace kg2 := G.has kg2
      replace kg3 := G.has kg3
      replace kg4 := G.has kg4
      replace kt := G.has kt
      replace kt2 := G.has kt2
      replace kga := G.has kga
      replace kgb := G.has kgb
      replace HO := HO.gro G
      replace HO3 := HO3.gro G
      replace HTt := HTt.gro G
      replace HLt := HLt.gro G
      replace HTt2 := HTt2.gro G
      replace HLt2 := HLt2.gro G
      replace GG := GG.trans G
      clear G
      refine nr ?_; intro U h; simp only [z0, z1] at h; subst h
      refine s_val 101 rfl rfl (.pointer (some ⟨ga, 0, none⟩)) (run_fld 40 _ 0 rfl ga 0 rfl 0 (by kernel_rfl)) ?_
      refine nr ?_; intro U h; simp only [z0, z1] at h; subst h
      refine s_store rfl rfl 23 _ _ rfl ga 0 rfl (.agg (idA (addN (cho d s N (layL [] E)).id y))) rfl 40 _ kga (idA (addN (cho d s N (layL [] E)).id y)) rfl (size23' _) (by rw [chA_size, idA_size]; decide) (idA_one _) (chA (tnC y (cho d s N (layL [] E)))) (spC_id _ _) ?_
      intro w13 St
      have kS := kga
      replace kg1 := St.has (by omega) kg1
      replace kg2 := St.has (by omega) kg2
      replace kg3 := St.has (by omega) kg3
      replace kg4 := St.has (by omega) kg4
      replace kt := St.has (by omega) kt
      replace kt2 := St.has (by omega) kt2
      replace kgb := St.has (by omega) kgb
      replace HO := HO.st St dHOga
      replace HO3 := HO3.st St dHO3ga
      replace HTt := HTt.st St dHTtga
      replace HLt := HLt.st St dHLtga
      replace HTt2 := HTt2.st St dHTt2ga
      replace HLt2 := HLt2.st St dHLt2ga
      replace GG := GG.store St bga
      replace kga := St.new
      clear St
      refine wpList_nil ?_
      refine then_n ?_
      refine wp_seq ?_
      refine wp_region_opq ?_
      intro OPS hY
      have y1 := hY 1 103 rfl
      clear hY
      refine s_callv 102 rfl rfl _ 10 Try.call10 rfl rfl _ rfl [] rfl (fixed_any _) ?_
      intro w14 G
      replace kg1 := G.has kg1
      replace kg2 := G.has kg2
      replace kg3 := G.has kg3
      replace kg4 := G.has kg4
      replace kt := G.has kt
      replace kt2 := G.has kt2
      replace kga := G.has kga
      replace kgb := G.has kgb
      replace HO := HO.gro G
      replace HO3 := HO3.gro G
      replace HTt := HTt.gro G
      replace HLt := HLt.gro G
      replace HTt2 := HTt2.gro G
      replace HLt2 := HLt2.gro G
      replace GG := GG.trans G
      clear G
      refine nr ?_; intro U h; simp only [z0, z1] at h; subst h
      refine s_val 103 rfl rfl (.bool true) (rfl) ?_
      refine nr ?_; intro U h; simp only [z0, z1] at h; subst h
      refine s_gvalY 104 rfl rfl y1 rfl (.agg (chA (tnC y (cho d s N (layL [] E))))) (ldC0 _ rfl ga rfl (kga)) ?_
      refine nr ?_; intro U h; simp only [z0, z1] at h; subst h
      refine s_gvalY 105 rfl rfl y1 rfl (.agg (chA (cho (addN d y) (addN s y) (N.map (tnN y)) (layL [] (E.map (tnE y)))))) (ldC0 _ rfl gb rfl (kgb)) ?_
      refine nr ?_; intro U h; simp only [z0, z1] at h; subst h
      refine s_gvalY 106 rfl rfl y1 rfl (.bool true) (run_eqC _ _ _ rfl (tnC y (cho d s N (layL [] E))) (cho (addN d y) (addN s y) (N.map (tnN y)) (layL [] (E.map (tnE y)))) rfl rfl (tnC_ok (cho_ok hs HN.all hAll)) hC2 true (decide_eq_true hC3.symm)) ?_
      refine nr ?_; intro U h; simp only [z0, z1] at h; subst h
      refine s_val 107 rfl rfl (.bool true) (rfl) ?_
      refine nr ?_; intro U h; simp only [z0, z1] at h; subst h
      refine s_val 6 rfl rfl (.bool true) (rfl) ?_
      refine nr ?_; intro U h; simp only [z0, z1] at h; subst h
      refine wpList_nil ?_
      refine then_n ?_
      refine wp_ret ?_
      refine bodyPost_ret (results_tmp Try.results8 _ _ _) rfl ?_
      exact ⟨rfl, GG⟩
    · have hjl : j < E.length := by have := of_decide_eq_true hj1; omega
      refine s_val 49 rfl rfl (.bool true) (run_lssT 3 _ _ _ rfl ((j : Nat) : Int) ((E.length : Nat) : Int) rfl rfl true hj1 _) ?_
      refine nr ?_; intro U h; simp only [z0, z1] at h; subst h
      refine wpList_nil ?_
      refine then_n ?_
      refine wp_seq ?_
      refine wp_cond_true rfl ?_
      refine wp_skip ?_
      refine then_n ?_
      refine wp_seq ?_
      refine wp_block ?_
      refine wp_seq ?_
      refine wp_region_lit ?_
      refine s_val 50 rfl rfl (.pointer (pE ae j 0)) (run_ixE (HE.gro GG) _ _ rfl rfl j rfl (by omega)) ?_
      refine nr ?_; intro U h; simp only [z0, z1] at h; subst h
      refine s_val 51 rfl rfl (.agg (enA (E.getD j zE))) (run_ldE (HE.gro GG) _ rfl j rfl (by omega)) ?_
      refine nr ?_; intro U h; simp only [z0, z1] at h; subst h
      refine s_alloc 12 rfl rfl 57 rfl _ zero33 (enA zE) rfl ?_
      intro w7 g5 G eg5 kg5
      have bg5 := size_base GG eg5
      have dg1g5 := lt_new kg1 eg5
      have dg2g5 := lt_new kg2 eg5
      have dg3g5 := lt_new kg3 eg5
      have dg4g5 := lt_new kg4 eg5
      have dHOg5 := HO.ne eg5
      have dHO3g5 := HO3.ne eg5
      replace kg1 := G.has kg1
      replace kg2 := G.has kg2
      replace kg3 := G.has kg3
      replace kg4 := G.has kg4
      replace HO := HO.gro G
      replace HO3 := HO3.gro G
      replace GG := GG.trans G
      clear G
      clear eg5
      refine nr ?_; intro U h; simp only [z0, z1] at h; subst h
      refine s_store rfl rfl 57 _ _ rfl g5 0 rfl (.agg (enA (E.getD j zE))) rfl 57 _ kg5 (enA (E.getD j zE)) rfl (si33' _) (enA_fit _ _) (enA_one _) (enA (E.getD j zE)) (splice_whole _ _ (enA_sz _ _)) ?_
      intro w8 St
      have kS := kg5
      replace kg1 := St.has (by omega) kg1
      replace kg2 := St.has (by omega) kg2
      replace kg3 := St.has (by omega) kg3
      replace kg4 := St.has (by omega) kg4
      replace HO := HO.st St dHOg5
      replace HO3 := HO3.st St dHO3g5
      replace GG := GG.store St bg5
      replace kg5 := St.new
      clear St
      refine wpList_nil ?_
      refine then_n ?_
      refine wp_seq ?_
      refine wp_region_exA (A := ?Ax2) 9 [(0, 52), (1, 53), (2, 54), (3, 55), (4, 56), (5, 57), (6, 58), (7, 59), (8, 60)] [.val (.func (.func 21) #[] #[.pointer (some ⟨g3, 0, none⟩)]), .val (.pointer (some ⟨g5, 17, none⟩)), .val (.agg (idA (E.getD j zE).a)), .val (.agg (idA (addN (E.getD j zE).a y))), .val (.func (.func 21) #[] #[.pointer (some ⟨g3, 0, none⟩)]), .val (.pointer (some ⟨g5, 33, none⟩)), .val (.agg (idA (E.getD j zE).b)), .val (.agg (idA (addN (E.getD j zE).b y))), .val (.pointer (some ⟨g5, 17, none⟩))] follows (by kernel_rfl) rfl ?hAx2 (opsA_cons ?o0x2 (opsA_cons ?o1x2 (opsA_cons ?o2x2 (opsA_cons ?o3x2 (opsA_cons ?o4x2 (opsA_cons ?o5x2 (opsA_cons ?o6x2 (opsA_cons ?o7x2 (opsA_cons ?o8x2 opsA_nil))))))))) ?restx2
      case hAx2 =>
        intro ptrs
        simp only [full, foldSlots, filledE, postE, List.foldl_cons, List.foldl_nil, List.getD_cons_zero, List.getD_cons_succ, fill_val, List.set_cons_zero, List.set_cons_succ]
        exact rfl
      case o0x2 => exact fun _ _ _ _ => opE_move (v := .func (.func 21) #[] #[.pointer (some ⟨g3, 0, none⟩)]) _ rfl rfl rfl
      case o1x2 => exact fun _ _ _ _ => opE_value (v := .pointer (some ⟨g5, 17, none⟩)) rfl (run_fld 57 _ 1 rfl g5 0 rfl 17 (by kernel_rfl))
      case o2x2 => exact fun _ _ hw _ => opE_value (v := .agg (idA (E.getD j zE).a)) rfl (ldEa _ rfl g5 rfl (hw.has kg5))
      case o3x2 => exact fun _ _ hw _ => opE_callF (.val (.agg (idA (addN (E.getD j zE).a y)))) rfl _ 21 #[.pointer (some ⟨g3, 0, none⟩)] Try.call21 rfl _ rfl rfl _ rfl [.agg (idA (E.getD j zE).a)] rfl ((turn_any (E.getD j zE).a y g3 (HE.all.at hjl).a hy _ (hw.has kg3)).mono fun e w' ⟨he, hg⟩ => ⟨_, he, hg, rfl⟩)
      case o4x2 => exact fun _ _ _ _ => opE_move (v := .func (.func 21) #[] #[.pointer (some ⟨g3, 0, none⟩)]) _ rfl rfl rfl
      case o5x2 => exact fun _ _ _ _ => opE_value (v := .pointer (some ⟨g5, 33, none⟩)) rfl (run_fld 57 _ 2 rfl g5 0 rfl 33 (by kernel_rfl))
      case o6x2 => exact fun _ _ hw _ => opE_value (v := .agg (idA (E.getD j zE).b)) rfl (ldEb _ rfl g5 rfl (hw.has kg5))
      case o7x2 => exact fun _ _ hw _ => opE_callF (.val (.agg (idA (addN (E.getD j zE).b y)))) rfl _ 21 #[.pointer (some ⟨g3, 0, none⟩)] Try.call21 rfl _ rfl rfl _ rfl [.agg (idA (E.getD j zE).b)] rfl ((turn_any (E.getD j zE).b y g3 (HE.all.at hjl).b hy _ (hw.has kg3)).mono fun e w' ⟨he, hg⟩ => ⟨_, he, hg, rfl⟩)
      case o8x2 => exact fun _ _ _ _ => opE_value (v := .pointer (some ⟨g5, 17, none⟩)) rfl (run_fld 57 _ 1 rfl g5 0 rfl 17 (by kernel_rfl))
      intro ptrs w9 GD hxE
      simp only [List.drop_succ_cons, List.drop_zero]
      replace kg1 := GD.has kg1
      replace kg2 := GD.has kg2
      replace kg3 := GD.has kg3
      replace kg4 := GD.has kg4
      replace kg5 := GD.has kg5
      replace HO := HO.gro ((Gro.refl _).drew.trans GD)
      replace HO3 := HO3.gro ((Gro.refl _).drew.trans GD)
      replace GG := GG.drew.trans GD
      clear GD
      refine s_store rfl rfl 23 _ _ rfl g5 17 rfl (.agg (idA (addN (E.getD j zE).a y))) rfl 57 _ kg5 (idA (addN (E.getD j zE).a y)) rfl (size23' _) (by rw [enA_size, idA_size]; decide) (idA_one _) (enA { (E.getD j zE) with a := (addN (E.getD j zE).a y) }) (spE_a _ _) ?_
      intro w10 St
      have kS := kg5
      replace kg1 := St.has (by omega) kg1
      replace kg2 := St.has (by omega) kg2
      replace kg3 := St.has (by omega) kg3
      replace kg4 := St.has (by omega) kg4
      replace HO := HO.st St dHOg5
      replace HO3 := HO3.st St dHO3g5
      replace GG := GG.store St bg5
      replace kg5 := St.new
      clear St
      refine s_val 61 rfl rfl (.pointer (some ⟨g5, 33, none⟩)) (run_fld 57 _ 2 rfl g5 0 rfl 33 (by kernel_rfl)) ?_
      refine nr ?_; intro U h; simp only [z0, z1] at h; subst h
      refine s_store rfl rfl 23 _ _ rfl g5 33 rfl (.agg (idA (addN (E.getD j zE).b y))) rfl 57 _ kg5 (idA (addN (E.getD j zE).b y)) rfl (size23' _) (by rw [enA_size, idA_size]; decide) (idA_one _) (enA (tnE y (E.getD j zE))) (spE_b _ _) ?_
      intro w11 St
      have kS := kg5
      replace kg1 := St.has (by omega) kg1
      replace kg2 := St.has (by omega) kg2
      replace kg3 := St.has (by omega) kg3
      replace kg4 := St.has (by omega) kg4
      replace HO := HO.st St dHOg5
      replace HO3 := HO3.st St dHO3g5
      replace GG := GG.store St bg5
      replace kg5 := St.new
      clear St
      refine wpList_nil ?_
      refine then_n ?_
      refine wp_region_lit ?_
      refine s_val 62 rfl rfl (.pointer (some ⟨g4, 17, none⟩)) (run_fld 27 _ 2 rfl g4 0 rfl 17 (by kernel_rfl)) ?_
      refine nr ?_; intro U h; simp only [z0, z1] at h; subst h
      refine s_val 63 rfl rfl (.slice ao5 l5.length cap5) (ldLe _ rfl g4 rfl (kg4)) ?_
      refine nr ?_; intro U h; simp only [z0, z1] at h; subst h
      refine s_val 64 rfl rfl (.agg (enA (tnE y (E.getD j zE)))) (ldE0 _ rfl g5 rfl (kg5)) ?_
      refine nr ?_; intro U h; simp only [z0, z1] at h; subst h
      refine s_bsl 65 rfl rfl 25 1 _ rfl [(0, .agg (enA (tnE y (E.getD j zE))))] rfl (flE ([(tnE y (E.getD j zE))] : List En)).toArray 57 (bs1 (tnE y (E.getD j zE)) _) ?_
      intro w12 q21 G eq21 kq21
      have bq21 := size_base GG eq21
      replace kg1 := G.has kg1
      replace kg2 := G.has kg2
      replace kg3 := G.has kg3
      replace kg4 := G.has kg4
      replace kg5 := G.has kg5
      replace HO := HO.gro G
      replace HO3 := HO3.gro G
      replace GG := GG.trans G
      clear G
      have HR21 : RE _ (some ⟨q21, 0, none⟩) ([(tnE y (E.getD j zE))] : List En).length ([(tnE y (E.getD j zE))] : List En) := RE.blk kq21 (AllE.one (tnE_ok (HE.all.at hjl))) (Nat.le_refl _)
      clear eq21
      refine nr ?_; intro U h; simp only [z0, z1] at h; subst h
      refine s_appE 66 rfl rfl _ _ rfl rfl HO3 rfl HR21 (by simp only [List.length_cons, List.length_nil]; omega) GG.size ?_
      intro ao6 cap6 w13 HOx G2 _
      replace kg1 := G2.has kg1 (HO3.own.ne kg1 (by decide))
      replace kg2 := G2.has kg2 (HO3.own.ne kg2 (by decide))
      replace kg3 := G2.has kg3 (HO3.own.ne kg3 (by decide))
      replace kg4 := G2.has kg4 (HO3.own.ne kg4 (by decide))
      replace HO := HO.apE HO3 G2 (by decide)
      replace GG := G2.gro GG (fun k hk => HO3.own.base k hk)
      clear G2 HO3
      have HO3 := HOx
      clear HOx
      refine nr ?_; intro U h; simp only [z0, z1] at h; subst h
      refine s_val 67 rfl rfl (.pointer (some ⟨g4, 17, none⟩)) (run_fld 27 _ 2 rfl g4 0 rfl 17 (by kernel_rfl)) ?_
      refine nr ?_; intro U h; simp only [z0, z1] at h; subst h
      refine s_store rfl rfl 25 _ _ rfl g4 17 rfl (.slice ao6 (l5 ++ [tnE y (E.getD j zE)]).length cap6) rfl 27 _ kg4 #[.slice ao6 (l5 ++ [tnE y (E.getD j zE)]).length cap6] rfl siRE (show 17 + 1 ≤ (plA _ _ _ _ _ _ _).size from by rw [plA_size]; decide) (sl_one _ _ _) _ (spLe _ _ _) ?_
      intro w14 St
      replace HO := HO.st St (HO.own.ne kg4 (by decide))
      replace HO3 := HO3.st St (HO3.own.ne kg4 (by decide))
      replace kg1 := St.has (by omega) kg1
      replace kg2 := St.has (by omega) kg2
      replace kg3 := St.has (by omega) kg3
      replace GG := GG.store St bg4
      replace kg4 := St.new
      clear St
      refine wpList_nil ?_
      refine blk_n ?_
      refine then_n ?_
      refine wp_region_lit ?_
      refine s_val 68 rfl rfl (.int .i64 ((j + 1 : Nat) : Int)) (run_addI 3 _ _ _ rfl ((j : Nat) : Int) 1 ((j + 1 : Nat) : Int) rfl rfl (by omega) (by omega) (by omega) _) ?_
      refine nr ?_; intro U h; simp only [z0, z1] at h; subst h
      refine s_val 48 rfl rfl (.int .i64 ((j + 1 : Nat) : Int)) (rfl) ?_
      refine nr ?_; intro U h; simp only [z0, z1] at h; subst h
      refine wpList_nil ?_
      refine then_n ?_
      exact ⟨E.length + 1 - (j + 1), by omega, j + 1, ao6, cap6, l5 ++ [tnE y (E.getD j zE)], (fun kz => ([.pointer (some ⟨g5, 0, none⟩), .bool true, .pointer (pE ae j 0), .agg (enA (E.getD j zE)), .func (.func 21) #[] #[.pointer (some ⟨g3, 0, none⟩)], .pointer (some ⟨g5, 17, none⟩), .agg (idA (E.getD j zE).a), .agg (idA (addN (E.getD j zE).a y)), .func (.func 21) #[] #[.pointer (some ⟨g3, 0, none⟩)], .pointer (some ⟨g5, 33, none⟩), .agg (idA (E.getD j zE).b), .agg (idA (addN (E.getD j zE).b y)), .pointer (some ⟨g5, 17, none⟩), .pointer (some ⟨g5, 33, none⟩), .pointer (some ⟨g4, 17, none⟩), .slice ao5 l5.length cap5, .agg (enA (tnE y (E.getD j zE))), .slice (some ⟨q21, 0, none⟩) ([(tnE y (E.getD j zE))] : List En).length ([(tnE y (E.getD j zE))] : List En).length, .slice ao6 (l5 ++ [tnE y (E.getD j zE)]).length cap6, .pointer (some ⟨g4, 17, none⟩), .int .i64 ((j + 1 : Nat) : Int)] : List Value).getD kz undef), rfl, rfl, by omega, GG, kg1, kg2, kg3, kg4, HO, HO3, te_step hl5 hjl⟩
  · have hil : i < N.length := by have := of_decide_eq_true hi1; omega
    refine s_val 29 rfl rfl (.bool true) (run_lssT 3 _ _ _ rfl ((i : Nat) : Int) ((N.length : Nat) : Int) rfl rfl true hi1 _) ?_
    refine nr ?_; intro U h; simp only [z0, z1] at h; subst h
    refine wpList_nil ?_
    refine then_n ?_
    refine wp_seq ?_
    refine wp_cond_true rfl ?_
    refine wp_skip ?_
    refine then_n ?_
    refine wp_seq ?_
    refine wp_block ?_
    refine wp_seq ?_
    refine wp_region_lit ?_
    refine s_val 30 rfl rfl (.pointer (pK kN an i 0)) (run_ixK rN (HN.gro GG) _ _ rfl rfl i rfl (by omega)) ?_
    refine nr ?_; intro U h; simp only [z0, z1] at h; subst h
    refine s_val 31 rfl rfl (.agg (nrA (N.getD i zN))) (run_ldKN (HN.gro GG) _ rfl i rfl (by omega)) ?_
    refine nr ?_; intro U h; simp only [z0, z1] at h; subst h
    refine s_alloc 10 rfl rfl 55 rfl _ zeroN (nrA zN) rfl ?_
    intro w7 g5 G eg5 kg5
    have bg5 := size_base GG eg5
    have dg1g5 := lt_new kg1 eg5
    have dg2g5 := lt_new kg2 eg5
    have dg3g5 := lt_new kg3 eg5
    have dg4g5 := lt_new kg4 eg5
    have dHOg5 := HO.ne eg5
    replace kg1 := G.has kg1
    replace kg2 := G.has kg2
    replace kg3 := G.has kg3
    replace kg4 := G.has kg4
    replace HO := HO.gro G
    replace GG := GG.trans G
    clear G
    clear eg5
    refine nr ?_; intro U h; simp only [z0, z1] at h; subst h
    refine s_store rfl rfl 55 _ _ rfl g5 0 rfl (.agg (nrA (N.getD i zN))) rfl 55 _ kg5 (nrA (N.getD i zN)) rfl (siN' _) (nrA_fit _ _) (nrA_one _) (nrA (N.getD i zN)) (splice_whole _ _ (nrA_sz _ _)) ?_
    intro w8 St
    have kS := kg5
    replace kg1 := St.has (by omega) kg1
    replace kg2 := St.has (by omega) kg2
    replace kg3 := St.has (by omega) kg3
    replace kg4 := St.has (by omega) kg4
    replace HO := HO.st St dHOg5
    replace GG := GG.store St bg5
    replace kg5 := St.new
    clear St
    refine wpList_nil ?_
    refine then_n ?_
    refine wp_region_exA (A := ?Ax3) 10 [(0, 32), (1, 33), (2, 34), (3, 35), (4, 36), (5, 37), (6, 38), (7, 39), (8, 40), (9, 41)] [.val (.pointer (some ⟨g4, 16, none⟩)), .val (.slice ao1 l2.length cap1), .val (.pointer (some ⟨g5, 0, none⟩)), .val (.int .i64 (N.getD i zN).n), .val (.func (.func 21) #[] #[.pointer (some ⟨g3, 0, none⟩)]), .val (.pointer (some ⟨g5, 1, none⟩)), .val (.agg (idA (N.getD i zN).id)), .val (.agg (idA (addN (N.getD i zN).id y))), .val (.agg (nrA (mkN (N.getD i zN).n (addN (N.getD i zN).id y)))), rowK kN [(mkN (N.getD i zN).n (addN (N.getD i zN).id y))]] follows (by kernel_rfl) rfl ?hAx3 (opsA_cons ?o0x3 (opsA_cons ?o1x3 (opsA_cons ?o2x3 (opsA_cons ?o3x3 (opsA_cons ?o4x3 (opsA_cons ?o5x3 (opsA_cons ?o6x3 (opsA_cons ?o7x3 (opsA_cons ?o8x3 (opsA_cons ?o9x3 opsA_nil)))))))))) ?restx3
    case hAx3 =>
      intro ptrs
      simp only [full, foldSlots, filledE, postE, List.foldl_cons, List.foldl_nil, List.getD_cons_zero, List.getD_cons_succ, fill_val, fill_rowK, List.set_cons_zero, List.set_cons_succ]
      exact rfl
    case o0x3 => exact fun _ _ _ _ => opE_value (v := .pointer (some ⟨g4, 16, none⟩)) rfl (run_fld 27 _ 1 rfl g4 0 rfl 16 (by kernel_rfl))
    case o1x3 => exact fun _ _ hw _ => opE_value (v := .slice ao1 l2.length cap1) rfl (ldLn _ rfl g4 rfl (hw.has kg4))
    case o2x3 => exact fun _ _ _ _ => opE_value (v := .pointer (some ⟨g5, 0, none⟩)) rfl (run_fld 55 _ 0 rfl g5 0 rfl 0 (by kernel_rfl))
    case o3x3 => exact fun _ _ hw _ => opE_value (v := .int .i64 (N.getD i zN).n) rfl (ldRn _ rfl g5 rfl (hw.has kg5))
    case o4x3 => exact fun _ _ _ _ => opE_move (v := .func (.func 21) #[] #[.pointer (some ⟨g3, 0, none⟩)]) _ rfl rfl rfl
    case o5x3 => exact fun _ _ _ _ => opE_value (v := .pointer (some ⟨g5, 1, none⟩)) rfl (run_fld 55 _ 1 rfl g5 0 rfl 1 (by kernel_rfl))
    case o6x3 => exact fun _ _ hw _ => opE_value (v := .agg (idA (N.getD i zN).id)) rfl (ldRi _ rfl g5 rfl (hw.has kg5))
    case o7x3 => exact fun _ _ hw _ => opE_callF (.val (.agg (idA (addN (N.getD i zN).id y)))) rfl _ 21 #[.pointer (some ⟨g3, 0, none⟩)] Try.call21 rfl _ rfl rfl _ rfl [.agg (idA (N.getD i zN).id)] rfl ((turn_any (N.getD i zN).id y g3 (atN HN.all hil).id hy _ (hw.has kg3)).mono fun e w' ⟨he, hg⟩ => ⟨_, he, hg, rfl⟩)
    case o8x3 => exact fun _ _ _ _ => opE_value (v := .agg (nrA (mkN (N.getD i zN).n (addN (N.getD i zN).id y)))) rfl (run_bd 55 _ rfl [(0, .int .i64 (N.getD i zN).n), (1, .agg (idA (addN (N.getD i zN).id y)))] rfl _ (bdN _ _ _))
    case o9x3 => exact fun _ _ _ _ => opE_bs rfl 24 _ rfl [(0, .agg (nrA (mkN (N.getD i zN).n (addN (N.getD i zN).id y))))] rfl (mkN (N.getD i zN).n (addN (N.getD i zN).id y)) (mkN_ok (atN HN.all hil).n (addN_lt _ _)) (bsN (mkN (N.getD i zN).n (addN (N.getD i zN).id y)) _)
    intro ptrs w9 GD hxE
    simp only [List.drop_succ_cons, List.drop_zero]
    replace kg1 := GD.has kg1
    replace kg2 := GD.has kg2
    replace kg3 := GD.has kg3
    replace kg4 := GD.has kg4
    replace kg5 := GD.has kg5
    replace HO := HO.gro ((Gro.refl _).drew.trans GD)
    replace GG := GG.drew.trans GD
    obtain ⟨⟨ao21, cap21, hx21, HR21⟩, _⟩ := hxE
    simp only [hx21]
    clear hx21
    clear GD
    refine s_appK rN (by decide) (by decide) 42 rfl rfl _ _ rfl rfl HO rfl HR21 (by simp only [List.length_cons, List.length_nil]; omega) GG.size ?_
    intro ao2 cap2 w10 HO2 G2 _
    replace kg1 := G2.has kg1 (HO.own.ne kg1 (by decide))
    replace kg2 := G2.has kg2 (HO.own.ne kg2 (by decide))
    replace kg3 := G2.has kg3 (HO.own.ne kg3 (by decide))
    replace kg4 := G2.has kg4 (HO.own.ne kg4 (by decide))
    replace GG := G2.gro GG (fun k hk => HO.own.base k hk)
    clear G2 HO
    have HO := HO2
    clear HO2
    refine nr ?_; intro U h; simp only [z0, z1] at h; subst h
    refine s_val 43 rfl rfl (.pointer (some ⟨g4, 16, none⟩)) (run_fld 27 _ 1 rfl g4 0 rfl 16 (by kernel_rfl)) ?_
    refine nr ?_; intro U h; simp only [z0, z1] at h; subst h
    refine s_store rfl rfl 24 _ _ rfl g4 16 rfl (.slice ao2 (l2 ++ [(mkN (N.getD i zN).n (addN (N.getD i zN).id y))]).length cap2) rfl 27 _ kg4 #[.slice ao2 (l2 ++ [(mkN (N.getD i zN).n (addN (N.getD i zN).id y))]).length cap2] rfl siRN (show 16 + 1 ≤ (plA _ _ _ _ _ _ _).size from by rw [plA_size]; decide) (sl_one _ _ _) _ (spLn _ _ _) ?_
    intro w11 St
    replace HO := HO.st St (HO.own.ne kg4 (by decide))
    replace kg1 := St.has (by omega) kg1
    replace kg2 := St.has (by omega) kg2
    replace kg3 := St.has (by omega) kg3
    replace GG := GG.store St bg4
    replace kg4 := St.new
    clear St
    refine wpList_nil ?_
    refine blk_n ?_
    refine then_n ?_
    refine wp_region_lit ?_
    refine s_val 44 rfl rfl (.int .i64 ((i + 1 : Nat) : Int)) (run_addI 3 _ _ _ rfl ((i : Nat) : Int) 1 ((i + 1 : Nat) : Int) rfl rfl (by omega) (by omega) (by omega) _) ?_
    refine nr ?_; intro U h; simp only [z0, z1] at h; subst h
    refine s_val 28 rfl rfl (.int .i64 ((i + 1 : Nat) : Int)) (rfl) ?_
    refine nr ?_; intro U h; simp only [z0, z1] at h; subst h
    refine wpList_nil ?_
    refine then_n ?_
    exact ⟨N.length + 1 - (i + 1), by omega, i + 1, ao2, cap2, l2 ++ [mkN (N.getD i zN).n (addN (N.getD i zN).id y)], (fun kz => ([.pointer (some ⟨g5, 0, none⟩), .bool true, .pointer (pK kN an i 0), .agg (nrA (N.getD i zN)), .pointer (some ⟨g4, 16, none⟩), .slice ao1 l2.length cap1, .pointer (some ⟨g5, 0, none⟩), .int .i64 (N.getD i zN).n, .func (.func 21) #[] #[.pointer (some ⟨g3, 0, none⟩)], .pointer (some ⟨g5, 1, none⟩), .agg (idA (N.getD i zN).id), .agg (idA (addN (N.getD i zN).id y)), .agg (nrA (mkN (N.getD i zN).n (addN (N.getD i zN).id y))), .slice ao21 ([(mkN (N.getD i zN).n (addN (N.getD i zN).id y))]).length cap21, .slice ao2 (l2 ++ [(mkN (N.getD i zN).n (addN (N.getD i zN).id y))]).length cap2, .pointer (some ⟨g4, 16, none⟩), .int .i64 ((i + 1 : Nat) : Int)] : List Value).getD kz undef), rfl, rfl, by omega, GG, kg1, kg2, kg3, kg4, HO, tn_step hl2 hil⟩
end Go.Proofs.Ytipfllalfifheaa
