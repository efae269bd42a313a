/- The document's Due. -/
import Derived.Test.YtjahegiopigblaaHC9
namespace Go.Proofs.Ytjahegiopigblaa
open Go.RowKit
theorem lastV_ok {N : List NM} (h : ∀ x ∈ N, x.ok) (i k : Nat) : (lastV N i k).ok := by
  unfold lastV lastN
  cases e : (N.filter fun y => y.isN i k).getLast? with
  | none => exact zV_ok
  | some y => exact (h y (List.mem_filter.1 (List.mem_of_getLast? e)).1).ver
set_option maxRecDepth 100000 in
set_option maxHeartbeats 4000000 in
theorem rdue_any0 (g s : Nat) (ao mo : Option Addr) (cap mc : Nat) (l : List Nat) (its : List IM) (bo : Option Addr) (bc : Nat) (Nl : List NM) (w : World) (hs : s < top) (hnl : Nl.length ≤ 1000000) (kg : w.heap[g]? = some (.cells (rbA bo Nl.length bc) 37 (0, 0))) (HN : RK knt w bo bc Nl) (HL : RK kI w ao cap l) (hll : l.length ≤ 100) (HI : RK kM w mo mc its) (hil0 : its.length ≤ 100) (_NI : NCs w its) : Calls Try.prog 24 #[.pointer (some ⟨g, 0, none⟩), .agg (idA s), .slice ao l.length cap, .slice mo its.length mc] w (fun e w' => ∃ ro rc Z, e = .returned (.slice ro Z.length rc) ∧ Gro w w' ∧ RK kdu w' ro rc Z ∧ (∀ d ∈ Z, d.it ∈ its) ∧ Z.map DM.ab = dueL (fun i k => lastV Nl i k) (fun k => owC s l k) its) := by
  refine s_enter Try.func24 rfl Try.ntmps24 [.pointer (some ⟨g, 0, none⟩), .agg (idA s), .slice ao l.length cap, .slice mo its.length mc] [.pointer (some ⟨g, 0, none⟩), .agg (idA s), .slice ao l.length cap, .slice mo its.length mc, undef, undef, undef, undef, undef, undef, undef, undef, undef, undef, undef, undef, undef, undef, undef, undef, undef, undef, undef, undef, undef, undef, undef, undef, undef, undef, undef, undef, undef, undef, undef, undef, undef, undef, undef, undef, undef, undef, undef, undef, undef, undef, undef, undef, undef, undef, undef, undef, undef, undef, undef, undef, undef, undef, undef, undef, undef, undef, undef, undef, undef, undef, undef, undef, undef, undef, undef, undef, undef, undef, undef, undef, undef, undef, undef, undef, undef, undef, undef, undef, undef, undef, undef, undef, undef, undef, undef, undef, undef, undef, undef, undef, undef, undef, undef, undef, undef] rfl ?_
  have GG := Gro.refl w
  refine wp_seq ?_
  refine wp_region_lit ?_
  refine s_box 5 rfl rfl 23 _ rfl _ rfl (idA s) rfl ?_
  intro w1 g1 G eg1 kg1
  have bg1 := size_base GG eg1
  replace kg := G.has kg
  replace GG := GG.trans G
  clear G
  clear eg1
  refine nr ?_; intro U h; simp only [z0, z1] at h; subst h
  refine s_val 8 rfl rfl (.slice none 0 0) (rfl) ?_
  refine nr ?_; intro U h; simp only [z0, z1] at h; subst h
  refine wpList_nil ?_
  refine then_n ?_
  refine wp_seq ?_
  refine wp_region_lit ?_
  refine s_val 9 rfl rfl (.slice none 0 0) (rfl) ?_
  refine nr ?_; intro U h; simp only [z0, z1] at h; subst h
  refine wpList_nil ?_
  refine then_n ?_
  refine wp_seq ?_
  refine wp_seq ?_
  refine wp_region_lit ?_
  refine s_val 10 rfl rfl (.int .i64 0) (rfl) ?_
  refine nr ?_; intro U h; simp only [z0, z1] at h; subst h
  refine wpList_nil ?_
  refine then_n ?_
  refine wp_block ?_
  refine wp_loopN (fun mz az wv => ∃ (i : Nat) (Z : List DM) (ro : Option Addr) (rc : Nat) (us1 : Nat → Value), mz = its.length - i ∧ az = ⟨[.pointer (some ⟨g, 0, none⟩), .agg (idA s), .slice ao l.length cap, .slice mo its.length mc, undef, .pointer (some ⟨g1, 0, none⟩), undef, undef, .slice none 0 0, .slice ro Z.length rc, .int .i64 ((i : Nat) : Int), us1 0, us1 1, us1 2, us1 3, us1 4, us1 5, us1 6, us1 7, us1 8, us1 9, us1 10, us1 11, us1 12, us1 13, us1 14, us1 15, us1 16, us1 17, us1 18, us1 19, us1 20, us1 21, us1 22, us1 23, us1 24, us1 25, us1 26, us1 27, us1 28, us1 29, us1 30, us1 31, us1 32, us1 33, us1 34, us1 35, us1 36, us1 37, us1 38, us1 39, us1 40, us1 41, us1 42, us1 43, us1 44, us1 45, us1 46, us1 47, us1 48, us1 49, us1 50, us1 51, us1 52, us1 53, us1 54, us1 55, us1 56, us1 57, us1 58, us1 59, us1 60, us1 61, us1 62, us1 63, us1 64, us1 65, us1 66, us1 67, us1 68, us1 69, us1 70, us1 71, us1 72, us1 73, us1 74, us1 75, us1 76, us1 77, us1 78, us1 79, us1 80, us1 81, us1 82, us1 83, us1 84, us1 85, us1 86, us1 87, us1 88, undef].toArray, []⟩ ∧ Gro w wv ∧ wv.heap[g]? = some (.cells (rbA bo Nl.length bc) 37 (0, 0)) ∧ wv.heap[g1]? = some (.cells (idA s) 23 (0, 0)) ∧ OW kdu 55 wv w.heap.size ro rc Z ∧ (∀ d ∈ Z, d.it ∈ its) ∧ i ≤ its.length ∧ (Z.map DM.ab = dueL (fun i k => lastV Nl i k) (fun k => owC s l k) (its.take i)) ∧ Z.length ≤ i * (l.length + 1)) ?_ _ ⟨0, [], none, 0, (fun kz => ([undef, undef, undef, undef, undef, undef, undef, undef, undef, undef, undef, undef, undef, undef, undef, undef, undef, undef, undef, undef, undef, undef, undef, undef, undef, undef, undef, undef, undef, undef, undef, undef, undef, undef, undef, undef, undef, undef, undef, undef, undef, undef, undef, undef, undef, undef, undef, undef, undef, undef, undef, undef, undef, undef, undef, undef, undef, undef, undef, undef, undef, undef, undef, undef, undef, undef, undef, undef, undef, undef, undef, undef, undef, undef, undef, undef, undef, undef, undef, undef, undef, undef, undef, undef, undef, undef, undef, undef, undef] : List Value).getD kz undef), rfl, rfl, GG, kg, kg1, OW.nil _ _, (fun _ h => by cases h), Nat.zero_le _, rfl, Nat.zero_le _⟩
  clear GG kg kg1
  rintro mz az wv ⟨i, Z, ro, rc, us1, rfl, rfl, GG, kg, kg1, HZ, hZI, hi, hE, hZl⟩
  refine wp_seq ?_
  refine wp_seq ?_
  cases t1 : decide (((i : Nat) : Int) < ((its.length : Nat) : Int))
  · have hil : i = its.length := by have := of_decide_eq_false t1; omega
    refine wp_region_lit ?_
    refine s_val 15 rfl rfl (.int .i64 ((i : Nat) : Int)) (rfl) ?_
    refine nr ?_; intro U h; simp only [z0, z1] at h; subst h
    refine s_val 16 rfl rfl (.slice mo its.length mc) (rfl) ?_
    refine nr ?_; intro U h; simp only [z0, z1] at h; subst h
    refine s_val 17 rfl rfl (.int .i64 ((its.length : Nat) : Int)) (run_len Try.underlying40 _ rfl _ _ _ rfl _) ?_
    refine nr ?_; intro U h; simp only [z0, z1] at h; subst h
    refine s_val 18 rfl rfl (.bool false) (run_lssT 3 _ _ _ rfl ((i : Nat) : Int) ((its.length : Nat) : Int) rfl rfl false t1 _) ?_
    refine nr ?_; intro U h; simp only [z0, z1] at h; subst h
    refine wpList_nil ?_
    refine then_n ?_
    refine wp_cond_false rfl ?_
    refine wp_exit ?_
    refine then_x ?_
    refine then_x ?_
    refine blk_x ?_
    refine then_n ?_
    refine wp_seq ?_
    refine wp_region_lit ?_
    refine s_val 100 rfl rfl (.slice ro Z.length rc) (rfl) ?_
    refine nr ?_; intro U h; simp only [z0, z1] at h; subst h
    refine s_val 8 rfl rfl (.slice ro Z.length rc) (rfl) ?_
    refine nr ?_; intro U h; simp only [z0, z1] at h; subst h
    refine wpList_nil ?_
    refine then_n ?_
    refine wp_ret ?_
    refine bodyPost_ret (results_tmp Try.results24 _ _ _) rfl ?_
    rw [hil, List.take_length] at hE
    exact ⟨ro, rc, Z, rfl, GG, HZ.re, hZI, hE⟩
  · have hit : i < its.length := by have := of_decide_eq_true t1; omega
    refine wp_region_lit ?_
    refine s_val 15 rfl rfl (.int .i64 ((i : Nat) : Int)) (rfl) ?_
    refine nr ?_; intro U h; simp only [z0, z1] at h; subst h
    refine s_val 16 rfl rfl (.slice mo its.length mc) (rfl) ?_
    refine nr ?_; intro U h; simp only [z0, z1] at h; subst h
    refine s_val 17 rfl rfl (.int .i64 ((its.length : Nat) : Int)) (run_len Try.underlying40 _ rfl _ _ _ rfl _) ?_
    refine nr ?_; intro U h; simp only [z0, z1] at h; subst h
    refine s_val 18 rfl rfl (.bool true) (run_lssT 3 _ _ _ rfl ((i : Nat) : Int) ((its.length : Nat) : Int) rfl rfl true t1 _) ?_
    refine nr ?_; intro U h; simp only [z0, z1] at h; subst h
    refine wpList_nil ?_
    refine then_n ?_
    refine wp_cond_true rfl ?_
    refine wp_skip ?_
    refine then_n ?_
    refine wp_seq ?_
    refine wp_block ?_
    refine wp_seq ?_
    obtain ⟨O, hO⟩ : ∃ O, owC s l (its.getD i zM).key = O := ⟨_, rfl⟩
    have hOl : O.length ≤ l.length + 1 := hO ▸ owC_len s l (its.getD i zM).key
    have hro := HZ.own.lt
    have hEi := hE
    have hZi := hZl
    refine wp_region_exA (A := ?Ax1) 7 [(0, 21), (1, 22), (2, 23), (3, 24), (4, 25), (5, 26), (6, 27)] [.val (.agg (idA s)), .val (.slice ao l.length cap), .val (.slice mo its.length mc), .val (.int .i64 ((i : Nat) : Int)), .val (.pointer (pK kM mo i 0)), .val (.pointer (pK kM mo i 0)), .val (.agg (idA (its.getD i zM).key))] follows (by kernel_rfl) rfl ?hAx1 (opsA_cons ?o0x1 (opsA_cons ?o1x1 (opsA_cons ?o2x1 (opsA_cons ?o3x1 (opsA_cons ?o4x1 (opsA_cons ?o5x1 (opsA_cons ?o6x1 opsA_nil))))))) ?restx1
    case hAx1 =>
      intro ptrs
      simp only [full, foldSlots, filledE, postE, List.foldl_cons, List.foldl_nil, List.getD_cons_zero, List.getD_cons_succ, fill_val, List.set_cons_zero, List.set_cons_succ]
      exact rfl
    case o0x1 => exact fun _ _ hw _ => opE_value (v := .agg (idA s)) rfl (ldI0 _ rfl g1 rfl (hw.has kg1))
    case o1x1 => exact fun _ _ _ _ => opE_move (v := .slice ao l.length cap) _ rfl rfl rfl
    case o2x1 => exact fun _ _ _ _ => opE_move (v := .slice mo its.length mc) _ rfl rfl rfl
    case o3x1 => exact fun _ _ _ _ => opE_move (v := .int .i64 ((i : Nat) : Int)) _ rfl rfl rfl
    case o4x1 => exact fun _ _ hw _ => opE_value (v := .pointer (pK kM mo i 0)) rfl (run_ixK rM (((HI.gro GG)).gro ((Gro.refl _).drew.trans hw)) _ _ rfl rfl i rfl hit)
    case o5x1 => exact fun _ _ hw _ => opE_value (v := .pointer (pK kM mo i 0)) rfl (run_fdK (((HI.gro GG)).gro ((Gro.refl _).drew.trans hw)) 46 _ 0 0 (fdM_0 _) rfl i rfl hit)
    case o6x1 => exact fun _ _ hw _ => opE_value (v := .agg (idA (its.getD i zM).key)) rfl (run_ldKMk (((HI.gro GG)).gro ((Gro.refl _).drew.trans hw)) _ rfl i rfl hit)
    intro ptrs w2 GD hxE
    simp only [List.drop_succ_cons, List.drop_zero]
    replace kg := GD.has kg
    replace kg1 := GD.has kg1
    replace HZ := HZ.gro ((Gro.refl _).drew.trans GD)
    replace GG := GG.drew.trans GD
    clear GD
    have hro2 := HZ.own.lt
    refine s_callx 28 rfl rfl _ 16 Try.call16 rfl rfl _ rfl [.agg (idA s), .slice ao l.length cap, .agg (idA (its.getD i zM).key)] rfl (RowN.to hO (rowed_any s ao cap l (its.getD i zM).key _ hs (HI.at hit).key (HL.gro GG) (by omega))) (by rintro _ _ ⟨_, _, he, _, _, _⟩; exact ⟨_, he⟩) ?_
    rintro v w3 ⟨ao1, cap1, he, G, HR1, hn1⟩
    cases he
    have hap : ∀ ad, ao1 = some ad → ad.block ∉ Go.Proofs.Ytjahegiopigblaa.blk ro := fun ad h hm => by have := hro2 _ hm; have := hn1 ad h; omega
    clear hn1
    replace kg := G.has kg
    replace kg1 := G.has kg1
    replace HZ := HZ.gro G
    replace GG := GG.trans G
    clear G
    have HR := HR1
    clear HR1
    refine nr ?_; intro U h; simp only [z0, z1] at h; subst h
    refine s_val 11 rfl rfl (.slice ao1 O.length cap1) (rfl) ?_
    refine nr ?_; intro U h; simp only [z0, z1] at h; subst h
    refine wpList_nil ?_
    refine then_n ?_
    refine wp_seq ?_
    refine wp_region_lit ?_
    refine s_val 12 rfl rfl (.int .i64 0) (rfl) ?_
    refine nr ?_; intro U h; simp only [z0, z1] at h; subst h
    refine wpList_nil ?_
    refine then_n ?_
    refine wp_block ?_
    refine wp_loopN (fun mz az wv => ∃ (j : Nat) (Z : List DM) (ro : Option Addr) (rc : Nat) (us2 : Nat → Value), mz = O.length - j ∧ az = ⟨[.pointer (some ⟨g, 0, none⟩), .agg (idA s), .slice ao l.length cap, .slice mo its.length mc, undef, .pointer (some ⟨g1, 0, none⟩), undef, undef, .slice none 0 0, .slice ro Z.length rc, .int .i64 ((i : Nat) : Int), .slice ao1 O.length cap1, .int .i64 ((j : Nat) : Int), us2 0, us2 1, .int .i64 ((i : Nat) : Int), .slice mo its.length mc, .int .i64 ((its.length : Nat) : Int), .bool true, us1 8, us1 9, .agg (idA s), .slice ao l.length cap, .slice mo its.length mc, .int .i64 ((i : Nat) : Int), .pointer (pK kM mo i 0), .pointer (pK kM mo i 0), .agg (idA (its.getD i zM).key), .slice ao1 O.length cap1, us2 2, us2 3, us2 4, us2 5, us2 6, us2 7, us2 8, us2 9, us2 10, us2 11, us2 12, us2 13, us2 14, us2 15, us2 16, us2 17, us2 18, us2 19, us2 20, us2 21, us2 22, us2 23, us2 24, us2 25, us2 26, us2 27, us2 28, us2 29, us2 30, us2 31, us2 32, us2 33, us2 34, us2 35, us2 36, us2 37, us2 38, us2 39, us2 40, us2 41, us2 42, us2 43, us2 44, us2 45, us2 46, us2 47, us2 48, us2 49, us2 50, us2 51, us2 52, us2 53, us2 54, us2 55, us2 56, us2 57, us2 58, us2 59, us2 60, us2 61, us2 62, us2 63, us2 64, us2 65, us2 66, us2 67, us2 68, us2 69, us2 70, us2 71, us2 72, undef].toArray, []⟩ ∧ Gro w wv ∧ wv.heap[g]? = some (.cells (rbA bo Nl.length bc) 37 (0, 0)) ∧ wv.heap[g1]? = some (.cells (idA s) 23 (0, 0)) ∧ OW kdu 55 wv w.heap.size ro rc Z ∧ (∀ d ∈ Z, d.it ∈ its) ∧ RK kI wv ao1 cap1 O ∧ (∀ ad, ao1 = some ad → ad.block ∉ Go.Proofs.Ytjahegiopigblaa.blk ro) ∧ j ≤ O.length ∧ (Z.map DM.ab = dueL (fun i k => lastV Nl i k) (fun k => owC s l k) (its.take i) ++ dueX (fun i k => lastV Nl i k) (its.getD i zM) (O.take j)) ∧ Z.length ≤ i * (l.length + 1) + j) ?_ _ ⟨0, Z, ro, rc, (fun kz => ([us1 2, us1 3, us1 18, us1 19, us1 20, us1 21, us1 22, us1 23, us1 24, us1 25, us1 26, us1 27, us1 28, us1 29, us1 30, us1 31, us1 32, us1 33, us1 34, us1 35, us1 36, us1 37, us1 38, us1 39, us1 40, us1 41, us1 42, us1 43, us1 44, us1 45, us1 46, us1 47, us1 48, us1 49, us1 50, us1 51, us1 52, us1 53, us1 54, us1 55, us1 56, us1 57, us1 58, us1 59, us1 60, us1 61, us1 62, us1 63, us1 64, us1 65, us1 66, us1 67, us1 68, us1 69, us1 70, us1 71, us1 72, us1 73, us1 74, us1 75, us1 76, us1 77, us1 78, us1 79, us1 80, us1 81, us1 82, us1 83, us1 84, us1 85, us1 86, us1 87, us1 88] : List Value).getD kz undef), rfl, rfl, GG, kg, kg1, HZ, hZI, HR, hap, Nat.zero_le _, (by rw [hE]; exact (List.append_nil _).symm), hZl⟩
    clear GG kg kg1 HZ HR hE hZl hap hro hro2 hZi hEi hZI
    rintro mz az wv ⟨j, Z, ro, rc, us2, rfl, rfl, GG, kg, kg1, HZ, hZI, HR, hap, hj, hE, hZl⟩
    refine wp_seq ?_
    refine wp_seq ?_
    cases t2 : decide (((j : Nat) : Int) < ((O.length : Nat) : Int))
    · have hjo : j = O.length := by have := of_decide_eq_false t2; omega
      rw [hjo] at hE hZl
      refine wp_region_lit ?_
      refine s_val 29 rfl rfl (.int .i64 ((j : Nat) : Int)) (rfl) ?_
      refine nr ?_; intro U h; simp only [z0, z1] at h; subst h
      refine s_val 30 rfl rfl (.slice ao1 O.length cap1) (rfl) ?_
      refine nr ?_; intro U h; simp only [z0, z1] at h; subst h
      refine s_val 31 rfl rfl (.int .i64 ((O.length : Nat) : Int)) (run_len Try.underlying24 _ rfl _ _ _ rfl _) ?_
      refine nr ?_; intro U h; simp only [z0, z1] at h; subst h
      refine s_val 32 rfl rfl (.bool false) (run_lssT 3 _ _ _ rfl ((j : Nat) : Int) ((O.length : Nat) : Int) rfl rfl false t2 _) ?_
      refine nr ?_; intro U h; simp only [z0, z1] at h; subst h
      refine wpList_nil ?_
      refine then_n ?_
      refine wp_cond_false rfl ?_
      refine wp_exit ?_
      refine then_x ?_
      refine then_x ?_
      refine blk_x ?_
      refine blk_n ?_
      refine then_n ?_
      refine wp_region_lit ?_
      refine s_val 19 rfl rfl (.int .i64 ((i : Nat) : Int)) (rfl) ?_
      refine nr ?_; intro U h; simp only [z0, z1] at h; subst h
      refine s_val 20 rfl rfl (.int .i64 ((i + 1 : Nat) : Int)) (run_addI 3 _ _ _ rfl ((i : Nat) : Int) 1 ((i + 1 : Nat) : Int) rfl rfl (by omega) (by omega) (by omega) _) ?_
      refine nr ?_; intro U h; simp only [z0, z1] at h; subst h
      refine s_val 10 rfl rfl (.int .i64 ((i + 1 : Nat) : Int)) (rfl) ?_
      refine nr ?_; intro U h; simp only [z0, z1] at h; subst h
      refine wpList_nil ?_
      refine then_n ?_
      exact ⟨_, by omega, i + 1, Z, ro, rc, (fun kz => ([.slice ao1 O.length cap1, .int .i64 ((j : Nat) : Int), us2 0, us2 1, .int .i64 ((i : Nat) : Int), .slice mo its.length mc, .int .i64 ((its.length : Nat) : Int), .bool true, .int .i64 ((i : Nat) : Int), .int .i64 ((i + 1 : Nat) : Int), .agg (idA s), .slice ao l.length cap, .slice mo its.length mc, .int .i64 ((i : Nat) : Int), .pointer (pK kM mo i 0), .pointer (pK kM mo i 0), .agg (idA (its.getD i zM).key), .slice ao1 O.length cap1, .int .i64 ((j : Nat) : Int), .slice ao1 O.length cap1, .int .i64 ((O.length : Nat) : Int), .bool false, us2 6, us2 7, us2 8, us2 9, us2 10, us2 11, us2 12, us2 13, us2 14, us2 15, us2 16, us2 17, us2 18, us2 19, us2 20, us2 21, us2 22, us2 23, us2 24, us2 25, us2 26, us2 27, us2 28, us2 29, us2 30, us2 31, us2 32, us2 33, us2 34, us2 35, us2 36, us2 37, us2 38, us2 39, us2 40, us2 41, us2 42, us2 43, us2 44, us2 45, us2 46, us2 47, us2 48, us2 49, us2 50, us2 51, us2 52, us2 53, us2 54, us2 55, us2 56, us2 57, us2 58, us2 59, us2 60, us2 61, us2 62, us2 63, us2 64, us2 65, us2 66, us2 67, us2 68, us2 69, us2 70, us2 71, us2 72] : List Value).getD kz undef), rfl, rfl, GG, kg, kg1, HZ, hZI, by omega, by rw [dueL_step _ _ _ _ hit, hE, List.take_length, hO], by rw [Nat.add_mul]; omega⟩
    · have hjt : j < O.length := by have := of_decide_eq_true t2; omega
      refine wp_region_lit ?_
      refine s_val 29 rfl rfl (.int .i64 ((j : Nat) : Int)) (rfl) ?_
      refine nr ?_; intro U h; simp only [z0, z1] at h; subst h
      refine s_val 30 rfl rfl (.slice ao1 O.length cap1) (rfl) ?_
      refine nr ?_; intro U h; simp only [z0, z1] at h; subst h
      refine s_val 31 rfl rfl (.int .i64 ((O.length : Nat) : Int)) (run_len Try.underlying24 _ rfl _ _ _ rfl _) ?_
      refine nr ?_; intro U h; simp only [z0, z1] at h; subst h
      refine s_val 32 rfl rfl (.bool true) (run_lssT 3 _ _ _ rfl ((j : Nat) : Int) ((O.length : Nat) : Int) rfl rfl true t2 _) ?_
      refine nr ?_; intro U h; simp only [z0, z1] at h; subst h
      refine wpList_nil ?_
      refine then_n ?_
      refine wp_cond_true rfl ?_
      refine wp_skip ?_
      refine then_n ?_
      refine wp_seq ?_
      refine wp_block ?_
      refine wp_seq ?_
      refine wp_region_lit ?_
      refine s_alloc 13 rfl rfl 39 rfl _ zeroVe (veA zV) rfl ?_
      intro w4 g2 G eg2 kg2
      have bg2 := size_base GG eg2
      have dgg2 := lt_new kg eg2
      have dg1g2 := lt_new kg1 eg2
      have dHZg2 := HZ.ne eg2
      have dHRg2 := HR.ne eg2
      replace kg := G.has kg
      replace kg1 := G.has kg1
      replace HZ := HZ.gro G
      replace HR := HR.gro G
      replace GG := GG.trans G
      clear G
      clear eg2
      refine nr ?_; intro U h; simp only [z0, z1] at h; subst h
      refine wpList_nil ?_
      refine then_n ?_
      refine wp_seq ?_
      refine wp_seq ?_
      refine wp_region_lit ?_
      refine s_val 14 rfl rfl (.int .i64 0) (rfl) ?_
      refine nr ?_; intro U h; simp only [z0, z1] at h; subst h
      refine wpList_nil ?_
      refine then_n ?_
      refine wp_block ?_
      refine wp_loopN (fun mz az wv => ∃ (q : Nat) (us3 : Nat → Value), mz = Nl.length - q ∧ az = ⟨[.pointer (some ⟨g, 0, none⟩), .agg (idA s), .slice ao l.length cap, .slice mo its.length mc, undef, .pointer (some ⟨g1, 0, none⟩), undef, undef, .slice none 0 0, .slice ro Z.length rc, .int .i64 ((i : Nat) : Int), .slice ao1 O.length cap1, .int .i64 ((j : Nat) : Int), .pointer (some ⟨g2, 0, none⟩), .int .i64 ((q : Nat) : Int), .int .i64 ((i : Nat) : Int), .slice mo its.length mc, .int .i64 ((its.length : Nat) : Int), .bool true, us1 8, us1 9, .agg (idA s), .slice ao l.length cap, .slice mo its.length mc, .int .i64 ((i : Nat) : Int), .pointer (pK kM mo i 0), .pointer (pK kM mo i 0), .agg (idA (its.getD i zM).key), .slice ao1 O.length cap1, .int .i64 ((j : Nat) : Int), .slice ao1 O.length cap1, .int .i64 ((O.length : Nat) : Int), .bool true, us2 6, us2 7, us3 0, us3 1, us3 2, us3 3, us3 4, us3 5, us3 6, us3 7, us3 8, us3 9, us3 10, us3 11, us3 12, us3 13, us3 14, us3 15, us3 16, us3 17, us3 18, us3 19, us3 20, us3 21, us3 22, us3 23, us3 24, us3 25, us3 26, us3 27, us3 28, us3 29, us3 30, us3 31, us3 32, us3 33, us3 34, us3 35, us3 36, us3 37, us3 38, us3 39, us3 40, us3 41, us3 42, us3 43, us3 44, us3 45, us2 54, us2 55, us2 56, us2 57, us2 58, us2 59, us2 60, us2 61, us2 62, us2 63, us2 64, us2 65, us2 66, us2 67, us2 68, us2 69, us2 70, us2 71, us2 72, undef].toArray, []⟩ ∧ Gro w wv ∧ wv.heap[g]? = some (.cells (rbA bo Nl.length bc) 37 (0, 0)) ∧ wv.heap[g1]? = some (.cells (idA s) 23 (0, 0)) ∧ wv.heap[g2]? = some (.cells (veA (lastV (Nl.take q) (O.getD j 0) (its.getD i zM).key)) 39 (0, 0)) ∧ OW kdu 55 wv w.heap.size ro rc Z ∧ RK kI wv ao1 cap1 O ∧ q ≤ Nl.length ∧ g2 ∉ Go.Proofs.Ytjahegiopigblaa.blk ro ∧ NE ao1 (O.flatMap kI.E).length g2) ?_ _ ⟨0, (fun kz => ([us2 8, us2 9, us2 10, us2 11, us2 12, us2 13, us2 14, us2 15, us2 16, us2 17, us2 18, us2 19, us2 20, us2 21, us2 22, us2 23, us2 24, us2 25, us2 26, us2 27, us2 28, us2 29, us2 30, us2 31, us2 32, us2 33, us2 34, us2 35, us2 36, us2 37, us2 38, us2 39, us2 40, us2 41, us2 42, us2 43, us2 44, us2 45, us2 46, us2 47, us2 48, us2 49, us2 50, us2 51, us2 52, us2 53] : List Value).getD kz undef), rfl, rfl, GG, kg, kg1, kg2, HZ, HR, Nat.zero_le _, dHZg2, dHRg2⟩
      clear GG kg kg1 kg2 HZ HR
      rintro mz az wv ⟨q, us3, rfl, rfl, GG, kg, kg1, kg2, HZ, HR, hq, dHZ13, dHR13⟩
      have dHZg2 := dHZ13
      have dHRg2 := dHR13
      refine wp_seq ?_
      refine wp_seq ?_
      cases t3 : decide (((q : Nat) : Int) < ((Nl.length : Nat) : Int))
      · have hql : q = Nl.length := by have := of_decide_eq_false t3; omega
        refine wp_region_lit ?_
        refine s_val 35 rfl rfl (.int .i64 ((q : Nat) : Int)) (rfl) ?_
        refine nr ?_; intro U h; simp only [z0, z1] at h; subst h
        refine s_val 36 rfl rfl (.pointer (some ⟨g, 0, none⟩)) (rfl) ?_
        refine nr ?_; intro U h; simp only [z0, z1] at h; subst h
        refine s_val 37 rfl rfl (.pointer (some ⟨g, 0, none⟩)) (run_nc _ rfl _ rfl) ?_
        refine nr ?_; intro U h; simp only [z0, z1] at h; subst h
        refine s_val 38 rfl rfl (.pointer (some ⟨g, 0, none⟩)) (run_fld 37 _ 0 rfl g 0 rfl 0 (by kernel_rfl)) ?_
        refine nr ?_; intro U h; simp only [z0, z1] at h; subst h
        refine s_val 39 rfl rfl (.slice bo Nl.length bc) (ldRb _ rfl g rfl (kg)) ?_
        refine nr ?_; intro U h; simp only [z0, z1] at h; subst h
        refine s_val 40 rfl rfl (.int .i64 ((Nl.length : Nat) : Int)) (run_len Try.underlying35 _ rfl _ _ _ rfl _) ?_
        refine nr ?_; intro U h; simp only [z0, z1] at h; subst h
        refine s_val 41 rfl rfl (.bool false) (run_lssT 3 _ _ _ rfl ((q : Nat) : Int) ((Nl.length : Nat) : Int) rfl rfl false t3 _) ?_
        refine nr ?_; intro U h; simp only [z0, z1] at h; subst h
        refine wpList_nil ?_
        refine then_n ?_
        refine wp_cond_false rfl ?_
        refine wp_exit ?_
        refine then_x ?_
        refine then_x ?_
        refine blk_x ?_
        refine then_n ?_
        refine wp_seq ?_
        rw [hql, List.take_length] at kg2
        cases k4 : eqV (lastV Nl (O.getD j 0) (its.getD i zM).key) (its.getD i zM).ver
        · refine wp_region_exA (A := ?Ax2) 6 [(0, 81), (1, 82), (2, 83), (3, 84), (4, 85), (5, 86)] [.val (.agg (veA (lastV Nl (O.getD j 0) (its.getD i zM).key))), .val (.slice mo its.length mc), .val (.int .i64 ((i : Nat) : Int)), .val (.pointer (pK kM mo i 0)), .val (.pointer (pK kM mo i 16)), .val (.agg (veA (its.getD i zM).ver))] follows (by kernel_rfl) rfl ?hAx2 (opsA_cons ?o0x2 (opsA_cons ?o1x2 (opsA_cons ?o2x2 (opsA_cons ?o3x2 (opsA_cons ?o4x2 (opsA_cons ?o5x2 opsA_nil)))))) ?restx2
          case hAx2 =>
            intro ptrs
            simp only [full, foldSlots, filledE, postE, List.foldl_cons, List.foldl_nil, List.getD_cons_zero, List.getD_cons_succ, fill_val, List.set_cons_zero, List.set_cons_succ]
            exact rfl
          case o0x2 => exact fun _ _ hw _ => opE_value (v := .agg (veA (lastV Nl (O.getD j 0) (its.getD i zM).key))) rfl (ldVe0 _ rfl g2 rfl (hw.has kg2))
          case o1x2 => exact fun _ _ _ _ => opE_move (v := .slice mo its.length mc) _ rfl rfl rfl
          case o2x2 => exact fun _ _ _ _ => opE_move (v := .int .i64 ((i : Nat) : Int)) _ rfl rfl rfl
          case o3x2 => exact fun _ _ hw _ => opE_value (v := .pointer (pK kM mo i 0)) rfl (run_ixK rM (((HI.gro GG)).gro ((Gro.refl _).drew.trans hw)) _ _ rfl rfl i rfl hit)
          case o4x2 => exact fun _ _ hw _ => opE_value (v := .pointer (pK kM mo i 16)) rfl (run_fdK (((HI.gro GG)).gro ((Gro.refl _).drew.trans hw)) 46 _ 1 16 (fdM_1 _) rfl i rfl hit)
          case o5x2 => exact fun _ _ hw _ => opE_value (v := .agg (veA (its.getD i zM).ver)) rfl (run_ldKMv (((HI.gro GG)).gro ((Gro.refl _).drew.trans hw)) _ rfl i rfl hit)
          intro ptrs w5 GD hxE
          simp only [List.drop_succ_cons, List.drop_zero]
          replace kg := GD.has kg
          replace kg1 := GD.has kg1
          replace kg2 := GD.has kg2
          replace HZ := HZ.gro ((Gro.refl _).drew.trans GD)
          replace HR := HR.gro ((Gro.refl _).drew.trans GD)
          replace GG := GG.drew.trans GD
          clear GD
          refine s_val 87 rfl rfl (.bool true) (run_neV _ _ _ rfl _ _ rfl rfl (lastV_ok HN.all _ _) (HI.at hit).ver true k4) ?_
          refine nr ?_; intro U h; simp only [z0, z1] at h; subst h
          refine wpList_nil ?_
          refine then_n ?_
          refine wp_cond_true rfl ?_
          refine wp_region_exA (A := ?Ax3) 11 [(0, 88), (1, 89), (2, 90), (3, 91), (4, 92), (5, 93), (6, 94), (7, 95), (8, 96), (9, 97), (10, 98)] [.val (.slice ro Z.length rc), .val (.slice ao1 O.length cap1), .val (.int .i64 ((j : Nat) : Int)), .val (.pointer (pK kI ao1 j 0)), .val (.agg (idA (O.getD j 0))), .val (.slice mo its.length mc), .val (.int .i64 ((i : Nat) : Int)), .val (.pointer (pK kM mo i 0)), .val (.agg (itA (its.getD i zM))), .val (.agg (duA (⟨(O.getD j 0), (its.getD i zM)⟩ : DM))), rowK kdu [(⟨(O.getD j 0), (its.getD i zM)⟩ : DM)]] follows (by kernel_rfl) rfl ?hAx3 (opsA_cons ?o0x3 (opsA_cons ?o1x3 (opsA_cons ?o2x3 (opsA_cons ?o3x3 (opsA_cons ?o4x3 (opsA_cons ?o5x3 (opsA_cons ?o6x3 (opsA_cons ?o7x3 (opsA_cons ?o8x3 (opsA_cons ?o9x3 (opsA_cons ?o10x3 opsA_nil))))))))))) ?restx3
          case hAx3 =>
            intro ptrs
            simp only [full, foldSlots, filledE, postE, List.foldl_cons, List.foldl_nil, List.getD_cons_zero, List.getD_cons_succ, fill_val, fill_rowK, List.set_cons_zero, List.set_cons_succ]
            exact rfl
          case o0x3 => exact fun _ _ _ _ => opE_move (v := .slice ro Z.length rc) _ rfl rfl rfl
          case o1x3 => exact fun _ _ _ _ => opE_move (v := .slice ao1 O.length cap1) _ rfl rfl rfl
          case o2x3 => exact fun _ _ _ _ => opE_move (v := .int .i64 ((j : Nat) : Int)) _ rfl rfl rfl
          case o3x3 => exact fun _ _ hw _ => opE_value (v := .pointer (pK kI ao1 j 0)) rfl (run_ixK rIk ((HR).gro ((Gro.refl _).drew.trans hw)) _ _ rfl rfl j rfl hjt)
          case o4x3 => exact fun _ _ hw _ => opE_value (v := .agg (idA (O.getD j 0))) rfl (run_ldKI ((HR).gro ((Gro.refl _).drew.trans hw)) _ rfl j rfl hjt)
          case o5x3 => exact fun _ _ _ _ => opE_move (v := .slice mo its.length mc) _ rfl rfl rfl
          case o6x3 => exact fun _ _ _ _ => opE_move (v := .int .i64 ((i : Nat) : Int)) _ rfl rfl rfl
          case o7x3 => exact fun _ _ hw _ => opE_value (v := .pointer (pK kM mo i 0)) rfl (run_ixK rM (((HI.gro GG)).gro ((Gro.refl _).drew.trans hw)) _ _ rfl rfl i rfl hit)
          case o8x3 => exact fun _ _ hw _ => opE_value (v := .agg (itA (its.getD i zM))) rfl (run_ldKM (((HI.gro GG)).gro ((Gro.refl _).drew.trans hw)) _ rfl i rfl hit)
          case o9x3 => exact fun _ _ _ _ => opE_value (v := .agg (duA (⟨(O.getD j 0), (its.getD i zM)⟩ : DM))) rfl (run_bd 55 _ rfl [(0, .agg (idA (O.getD j 0))), (1, .agg (itA (its.getD i zM)))] rfl _ (bdDu55 (O.getD j 0) (its.getD i zM) _))
          case o10x3 => exact fun _ _ _ _ => opE_bs rfl 51 _ rfl [(0, .agg (duA (⟨(O.getD j 0), (its.getD i zM)⟩ : DM)))] rfl (⟨(O.getD j 0), (its.getD i zM)⟩ : DM) (show DM.ok _ from ⟨(atI HR hjt), (HI.at hit)⟩) (bsdu51 (⟨(O.getD j 0), (its.getD i zM)⟩ : DM) _)
          intro ptrs w6 GD hxE
          simp only [List.drop_succ_cons, List.drop_zero]
          replace kg := GD.has kg
          replace kg1 := GD.has kg1
          replace kg2 := GD.has kg2
          replace HZ := HZ.gro ((Gro.refl _).drew.trans GD)
          replace HR := HR.gro ((Gro.refl _).drew.trans GD)
          replace GG := GG.drew.trans GD
          obtain ⟨⟨ao2, cap2, hx2, HR2⟩, _⟩ := hxE
          simp only [hx2]
          clear hx2
          clear GD
          have hbd : (Z.length + 1) * 80 ≤ 140737488355328 := by have := Nat.mul_le_mul (show i ≤ 100 by omega) (show l.length + 1 ≤ 101 by omega); omega
          refine s_appK rdu51 (by decide) 99 rfl rfl _ _ rfl rfl HZ rfl HR2 hbd GG.size ?_
          intro ro2 rc2 w7 HZ2 G KP
          replace kg := G.has kg (HZ.own.ne kg (by decide))
          replace kg1 := G.has kg1 (HZ.own.ne kg1 (by decide))
          replace kg2 := G.has kg2 (HZ.own.ne kg2 (by decide))
          have hap2 : ∀ ad, ao1 = some ad → ad.block ∉ Go.Proofs.Ytjahegiopigblaa.blk ro2 := fun ad h hm => (KP _ hm).elim (hap ad h) (fun c => by have := HR.lt ad h (by rw [flx_len kI.len]; show 0 < O.length * 16; omega); omega)
          replace HR := HR.gros G (fun ad h _ => hap ad h)
          have hZI2 : ∀ d ∈ Z ++ [(⟨(O.getD j 0), (its.getD i zM)⟩ : DM)], d.it ∈ its := fun d hd => (List.mem_append.1 hd).elim (hZI d) (fun h => by rw [List.mem_singleton.1 h]; exact getD_mC hit)
          replace GG := G.gro GG HZ.own.base
          clear HZ hap
          have HZ := HZ2
          have hap := hap2
          clear HZ2 hap2 KP G HR2
          refine nr ?_; intro U h; simp only [z0, z1] at h; subst h
          refine s_val 9 rfl rfl (.slice ro2 (Z ++ [(⟨(O.getD j 0), (its.getD i zM)⟩ : DM)]).length rc2) (rfl) ?_
          refine nr ?_; intro U h; simp only [z0, z1] at h; subst h
          refine wpList_nil ?_
          refine blk_n ?_
          refine then_n ?_
          refine wp_region_lit ?_
          refine s_val 33 rfl rfl (.int .i64 ((j : Nat) : Int)) (rfl) ?_
          refine nr ?_; intro U h; simp only [z0, z1] at h; subst h
          refine s_val 34 rfl rfl (.int .i64 ((j + 1 : Nat) : Int)) (run_addI 3 _ _ _ rfl ((j : Nat) : Int) 1 ((j + 1 : Nat) : Int) rfl rfl (by omega) (by omega) (by omega) _) ?_
          refine nr ?_; intro U h; simp only [z0, z1] at h; subst h
          refine s_val 12 rfl rfl (.int .i64 ((j + 1 : Nat) : Int)) (rfl) ?_
          refine nr ?_; intro U h; simp only [z0, z1] at h; subst h
          refine wpList_nil ?_
          refine then_n ?_
          exact ⟨_, by omega, j + 1, Z ++ [(⟨(O.getD j 0), (its.getD i zM)⟩ : DM)], ro2, rc2, (fun kz => ([.pointer (some ⟨g2, 0, none⟩), .int .i64 ((q : Nat) : Int), .int .i64 ((j : Nat) : Int), .slice ao1 O.length cap1, .int .i64 ((O.length : Nat) : Int), .bool true, .int .i64 ((j : Nat) : Int), .int .i64 ((j + 1 : Nat) : Int), .int .i64 ((q : Nat) : Int), .pointer (some ⟨g, 0, none⟩), .pointer (some ⟨g, 0, none⟩), .pointer (some ⟨g, 0, none⟩), .slice bo Nl.length bc, .int .i64 ((Nl.length : Nat) : Int), .bool false, us3 7, us3 8, us3 9, us3 10, us3 11, us3 12, us3 13, us3 14, us3 15, us3 16, us3 17, us3 18, us3 19, us3 20, us3 21, us3 22, us3 23, us3 24, us3 25, us3 26, us3 27, us3 28, us3 29, us3 30, us3 31, us3 32, us3 33, us3 34, us3 35, us3 36, us3 37, us3 38, us3 39, us3 40, us3 41, us3 42, us3 43, us3 44, us3 45, .agg (veA (lastV Nl (O.getD j 0) (its.getD i zM).key)), .slice mo its.length mc, .int .i64 ((i : Nat) : Int), .pointer (pK kM mo i 0), .pointer (pK kM mo i 16), .agg (veA (its.getD i zM).ver), .bool true, .slice ro Z.length rc, .slice ao1 O.length cap1, .int .i64 ((j : Nat) : Int), .pointer (pK kI ao1 j 0), .agg (idA (O.getD j 0)), .slice mo its.length mc, .int .i64 ((i : Nat) : Int), .pointer (pK kM mo i 0), .agg (itA (its.getD i zM)), .agg (duA (⟨(O.getD j 0), (its.getD i zM)⟩ : DM)), .slice ao2 ([(⟨(O.getD j 0), (its.getD i zM)⟩ : DM)]).length cap2, .slice ro2 (Z ++ [(⟨(O.getD j 0), (its.getD i zM)⟩ : DM)]).length rc2] : List Value).getD kz undef), rfl, rfl, GG, kg, kg1, HZ, hZI2, HR, hap, by omega, by rw [dueX_yes _ _ _ _ hjt k4, List.map_append, hE, List.append_assoc]; rfl, by rw [List.length_append, List.length_singleton]; omega⟩
        · refine wp_region_exA (A := ?Ax4) 6 [(0, 81), (1, 82), (2, 83), (3, 84), (4, 85), (5, 86)] [.val (.agg (veA (lastV Nl (O.getD j 0) (its.getD i zM).key))), .val (.slice mo its.length mc), .val (.int .i64 ((i : Nat) : Int)), .val (.pointer (pK kM mo i 0)), .val (.pointer (pK kM mo i 16)), .val (.agg (veA (its.getD i zM).ver))] follows (by kernel_rfl) rfl ?hAx4 (opsA_cons ?o0x4 (opsA_cons ?o1x4 (opsA_cons ?o2x4 (opsA_cons ?o3x4 (opsA_cons ?o4x4 (opsA_cons ?o5x4 opsA_nil)))))) ?restx4
          case hAx4 =>
            intro ptrs
            simp only [full, foldSlots, filledE, postE, List.foldl_cons, List.foldl_nil, List.getD_cons_zero, List.getD_cons_succ, fill_val, List.set_cons_zero, List.set_cons_succ]
            exact rfl
          case o0x4 => exact fun _ _ hw _ => opE_value (v := .agg (veA (lastV Nl (O.getD j 0) (its.getD i zM).key))) rfl (ldVe0 _ rfl g2 rfl (hw.has kg2))
          case o1x4 => exact fun _ _ _ _ => opE_move (v := .slice mo its.length mc) _ rfl rfl rfl
          case o2x4 => exact fun _ _ _ _ => opE_move (v := .int .i64 ((i : Nat) : Int)) _ rfl rfl rfl
          case o3x4 => exact fun _ _ hw _ => opE_value (v := .pointer (pK kM mo i 0)) rfl (run_ixK rM (((HI.gro GG)).gro ((Gro.refl _).drew.trans hw)) _ _ rfl rfl i rfl hit)
          case o4x4 => exact fun _ _ hw _ => opE_value (v := .pointer (pK kM mo i 16)) rfl (run_fdK (((HI.gro GG)).gro ((Gro.refl _).drew.trans hw)) 46 _ 1 16 (fdM_1 _) rfl i rfl hit)
          case o5x4 => exact fun _ _ hw _ => opE_value (v := .agg (veA (its.getD i zM).ver)) rfl (run_ldKMv (((HI.gro GG)).gro ((Gro.refl _).drew.trans hw)) _ rfl i rfl hit)
          intro ptrs w5 GD hxE
          simp only [List.drop_succ_cons, List.drop_zero]
          replace kg := GD.has kg
          replace kg1 := GD.has kg1
          replace kg2 := GD.has kg2
          replace HZ := HZ.gro ((Gro.refl _).drew.trans GD)
          replace HR := HR.gro ((Gro.refl _).drew.trans GD)
          replace GG := GG.drew.trans GD
          clear GD
          refine s_val 87 rfl rfl (.bool false) (run_neV _ _ _ rfl _ _ rfl rfl (lastV_ok HN.all _ _) (HI.at hit).ver false k4) ?_
          refine nr ?_; intro U h; simp only [z0, z1] at h; subst h
          refine wpList_nil ?_
          refine then_n ?_
          refine wp_cond_false rfl ?_
          refine wp_skip ?_
          refine blk_n ?_
          refine then_n ?_
          refine wp_region_lit ?_
          refine s_val 33 rfl rfl (.int .i64 ((j : Nat) : Int)) (rfl) ?_
          refine nr ?_; intro U h; simp only [z0, z1] at h; subst h
          refine s_val 34 rfl rfl (.int .i64 ((j + 1 : Nat) : Int)) (run_addI 3 _ _ _ rfl ((j : Nat) : Int) 1 ((j + 1 : Nat) : Int) rfl rfl (by omega) (by omega) (by omega) _) ?_
          refine nr ?_; intro U h; simp only [z0, z1] at h; subst h
          refine s_val 12 rfl rfl (.int .i64 ((j + 1 : Nat) : Int)) (rfl) ?_
          refine nr ?_; intro U h; simp only [z0, z1] at h; subst h
          refine wpList_nil ?_
          refine then_n ?_
          exact ⟨_, by omega, j + 1, Z, ro, rc, (fun kz => ([.pointer (some ⟨g2, 0, none⟩), .int .i64 ((q : Nat) : Int), .int .i64 ((j : Nat) : Int), .slice ao1 O.length cap1, .int .i64 ((O.length : Nat) : Int), .bool true, .int .i64 ((j : Nat) : Int), .int .i64 ((j + 1 : Nat) : Int), .int .i64 ((q : Nat) : Int), .pointer (some ⟨g, 0, none⟩), .pointer (some ⟨g, 0, none⟩), .pointer (some ⟨g, 0, none⟩), .slice bo Nl.length bc, .int .i64 ((Nl.length : Nat) : Int), .bool false, us3 7, us3 8, us3 9, us3 10, us3 11, us3 12, us3 13, us3 14, us3 15, us3 16, us3 17, us3 18, us3 19, us3 20, us3 21, us3 22, us3 23, us3 24, us3 25, us3 26, us3 27, us3 28, us3 29, us3 30, us3 31, us3 32, us3 33, us3 34, us3 35, us3 36, us3 37, us3 38, us3 39, us3 40, us3 41, us3 42, us3 43, us3 44, us3 45, .agg (veA (lastV Nl (O.getD j 0) (its.getD i zM).key)), .slice mo its.length mc, .int .i64 ((i : Nat) : Int), .pointer (pK kM mo i 0), .pointer (pK kM mo i 16), .agg (veA (its.getD i zM).ver), .bool false, us2 61, us2 62, us2 63, us2 64, us2 65, us2 66, us2 67, us2 68, us2 69, us2 70, us2 71, us2 72] : List Value).getD kz undef), rfl, rfl, GG, kg, kg1, HZ, hZI, HR, hap, by omega, by rw [dueX_no _ _ _ _ hjt k4]; exact hE, by omega⟩
      · have hqt : q < Nl.length := by have := of_decide_eq_true t3; omega
        refine wp_region_lit ?_
        refine s_val 35 rfl rfl (.int .i64 ((q : Nat) : Int)) (rfl) ?_
        refine nr ?_; intro U h; simp only [z0, z1] at h; subst h
        refine s_val 36 rfl rfl (.pointer (some ⟨g, 0, none⟩)) (rfl) ?_
        refine nr ?_; intro U h; simp only [z0, z1] at h; subst h
        refine s_val 37 rfl rfl (.pointer (some ⟨g, 0, none⟩)) (run_nc _ rfl _ rfl) ?_
        refine nr ?_; intro U h; simp only [z0, z1] at h; subst h
        refine s_val 38 rfl rfl (.pointer (some ⟨g, 0, none⟩)) (run_fld 37 _ 0 rfl g 0 rfl 0 (by kernel_rfl)) ?_
        refine nr ?_; intro U h; simp only [z0, z1] at h; subst h
        refine s_val 39 rfl rfl (.slice bo Nl.length bc) (ldRb _ rfl g rfl (kg)) ?_
        refine nr ?_; intro U h; simp only [z0, z1] at h; subst h
        refine s_val 40 rfl rfl (.int .i64 ((Nl.length : Nat) : Int)) (run_len Try.underlying35 _ rfl _ _ _ rfl _) ?_
        refine nr ?_; intro U h; simp only [z0, z1] at h; subst h
        refine s_val 41 rfl rfl (.bool true) (run_lssT 3 _ _ _ rfl ((q : Nat) : Int) ((Nl.length : Nat) : Int) rfl rfl true t3 _) ?_
        refine nr ?_; intro U h; simp only [z0, z1] at h; subst h
        refine wpList_nil ?_
        refine then_n ?_
        refine wp_cond_true rfl ?_
        refine wp_skip ?_
        refine then_n ?_
        refine wp_seq ?_
        refine wp_block ?_
        refine wp_seq ?_
        cases k1 : decide ((Nl.getD q zN).id = (O.getD j 0))
        · have hm : (Nl.getD q zN).isN (O.getD j 0) (its.getD i zM).key = false := by show (decide _ && decide _) = _; rw [k1]; rfl
          refine wp_region_exA (A := ?Ax5) 28 [(0, 44), (1, 45), (2, 46), (3, 47), (4, 48), (5, 49), (6, 50), (7, 51), (8, 52), (9, 53), (10, 54), (11, 55), (12, 56), (13, 57), (14, 58), (15, 59), (16, 60), (17, 61), (18, 62), (19, 63), (20, 64), (21, 65), (22, 66), (23, 67), (24, 68), (25, 69), (26, 70), (27, 71)] [.val (.pointer (some ⟨g, 0, none⟩)), .val (.pointer (some ⟨g, 0, none⟩)), .val (.pointer (some ⟨g, 0, none⟩)), .val (.slice bo Nl.length bc), .val (.int .i64 ((q : Nat) : Int)), .val (.pointer (pK knt bo q 0)), .val (.pointer (pK knt bo q 0)), .val (.agg (idA (Nl.getD q zN).id)), .val (.slice ao1 O.length cap1), .val (.int .i64 ((j : Nat) : Int)), .val (.pointer (pK kI ao1 j 0)), .val (.agg (idA (O.getD j 0))), .val (.bool false), .val (.bool false), .val undef, .val undef, .val undef, .val undef, .val undef, .val undef, .val undef, .val undef, .val undef, .val undef, .val undef, .val undef, .val undef, .val undef] follows (by kernel_rfl) rfl ?hAx5 (opsA_cons ?o0x5 (opsA_cons ?o1x5 (opsA_cons ?o2x5 (opsA_cons ?o3x5 (opsA_cons ?o4x5 (opsA_cons ?o5x5 (opsA_cons ?o6x5 (opsA_cons ?o7x5 (opsA_cons ?o8x5 (opsA_cons ?o9x5 (opsA_cons ?o10x5 (opsA_cons ?o11x5 (opsA_cons ?o12x5 (opsA_cons ?o13x5 (opsA_cons ?o14x5 (opsA_cons ?o15x5 (opsA_cons ?o16x5 (opsA_cons ?o17x5 (opsA_cons ?o18x5 (opsA_cons ?o19x5 (opsA_cons ?o20x5 (opsA_cons ?o21x5 (opsA_cons ?o22x5 (opsA_cons ?o23x5 (opsA_cons ?o24x5 (opsA_cons ?o25x5 (opsA_cons ?o26x5 (opsA_cons ?o27x5 opsA_nil)))))))))))))))))))))))))))) ?restx5
          case hAx5 =>
            intro ptrs
            simp only [full, foldSlots, filledE, postE, List.foldl_cons, List.foldl_nil, List.getD_cons_zero, List.getD_cons_succ, fill_val, List.set_cons_zero, List.set_cons_succ]
            exact rfl
          case o0x5 => exact fun _ _ _ _ => opE_move (v := .pointer (some ⟨g, 0, none⟩)) _ rfl rfl rfl
          case o1x5 => exact fun _ _ _ _ => opE_value (v := .pointer (some ⟨g, 0, none⟩)) rfl (run_nc _ rfl _ rfl)
          case o2x5 => exact fun _ _ _ _ => opE_value (v := .pointer (some ⟨g, 0, none⟩)) rfl (run_fld 37 _ 0 rfl g 0 rfl 0 (by kernel_rfl))
          case o3x5 => exact fun _ _ hw _ => opE_value (v := .slice bo Nl.length bc) rfl (ldRb _ rfl g rfl (hw.has kg))
          case o4x5 => exact fun _ _ _ _ => opE_move (v := .int .i64 ((q : Nat) : Int)) _ rfl rfl rfl
          case o5x5 => exact fun _ _ hw _ => opE_value (v := .pointer (pK knt bo q 0)) rfl (run_ixK rnt35 (((HN.gro GG)).gro ((Gro.refl _).drew.trans hw)) _ _ rfl rfl q rfl hqt)
          case o6x5 => exact fun _ _ hw _ => opE_value (v := .pointer (pK knt bo q 0)) rfl (run_fdK (((HN.gro GG)).gro ((Gro.refl _).drew.trans hw)) 79 _ 0 0 (fdnt_0 _) rfl q rfl hqt)
          case o7x5 => exact fun _ _ hw _ => opE_value (v := .agg (idA (Nl.getD q zN).id)) rfl (rldNti (((HN.gro GG)).gro ((Gro.refl _).drew.trans hw)) _ rfl q rfl hqt)
          case o8x5 => exact fun _ _ _ _ => opE_move (v := .slice ao1 O.length cap1) _ rfl rfl rfl
          case o9x5 => exact fun _ _ _ _ => opE_move (v := .int .i64 ((j : Nat) : Int)) _ rfl rfl rfl
          case o10x5 => exact fun _ _ hw _ => opE_value (v := .pointer (pK kI ao1 j 0)) rfl (run_ixK rIk ((HR).gro ((Gro.refl _).drew.trans hw)) _ _ rfl rfl j rfl hjt)
          case o11x5 => exact fun _ _ hw _ => opE_value (v := .agg (idA (O.getD j 0))) rfl (run_ldKI ((HR).gro ((Gro.refl _).drew.trans hw)) _ rfl j rfl hjt)
          case o12x5 => exact fun _ _ _ _ => opE_value (v := .bool false) rfl (run_eqI _ _ _ rfl _ _ rfl rfl (atNt HN hqt).id (atI HR hjt) false k1)
          case o13x5 => exact fun _ _ _ _ => opE_move (v := .bool false) _ rfl rfl rfl
          case o14x5 => exact fun _ _ _ _ => opE_skip rfl
          case o15x5 => exact fun _ _ _ _ => opE_skip rfl
          case o16x5 => exact fun _ _ _ _ => opE_skip rfl
          case o17x5 => exact fun _ _ _ _ => opE_skip rfl
          case o18x5 => exact fun _ _ _ _ => opE_skip rfl
          case o19x5 => exact fun _ _ _ _ => opE_skip rfl
          case o20x5 => exact fun _ _ _ _ => opE_skip rfl
          case o21x5 => exact fun _ _ _ _ => opE_skip rfl
          case o22x5 => exact fun _ _ _ _ => opE_skip rfl
          case o23x5 => exact fun _ _ _ _ => opE_skip rfl
          case o24x5 => exact fun _ _ _ _ => opE_skip rfl
          case o25x5 => exact fun _ _ _ _ => opE_skip rfl
          case o26x5 => exact fun _ _ _ _ => opE_skip rfl
          case o27x5 => exact fun _ _ _ _ => opE_skip rfl
          intro ptrs w5 GD hxE
          simp only [List.drop_succ_cons, List.drop_zero]
          replace kg := GD.has kg
          replace kg1 := GD.has kg1
          replace kg2 := GD.has kg2
          replace HZ := HZ.gro ((Gro.refl _).drew.trans GD)
          replace HR := HR.gro ((Gro.refl _).drew.trans GD)
          replace GG := GG.drew.trans GD
          clear GD
          refine s_val 72 rfl rfl (.bool false) (rfl) ?_
          refine nr ?_; intro U h; simp only [z0, z1] at h; subst h
          refine wpList_nil ?_
          refine then_n ?_
          refine wp_cond_false rfl ?_
          refine wp_skip ?_
          refine blk_n ?_
          refine then_n ?_
          refine wp_region_lit ?_
          refine s_val 42 rfl rfl (.int .i64 ((q : Nat) : Int)) (rfl) ?_
          refine nr ?_; intro U h; simp only [z0, z1] at h; subst h
          refine s_val 43 rfl rfl (.int .i64 ((q + 1 : Nat) : Int)) (run_addI 3 _ _ _ rfl ((q : Nat) : Int) 1 ((q + 1 : Nat) : Int) rfl rfl (by omega) (by omega) (by omega) _) ?_
          refine nr ?_; intro U h; simp only [z0, z1] at h; subst h
          refine s_val 14 rfl rfl (.int .i64 ((q + 1 : Nat) : Int)) (rfl) ?_
          refine nr ?_; intro U h; simp only [z0, z1] at h; subst h
          refine wpList_nil ?_
          refine then_n ?_
          exact ⟨_, by omega, q + 1, (fun kz => ([.int .i64 ((q : Nat) : Int), .pointer (some ⟨g, 0, none⟩), .pointer (some ⟨g, 0, none⟩), .pointer (some ⟨g, 0, none⟩), .slice bo Nl.length bc, .int .i64 ((Nl.length : Nat) : Int), .bool true, .int .i64 ((q : Nat) : Int), .int .i64 ((q + 1 : Nat) : Int), .pointer (some ⟨g, 0, none⟩), .pointer (some ⟨g, 0, none⟩), .pointer (some ⟨g, 0, none⟩), .slice bo Nl.length bc, .int .i64 ((q : Nat) : Int), .pointer (pK knt bo q 0), .pointer (pK knt bo q 0), .agg (idA (Nl.getD q zN).id), .slice ao1 O.length cap1, .int .i64 ((j : Nat) : Int), .pointer (pK kI ao1 j 0), .agg (idA (O.getD j 0)), .bool false, .bool false, undef, undef, undef, undef, undef, undef, undef, undef, undef, undef, undef, undef, undef, undef, .bool false, us3 38, us3 39, us3 40, us3 41, us3 42, us3 43, us3 44, us3 45] : List Value).getD kz undef), rfl, rfl, GG, kg, kg1, (by rw [lastV_step _ _ _ _ hqt, if_neg (by rw [hm]; decide)]; exact kg2), HZ, HR, by omega, dHZ13, dHR13⟩
        · cases k2 : decide ((Nl.getD q zN).key = (its.getD i zM).key)
          · have hm : (Nl.getD q zN).isN (O.getD j 0) (its.getD i zM).key = false := by show (decide _ && decide _) = _; rw [k1, k2]; rfl
            refine wp_region_exA (A := ?Ax6) 28 [(0, 44), (1, 45), (2, 46), (3, 47), (4, 48), (5, 49), (6, 50), (7, 51), (8, 52), (9, 53), (10, 54), (11, 55), (12, 56), (13, 57), (14, 58), (15, 59), (16, 60), (17, 61), (18, 62), (19, 63), (20, 64), (21, 65), (22, 66), (23, 67), (24, 68), (25, 69), (26, 70), (27, 71)] [.val (.pointer (some ⟨g, 0, none⟩)), .val (.pointer (some ⟨g, 0, none⟩)), .val (.pointer (some ⟨g, 0, none⟩)), .val (.slice bo Nl.length bc), .val (.int .i64 ((q : Nat) : Int)), .val (.pointer (pK knt bo q 0)), .val (.pointer (pK knt bo q 0)), .val (.agg (idA (Nl.getD q zN).id)), .val (.slice ao1 O.length cap1), .val (.int .i64 ((j : Nat) : Int)), .val (.pointer (pK kI ao1 j 0)), .val (.agg (idA (O.getD j 0))), .val (.bool true), .val (.bool true), .val (.pointer (some ⟨g, 0, none⟩)), .val (.pointer (some ⟨g, 0, none⟩)), .val (.pointer (some ⟨g, 0, none⟩)), .val (.slice bo Nl.length bc), .val (.int .i64 ((q : Nat) : Int)), .val (.pointer (pK knt bo q 0)), .val (.pointer (pK knt bo q 16)), .val (.agg (idA (Nl.getD q zN).key)), .val (.slice mo its.length mc), .val (.int .i64 ((i : Nat) : Int)), .val (.pointer (pK kM mo i 0)), .val (.pointer (pK kM mo i 0)), .val (.agg (idA (its.getD i zM).key)), .val (.bool false)] follows (by kernel_rfl) rfl ?hAx6 (opsA_cons ?o0x6 (opsA_cons ?o1x6 (opsA_cons ?o2x6 (opsA_cons ?o3x6 (opsA_cons ?o4x6 (opsA_cons ?o5x6 (opsA_cons ?o6x6 (opsA_cons ?o7x6 (opsA_cons ?o8x6 (opsA_cons ?o9x6 (opsA_cons ?o10x6 (opsA_cons ?o11x6 (opsA_cons ?o12x6 (opsA_cons ?o13x6 (opsA_cons ?o14x6 (opsA_cons ?o15x6 (opsA_cons ?o16x6 (opsA_cons ?o17x6 (opsA_cons ?o18x6 (opsA_cons ?o19x6 (opsA_cons ?o20x6 (opsA_cons ?o21x6 (opsA_cons ?o22x6 (opsA_cons ?o23x6 (opsA_cons ?o24x6 (opsA_cons ?o25x6 (opsA_cons ?o26x6 (opsA_cons ?o27x6 opsA_nil)))))))))))))))))))))))))))) ?restx6
            case hAx6 =>
              intro ptrs
              simp only [full, foldSlots, filledE, postE, List.foldl_cons, List.foldl_nil, List.getD_cons_zero, List.getD_cons_succ, fill_val, List.set_cons_zero, List.set_cons_succ]
              exact rfl
            case o0x6 => exact fun _ _ _ _ => opE_move (v := .pointer (some ⟨g, 0, none⟩)) _ rfl rfl rfl
            case o1x6 => exact fun _ _ _ _ => opE_value (v := .pointer (some ⟨g, 0, none⟩)) rfl (run_nc _ rfl _ rfl)
            case o2x6 => exact fun _ _ _ _ => opE_value (v := .pointer (some ⟨g, 0, none⟩)) rfl (run_fld 37 _ 0 rfl g 0 rfl 0 (by kernel_rfl))
            case o3x6 => exact fun _ _ hw _ => opE_value (v := .slice bo Nl.length bc) rfl (ldRb _ rfl g rfl (hw.has kg))
            case o4x6 => exact fun _ _ _ _ => opE_move (v := .int .i64 ((q : Nat) : Int)) _ rfl rfl rfl
            case o5x6 => exact fun _ _ hw _ => opE_value (v := .pointer (pK knt bo q 0)) rfl (run_ixK rnt35 (((HN.gro GG)).gro ((Gro.refl _).drew.trans hw)) _ _ rfl rfl q rfl hqt)
            case o6x6 => exact fun _ _ hw _ => opE_value (v := .pointer (pK knt bo q 0)) rfl (run_fdK (((HN.gro GG)).gro ((Gro.refl _).drew.trans hw)) 79 _ 0 0 (fdnt_0 _) rfl q rfl hqt)
            case o7x6 => exact fun _ _ hw _ => opE_value (v := .agg (idA (Nl.getD q zN).id)) rfl (rldNti (((HN.gro GG)).gro ((Gro.refl _).drew.trans hw)) _ rfl q rfl hqt)
            case o8x6 => exact fun _ _ _ _ => opE_move (v := .slice ao1 O.length cap1) _ rfl rfl rfl
            case o9x6 => exact fun _ _ _ _ => opE_move (v := .int .i64 ((j : Nat) : Int)) _ rfl rfl rfl
            case o10x6 => exact fun _ _ hw _ => opE_value (v := .pointer (pK kI ao1 j 0)) rfl (run_ixK rIk ((HR).gro ((Gro.refl _).drew.trans hw)) _ _ rfl rfl j rfl hjt)
            case o11x6 => exact fun _ _ hw _ => opE_value (v := .agg (idA (O.getD j 0))) rfl (run_ldKI ((HR).gro ((Gro.refl _).drew.trans hw)) _ rfl j rfl hjt)
            case o12x6 => exact fun _ _ _ _ => opE_value (v := .bool true) rfl (run_eqI _ _ _ rfl _ _ rfl rfl (atNt HN hqt).id (atI HR hjt) true k1)
            case o13x6 => exact fun _ _ _ _ => opE_move (v := .bool true) _ rfl rfl rfl
            case o14x6 => exact fun _ _ _ _ => opE_move (v := .pointer (some ⟨g, 0, none⟩)) _ rfl rfl rfl
            case o15x6 => exact fun _ _ _ _ => opE_value (v := .pointer (some ⟨g, 0, none⟩)) rfl (run_nc _ rfl _ rfl)
            case o16x6 => exact fun _ _ _ _ => opE_value (v := .pointer (some ⟨g, 0, none⟩)) rfl (run_fld 37 _ 0 rfl g 0 rfl 0 (by kernel_rfl))
            case o17x6 => exact fun _ _ hw _ => opE_value (v := .slice bo Nl.length bc) rfl (ldRb _ rfl g rfl (hw.has kg))
            case o18x6 => exact fun _ _ _ _ => opE_move (v := .int .i64 ((q : Nat) : Int)) _ rfl rfl rfl
            case o19x6 => exact fun _ _ hw _ => opE_value (v := .pointer (pK knt bo q 0)) rfl (run_ixK rnt35 (((HN.gro GG)).gro ((Gro.refl _).drew.trans hw)) _ _ rfl rfl q rfl hqt)
            case o20x6 => exact fun _ _ hw _ => opE_value (v := .pointer (pK knt bo q 16)) rfl (run_fdK (((HN.gro GG)).gro ((Gro.refl _).drew.trans hw)) 79 _ 1 16 (fdnt_1 _) rfl q rfl hqt)
            case o21x6 => exact fun _ _ hw _ => opE_value (v := .agg (idA (Nl.getD q zN).key)) rfl (rldNtk (((HN.gro GG)).gro ((Gro.refl _).drew.trans hw)) _ rfl q rfl hqt)
            case o22x6 => exact fun _ _ _ _ => opE_move (v := .slice mo its.length mc) _ rfl rfl rfl
            case o23x6 => exact fun _ _ _ _ => opE_move (v := .int .i64 ((i : Nat) : Int)) _ rfl rfl rfl
            case o24x6 => exact fun _ _ hw _ => opE_value (v := .pointer (pK kM mo i 0)) rfl (run_ixK rM (((HI.gro GG)).gro ((Gro.refl _).drew.trans hw)) _ _ rfl rfl i rfl hit)
            case o25x6 => exact fun _ _ hw _ => opE_value (v := .pointer (pK kM mo i 0)) rfl (run_fdK (((HI.gro GG)).gro ((Gro.refl _).drew.trans hw)) 46 _ 0 0 (fdM_0 _) rfl i rfl hit)
            case o26x6 => exact fun _ _ hw _ => opE_value (v := .agg (idA (its.getD i zM).key)) rfl (run_ldKMk (((HI.gro GG)).gro ((Gro.refl _).drew.trans hw)) _ rfl i rfl hit)
            case o27x6 => exact fun _ _ _ _ => opE_value (v := .bool false) rfl (run_eqI _ _ _ rfl _ _ rfl rfl (atNt HN hqt).key (HI.at hit).key false k2)
            intro ptrs w5 GD hxE
            simp only [List.drop_succ_cons, List.drop_zero]
            replace kg := GD.has kg
            replace kg1 := GD.has kg1
            replace kg2 := GD.has kg2
            replace HZ := HZ.gro ((Gro.refl _).drew.trans GD)
            replace HR := HR.gro ((Gro.refl _).drew.trans GD)
            replace GG := GG.drew.trans GD
            clear GD
            refine s_val 72 rfl rfl (.bool false) (rfl) ?_
            refine nr ?_; intro U h; simp only [z0, z1] at h; subst h
            refine wpList_nil ?_
            refine then_n ?_
            refine wp_cond_false rfl ?_
            refine wp_skip ?_
            refine blk_n ?_
            refine then_n ?_
            refine wp_region_lit ?_
            refine s_val 42 rfl rfl (.int .i64 ((q : Nat) : Int)) (rfl) ?_
            refine nr ?_; intro U h; simp only [z0, z1] at h; subst h
            refine s_val 43 rfl rfl (.int .i64 ((q + 1 : Nat) : Int)) (run_addI 3 _ _ _ rfl ((q : Nat) : Int) 1 ((q + 1 : Nat) : Int) rfl rfl (by omega) (by omega) (by omega) _) ?_
            refine nr ?_; intro U h; simp only [z0, z1] at h; subst h
            refine s_val 14 rfl rfl (.int .i64 ((q + 1 : Nat) : Int)) (rfl) ?_
            refine nr ?_; intro U h; simp only [z0, z1] at h; subst h
            refine wpList_nil ?_
            refine then_n ?_
            exact ⟨_, by omega, q + 1, (fun kz => ([.int .i64 ((q : Nat) : Int), .pointer (some ⟨g, 0, none⟩), .pointer (some ⟨g, 0, none⟩), .pointer (some ⟨g, 0, none⟩), .slice bo Nl.length bc, .int .i64 ((Nl.length : Nat) : Int), .bool true, .int .i64 ((q : Nat) : Int), .int .i64 ((q + 1 : Nat) : Int), .pointer (some ⟨g, 0, none⟩), .pointer (some ⟨g, 0, none⟩), .pointer (some ⟨g, 0, none⟩), .slice bo Nl.length bc, .int .i64 ((q : Nat) : Int), .pointer (pK knt bo q 0), .pointer (pK knt bo q 0), .agg (idA (Nl.getD q zN).id), .slice ao1 O.length cap1, .int .i64 ((j : Nat) : Int), .pointer (pK kI ao1 j 0), .agg (idA (O.getD j 0)), .bool true, .bool true, .pointer (some ⟨g, 0, none⟩), .pointer (some ⟨g, 0, none⟩), .pointer (some ⟨g, 0, none⟩), .slice bo Nl.length bc, .int .i64 ((q : Nat) : Int), .pointer (pK knt bo q 0), .pointer (pK knt bo q 16), .agg (idA (Nl.getD q zN).key), .slice mo its.length mc, .int .i64 ((i : Nat) : Int), .pointer (pK kM mo i 0), .pointer (pK kM mo i 0), .agg (idA (its.getD i zM).key), .bool false, .bool false, us3 38, us3 39, us3 40, us3 41, us3 42, us3 43, us3 44, us3 45] : List Value).getD kz undef), rfl, rfl, GG, kg, kg1, (by rw [lastV_step _ _ _ _ hqt, if_neg (by rw [hm]; decide)]; exact kg2), HZ, HR, by omega, dHZ13, dHR13⟩
          · have hm : (Nl.getD q zN).isN (O.getD j 0) (its.getD i zM).key = true := by show (decide _ && decide _) = _; rw [k1, k2]; rfl
            refine wp_region_exA (A := ?Ax7) 28 [(0, 44), (1, 45), (2, 46), (3, 47), (4, 48), (5, 49), (6, 50), (7, 51), (8, 52), (9, 53), (10, 54), (11, 55), (12, 56), (13, 57), (14, 58), (15, 59), (16, 60), (17, 61), (18, 62), (19, 63), (20, 64), (21, 65), (22, 66), (23, 67), (24, 68), (25, 69), (26, 70), (27, 71)] [.val (.pointer (some ⟨g, 0, none⟩)), .val (.pointer (some ⟨g, 0, none⟩)), .val (.pointer (some ⟨g, 0, none⟩)), .val (.slice bo Nl.length bc), .val (.int .i64 ((q : Nat) : Int)), .val (.pointer (pK knt bo q 0)), .val (.pointer (pK knt bo q 0)), .val (.agg (idA (Nl.getD q zN).id)), .val (.slice ao1 O.length cap1), .val (.int .i64 ((j : Nat) : Int)), .val (.pointer (pK kI ao1 j 0)), .val (.agg (idA (O.getD j 0))), .val (.bool true), .val (.bool true), .val (.pointer (some ⟨g, 0, none⟩)), .val (.pointer (some ⟨g, 0, none⟩)), .val (.pointer (some ⟨g, 0, none⟩)), .val (.slice bo Nl.length bc), .val (.int .i64 ((q : Nat) : Int)), .val (.pointer (pK knt bo q 0)), .val (.pointer (pK knt bo q 16)), .val (.agg (idA (Nl.getD q zN).key)), .val (.slice mo its.length mc), .val (.int .i64 ((i : Nat) : Int)), .val (.pointer (pK kM mo i 0)), .val (.pointer (pK kM mo i 0)), .val (.agg (idA (its.getD i zM).key)), .val (.bool true)] follows (by kernel_rfl) rfl ?hAx7 (opsA_cons ?o0x7 (opsA_cons ?o1x7 (opsA_cons ?o2x7 (opsA_cons ?o3x7 (opsA_cons ?o4x7 (opsA_cons ?o5x7 (opsA_cons ?o6x7 (opsA_cons ?o7x7 (opsA_cons ?o8x7 (opsA_cons ?o9x7 (opsA_cons ?o10x7 (opsA_cons ?o11x7 (opsA_cons ?o12x7 (opsA_cons ?o13x7 (opsA_cons ?o14x7 (opsA_cons ?o15x7 (opsA_cons ?o16x7 (opsA_cons ?o17x7 (opsA_cons ?o18x7 (opsA_cons ?o19x7 (opsA_cons ?o20x7 (opsA_cons ?o21x7 (opsA_cons ?o22x7 (opsA_cons ?o23x7 (opsA_cons ?o24x7 (opsA_cons ?o25x7 (opsA_cons ?o26x7 (opsA_cons ?o27x7 opsA_nil)))))))))))))))))))))))))))) ?restx7
            case hAx7 =>
              intro ptrs
              simp only [full, foldSlots, filledE, postE, List.foldl_cons, List.foldl_nil, List.getD_cons_zero, List.getD_cons_succ, fill_val, List.set_cons_zero, List.set_cons_succ]
              exact rfl
            case o0x7 => exact fun _ _ _ _ => opE_move (v := .pointer (some ⟨g, 0, none⟩)) _ rfl rfl rfl
            case o1x7 => exact fun _ _ _ _ => opE_value (v := .pointer (some ⟨g, 0, none⟩)) rfl (run_nc _ rfl _ rfl)
            case o2x7 => exact fun _ _ _ _ => opE_value (v := .pointer (some ⟨g, 0, none⟩)) rfl (run_fld 37 _ 0 rfl g 0 rfl 0 (by kernel_rfl))
            case o3x7 => exact fun _ _ hw _ => opE_value (v := .slice bo Nl.length bc) rfl (ldRb _ rfl g rfl (hw.has kg))
            case o4x7 => exact fun _ _ _ _ => opE_move (v := .int .i64 ((q : Nat) : Int)) _ rfl rfl rfl
            case o5x7 => exact fun _ _ hw _ => opE_value (v := .pointer (pK knt bo q 0)) rfl (run_ixK rnt35 (((HN.gro GG)).gro ((Gro.refl _).drew.trans hw)) _ _ rfl rfl q rfl hqt)
            case o6x7 => exact fun _ _ hw _ => opE_value (v := .pointer (pK knt bo q 0)) rfl (run_fdK (((HN.gro GG)).gro ((Gro.refl _).drew.trans hw)) 79 _ 0 0 (fdnt_0 _) rfl q rfl hqt)
            case o7x7 => exact fun _ _ hw _ => opE_value (v := .agg (idA (Nl.getD q zN).id)) rfl (rldNti (((HN.gro GG)).gro ((Gro.refl _).drew.trans hw)) _ rfl q rfl hqt)
            case o8x7 => exact fun _ _ _ _ => opE_move (v := .slice ao1 O.length cap1) _ rfl rfl rfl
            case o9x7 => exact fun _ _ _ _ => opE_move (v := .int .i64 ((j : Nat) : Int)) _ rfl rfl rfl
            case o10x7 => exact fun _ _ hw _ => opE_value (v := .pointer (pK kI ao1 j 0)) rfl (run_ixK rIk ((HR).gro ((Gro.refl _).drew.trans hw)) _ _ rfl rfl j rfl hjt)
            case o11x7 => exact fun _ _ hw _ => opE_value (v := .agg (idA (O.getD j 0))) rfl (run_ldKI ((HR).gro ((Gro.refl _).drew.trans hw)) _ rfl j rfl hjt)
            case o12x7 => exact fun _ _ _ _ => opE_value (v := .bool true) rfl (run_eqI _ _ _ rfl _ _ rfl rfl (atNt HN hqt).id (atI HR hjt) true k1)
            case o13x7 => exact fun _ _ _ _ => opE_move (v := .bool true) _ rfl rfl rfl
            case o14x7 => exact fun _ _ _ _ => opE_move (v := .pointer (some ⟨g, 0, none⟩)) _ rfl rfl rfl
            case o15x7 => exact fun _ _ _ _ => opE_value (v := .pointer (some ⟨g, 0, none⟩)) rfl (run_nc _ rfl _ rfl)
            case o16x7 => exact fun _ _ _ _ => opE_value (v := .pointer (some ⟨g, 0, none⟩)) rfl (run_fld 37 _ 0 rfl g 0 rfl 0 (by kernel_rfl))
            case o17x7 => exact fun _ _ hw _ => opE_value (v := .slice bo Nl.length bc) rfl (ldRb _ rfl g rfl (hw.has kg))
            case o18x7 => exact fun _ _ _ _ => opE_move (v := .int .i64 ((q : Nat) : Int)) _ rfl rfl rfl
            case o19x7 => exact fun _ _ hw _ => opE_value (v := .pointer (pK knt bo q 0)) rfl (run_ixK rnt35 (((HN.gro GG)).gro ((Gro.refl _).drew.trans hw)) _ _ rfl rfl q rfl hqt)
            case o20x7 => exact fun _ _ hw _ => opE_value (v := .pointer (pK knt bo q 16)) rfl (run_fdK (((HN.gro GG)).gro ((Gro.refl _).drew.trans hw)) 79 _ 1 16 (fdnt_1 _) rfl q rfl hqt)
            case o21x7 => exact fun _ _ hw _ => opE_value (v := .agg (idA (Nl.getD q zN).key)) rfl (rldNtk (((HN.gro GG)).gro ((Gro.refl _).drew.trans hw)) _ rfl q rfl hqt)
            case o22x7 => exact fun _ _ _ _ => opE_move (v := .slice mo its.length mc) _ rfl rfl rfl
            case o23x7 => exact fun _ _ _ _ => opE_move (v := .int .i64 ((i : Nat) : Int)) _ rfl rfl rfl
            case o24x7 => exact fun _ _ hw _ => opE_value (v := .pointer (pK kM mo i 0)) rfl (run_ixK rM (((HI.gro GG)).gro ((Gro.refl _).drew.trans hw)) _ _ rfl rfl i rfl hit)
            case o25x7 => exact fun _ _ hw _ => opE_value (v := .pointer (pK kM mo i 0)) rfl (run_fdK (((HI.gro GG)).gro ((Gro.refl _).drew.trans hw)) 46 _ 0 0 (fdM_0 _) rfl i rfl hit)
            case o26x7 => exact fun _ _ hw _ => opE_value (v := .agg (idA (its.getD i zM).key)) rfl (run_ldKMk (((HI.gro GG)).gro ((Gro.refl _).drew.trans hw)) _ rfl i rfl hit)
            case o27x7 => exact fun _ _ _ _ => opE_value (v := .bool true) rfl (run_eqI _ _ _ rfl _ _ rfl rfl (atNt HN hqt).key (HI.at hit).key true k2)
            intro ptrs w5 GD hxE
            simp only [List.drop_succ_cons, List.drop_zero]
            replace kg := GD.has kg
            replace kg1 := GD.has kg1
            replace kg2 := GD.has kg2
            replace HZ := HZ.gro ((Gro.refl _).drew.trans GD)
            replace HR := HR.gro ((Gro.refl _).drew.trans GD)
            replace GG := GG.drew.trans GD
            clear GD
            refine s_val 72 rfl rfl (.bool true) (rfl) ?_
            refine nr ?_; intro U h; simp only [z0, z1] at h; subst h
            refine wpList_nil ?_
            refine then_n ?_
            refine wp_cond_true rfl ?_
            refine wp_region_lit ?_
            refine s_val 73 rfl rfl (.pointer (some ⟨g, 0, none⟩)) (rfl) ?_
            refine nr ?_; intro U h; simp only [z0, z1] at h; subst h
            refine s_val 74 rfl rfl (.pointer (some ⟨g, 0, none⟩)) (run_nc _ rfl _ rfl) ?_
            refine nr ?_; intro U h; simp only [z0, z1] at h; subst h
            refine s_val 75 rfl rfl (.pointer (some ⟨g, 0, none⟩)) (run_fld 37 _ 0 rfl g 0 rfl 0 (by kernel_rfl)) ?_
            refine nr ?_; intro U h; simp only [z0, z1] at h; subst h
            refine s_val 76 rfl rfl (.slice bo Nl.length bc) (ldRb _ rfl g rfl (kg)) ?_
            refine nr ?_; intro U h; simp only [z0, z1] at h; subst h
            refine s_val 77 rfl rfl (.int .i64 ((q : Nat) : Int)) (rfl) ?_
            refine nr ?_; intro U h; simp only [z0, z1] at h; subst h
            refine s_val 78 rfl rfl (.pointer (pK knt bo q 0)) (run_ixK rnt35 ((HN.gro GG)) _ _ rfl rfl q rfl hqt) ?_
            refine nr ?_; intro U h; simp only [z0, z1] at h; subst h
            refine s_val 79 rfl rfl (.pointer (pK knt bo q 32)) (run_fdK ((HN.gro GG)) 79 _ 2 32 (fdnt_2 _) rfl q rfl hqt) ?_
            refine nr ?_; intro U h; simp only [z0, z1] at h; subst h
            refine s_val 80 rfl rfl (.agg (veA (Nl.getD q zN).ver)) (rldNtv ((HN.gro GG)) _ rfl q rfl hqt) ?_
            refine nr ?_; intro U h; simp only [z0, z1] at h; subst h
            refine s_store rfl rfl 39 _ _ rfl g2 0 rfl (.agg (veA (Nl.getD q zN).ver)) rfl 39 _ kg2 (veA (Nl.getD q zN).ver) rfl (siVe' _) (veA_fit _ _) (veA_one _) (veA (Nl.getD q zN).ver) (splice_whole _ _ (veA_sz _ _)) ?_
            intro w6 St
            replace kg := St.has (by omega) kg
            replace kg1 := St.has (by omega) kg1
            replace HZ := HZ.st St dHZg2
            replace HR := HR.st St dHRg2
            replace GG := GG.store St bg2
            replace kg2 := St.new
            clear St
            refine wpList_nil ?_
            refine blk_n ?_
            refine then_n ?_
            refine wp_region_lit ?_
            refine s_val 42 rfl rfl (.int .i64 ((q : Nat) : Int)) (rfl) ?_
            refine nr ?_; intro U h; simp only [z0, z1] at h; subst h
            refine s_val 43 rfl rfl (.int .i64 ((q + 1 : Nat) : Int)) (run_addI 3 _ _ _ rfl ((q : Nat) : Int) 1 ((q + 1 : Nat) : Int) rfl rfl (by omega) (by omega) (by omega) _) ?_
            refine nr ?_; intro U h; simp only [z0, z1] at h; subst h
            refine s_val 14 rfl rfl (.int .i64 ((q + 1 : Nat) : Int)) (rfl) ?_
            refine nr ?_; intro U h; simp only [z0, z1] at h; subst h
            refine wpList_nil ?_
            refine then_n ?_
            exact ⟨_, by omega, q + 1, (fun kz => ([.int .i64 ((q : Nat) : Int), .pointer (some ⟨g, 0, none⟩), .pointer (some ⟨g, 0, none⟩), .pointer (some ⟨g, 0, none⟩), .slice bo Nl.length bc, .int .i64 ((Nl.length : Nat) : Int), .bool true, .int .i64 ((q : Nat) : Int), .int .i64 ((q + 1 : Nat) : Int), .pointer (some ⟨g, 0, none⟩), .pointer (some ⟨g, 0, none⟩), .pointer (some ⟨g, 0, none⟩), .slice bo Nl.length bc, .int .i64 ((q : Nat) : Int), .pointer (pK knt bo q 0), .pointer (pK knt bo q 0), .agg (idA (Nl.getD q zN).id), .slice ao1 O.length cap1, .int .i64 ((j : Nat) : Int), .pointer (pK kI ao1 j 0), .agg (idA (O.getD j 0)), .bool true, .bool true, .pointer (some ⟨g, 0, none⟩), .pointer (some ⟨g, 0, none⟩), .pointer (some ⟨g, 0, none⟩), .slice bo Nl.length bc, .int .i64 ((q : Nat) : Int), .pointer (pK knt bo q 0), .pointer (pK knt bo q 16), .agg (idA (Nl.getD q zN).key), .slice mo its.length mc, .int .i64 ((i : Nat) : Int), .pointer (pK kM mo i 0), .pointer (pK kM mo i 0), .agg (idA (its.getD i zM).key), .bool true, .bool true, .pointer (some ⟨g, 0, none⟩), .pointer (some ⟨g, 0, none⟩), .pointer (some ⟨g, 0, none⟩), .slice bo Nl.length bc, .int .i64 ((q : Nat) : Int), .pointer (pK knt bo q 0), .pointer (pK knt bo q 32), .agg (veA (Nl.getD q zN).ver)] : List Value).getD kz undef), rfl, rfl, GG, kg, kg1, (by rw [lastV_step _ _ _ _ hqt, if_pos hm]; exact kg2), HZ, HR, by omega, dHZ13, dHR13⟩
theorem rdue_any (g C s : Nat) (ao mo : Option Addr) (cap mc : Nat) (l : List Nat) (its : List IM) (Nl : List NM) (w : World) (hs : s < top) (hnl : Nl.length ≤ 1000000) (H : RBk w C g Nl) (HL : RK kI w ao cap l) (hll : l.length ≤ 100) (HI : RK kM w mo mc its) (hil0 : its.length ≤ 100) (NI : NCs w its) : Calls Try.prog 24 #[.pointer (some ⟨g, 0, none⟩), .agg (idA s), .slice ao l.length cap, .slice mo its.length mc] w (fun e w' => ∃ ro rc Z, e = .returned (.slice ro Z.length rc) ∧ Gro w w' ∧ RK kdu w' ro rc Z ∧ (∀ d ∈ Z, d.it ∈ its) ∧ Z.map DM.ab = dueL (lastV Nl) (owC s l) its) := by
  obtain ⟨bo, bc, kg, HN⟩ := H
  exact rdue_any0 g s ao mo cap mc l its bo bc Nl w hs hnl kg HN.re HL hll HI hil0 NI
end Go.Proofs.Ytjahegiopigblaa
