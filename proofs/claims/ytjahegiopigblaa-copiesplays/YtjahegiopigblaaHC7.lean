/- The program's Due. -/
import Derived.Test.YtjahegiopigblaaHC6
namespace Go.Proofs.Ytjahegiopigblaa
open Go.RowKit
set_option maxRecDepth 100000 in
set_option maxHeartbeats 4000000 in
theorem due_any (g mb s : Nat) (ao mo : Option Addr) (cap mc : Nat) (l : List Nat) (its : List IM) (L : List ((Nat × Nat) × VM)) (w : World) (hs : s < top) (HV : okV L) (kg : w.heap[g]? = some (.cells (bkA mb) 75 (0, 0))) (HM : TB w mb L) (HL : RK kI w ao cap l) (hll : l.length ≤ 100) (HI : RK kM w mo mc its) (hil0 : its.length ≤ 100) (NI : NCs w its) (hbig : ∀ x ∈ its, x.val.length ≤ 140737488355000) : Calls Try.prog 23 #[.pointer (some ⟨g, 0, none⟩), .agg (idA s), .slice ao l.length cap, .slice mo its.length mc] w (fun e w' => ∃ ro rc Z, e = .returned (.slice ro Z.length rc) ∧ Gro w w' ∧ OW kdu 54 w' w.heap.size ro rc Z ∧ OBd w' w.heap.size Z ∧ Z.map DM.ab = dueL (fun i k => (getM L (i, k)).getD zV) (fun k => owC s l k) its) := by
  refine s_enter Try.func23 rfl Try.ntmps23 [.pointer (some ⟨g, 0, none⟩), .agg (idA s), .slice ao l.length cap, .slice mo its.length mc] [.pointer (some ⟨g, 0, none⟩), .agg (idA s), .slice ao l.length cap, .slice mo its.length mc, undef, undef, undef, undef, undef, undef, undef, undef, undef, undef, undef, undef, undef, undef, undef, undef, undef, undef, undef, undef, undef, undef, undef, undef, undef, undef, undef, undef, undef, undef, undef, undef, undef, undef, undef, undef, undef, undef, undef, undef, undef, undef, undef] rfl ?_
  have GG := Gro.refl w
  refine wp_seq ?_
  refine wp_region_lit ?_
  refine s_box 5 rfl rfl 23 _ rfl _ rfl (idA s) rfl ?_
  intro w1 g1 G eg1 kg1
  have bg1 := size_base GG eg1
  replace GG := GG.trans G
  clear G
  clear eg1
  refine nr ?_; intro U h; simp only [z0, z1] at h; subst h
  refine s_val 8 rfl rfl (.slice none 0 0) (rfl) ?_
  refine nr ?_; intro U h; simp only [z0, z1] at h; subst h
  refine wpList_nil ?_
  refine then_n ?_
  refine wp_seq ?_
  refine wp_seq ?_
  refine wp_region_lit ?_
  refine s_val 14 rfl rfl (.pointer (some ⟨g, 0, none⟩)) (rfl) ?_
  refine nr ?_; intro U h; simp only [z0, z1] at h; subst h
  refine s_val 15 rfl rfl (.bool false) (run_eqnp 32 _ _ _ rfl _ rfl rfl Try.underlying32 _) ?_
  refine nr ?_; intro U h; simp only [z0, z1] at h; subst h
  refine wpList_nil ?_
  refine then_n ?_
  refine wp_cond_false rfl ?_
  refine wp_skip ?_
  refine then_n ?_
  refine wp_seq ?_
  refine wp_region_lit ?_
  refine s_val 9 rfl rfl (.slice none 0 0) (rfl) ?_
  refine nr ?_; intro U h; simp only [z0, z1] at h; subst h
  refine wpList_nil ?_
  refine then_n ?_
  refine wp_seq ?_
  refine wp_seq ?_
  refine wp_region_lit ?_
  refine s_val 16 rfl rfl (.slice mo its.length mc) (rfl) ?_
  refine nr ?_; intro U h; simp only [z0, z1] at h; subst h
  refine s_val 17 rfl rfl (.int .i64 ((its.length : Nat) : Int)) (run_len Try.underlying40 _ rfl _ _ _ rfl _) ?_
  refine nr ?_; intro U h; simp only [z0, z1] at h; subst h
  refine s_val 18 rfl rfl (.int .i64 0) (rfl) ?_
  refine nr ?_; intro U h; simp only [z0, z1] at h; subst h
  refine wpList_nil ?_
  refine then_n ?_
  refine wp_block ?_
  refine wp_loopN (fun mz az wv => ∃ (i : Nat) (Z : List DM) (ro : Option Addr) (rc : Nat) (us1 : Nat → Value), mz = its.length - i ∧ az = ⟨[.pointer (some ⟨g, 0, none⟩), .agg (idA s), .slice ao l.length cap, .slice mo its.length mc, undef, .pointer (some ⟨g1, 0, none⟩), undef, undef, .slice none 0 0, .slice ro Z.length rc, undef, us1 0, undef, us1 1, .pointer (some ⟨g, 0, none⟩), .bool false, .slice mo its.length mc, .int .i64 ((its.length : Nat) : Int), .int .i64 ((i : Nat) : Int), us1 2, us1 3, us1 4, us1 5, us1 6, us1 7, us1 8, us1 9, us1 10, us1 11, us1 12, us1 13, us1 14, us1 15, us1 16, us1 17, us1 18, us1 19, us1 20, us1 21, us1 22, us1 23, us1 24, us1 25, us1 26, us1 27, us1 28, undef].toArray, []⟩ ∧ Gro w wv ∧ wv.heap[g1]? = some (.cells (idA s) 23 (0, 0)) ∧ OW kdu 54 wv w.heap.size ro rc Z ∧ OBd wv w.heap.size Z ∧ i ≤ its.length ∧ (Z.map DM.ab = dueL (fun i k => (getM L (i, k)).getD zV) (fun k => owC s l k) (its.take i)) ∧ Z.length ≤ i * (l.length + 1)) ?_ _ ⟨0, [], none, 0, (fun kz => ([undef, undef, undef, undef, undef, undef, undef, undef, undef, undef, undef, undef, undef, undef, undef, undef, undef, undef, undef, undef, undef, undef, undef, undef, undef, undef, undef, undef, undef] : List Value).getD kz undef), rfl, rfl, GG, kg1, OW.nil _ _, (fun _ h => by cases h), Nat.zero_le _, rfl, Nat.zero_le _⟩
  clear GG kg1
  rintro mz az wv ⟨i, Z, ro, rc, us1, rfl, rfl, GG, kg1, HZ, HO, hi, hE, hZl⟩
  refine wp_seq ?_
  cases t1 : decide (((i : Nat) : Int) < ((its.length : Nat) : Int))
  · have hil : i = its.length := by have := of_decide_eq_false t1; omega
    refine wp_region_lit ?_
    refine s_val 19 rfl rfl (.bool false) (run_lssT 3 _ _ _ rfl ((i : Nat) : Int) ((its.length : Nat) : Int) rfl rfl false t1 _) ?_
    refine nr ?_; intro U h; simp only [z0, z1] at h; subst h
    refine wpList_nil ?_
    refine then_n ?_
    refine wp_seq ?_
    refine wp_cond_false rfl ?_
    refine wp_exit ?_
    refine then_x ?_
    refine then_x ?_
    refine blk_x ?_
    refine then_n ?_
    refine wp_seq ?_
    refine wp_region_lit ?_
    refine s_val 46 rfl rfl (.slice ro Z.length rc) (rfl) ?_
    refine nr ?_; intro U h; simp only [z0, z1] at h; subst h
    refine s_val 8 rfl rfl (.slice ro Z.length rc) (rfl) ?_
    refine nr ?_; intro U h; simp only [z0, z1] at h; subst h
    refine wpList_nil ?_
    refine then_n ?_
    refine wp_ret ?_
    refine bodyPost_ret (results_tmp Try.results23 _ _ _) rfl ?_
    rw [hil, List.take_length] at hE
    exact ⟨ro, rc, Z, rfl, GG, HZ, HO, hE⟩
  · have hit : i < its.length := by have := of_decide_eq_true t1; omega
    refine wp_region_lit ?_
    refine s_val 19 rfl rfl (.bool true) (run_lssT 3 _ _ _ rfl ((i : Nat) : Int) ((its.length : Nat) : Int) rfl rfl true t1 _) ?_
    refine nr ?_; intro U h; simp only [z0, z1] at h; subst h
    refine wpList_nil ?_
    refine then_n ?_
    refine wp_seq ?_
    refine wp_cond_true rfl ?_
    refine wp_skip ?_
    refine then_n ?_
    refine wp_seq ?_
    refine wp_block ?_
    refine wp_seq ?_
    refine wp_region_lit ?_
    refine s_val 20 rfl rfl (.pointer (pK kM mo i 0)) (run_ixK rM ((HI.gro GG)) _ _ rfl rfl i rfl (by omega)) ?_
    refine nr ?_; intro U h; simp only [z0, z1] at h; subst h
    refine s_val 21 rfl rfl (.agg (itA (its.getD i zM))) (run_ldKM ((HI.gro GG)) _ rfl i rfl (by omega)) ?_
    refine nr ?_; intro U h; simp only [z0, z1] at h; subst h
    refine s_alloc 11 rfl rfl 46 rfl _ zeroIt (itA zM) rfl ?_
    intro w2 g2 G eg2 kg2
    have bg2 := size_base GG eg2
    have dg1g2 := lt_new kg1 eg2
    have dHZg2 := HZ.ne eg2
    have dHOg2 := HO.ne eg2
    replace kg1 := G.has kg1
    replace HZ := HZ.gro G
    replace HO := HO.gro G
    replace GG := GG.trans G
    clear G
    clear eg2
    refine nr ?_; intro U h; simp only [z0, z1] at h; subst h
    refine s_store rfl rfl 46 _ _ rfl g2 0 rfl (.agg (itA (its.getD i zM))) rfl 46 _ kg2 (itA (its.getD i zM)) rfl (siIt' _) (itA_fit _ _) (itA_one _) (itA (its.getD i zM)) (splice_whole _ _ (itA_sz _ _)) ?_
    intro w3 St
    replace kg1 := St.has (by omega) kg1
    replace HZ := HZ.st St dHZg2
    replace HO := HO.st St dHOg2
    replace GG := GG.store St bg2
    replace kg2 := St.new
    clear St
    refine wpList_nil ?_
    refine then_n ?_
    refine wp_seq ?_
    obtain ⟨O, hO⟩ : ∃ O, owC s l (its.getD i zM).key = O := ⟨_, rfl⟩
    have hOl : O.length ≤ l.length + 1 := hO ▸ owC_len s l (its.getD i zM).key
    have hEi := hE
    have hZi := hZl
    refine wp_region_lit ?_
    refine s_val 22 rfl rfl (.agg (idA s)) (ldI0 _ rfl g1 rfl (kg1)) ?_
    refine nr ?_; intro U h; simp only [z0, z1] at h; subst h
    refine s_val 23 rfl rfl (.slice ao l.length cap) (rfl) ?_
    refine nr ?_; intro U h; simp only [z0, z1] at h; subst h
    refine s_val 24 rfl rfl (.pointer (some ⟨g2, 0, none⟩)) (run_fld 46 _ 0 rfl g2 0 rfl 0 (by kernel_rfl)) ?_
    refine nr ?_; intro U h; simp only [z0, z1] at h; subst h
    refine s_val 25 rfl rfl (.agg (idA (its.getD i zM).key)) (ldItk _ rfl g2 rfl (kg2)) ?_
    refine nr ?_; intro U h; simp only [z0, z1] at h; subst h
    have hro := HZ.own.lt
    refine s_callx 26 rfl rfl _ 15 Try.call15 rfl rfl _ rfl [.agg (idA s), .slice ao l.length cap, .agg (idA (its.getD i zM).key)] rfl (RowN.to hO (owed_any s ao cap l (its.getD i zM).key _ hs (HI.at hit).key (HL.gro GG) (by omega))) (by rintro _ _ ⟨_, _, he, _, _, _⟩; exact ⟨_, he⟩) ?_
    rintro v w4 ⟨ao1, cap1, he, G, HR1, hn1⟩
    cases he
    have hap : ∀ ad, ao1 = some ad → ad.block ∉ Go.Proofs.Ytjahegiopigblaa.blk ro := fun ad h hm => by have := hro _ hm; have := hn1 ad h; omega
    clear hn1
    replace kg1 := G.has kg1
    replace kg2 := G.has kg2
    replace HZ := HZ.gro G
    replace HO := HO.gro G
    replace GG := GG.trans G
    clear G
    have HR := HR1
    clear HR1
    refine nr ?_; intro U h; simp only [z0, z1] at h; subst h
    refine s_val 27 rfl rfl (.int .i64 ((O.length : Nat) : Int)) (run_len Try.underlying24 _ rfl _ _ _ rfl _) ?_
    refine nr ?_; intro U h; simp only [z0, z1] at h; subst h
    refine s_val 28 rfl rfl (.int .i64 0) (rfl) ?_
    refine nr ?_; intro U h; simp only [z0, z1] at h; subst h
    refine wpList_nil ?_
    refine then_n ?_
    refine wp_block ?_
    refine wp_loopN (fun mz az wv => ∃ (j : Nat) (Z : List DM) (ro : Option Addr) (rc : Nat) (us2 : Nat → Value), mz = O.length - j ∧ az = ⟨[.pointer (some ⟨g, 0, none⟩), .agg (idA s), .slice ao l.length cap, .slice mo its.length mc, undef, .pointer (some ⟨g1, 0, none⟩), undef, undef, .slice none 0 0, .slice ro Z.length rc, undef, .pointer (some ⟨g2, 0, none⟩), undef, us2 0, .pointer (some ⟨g, 0, none⟩), .bool false, .slice mo its.length mc, .int .i64 ((its.length : Nat) : Int), .int .i64 ((i : Nat) : Int), .bool true, .pointer (pK kM mo i 0), .agg (itA (its.getD i zM)), .agg (idA s), .slice ao l.length cap, .pointer (some ⟨g2, 0, none⟩), .agg (idA (its.getD i zM).key), .slice ao1 O.length cap1, .int .i64 ((O.length : Nat) : Int), .int .i64 ((j : Nat) : Int), us2 1, us2 2, us2 3, us2 4, us2 5, us2 6, us2 7, us2 8, us2 9, us2 10, us2 11, us2 12, us2 13, us2 14, us2 15, us2 16, us1 28, undef].toArray, []⟩ ∧ Gro w wv ∧ wv.heap[g1]? = some (.cells (idA s) 23 (0, 0)) ∧ wv.heap[g2]? = some (.cells (itA (its.getD i zM)) 46 (0, 0)) ∧ OW kdu 54 wv w.heap.size ro rc Z ∧ OBd wv w.heap.size Z ∧ RK kI wv ao1 cap1 O ∧ (∀ ad, ao1 = some ad → ad.block ∉ Go.Proofs.Ytjahegiopigblaa.blk ro) ∧ j ≤ O.length ∧ (Z.map DM.ab = dueL (fun i k => (getM L (i, k)).getD zV) (fun k => owC s l k) (its.take i) ++ dueX (fun i k => (getM L (i, k)).getD zV) (its.getD i zM) (O.take j)) ∧ Z.length ≤ i * (l.length + 1) + j) ?_ _ ⟨0, Z, ro, rc, (fun kz => ([us1 1, us1 12, us1 13, us1 14, us1 15, us1 16, us1 17, us1 18, us1 19, us1 20, us1 21, us1 22, us1 23, us1 24, us1 25, us1 26, us1 27] : List Value).getD kz undef), rfl, rfl, GG, kg1, kg2, HZ, HO, HR, hap, Nat.zero_le _, (by rw [hE]; exact (List.append_nil _).symm), hZl⟩
    clear GG kg1 kg2 HZ HO HR hE hZl hap hro hZi hEi
    rintro mz az wv ⟨j, Z, ro, rc, us2, rfl, rfl, GG, kg1, kg2, HZ, HO, HR, hap, hj, hE, hZl⟩
    refine wp_seq ?_
    cases t2 : decide (((j : Nat) : Int) < ((O.length : Nat) : Int))
    · have hjo : j = O.length := by have := of_decide_eq_false t2; omega
      rw [hjo] at hE hZl
      refine wp_region_lit ?_
      refine s_val 29 rfl rfl (.bool false) (run_lssT 3 _ _ _ rfl ((j : Nat) : Int) ((O.length : Nat) : Int) rfl rfl false t2 _) ?_
      refine nr ?_; intro U h; simp only [z0, z1] at h; subst h
      refine wpList_nil ?_
      refine then_n ?_
      refine wp_seq ?_
      refine wp_cond_false rfl ?_
      refine wp_exit ?_
      refine then_x ?_
      refine then_x ?_
      refine blk_x ?_
      refine blk_n ?_
      refine then_n ?_
      refine wp_region_lit ?_
      refine s_val 45 rfl rfl (.int .i64 ((i + 1 : Nat) : Int)) (run_addI 3 _ _ _ rfl ((i : Nat) : Int) 1 ((i + 1 : Nat) : Int) rfl rfl (by omega) (by omega) (by omega) _) ?_
      refine nr ?_; intro U h; simp only [z0, z1] at h; subst h
      refine s_val 18 rfl rfl (.int .i64 ((i + 1 : Nat) : Int)) (rfl) ?_
      refine nr ?_; intro U h; simp only [z0, z1] at h; subst h
      refine wpList_nil ?_
      refine then_n ?_
      exact ⟨_, by omega, i + 1, Z, ro, rc, (fun kz => ([.pointer (some ⟨g2, 0, none⟩), us2 0, .bool true, .pointer (pK kM mo i 0), .agg (itA (its.getD i zM)), .agg (idA s), .slice ao l.length cap, .pointer (some ⟨g2, 0, none⟩), .agg (idA (its.getD i zM).key), .slice ao1 O.length cap1, .int .i64 ((O.length : Nat) : Int), .int .i64 ((j : Nat) : Int), .bool false, us2 2, us2 3, us2 4, us2 5, us2 6, us2 7, us2 8, us2 9, us2 10, us2 11, us2 12, us2 13, us2 14, us2 15, us2 16, .int .i64 ((i + 1 : Nat) : Int)] : List Value).getD kz undef), rfl, rfl, GG, kg1, HZ, HO, by omega, by rw [dueL_step _ _ _ _ hit, hE, List.take_length, hO], by rw [Nat.add_mul]; omega⟩
    · have hjt : j < O.length := by have := of_decide_eq_true t2; omega
      refine wp_region_lit ?_
      refine s_val 29 rfl rfl (.bool true) (run_lssT 3 _ _ _ rfl ((j : Nat) : Int) ((O.length : Nat) : Int) rfl rfl true t2 _) ?_
      refine nr ?_; intro U h; simp only [z0, z1] at h; subst h
      refine wpList_nil ?_
      refine then_n ?_
      refine wp_seq ?_
      refine wp_cond_true rfl ?_
      refine wp_skip ?_
      refine then_n ?_
      refine wp_seq ?_
      refine wp_block ?_
      refine wp_seq ?_
      refine wp_region_lit ?_
      refine s_val 30 rfl rfl (.pointer (pK kI ao1 j 0)) (run_ixK rIk (HR) _ _ rfl rfl j rfl (by omega)) ?_
      refine nr ?_; intro U h; simp only [z0, z1] at h; subst h
      refine s_val 31 rfl rfl (.agg (idA (O.getD j 0))) (run_ldKI (HR) _ rfl j rfl (by omega)) ?_
      refine nr ?_; intro U h; simp only [z0, z1] at h; subst h
      refine s_alloc 13 rfl rfl 23 rfl _ zero23 (idA 0) rfl ?_
      intro w5 g3 G eg3 kg3
      have bg3 := size_base GG eg3
      have dg1g3 := lt_new kg1 eg3
      have dg2g3 := lt_new kg2 eg3
      have dHZg3 := HZ.ne eg3
      have dHOg3 := HO.ne eg3
      have dHRg3 := HR.ne eg3
      replace kg1 := G.has kg1
      replace kg2 := G.has kg2
      replace HZ := HZ.gro G
      replace HO := HO.gro G
      replace HR := HR.gro G
      replace GG := GG.trans G
      clear G
      clear eg3
      refine nr ?_; intro U h; simp only [z0, z1] at h; subst h
      refine s_store rfl rfl 23 _ _ rfl g3 0 rfl (.agg (idA (O.getD j 0))) rfl 23 _ kg3 (idA (O.getD j 0)) rfl (size23' _) (idA_fit _ _) (idA_one _) (idA (O.getD j 0)) (splice_whole _ _ (idA_sz _ _)) ?_
      intro w6 St
      replace kg1 := St.has (by omega) kg1
      replace kg2 := St.has (by omega) kg2
      replace HZ := HZ.st St dHZg3
      replace HO := HO.st St dHOg3
      replace HR := HR.st St dHRg3
      replace GG := GG.store St bg3
      replace kg3 := St.new
      clear St
      refine wpList_nil ?_
      refine then_n ?_
      refine wp_seq ?_
      cases k3 : eqV ((getM L ((O.getD j 0), (its.getD i zM).key)).getD zV) (its.getD i zM).ver
      · refine wp_region_lit ?_
        refine s_val 32 rfl rfl (.pointer (some ⟨g, 0, none⟩)) (rfl) ?_
        refine nr ?_; intro U h; simp only [z0, z1] at h; subst h
        refine s_val 33 rfl rfl (.agg (idA (O.getD j 0))) (ldI0 _ rfl g3 rfl (kg3)) ?_
        refine nr ?_; intro U h; simp only [z0, z1] at h; subst h
        refine s_val 34 rfl rfl (.agg (itA (its.getD i zM))) (ldIt0 _ rfl g2 rfl (kg2)) ?_
        refine nr ?_; intro U h; simp only [z0, z1] at h; subst h
        refine s_callv 35 rfl rfl _ 41 Try.call41 rfl rfl _ rfl [.pointer (some ⟨g, 0, none⟩), .agg (idA (O.getD j 0)), .agg (itA (its.getD i zM))] rfl (Calls.bool (keeps_any g mb (O.getD j 0) (its.getD i zM) L _ (atI HR hjt) (HI.at hit) HV (GG.has kg) (HM.gro GG)) k3) ?_
        intro w7 G
        replace kg1 := G.has kg1
        replace kg2 := G.has kg2
        replace kg3 := G.has kg3
        replace HZ := HZ.gro G
        replace HO := HO.gro G
        replace HR := HR.gro G
        replace GG := GG.trans G
        clear G
        refine nr ?_; intro U h; simp only [z0, z1] at h; subst h
        refine s_val 36 rfl rfl (.bool true) (run_nt _ _ rfl false rfl) ?_
        refine nr ?_; intro U h; simp only [z0, z1] at h; subst h
        refine wpList_nil ?_
        refine then_n ?_
        refine wp_cond_true rfl ?_
        have hit0 := HI.at hit
        have HR0 := HR
        have hbd : (Z.length + 1) * 80 ≤ 140737488355328 := by have := Nat.mul_le_mul (show i ≤ 100 by omega) (show l.length + 1 ≤ 101 by omega); omega
        refine wp_region_exA (A := ?Ax4) 6 [(0, 37), (1, 38), (2, 39), (3, 40), (4, 41), (5, 42)] [.val (.slice ro Z.length rc), .val (.agg (idA (O.getD j 0))), .val (.agg (itA (its.getD i zM))), aptE w.heap.size (its.getD i zM), bldE w.heap.size (O.getD j 0) (its.getD i zM), rowD w.heap.size (O.getD j 0) (its.getD i zM)] follows (by kernel_rfl) rfl ?hAx4 (opsA_cons ?o0x4 (opsA_cons ?o1x4 (opsA_cons ?o2x4 (opsA_cons ?o3x4 (opsA_cons ?o4x4 (opsA_cons ?o5x4 opsA_nil)))))) ?restx4
        case hAx4 =>
          intro ptrs
          simp only [full, foldSlots, filledE, postE, List.foldl_cons, List.foldl_nil, List.getD_cons_zero, List.getD_cons_succ, fill_val, fill_aptE, fill_bldE, fill_rowD, List.set_cons_zero, List.set_cons_succ]
          exact rfl
        case o0x4 => exact fun _ _ _ _ => opE_move (v := .slice ro Z.length rc) _ rfl rfl rfl
        case o1x4 => exact fun _ _ hw _ => opE_value (v := .agg (idA (O.getD j 0))) rfl (ldI0 _ rfl g3 rfl (hw.has kg3))
        case o2x4 => exact fun _ _ hw _ => opE_value (v := .agg (itA (its.getD i zM))) rfl (ldIt0 _ rfl g2 rfl (hw.has kg2))
        case o3x4 =>
          intro ptrs w' hw hE
          exact opE_call (aptE w.heap.size (its.getD i zM)) rfl _ 42 Try.call42 rfl rfl _ rfl [.agg (itA (its.getD i zM))] rfl ((apart_any (its.getD i zM) _ ((NI.at hit).gro (GG.drew.trans hw)) (hbig _ (getD_mC hit))).mono fun e w' ⟨ao, cap, he, hg, ho⟩ => ⟨_, he, hg, ao, cap, rfl, ho.mono (Nat.le_trans GG.size hw.size)⟩)
        case o4x4 =>
          intro ptrs w' hw hE
          obtain ⟨⟨ao3, cap3, h3, o3⟩, _⟩ := hE
          exact opE_new (bldE w.heap.size (O.getD j 0) (its.getD i zM)) rfl (run_bd 54 _ rfl [(0, .agg (idA (O.getD j 0))), (1, .agg (itA ((its.getD i zM).re ao3 cap3)))] (by show [(0, Value.agg (idA (O.getD j 0))), (1, ptrs 3)] = _; rw [h3]) _ (bdDu54 _ _ _)) (Gro.refl _) ⟨_, _, rfl, o3⟩
        case o5x4 =>
          intro ptrs w' hw hE
          obtain ⟨⟨ao4, cap4, h4, o4⟩, _⟩ := hE
          exact opE_new (rowD w.heap.size (O.getD j 0) (its.getD i zM)) rfl (run_bsl 49 1 _ rfl [(0, .agg (duA ⟨(O.getD j 0), (its.getD i zM).re ao4 cap4⟩))] (by show [(0, ptrs 4)] = _; rw [h4]) (bsdu49 _ _)) (gro_alloc _ _) ⟨_, _, ao4, cap4, rfl, RK.blk (heap_alloc_new _ _) (one_all (show DM.ok _ from ⟨atI HR0 hjt, hit0.re _ _⟩)) (Nat.le_refl _), o4.gro (gro_alloc _ _)⟩
        intro ptrs w8 GD hxE
        simp only [List.drop_succ_cons, List.drop_zero]
        replace kg1 := GD.has kg1
        replace kg2 := GD.has kg2
        replace kg3 := GD.has kg3
        replace HZ := HZ.gro ((Gro.refl _).drew.trans GD)
        replace HO := HO.gro ((Gro.refl _).drew.trans GD)
        replace HR := HR.gro ((Gro.refl _).drew.trans GD)
        replace GG := GG.drew.trans GD
        obtain ⟨_, _, ⟨rq, rqc, va, vc, hxq, HQ, HVA⟩, _⟩ := hxE
        simp only [hxq]
        clear hxq
        clear GD
        refine s_appK rdu49 (by decide) 43 rfl rfl _ _ rfl rfl HZ rfl HQ hbd GG.size ?_
        intro ro2 rc2 w9 HZ2 G KP
        replace kg1 := G.has kg1 (HZ.own.ne kg1 (by decide))
        replace kg2 := G.has kg2 (HZ.own.ne kg2 (by decide))
        replace kg3 := G.has kg3 (HZ.own.ne kg3 (by decide))
        have hap2 : ∀ ad, ao1 = some ad → ad.block ∉ Go.Proofs.Ytjahegiopigblaa.blk ro2 := fun ad h hm => (KP _ hm).elim (hap ad h) (fun c => by have := HR.lt ad h (by rw [flx_len kI.len]; show 0 < O.length * 16; omega); omega)
        replace HR := HR.gros G (fun ad h _ => hap ad h)
        replace HO := (HO.over HZ (by decide) G).snoc (y := ⟨(O.getD j 0), (its.getD i zM).re va vc⟩) (HVA.over HZ (by decide) G)
        replace GG := G.gro GG HZ.own.base
        replace HZ := HZ2
        replace hap := hap2
        clear HZ2 hap2 KP G HQ HVA
        refine nr ?_; intro U h; simp only [z0, z1] at h; subst h
        refine s_val 9 rfl rfl (.slice ro2 (Z ++ [(⟨(O.getD j 0), (its.getD i zM).re va vc⟩ : DM)]).length rc2) (rfl) ?_
        refine nr ?_; intro U h; simp only [z0, z1] at h; subst h
        refine wpList_nil ?_
        refine blk_n ?_
        refine then_n ?_
        refine wp_region_lit ?_
        refine s_val 44 rfl rfl (.int .i64 ((j + 1 : Nat) : Int)) (run_addI 3 _ _ _ rfl ((j : Nat) : Int) 1 ((j + 1 : Nat) : Int) rfl rfl (by omega) (by omega) (by omega) _) ?_
        refine nr ?_; intro U h; simp only [z0, z1] at h; subst h
        refine s_val 28 rfl rfl (.int .i64 ((j + 1 : Nat) : Int)) (rfl) ?_
        refine nr ?_; intro U h; simp only [z0, z1] at h; subst h
        refine wpList_nil ?_
        refine then_n ?_
        exact ⟨_, by omega, j + 1, Z ++ [(⟨(O.getD j 0), (its.getD i zM).re va vc⟩ : DM)], ro2, rc2, (fun kz => ([.pointer (some ⟨g3, 0, none⟩), .bool true, .pointer (pK kI ao1 j 0), .agg (idA (O.getD j 0)), .pointer (some ⟨g, 0, none⟩), .agg (idA (O.getD j 0)), .agg (itA (its.getD i zM)), .bool false, .bool true, .slice ro Z.length rc, .agg (idA (O.getD j 0)), .agg (itA (its.getD i zM)), ptrs 3, ptrs 4, .slice rq 1 rqc, .slice ro2 (Z ++ [(⟨(O.getD j 0), (its.getD i zM).re va vc⟩ : DM)]).length rc2, .int .i64 ((j + 1 : Nat) : Int)] : List Value).getD kz undef), rfl, rfl, GG, kg1, kg2, HZ, HO, HR, hap, by omega, by rw [dueX_yes _ _ _ _ hjt k3, List.map_append, hE, List.append_assoc]; rfl, by rw [List.length_append, List.length_singleton]; omega⟩
      · refine wp_region_lit ?_
        refine s_val 32 rfl rfl (.pointer (some ⟨g, 0, none⟩)) (rfl) ?_
        refine nr ?_; intro U h; simp only [z0, z1] at h; subst h
        refine s_val 33 rfl rfl (.agg (idA (O.getD j 0))) (ldI0 _ rfl g3 rfl (kg3)) ?_
        refine nr ?_; intro U h; simp only [z0, z1] at h; subst h
        refine s_val 34 rfl rfl (.agg (itA (its.getD i zM))) (ldIt0 _ rfl g2 rfl (kg2)) ?_
        refine nr ?_; intro U h; simp only [z0, z1] at h; subst h
        refine s_callv 35 rfl rfl _ 41 Try.call41 rfl rfl _ rfl [.pointer (some ⟨g, 0, none⟩), .agg (idA (O.getD j 0)), .agg (itA (its.getD i zM))] rfl (Calls.bool (keeps_any g mb (O.getD j 0) (its.getD i zM) L _ (atI HR hjt) (HI.at hit) HV (GG.has kg) (HM.gro GG)) k3) ?_
        intro w7 G
        replace kg1 := G.has kg1
        replace kg2 := G.has kg2
        replace kg3 := G.has kg3
        replace HZ := HZ.gro G
        replace HO := HO.gro G
        replace HR := HR.gro G
        replace GG := GG.trans G
        clear G
        refine nr ?_; intro U h; simp only [z0, z1] at h; subst h
        refine s_val 36 rfl rfl (.bool false) (run_nt _ _ rfl true rfl) ?_
        refine nr ?_; intro U h; simp only [z0, z1] at h; subst h
        refine wpList_nil ?_
        refine then_n ?_
        refine wp_cond_false rfl ?_
        refine wp_skip ?_
        refine blk_n ?_
        refine then_n ?_
        refine wp_region_lit ?_
        refine s_val 44 rfl rfl (.int .i64 ((j + 1 : Nat) : Int)) (run_addI 3 _ _ _ rfl ((j : Nat) : Int) 1 ((j + 1 : Nat) : Int) rfl rfl (by omega) (by omega) (by omega) _) ?_
        refine nr ?_; intro U h; simp only [z0, z1] at h; subst h
        refine s_val 28 rfl rfl (.int .i64 ((j + 1 : Nat) : Int)) (rfl) ?_
        refine nr ?_; intro U h; simp only [z0, z1] at h; subst h
        refine wpList_nil ?_
        refine then_n ?_
        exact ⟨_, by omega, j + 1, Z, ro, rc, (fun kz => ([.pointer (some ⟨g3, 0, none⟩), .bool true, .pointer (pK kI ao1 j 0), .agg (idA (O.getD j 0)), .pointer (some ⟨g, 0, none⟩), .agg (idA (O.getD j 0)), .agg (itA (its.getD i zM)), .bool true, .bool false, us2 9, us2 10, us2 11, us2 12, us2 13, us2 14, us2 15, .int .i64 ((j + 1 : Nat) : Int)] : List Value).getD kz undef), rfl, rfl, GG, kg1, kg2, HZ, HO, HR, hap, by omega, by rw [dueX_no _ _ _ _ hjt k3]; exact hE, by omega⟩
end Go.Proofs.Ytjahegiopigblaa
