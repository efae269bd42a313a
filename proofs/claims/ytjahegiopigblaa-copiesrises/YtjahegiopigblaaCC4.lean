/- The laws on whom an item is owed to, and on rings. -/
import Derived.Test.YtjahegiopigblaaCC3
namespace Go.Proofs.Ytjahegiopigblaa
open Go.RowKit
set_option maxRecDepth 100000 in
set_option maxHeartbeats 4000000 in
theorem copiesRises_any (ao : Option Addr) (cap : Nat) (l : List Nat) (half : Int) (k : Nat) (w : World) (hk : k < top) (HL : RK kI w ao cap l) : Calls Try.prog 5 #[.slice ao l.length cap, .int .i64 half, .agg (idA k)] w (fun e w' => e = .returned (.bool true) ∧ Gro w w') := by
  refine s_enter Try.func5 rfl Try.ntmps5 [.slice ao l.length cap, .int .i64 half, .agg (idA k)] [.slice ao l.length cap, .int .i64 half, .agg (idA k), undef, undef, undef, undef, undef, undef, undef, undef, undef, undef, undef, undef, undef, undef, undef, undef, undef, undef, undef, undef, undef, undef, undef, undef, undef, undef, undef, undef, undef, undef, undef, undef, undef, undef, undef, undef, undef, undef, undef, undef, undef, undef, undef, undef, undef, undef, undef, undef, undef, undef, undef, undef, undef, undef, undef] rfl ?_
  have GG := Gro.refl w
  obtain ⟨t, ht⟩ : ∃ t, l.take 16 = t := ⟨_, rfl⟩
  have HT : RK kI w ao t.length t := ht ▸ HL.take 16
  have htl : t.length ≤ 16 := by rw [← ht, List.length_take]; omega
  obtain ⟨m3, hm3⟩ : ∃ m3, uN half % 3 = m3 := ⟨_, rfl⟩
  have hm3l : m3 < 3 := by omega
  have hhf : (1 : Int) ≤ ((1 + m3 : Nat) : Int) := by omega
  refine wp_seq ?_
  refine wp_region_lit ?_
  refine s_box 5 rfl rfl 23 _ rfl _ rfl (idA k) rfl ?_
  intro w1 g1 G eg1 kg1
  have bg1 := size_base GG eg1
  replace HL := HL.gro G
  replace HT := HT.gro G
  replace GG := GG.trans G
  clear G
  clear eg1
  refine nr ?_; intro U h; simp only [z0, z1] at h; subst h
  refine s_val 6 rfl rfl (.bool false) (rfl) ?_
  refine nr ?_; intro U h; simp only [z0, z1] at h; subst h
  refine wpList_nil ?_
  refine then_n ?_
  refine wp_seq ?_
  refine wp_region_lit ?_
  refine s_val 11 rfl rfl (.slice ao l.length cap) (rfl) ?_
  refine nr ?_; intro U h; simp only [z0, z1] at h; subst h
  refine s_callv 12 rfl rfl _ 9 Try.call9 rfl rfl _ rfl [.slice ao l.length cap, .int .i64 16] rfl (Calls.valV (cutI_any ao cap l _ HL 16) (by rw [ht])) ?_
  intro w2 G
  replace kg1 := G.has kg1
  replace HL := HL.gro G
  replace HT := HT.gro G
  replace GG := GG.trans G
  clear G
  refine nr ?_; intro U h; simp only [z0, z1] at h; subst h
  refine s_val 0 rfl rfl (.slice ao t.length t.length) (rfl) ?_
  refine nr ?_; intro U h; simp only [z0] at h; subst h
  refine wpList_nil ?_
  refine then_n ?_
  refine wp_seq ?_
  refine wp_region_lit ?_
  refine s_val 13 rfl rfl (.int .i64 half) (rfl) ?_
  refine nr ?_; intro U h; simp only [z0, z1] at h; subst h
  refine s_val 14 rfl rfl (.int .u64 (((uN half) : Nat) : Int)) (convIU _ rfl half rfl _) ?_
  refine nr ?_; intro U h; simp only [z0, z1] at h; subst h
  refine s_val 15 rfl rfl (.int .u64 ((m3 : Nat) : Int)) (by rw [← hm3]; exact run_remN 58 58 _ _ rfl _ 3 rfl rfl (by decide) _) ?_
  refine nr ?_; intro U h; simp only [z0, z1] at h; subst h
  refine s_val 16 rfl rfl (.int .i64 ((m3 : Nat) : Int)) (convUI _ rfl m3 (by omega) rfl _) ?_
  refine nr ?_; intro U h; simp only [z0, z1] at h; subst h
  refine s_val 17 rfl rfl (.int .i64 ((1 + m3 : Nat) : Int)) (run_addI 3 _ _ _ rfl 1 ((m3 : Nat) : Int) ((1 + m3 : Nat) : Int) rfl rfl (by omega) (by omega) (by omega) _) ?_
  refine nr ?_; intro U h; simp only [z0, z1] at h; subst h
  refine s_val 1 rfl rfl (.int .i64 ((1 + m3 : Nat) : Int)) (rfl) ?_
  refine nr ?_; intro U h; simp only [z0, z1] at h; subst h
  refine wpList_nil ?_
  refine then_n ?_
  refine wp_seq ?_
  refine wp_seq ?_
  refine wp_region_lit ?_
  refine s_val 18 rfl rfl (.slice ao t.length t.length) (rfl) ?_
  refine nr ?_; intro U h; simp only [z0, z1] at h; subst h
  refine s_val 19 rfl rfl (.int .i64 ((t.length : Nat) : Int)) (run_len Try.underlying24 _ rfl _ _ _ rfl _) ?_
  refine nr ?_; intro U h; simp only [z0, z1] at h; subst h
  refine s_val 20 rfl rfl (.int .i64 0) (rfl) ?_
  refine nr ?_; intro U h; simp only [z0, z1] at h; subst h
  refine wpList_nil ?_
  refine then_n ?_
  refine wp_block ?_
  refine wp_loopN (fun mz az wv => ∃ (i : Nat) (us1 : Nat → Value), mz = t.length - i ∧ az = ⟨[.slice ao t.length t.length, .int .i64 ((1 + m3 : Nat) : Int), .agg (idA k), undef, undef, .pointer (some ⟨g1, 0, none⟩), us1 0, undef, us1 1, us1 2, us1 3, .slice ao l.length cap, .slice ao t.length t.length, .int .i64 half, .int .u64 (((uN half) : Nat) : Int), .int .u64 ((m3 : Nat) : Int), .int .i64 ((m3 : Nat) : Int), .int .i64 ((1 + m3 : Nat) : Int), .slice ao t.length t.length, .int .i64 ((t.length : Nat) : Int), .int .i64 ((i : Nat) : Int), us1 4, us1 5, us1 6, us1 7, us1 8, us1 9, us1 10, us1 11, us1 12, us1 13, us1 14, us1 15, us1 16, us1 17, us1 18, us1 19, us1 20, us1 21, us1 22, us1 23, us1 24, us1 25, us1 26, us1 27, us1 28, us1 29, us1 30, us1 31, us1 32, us1 33, us1 34, us1 35, us1 36, us1 37, us1 38, us1 39, undef].toArray, []⟩ ∧ Gro w wv ∧ RK kI wv ao t.length t ∧ wv.heap[g1]? = some (.cells (idA k) 23 (0, 0)) ∧ i ≤ t.length) ?_ _ ⟨0, (fun kz => ([.bool false, undef, undef, undef, undef, undef, undef, undef, undef, undef, undef, undef, undef, undef, undef, undef, undef, undef, undef, undef, undef, undef, undef, undef, undef, undef, undef, undef, undef, undef, undef, undef, undef, undef, undef, undef, undef, undef, undef, undef] : List Value).getD kz undef), rfl, rfl, GG, HT, kg1, Nat.zero_le _⟩
  clear GG kg1 HL HT
  rintro mz az wv ⟨i, us1, rfl, rfl, GG, HT, kg1, hi⟩
  refine wp_seq ?_
  cases t1 : decide (((i : Nat) : Int) < ((t.length : Nat) : Int))
  · refine wp_region_lit ?_
    refine s_val 21 rfl rfl (.bool false) (run_lssT 3 _ _ _ rfl ((i : Nat) : Int) ((t.length : Nat) : Int) rfl rfl false t1 _) ?_
    refine nr ?_; intro U h; simp only [z0, z1] at h; subst h
    refine wpList_nil ?_
    refine then_n ?_
    refine wp_seq ?_
    refine wp_cond_false rfl ?_
    refine wp_exit ?_
    refine then_x ?_
    refine then_x ?_
    refine blk_x ?_
    refine then_n ?_
    refine wp_seq ?_
    refine wp_region_lit ?_
    refine s_callv 57 rfl rfl _ 11 Try.call11 rfl rfl _ rfl [] rfl (fixed_any _) ?_
    intro w3 G
    replace kg1 := G.has kg1
    replace HT := HT.gro G
    replace GG := GG.trans G
    clear G
    refine nr ?_; intro U h; simp only [z0, z1] at h; subst h
    refine s_val 6 rfl rfl (.bool true) (rfl) ?_
    refine nr ?_; intro U h; simp only [z0, z1] at h; subst h
    refine wpList_nil ?_
    refine then_n ?_
    refine wp_ret ?_
    refine bodyPost_ret (results_tmp Try.results5 _ _ _) rfl ?_
    exact ⟨rfl, GG⟩
  · have hlt : i < t.length := by have := of_decide_eq_true t1; omega
    refine wp_region_lit ?_
    refine s_val 21 rfl rfl (.bool true) (run_lssT 3 _ _ _ rfl ((i : Nat) : Int) ((t.length : Nat) : Int) rfl rfl true t1 _) ?_
    refine nr ?_; intro U h; simp only [z0, z1] at h; subst h
    refine wpList_nil ?_
    refine then_n ?_
    refine wp_seq ?_
    refine wp_cond_true rfl ?_
    refine wp_skip ?_
    refine then_n ?_
    refine wp_seq ?_
    refine wp_block ?_
    refine wp_seq ?_
    obtain ⟨b, hb, hbl, hbn, _⟩ := best_spec k t t.length (by omega)
    refine wp_region_lit ?_
    refine s_val 22 rfl rfl (.pointer (pK kI ao i 0)) (run_ixK rIk (HT) _ _ rfl rfl i rfl (by omega)) ?_
    refine nr ?_; intro U h; simp only [z0, z1] at h; subst h
    refine s_val 23 rfl rfl (.agg (idA (t.getD i 0))) (run_ldKI (HT) _ rfl i rfl (by omega)) ?_
    refine nr ?_; intro U h; simp only [z0, z1] at h; subst h
    refine s_alloc 8 rfl rfl 23 rfl _ zero23 (idA 0) rfl ?_
    intro w3 g2 G eg2 kg2
    have bg2 := size_base GG eg2
    have dg1g2 := lt_new kg1 eg2
    have dHTg2 := HT.ne eg2
    replace kg1 := G.has kg1
    replace HT := HT.gro G
    replace GG := GG.trans G
    clear G
    clear eg2
    refine nr ?_; intro U h; simp only [z0, z1] at h; subst h
    refine s_store rfl rfl 23 _ _ rfl g2 0 rfl (.agg (idA (t.getD i 0))) rfl 23 _ kg2 (idA (t.getD i 0)) rfl (size23' _) (idA_fit _ _) (idA_one _) (idA (t.getD i 0)) (splice_whole _ _ (idA_sz _ _)) ?_
    intro w4 St
    replace kg1 := St.has (by omega) kg1
    replace HT := HT.st St dHTg2
    replace GG := GG.store St bg2
    replace kg2 := St.new
    clear St
    refine wpList_nil ?_
    refine then_n ?_
    refine wp_seq ?_
    refine wp_region_lit ?_
    refine s_val 24 rfl rfl (.agg (idA (t.getD i 0))) (ldI0 _ rfl g2 rfl (kg2)) ?_
    refine nr ?_; intro U h; simp only [z0, z1] at h; subst h
    refine s_val 25 rfl rfl (.slice ao t.length t.length) (rfl) ?_
    refine nr ?_; intro U h; simp only [z0, z1] at h; subst h
    refine s_val 26 rfl rfl (.int .i64 ((1 + m3 : Nat) : Int)) (rfl) ?_
    refine nr ?_; intro U h; simp only [z0, z1] at h; subst h
    refine s_callx 27 rfl rfl _ 26 Try.call26 rfl rfl _ rfl [.agg (idA (t.getD i 0)), .slice ao t.length t.length, .int .i64 ((1 + m3 : Nat) : Int)] rfl (rwantK _ ao t.length t HT (by omega) (t.getD i 0) (atI HT hlt) ((1 + m3 : Nat) : Int)) (by rintro _ _ ⟨_, _, he, _, _⟩; exact ⟨_, he⟩) ?_
    rintro v w5 ⟨ao1, cap1, he, G, HR1⟩
    cases he
    replace kg1 := G.has kg1
    replace kg2 := G.has kg2
    replace HT := HT.gro G
    replace GG := GG.trans G
    clear G
    refine nr ?_; intro U h; simp only [z0, z1] at h; subst h
    refine s_val 9 rfl rfl (.slice ao1 (want (t.getD i 0) t ((1 + m3 : Nat) : Int)).length cap1) (rfl) ?_
    refine nr ?_; intro U h; simp only [z0, z1] at h; subst h
    refine wpList_nil ?_
    refine then_n ?_
    refine wp_seq ?_
    have HA : All t := HT.alls
    have hnr : ∀ z ∈ t, nearN k z (t.getD b 0) = false := all_near hbn
    have hlw := want_len (t.getD i 0) t ((1 + m3 : Nat) : Int)
    cases t2 : decide ((t.getD b 0) = (t.getD i 0))
    · obtain ⟨b1, _, hw, hb1, hb2⟩ := ow_rises (a := (t.getD i 0)) HA (getD_inC hlt) hk (getD_inC hbl) (fun e => of_decide_eq_false t2 e.symm) hnr hhf
      have hb1t := HA b1 hb1
      refine wp_region_lit ?_
      refine s_val 28 rfl rfl (.agg (idA (t.getD i 0))) (ldI0 _ rfl g2 rfl (kg2)) ?_
      refine nr ?_; intro U h; simp only [z0, z1] at h; subst h
      refine s_val 29 rfl rfl (.slice ao1 (want (t.getD i 0) t ((1 + m3 : Nat) : Int)).length cap1) (rfl) ?_
      refine nr ?_; intro U h; simp only [z0, z1] at h; subst h
      refine s_val 30 rfl rfl (.agg (idA k)) (ldI0 _ rfl g1 rfl (kg1)) ?_
      refine nr ?_; intro U h; simp only [z0, z1] at h; subst h
      refine s_callx 31 rfl rfl _ 15 Try.call15 rfl rfl _ rfl [.agg (idA (t.getD i 0)), .slice ao1 (want (t.getD i 0) t ((1 + m3 : Nat) : Int)).length cap1, .agg (idA k)] rfl (RowR.to hw (RowN.r (owed_any (t.getD i 0) _ _ (want (t.getD i 0) t ((1 + m3 : Nat) : Int)) k _ (atI HT hlt) hk HR1 (by omega)))) (by rintro _ _ ⟨_, _, he, _, _⟩; exact ⟨_, he⟩) ?_
      rintro v w6 ⟨ao2, cap2, he, G, HR2⟩
      cases he
      replace kg1 := G.has kg1
      replace kg2 := G.has kg2
      replace HT := HT.gro G
      replace HR1 := HR1.gro G
      replace GG := GG.trans G
      clear G
      refine nr ?_; intro U h; simp only [z0, z1] at h; subst h
      refine s_val 10 rfl rfl (.slice ao2 ([b1]).length cap2) (rfl) ?_
      refine nr ?_; intro U h; simp only [z0, z1] at h; subst h
      refine wpList_nil ?_
      refine then_n ?_
      refine wp_seq ?_
      refine wp_seq ?_
      refine wp_region_exA (A := ?Ax2) 7 [(0, 32), (1, 33), (2, 34), (3, 35), (4, 36), (5, 37), (6, 38)] [.val (.slice ao t.length t.length), .val (.agg (idA k)), .val (.slice ao t.length t.length), .val (.int .i64 ((b : Nat) : Int)), .val (.pointer (pK kI ao b 0)), .val (.agg (idA (t.getD b 0))), .val (.agg (idA (t.getD i 0)))] follows (by kernel_rfl) rfl ?hAx2 (opsA_cons ?o0x2 (opsA_cons ?o1x2 (opsA_cons ?o2x2 (opsA_cons ?o3x2 (opsA_cons ?o4x2 (opsA_cons ?o5x2 (opsA_cons ?o6x2 opsA_nil))))))) ?restx2
      case hAx2 =>
        intro ptrs
        simp only [full, foldSlots, filledE, postE, List.foldl_cons, List.foldl_nil, List.getD_cons_zero, List.getD_cons_succ, fill_val, List.set_cons_zero, List.set_cons_succ]
        exact rfl
      case o0x2 => exact fun _ _ _ _ => opE_move (v := .slice ao t.length t.length) _ rfl rfl rfl
      case o1x2 => exact fun _ _ hw _ => opE_value (v := .agg (idA k)) rfl (ldI0 _ rfl g1 rfl (hw.has kg1))
      case o2x2 => exact fun _ _ _ _ => opE_move (v := .slice ao t.length t.length) _ rfl rfl rfl
      case o3x2 =>
        intro ptrs w' hw hE
        exact opE_call (.val (.int .i64 ((b : Nat) : Int))) rfl _ 27 Try.call27 rfl rfl _ rfl [.agg (idA k), .slice ao t.length t.length] rfl ((rnestK k hk _ ao t.length t ((HT).gro ((Gro.refl _).drew.trans hw)) (by omega) b hb).mono fun e w' ⟨he, hg⟩ => ⟨_, he, hg, rfl⟩)
      case o4x2 => exact fun _ _ hw _ => opE_value (v := .pointer (pK kI ao b 0)) rfl (run_ixK rIk ((HT).gro ((Gro.refl _).drew.trans hw)) _ _ rfl rfl b rfl hbl)
      case o5x2 => exact fun _ _ hw _ => opE_value (v := .agg (idA (t.getD b 0))) rfl (run_ldKI ((HT).gro ((Gro.refl _).drew.trans hw)) _ rfl b rfl hbl)
      case o6x2 => exact fun _ _ hw _ => opE_value (v := .agg (idA (t.getD i 0))) rfl (ldI0 _ rfl g2 rfl (hw.has kg2))
      intro ptrs w7 GD hxE
      simp only [List.drop_succ_cons, List.drop_zero]
      replace kg1 := GD.has kg1
      replace kg2 := GD.has kg2
      replace HT := HT.gro ((Gro.refl _).drew.trans GD)
      replace HR1 := HR1.gro ((Gro.refl _).drew.trans GD)
      replace HR2 := HR2.gro ((Gro.refl _).drew.trans GD)
      replace GG := GG.drew.trans GD
      clear GD
      refine s_val 39 rfl rfl (.bool false) (run_eqI _ _ _ rfl _ _ rfl rfl (atI HT hbl) (atI HT hlt) false t2) ?_
      refine nr ?_; intro U h; simp only [z0, z1] at h; subst h
      refine wpList_nil ?_
      refine then_n ?_
      refine wp_cond_false rfl ?_
      refine wp_skip ?_
      refine then_n ?_
      refine wp_seq ?_
      refine wp_region_exA (A := ?Ax3) 11 [(0, 44), (1, 45), (2, 46), (3, 47), (4, 48), (5, 49), (6, 50), (7, 51), (8, 52), (9, 53), (10, 54)] [.val (.slice ao2 ([b1]).length cap2), .val (.int .i64 ((([b1]).length : Nat) : Int)), .val (.bool false), .val (.bool false), .val (.agg (idA k)), .val (.slice ao2 ([b1]).length cap2), .val (.pointer (pK kI ao2 0 0)), .val (.agg (idA ([b1].getD 0 0))), .val (.agg (idA (t.getD i 0))), .val (.bool true), .val (.bool false)] follows (by kernel_rfl) rfl ?hAx3 (opsA_cons ?o0x3 (opsA_cons ?o1x3 (opsA_cons ?o2x3 (opsA_cons ?o3x3 (opsA_cons ?o4x3 (opsA_cons ?o5x3 (opsA_cons ?o6x3 (opsA_cons ?o7x3 (opsA_cons ?o8x3 (opsA_cons ?o9x3 (opsA_cons ?o10x3 opsA_nil))))))))))) ?restx3
      case hAx3 =>
        intro ptrs
        simp only [full, foldSlots, filledE, postE, List.foldl_cons, List.foldl_nil, List.getD_cons_zero, List.getD_cons_succ, fill_val, List.set_cons_zero, List.set_cons_succ]
        exact rfl
      case o0x3 => exact fun _ _ _ _ => opE_move (v := .slice ao2 ([b1]).length cap2) _ rfl rfl rfl
      case o1x3 => exact fun _ _ _ _ => opE_value (v := .int .i64 ((([b1]).length : Nat) : Int)) rfl (run_len Try.underlying24 _ rfl _ _ _ rfl _)
      case o2x3 => exact fun _ _ _ _ => opE_value (v := .bool false) rfl (run_neq_k 3 .i64 _ _ _ rfl Try.underlying3 1 1 rfl rfl false (by decide) _)
      case o3x3 => exact fun _ _ _ _ => opE_move (v := .bool false) _ rfl rfl rfl
      case o4x3 => exact fun _ _ hw _ => opE_value (v := .agg (idA k)) rfl (ldI0 _ rfl g1 rfl (hw.has kg1))
      case o5x3 => exact fun _ _ _ _ => opE_move (v := .slice ao2 ([b1]).length cap2) _ rfl rfl rfl
      case o6x3 => exact fun _ _ hw _ => opE_value (v := .pointer (pK kI ao2 0 0)) rfl (run_ixK rIk ((HR2).gro ((Gro.refl _).drew.trans hw)) _ _ rfl rfl 0 rfl Nat.zero_lt_one)
      case o7x3 => exact fun _ _ hw _ => opE_value (v := .agg (idA ([b1].getD 0 0))) rfl (run_ldKI ((HR2).gro ((Gro.refl _).drew.trans hw)) _ rfl 0 rfl Nat.zero_lt_one)
      case o8x3 => exact fun _ _ hw _ => opE_value (v := .agg (idA (t.getD i 0))) rfl (ldI0 _ rfl g2 rfl (hw.has kg2))
      case o9x3 =>
        intro ptrs w' hw hE
        exact opE_call (.val (.bool true)) rfl _ 28 Try.call28 rfl rfl _ rfl [.agg (idA k), .agg (idA ([b1].getD 0 0)), .agg (idA (t.getD i 0))] rfl ((Calls.boolW (refnearer_any k b1 (t.getD i 0) hk hb1t (atI HT hlt) _) hb2).mono fun e w' ⟨he, hg⟩ => ⟨_, he, hg, rfl⟩)
      case o10x3 => exact fun _ _ _ _ => opE_value (v := .bool false) rfl (run_nt _ _ rfl true rfl)
      intro ptrs w8 GD hxE
      simp only [List.drop_succ_cons, List.drop_zero]
      replace kg1 := GD.has kg1
      replace kg2 := GD.has kg2
      replace HT := HT.gro ((Gro.refl _).drew.trans GD)
      replace HR1 := HR1.gro ((Gro.refl _).drew.trans GD)
      replace HR2 := HR2.gro ((Gro.refl _).drew.trans GD)
      replace GG := GG.drew.trans GD
      clear GD
      refine s_val 55 rfl rfl (.bool false) (rfl) ?_
      refine nr ?_; intro U h; simp only [z0, z1] at h; subst h
      refine wpList_nil ?_
      refine then_n ?_
      refine wp_cond_false rfl ?_
      refine wp_skip ?_
      refine blk_n ?_
      refine then_n ?_
      refine wp_region_lit ?_
      refine s_val 56 rfl rfl (.int .i64 ((i + 1 : Nat) : Int)) (run_addI 3 _ _ _ rfl ((i : Nat) : Int) 1 ((i + 1 : Nat) : Int) rfl rfl (by omega) (by omega) (by omega) _) ?_
      refine nr ?_; intro U h; simp only [z0, z1] at h; subst h
      refine s_val 20 rfl rfl (.int .i64 ((i + 1 : Nat) : Int)) (rfl) ?_
      refine nr ?_; intro U h; simp only [z0, z1] at h; subst h
      refine wpList_nil ?_
      refine then_n ?_
      exact ⟨_, by omega, i + 1, (fun kz => ([us1 0, .pointer (some ⟨g2, 0, none⟩), .slice ao1 (want (t.getD i 0) t ((1 + m3 : Nat) : Int)).length cap1, .slice ao2 ([b1]).length cap2, .bool true, .pointer (pK kI ao i 0), .agg (idA (t.getD i 0)), .agg (idA (t.getD i 0)), .slice ao t.length t.length, .int .i64 ((1 + m3 : Nat) : Int), .slice ao1 (want (t.getD i 0) t ((1 + m3 : Nat) : Int)).length cap1, .agg (idA (t.getD i 0)), .slice ao1 (want (t.getD i 0) t ((1 + m3 : Nat) : Int)).length cap1, .agg (idA k), .slice ao2 ([b1]).length cap2, .slice ao t.length t.length, .agg (idA k), .slice ao t.length t.length, .int .i64 ((b : Nat) : Int), .pointer (pK kI ao b 0), .agg (idA (t.getD b 0)), .agg (idA (t.getD i 0)), .bool false, us1 23, us1 24, us1 25, us1 26, .slice ao2 ([b1]).length cap2, .int .i64 ((([b1]).length : Nat) : Int), .bool false, .bool false, .agg (idA k), .slice ao2 ([b1]).length cap2, .pointer (pK kI ao2 0 0), .agg (idA ([b1].getD 0 0)), .agg (idA (t.getD i 0)), .bool true, .bool false, .bool false, .int .i64 ((i + 1 : Nat) : Int)] : List Value).getD kz undef), rfl, rfl, GG, HT, kg1, by omega⟩
    · have e2 : (t.getD i 0) = (t.getD b 0) := (of_decide_eq_true t2).symm
      have hw := (ow_root (a := (t.getD i 0)) HA (fun z hz => by rw [e2]; exact hnr z hz) ((1 + m3 : Nat) : Int)).2
      refine wp_region_lit ?_
      refine s_val 28 rfl rfl (.agg (idA (t.getD i 0))) (ldI0 _ rfl g2 rfl (kg2)) ?_
      refine nr ?_; intro U h; simp only [z0, z1] at h; subst h
      refine s_val 29 rfl rfl (.slice ao1 (want (t.getD i 0) t ((1 + m3 : Nat) : Int)).length cap1) (rfl) ?_
      refine nr ?_; intro U h; simp only [z0, z1] at h; subst h
      refine s_val 30 rfl rfl (.agg (idA k)) (ldI0 _ rfl g1 rfl (kg1)) ?_
      refine nr ?_; intro U h; simp only [z0, z1] at h; subst h
      refine s_callx 31 rfl rfl _ 15 Try.call15 rfl rfl _ rfl [.agg (idA (t.getD i 0)), .slice ao1 (want (t.getD i 0) t ((1 + m3 : Nat) : Int)).length cap1, .agg (idA k)] rfl (RowR.to hw (RowN.r (owed_any (t.getD i 0) _ _ (want (t.getD i 0) t ((1 + m3 : Nat) : Int)) k _ (atI HT hlt) hk HR1 (by omega)))) (by rintro _ _ ⟨_, _, he, _, _⟩; exact ⟨_, he⟩) ?_
      rintro v w6 ⟨ao2, cap2, he, G, HR2⟩
      cases he
      replace kg1 := G.has kg1
      replace kg2 := G.has kg2
      replace HT := HT.gro G
      replace HR1 := HR1.gro G
      replace GG := GG.trans G
      clear G
      refine nr ?_; intro U h; simp only [z0, z1] at h; subst h
      refine s_val 10 rfl rfl (.slice ao2 (want (t.getD i 0) t ((1 + m3 : Nat) : Int)).length cap2) (rfl) ?_
      refine nr ?_; intro U h; simp only [z0, z1] at h; subst h
      refine wpList_nil ?_
      refine then_n ?_
      refine wp_seq ?_
      refine wp_seq ?_
      refine wp_region_exA (A := ?Ax4) 7 [(0, 32), (1, 33), (2, 34), (3, 35), (4, 36), (5, 37), (6, 38)] [.val (.slice ao t.length t.length), .val (.agg (idA k)), .val (.slice ao t.length t.length), .val (.int .i64 ((b : Nat) : Int)), .val (.pointer (pK kI ao b 0)), .val (.agg (idA (t.getD b 0))), .val (.agg (idA (t.getD i 0)))] follows (by kernel_rfl) rfl ?hAx4 (opsA_cons ?o0x4 (opsA_cons ?o1x4 (opsA_cons ?o2x4 (opsA_cons ?o3x4 (opsA_cons ?o4x4 (opsA_cons ?o5x4 (opsA_cons ?o6x4 opsA_nil))))))) ?restx4
      case hAx4 =>
        intro ptrs
        simp only [full, foldSlots, filledE, postE, List.foldl_cons, List.foldl_nil, List.getD_cons_zero, List.getD_cons_succ, fill_val, List.set_cons_zero, List.set_cons_succ]
        exact rfl
      case o0x4 => exact fun _ _ _ _ => opE_move (v := .slice ao t.length t.length) _ rfl rfl rfl
      case o1x4 => exact fun _ _ hw _ => opE_value (v := .agg (idA k)) rfl (ldI0 _ rfl g1 rfl (hw.has kg1))
      case o2x4 => exact fun _ _ _ _ => opE_move (v := .slice ao t.length t.length) _ rfl rfl rfl
      case o3x4 =>
        intro ptrs w' hw hE
        exact opE_call (.val (.int .i64 ((b : Nat) : Int))) rfl _ 27 Try.call27 rfl rfl _ rfl [.agg (idA k), .slice ao t.length t.length] rfl ((rnestK k hk _ ao t.length t ((HT).gro ((Gro.refl _).drew.trans hw)) (by omega) b hb).mono fun e w' ⟨he, hg⟩ => ⟨_, he, hg, rfl⟩)
      case o4x4 => exact fun _ _ hw _ => opE_value (v := .pointer (pK kI ao b 0)) rfl (run_ixK rIk ((HT).gro ((Gro.refl _).drew.trans hw)) _ _ rfl rfl b rfl hbl)
      case o5x4 => exact fun _ _ hw _ => opE_value (v := .agg (idA (t.getD b 0))) rfl (run_ldKI ((HT).gro ((Gro.refl _).drew.trans hw)) _ rfl b rfl hbl)
      case o6x4 => exact fun _ _ hw _ => opE_value (v := .agg (idA (t.getD i 0))) rfl (ldI0 _ rfl g2 rfl (hw.has kg2))
      intro ptrs w7 GD hxE
      simp only [List.drop_succ_cons, List.drop_zero]
      replace kg1 := GD.has kg1
      replace kg2 := GD.has kg2
      replace HT := HT.gro ((Gro.refl _).drew.trans GD)
      replace HR1 := HR1.gro ((Gro.refl _).drew.trans GD)
      replace HR2 := HR2.gro ((Gro.refl _).drew.trans GD)
      replace GG := GG.drew.trans GD
      clear GD
      refine s_val 39 rfl rfl (.bool true) (run_eqI _ _ _ rfl _ _ rfl rfl (atI HT hbl) (atI HT hlt) true t2) ?_
      refine nr ?_; intro U h; simp only [z0, z1] at h; subst h
      refine wpList_nil ?_
      refine then_n ?_
      refine wp_cond_true rfl ?_
      refine wp_seq ?_
      refine wp_seq ?_
      refine wp_region_lit ?_
      refine s_val 40 rfl rfl (.slice ao2 (want (t.getD i 0) t ((1 + m3 : Nat) : Int)).length cap2) (rfl) ?_
      refine nr ?_; intro U h; simp only [z0, z1] at h; subst h
      refine s_val 41 rfl rfl (.slice ao1 (want (t.getD i 0) t ((1 + m3 : Nat) : Int)).length cap1) (rfl) ?_
      refine nr ?_; intro U h; simp only [z0, z1] at h; subst h
      refine s_callv 42 rfl rfl _ 14 Try.call14 rfl rfl _ rfl [.slice ao2 (want (t.getD i 0) t ((1 + m3 : Nat) : Int)).length cap2, .slice ao1 (want (t.getD i 0) t ((1 + m3 : Nat) : Int)).length cap1] rfl (same_idsK _ _ _ _ HR2 (by omega) _ _ _ HR1 (by omega) rfl) ?_
      intro w8 G
      replace kg1 := G.has kg1
      replace kg2 := G.has kg2
      replace HT := HT.gro G
      replace HR1 := HR1.gro G
      replace HR2 := HR2.gro G
      replace GG := GG.trans G
      clear G
      refine nr ?_; intro U h; simp only [z0, z1] at h; subst h
      refine s_val 43 rfl rfl (.bool false) (run_nt _ _ rfl true rfl) ?_
      refine nr ?_; intro U h; simp only [z0, z1] at h; subst h
      refine wpList_nil ?_
      refine then_n ?_
      refine wp_cond_false rfl ?_
      refine wp_skip ?_
      refine then_n ?_
      refine wp_exit ?_
      refine then_x ?_
      refine blk_x ?_
      refine then_n ?_
      refine wp_region_lit ?_
      refine s_val 56 rfl rfl (.int .i64 ((i + 1 : Nat) : Int)) (run_addI 3 _ _ _ rfl ((i : Nat) : Int) 1 ((i + 1 : Nat) : Int) rfl rfl (by omega) (by omega) (by omega) _) ?_
      refine nr ?_; intro U h; simp only [z0, z1] at h; subst h
      refine s_val 20 rfl rfl (.int .i64 ((i + 1 : Nat) : Int)) (rfl) ?_
      refine nr ?_; intro U h; simp only [z0, z1] at h; subst h
      refine wpList_nil ?_
      refine then_n ?_
      exact ⟨_, by omega, i + 1, (fun kz => ([us1 0, .pointer (some ⟨g2, 0, none⟩), .slice ao1 (want (t.getD i 0) t ((1 + m3 : Nat) : Int)).length cap1, .slice ao2 (want (t.getD i 0) t ((1 + m3 : Nat) : Int)).length cap2, .bool true, .pointer (pK kI ao i 0), .agg (idA (t.getD i 0)), .agg (idA (t.getD i 0)), .slice ao t.length t.length, .int .i64 ((1 + m3 : Nat) : Int), .slice ao1 (want (t.getD i 0) t ((1 + m3 : Nat) : Int)).length cap1, .agg (idA (t.getD i 0)), .slice ao1 (want (t.getD i 0) t ((1 + m3 : Nat) : Int)).length cap1, .agg (idA k), .slice ao2 (want (t.getD i 0) t ((1 + m3 : Nat) : Int)).length cap2, .slice ao t.length t.length, .agg (idA k), .slice ao t.length t.length, .int .i64 ((b : Nat) : Int), .pointer (pK kI ao b 0), .agg (idA (t.getD b 0)), .agg (idA (t.getD i 0)), .bool true, .slice ao2 (want (t.getD i 0) t ((1 + m3 : Nat) : Int)).length cap2, .slice ao1 (want (t.getD i 0) t ((1 + m3 : Nat) : Int)).length cap1, .bool true, .bool false, us1 27, us1 28, us1 29, us1 30, us1 31, us1 32, us1 33, us1 34, us1 35, us1 36, us1 37, us1 38, .int .i64 ((i + 1 : Nat) : Int)] : List Value).getD kz undef), rfl, rfl, GG, HT, kg1, by omega⟩
end Go.Proofs.Ytjahegiopigblaa
