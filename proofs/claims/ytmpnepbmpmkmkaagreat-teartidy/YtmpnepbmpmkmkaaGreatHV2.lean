/- Spare paths, twins and first paths. -/
import Derived.Test.YtmpnepbmpmkmkaaGreatHV1
namespace Go.Proofs.YtmpnepbmpmkmkaaGreat
open Go.RowKit Go.Maps
set_option maxRecDepth 100000 in
set_option maxHeartbeats 4000000 in
theorem spa_any (w : World) (t b room : Nat) (L : List En) (kt : w.heap[t]? = some (.cells (tbA room b) 92 (0, 0))) (HT : TM w b L) (hris : Ris L) (hlen : L.length ≤ 1000) (s : Nat) (hs : s < top) (half : Int) : Calls Tryz.prog 13 #[.pointer (some ⟨t, 0, none⟩), .agg (idA s), .int .i64 half] w (RowK kP 31 w (sprL L s half)) := by
  refine s_enter Tryz.func13 rfl Tryz.ntmps13 [.pointer (some ⟨t, 0, none⟩), .agg (idA s), .int .i64 half] [.pointer (some ⟨t, 0, none⟩), .agg (idA s), .int .i64 half, undef, undef, undef, undef, undef, undef, undef, undef, undef, undef, undef, undef, undef, undef, undef, undef, undef, undef, undef, undef, undef, undef, undef, undef, undef, undef, undef, undef, undef, undef, undef, undef, undef] rfl ?_
  have GG := Gro.refl w
  have hol := own_len L
  have hfl := frd_len L s
  have hwl := want_le s (frdL L s) half hfl
  refine wp_seq ?_
  refine wp_region_lit ?_
  refine s_box 4 rfl rfl 24 _ rfl _ rfl (idA s) rfl ?_
  intro w1 g1 G eg1 kg1
  have bg1 := size_base GG eg1
  have dtg1 := lt_new kt eg1
  have dHTg1 := HT.ne eg1
  replace kt := G.has kt
  replace HT := HT.gro G
  replace GG := GG.trans G
  clear G
  clear eg1
  refine nr ?_; intro U h; simp only [z0, z1] at h; subst h
  refine s_val 6 rfl rfl (.slice none 0 0) (rfl) ?_
  refine nr ?_; intro U h; simp only [z0, z1] at h; subst h
  refine wpList_nil ?_
  refine then_n ?_
  refine wp_seq ?_
  refine wp_region_exA (A := ?Ax1) 5 [(0, 11), (1, 12), (2, 13), (3, 14), (4, 15)] [.val (.agg (idA s)), .val (.pointer (some ⟨t, 0, none⟩)), .val (.agg (idA s)), rowC (frdL L s), .val (.int .i64 half)] follows (by kernel_rfl) rfl ?hAx1 (opsA_cons ?o0x1 (opsA_cons ?o1x1 (opsA_cons ?o2x1 (opsA_cons ?o3x1 (opsA_cons ?o4x1 opsA_nil))))) ?restx1
  case hAx1 =>
    intro ptrs
    simp only [full, foldSlots, filledE, postE, List.foldl_cons, List.foldl_nil, List.getD_cons_zero, List.getD_cons_succ, fill_val, fill_rowC, List.set_cons_zero, List.set_cons_succ]
    exact rfl
  case o0x1 => exact fun _ _ hw _ => opE_value (v := .agg (idA s)) rfl (ldI0 _ rfl g1 rfl (hw.has kg1))
  case o1x1 => exact fun _ _ _ _ => opE_move (v := .pointer (some ⟨t, 0, none⟩)) _ rfl rfl rfl
  case o2x1 => exact fun _ _ hw _ => opE_value (v := .agg (idA s)) rfl (ldI0 _ rfl g1 rfl (hw.has kg1))
  case o3x1 => exact fun _ _ hw _ => opE_call (rowC (frdL L s)) rfl _ 10 Tryz.call10 rfl rfl _ rfl [.pointer (some ⟨t, 0, none⟩), .agg (idA s)] rfl ((fri_any _ t b room L (hw.has kt) (HT.gro ((Gro.refl _).drew.trans hw)) hris hlen s hs).mono fun e w' ⟨ao, cap, he, hg, hr⟩ => ⟨_, he, hg, ao, cap, rfl, hr⟩)
  case o4x1 => exact fun _ _ _ _ => opE_move (v := .int .i64 half) _ rfl rfl rfl
  intro ptrs w2 GD hxE
  simp only [List.drop_succ_cons, List.drop_zero]
  replace kt := GD.has kt
  replace kg1 := GD.has kg1
  replace HT := HT.gro ((Gro.refl _).drew.trans GD)
  replace GG := GG.drew.trans GD
  obtain ⟨⟨aof, capf, hxf, HF⟩, _⟩ := hxE
  simp only [hxf]
  clear hxf
  clear GD
  refine s_callx 16 rfl rfl _ 35 Tryz.call35 rfl rfl _ rfl [.agg (idA s), .slice aof (frdL L s).length capf, .int .i64 half] rfl (want_any _ aof capf (frdL L s) HF.rc (by omega) s hs half) (by rintro _ _ ⟨_, _, he, _⟩; exact ⟨_, he⟩) ?_
  rintro v w3 ⟨ao1, cap1, he, G, HC1⟩
  cases he
  replace HC1 := HC1.rk
  replace kt := G.has kt
  replace kg1 := G.has kg1
  replace HT := HT.gro G
  replace HF := HF.gro G
  replace GG := GG.trans G
  clear G
  refine nr ?_; intro U h; simp only [z0, z1] at h; subst h
  refine s_val 7 rfl rfl (.slice ao1 (want s (frdL L s) half).length cap1) (rfl) ?_
  refine nr ?_; intro U h; simp only [z0, z1] at h; subst h
  refine wpList_nil ?_
  refine then_n ?_
  refine wp_seq ?_
  refine wp_region_lit ?_
  refine s_val 8 rfl rfl (.slice none 0 0) (rfl) ?_
  refine nr ?_; intro U h; simp only [z0, z1] at h; subst h
  refine wpList_nil ?_
  refine then_n ?_
  refine wp_seq ?_
  refine wp_seq ?_
  refine wp_region_lit ?_
  refine s_val 17 rfl rfl (.pointer (some ⟨t, 0, none⟩)) (rfl) ?_
  refine nr ?_; intro U h; simp only [z0, z1] at h; subst h
  refine s_callx 18 rfl rfl _ 20 Tryz.call20 rfl rfl _ rfl [.pointer (some ⟨t, 0, none⟩)] rfl (own_e _ t b room L (kt) (HT) hris hlen) (by rintro _ _ ⟨_, _, he, _⟩; exact ⟨_, he⟩) ?_
  rintro v w4 ⟨ao2, cap2, he, G, HO2⟩
  cases he
  replace HO2 := HO2.mono GG.size
  replace kt := G.has kt
  replace kg1 := G.has kg1
  replace HT := HT.gro G
  replace HF := HF.gro G
  replace HC1 := HC1.gro G
  replace GG := GG.trans G
  clear G
  have HR2 := HO2.re
  refine nr ?_; intro U h; simp only [z0, z1] at h; subst h
  refine s_val 19 rfl rfl (.int .i64 (((ownL L).length : Nat) : Int)) (run_len Tryz.underlying22 _ rfl _ _ _ rfl _) ?_
  refine nr ?_; intro U h; simp only [z0, z1] at h; subst h
  refine s_val 20 rfl rfl (.int .i64 0) (rfl) ?_
  refine nr ?_; intro U h; simp only [z0, z1] at h; subst h
  refine wpList_nil ?_
  refine then_n ?_
  refine wp_block ?_
  obtain ⟨B, hB⟩ : ∃ m, w4.heap.size = m := ⟨_, rfl⟩
  have hwB : w.heap.size ≤ B := hB ▸ GG.size
  have HZ : SZ B w4 := Nat.le_of_eq hB.symm
  have zt : t < B := hB ▸ lt_of_heap kt
  have dHZt : True := trivial
  have zg1 : g1 < B := hB ▸ lt_of_heap kg1
  have dHZg1 : True := trivial
  have zb : b < B := hB ▸ HT.lt
  have zHR2 := HR2.lt
  rw [hB] at zHR2
  have zHC1 := HC1.lt
  rw [hB] at zHC1
  refine wp_loopN (fun mz az wv => ∃ (i : Nat) (ao : Option Addr) (cap : Nat) (us1 : Nat → Value), mz = (ownL L).length + 1 - i ∧ az = ⟨[.pointer (some ⟨t, 0, none⟩), .agg (idA s), .int .i64 half, undef, .pointer (some ⟨g1, 0, none⟩), undef, .slice none 0 0, .slice ao1 (want s (frdL L s) half).length cap1, .slice ao (spF (want s (frdL L s) half) (ownL L) i).length cap, undef, us1 0, .agg (idA s), .pointer (some ⟨t, 0, none⟩), .agg (idA s), .slice aof (frdL L s).length capf, .int .i64 half, .slice ao1 (want s (frdL L s) half).length cap1, .pointer (some ⟨t, 0, none⟩), .slice ao2 (ownL L).length cap2, .int .i64 (((ownL L).length : Nat) : Int), .int .i64 ((i : Nat) : Int), us1 1, us1 2, us1 3, us1 4, us1 5, us1 6, us1 7, us1 8, us1 9, us1 10, us1 11, us1 12, us1 13, us1 14, undef].toArray, []⟩ ∧ i ≤ (ownL L).length ∧ Gro w wv ∧ SZ B wv ∧ wv.heap[t]? = some (.cells (tbA room b) 92 (0, 0)) ∧ TM wv b L ∧ wv.heap[g1]? = some (.cells (idA s) 24 (0, 0)) ∧ RE wv ao2 cap2 (ownL L) ∧ RK kI wv ao1 cap1 (want s (frdL L s) half) ∧ OW kP 31 wv B ao cap (spF (want s (frdL L s) half) (ownL L) i)) ?_ _ ⟨0, none, 0, (fun kz => ([undef, undef, undef, undef, undef, undef, undef, undef, undef, undef, undef, undef, undef, undef, undef] : List Value).getD kz undef), rfl, rfl, Nat.zero_le _, GG, HZ, kt, HT, kg1, HR2, HC1, OW.nil _ _⟩
  clear GG kt kg1 HT HC1 HR2
  rintro mz az wv ⟨i, ao, cap, us1, rfl, rfl, hi, GG, HZ, kt, HT, kg1, HR2, HC1, HM⟩
  have hml := spF_len (want s (frdL L s) half) (ownL L) i
  refine wp_seq ?_
  refine wp_region_lit ?_
  cases hi1 : decide (((i : Nat) : Int) < (((ownL L).length : Nat) : Int))
  · have hie : i = (ownL L).length := by have := of_decide_eq_false hi1; omega
    refine s_val 21 rfl rfl (.bool false) (run_lssT 3 _ _ _ rfl ((i : Nat) : Int) (((ownL L).length : Nat) : Int) rfl rfl false hi1 _) ?_
    refine nr ?_; intro U h; simp only [z0, z1] at h; subst h
    refine wpList_nil ?_
    refine then_n ?_
    refine wp_seq ?_
    refine wp_cond_false rfl ?_
    refine wp_exit ?_
    refine then_x ?_
    refine then_x ?_
    refine blk_x ?_
    refine then_n ?_
    refine wp_seq ?_
    refine wp_region_lit ?_
    refine s_val 35 rfl rfl (.slice ao (spF (want s (frdL L s) half) (ownL L) i).length cap) (rfl) ?_
    refine nr ?_; intro U h; simp only [z0, z1] at h; subst h
    refine s_val 6 rfl rfl (.slice ao (spF (want s (frdL L s) half) (ownL L) i).length cap) (rfl) ?_
    refine nr ?_; intro U h; simp only [z0, z1] at h; subst h
    refine wpList_nil ?_
    refine then_n ?_
    refine wp_ret ?_
    refine bodyPost_ret (results_tmp Tryz.results13 _ _ _) rfl ?_
    subst hie
    rw [spF_all] at HM
    rw [spF_all]
    exact ⟨ao, cap, rfl, GG, HM.mono hwB⟩
  · have hil : i < (ownL L).length := by have := of_decide_eq_true hi1; omega
    refine s_val 21 rfl rfl (.bool true) (run_lssT 3 _ _ _ rfl ((i : Nat) : Int) (((ownL L).length : Nat) : Int) rfl rfl true hi1 _) ?_
    refine nr ?_; intro U h; simp only [z0, z1] at h; subst h
    refine wpList_nil ?_
    refine then_n ?_
    refine wp_seq ?_
    refine wp_cond_true rfl ?_
    refine wp_skip ?_
    refine then_n ?_
    refine wp_seq ?_
    refine wp_block ?_
    refine wp_seq ?_
    refine wp_region_lit ?_
    refine s_val 22 rfl rfl (.pointer (pE ao2 i 0)) (run_ixE (HR2) _ _ rfl rfl i rfl (by omega)) ?_
    refine nr ?_; intro U h; simp only [z0, z1] at h; subst h
    refine s_val 23 rfl rfl (.agg (enA ((ownL L).getD i zE))) (run_ldE (HR2) _ rfl i rfl (by omega)) ?_
    refine nr ?_; intro U h; simp only [z0, z1] at h; subst h
    refine s_alloc 10 rfl rfl 33 rfl _ zero33 (enA zE) rfl ?_
    intro w5 g2 G eg2 kg2
    have bg2 := size_base GG eg2
    have dtg2 := lt_new kt eg2
    have dg1g2 := lt_new kg1 eg2
    have dHTg2 := HT.ne eg2
    have dHR2g2 := HR2.ne eg2
    have dHC1g2 := HC1.ne eg2
    have dHZg2 := HZ.ne eg2
    have dHMg2 := HM.ne eg2
    replace kt := G.has kt
    replace kg1 := G.has kg1
    replace HT := HT.gro G
    replace HR2 := HR2.gro G
    replace HC1 := HC1.gro G
    replace HZ := HZ.gro G
    replace HM := HM.gro G
    replace GG := GG.trans G
    clear G
    clear eg2
    refine nr ?_; intro U h; simp only [z0, z1] at h; subst h
    refine s_store rfl rfl 33 _ _ rfl g2 0 rfl (.agg (enA ((ownL L).getD i zE))) rfl 33 _ kg2 (enA ((ownL L).getD i zE)) rfl (si33' _) (enA_fit _ _) (enA_one _) (enA ((ownL L).getD i zE)) (splice_whole _ _ (enA_sz _ _)) ?_
    intro w6 St
    have kS := kg2
    replace kt := St.has (by omega) kt
    replace kg1 := St.has (by omega) kg1
    replace HT := HT.st St dHTg2
    replace HR2 := HR2.st St dHR2g2
    replace HC1 := HC1.st St dHC1g2
    replace HZ := HZ.st St dHZg2
    replace HM := HM.st St dHMg2
    replace GG := GG.store St bg2
    replace kg2 := St.new
    clear St
    refine wpList_nil ?_
    refine then_n ?_
    refine wp_seq ?_
    cases hq : decide (othI ((ownL L).getD i zE) ∈ (want s (frdL L s) half))
    · refine wp_region_lit ?_
      refine s_val 24 rfl rfl (.slice ao1 (want s (frdL L s) half).length cap1) (rfl) ?_
      refine nr ?_; intro U h; simp only [z0, z1] at h; subst h
      refine s_val 25 rfl rfl (.agg (enA ((ownL L).getD i zE))) (ldE0 _ rfl g2 rfl (kg2)) ?_
      refine nr ?_; intro U h; simp only [z0, z1] at h; subst h
      refine s_callv 26 rfl rfl _ 27 Tryz.call27 rfl rfl _ rfl [.agg (enA ((ownL L).getD i zE))] rfl (oend_any _ ((ownL L).getD i zE) (HR2.all.at (by omega))) ?_
      intro w7 G
      replace kt := G.has kt
      replace kg1 := G.has kg1
      replace kg2 := G.has kg2
      replace HT := HT.gro G
      replace HR2 := HR2.gro G
      replace HC1 := HC1.gro G
      replace HZ := HZ.gro G
      replace HM := HM.gro G
      replace GG := GG.trans G
      clear G
      refine nr ?_; intro U h; simp only [z0, z1] at h; subst h
      refine s_callv 27 rfl rfl _ 36 Tryz.call36 rfl rfl _ rfl [.slice ao1 (want s (frdL L s) half).length cap1, .agg (idA (othI ((ownL L).getD i zE)))] rfl (Calls.bool (has_any _ ao1 cap1 (want s (frdL L s) half) HC1.rc (by omega) (othI ((ownL L).getD i zE)) (othI_ok (HR2.all.at hil))) hq) ?_
      intro w8 G
      replace kt := G.has kt
      replace kg1 := G.has kg1
      replace kg2 := G.has kg2
      replace HT := HT.gro G
      replace HR2 := HR2.gro G
      replace HC1 := HC1.gro G
      replace HZ := HZ.gro G
      replace HM := HM.gro G
      replace GG := GG.trans G
      clear G
      refine nr ?_; intro U h; simp only [z0, z1] at h; subst h
      refine s_val 28 rfl rfl (.bool true) (run_nt _ _ rfl false rfl) ?_
      refine nr ?_; intro U h; simp only [z0, z1] at h; subst h
      refine wpList_nil ?_
      refine then_n ?_
      refine wp_cond_true rfl ?_
      refine wp_region_lit ?_
      refine s_val 29 rfl rfl (.slice ao (spF (want s (frdL L s) half) (ownL L) i).length cap) (rfl) ?_
      refine nr ?_; intro U h; simp only [z0, z1] at h; subst h
      refine s_val 30 rfl rfl (.pointer (some ⟨g2, 0, none⟩)) (run_fld 33 _ 0 rfl g2 0 rfl 0 (by kernel_rfl)) ?_
      refine nr ?_; intro U h; simp only [z0, z1] at h; subst h
      refine s_val 31 rfl rfl (.agg (paA ((ownL L).getD i zE).p)) (ldEp _ rfl g2 rfl (kg2)) ?_
      refine nr ?_; intro U h; simp only [z0, z1] at h; subst h
      refine s_bsl 32 rfl rfl 43 1 _ rfl [(0, .agg (paA ((ownL L).getD i zE).p))] rfl (([((ownL L).getD i zE).p] : List Pa).flatMap kP.E).toArray 31 (by kernel_rfl) ?_
      intro w9 q3 G eq3 kq3
      have bq3 := size_base GG eq3
      have dtq3 := lt_new kt eq3
      have dg1q3 := lt_new kg1 eq3
      have dg2q3 := lt_new kg2 eq3
      have dHTq3 := HT.ne eq3
      have dHR2q3 := HR2.ne eq3
      have dHC1q3 := HC1.ne eq3
      have dHZq3 := HZ.ne eq3
      have dHMq3 := HM.ne eq3
      replace kt := G.has kt
      replace kg1 := G.has kg1
      replace kg2 := G.has kg2
      replace HT := HT.gro G
      replace HR2 := HR2.gro G
      replace HC1 := HC1.gro G
      replace HZ := HZ.gro G
      replace HM := HM.gro G
      replace GG := GG.trans G
      clear G
      clear eq3
      refine nr ?_; intro U h; simp only [z0, z1] at h; subst h
      refine s_appK rP (by decide) (by decide) 33 rfl rfl _ _ rfl rfl HM (l' := ([((ownL L).getD i zE).p] : List Pa)) rfl (RK.blk (K := kP) kq3 (one_all (HR2.all.at hil).p) (Nat.le_refl _)) (by show _ + 1 ≤ _; omega) HZ ?_
      intro nma nmc w10 HO2 G2 _
      replace kt := G2.has kt (fun hm9 => by have := HM.own.base t hm9; omega)
      replace kg1 := G2.has kg1 (fun hm9 => by have := HM.own.base g1 hm9; omega)
      replace HT := HT.gros G2 (fun hm9 => by have := HM.own.base _ hm9; omega)
      replace HR2 := HR2.gros G2 (fun ad ha h0 hm9 => by have h1 := zHR2 ad ha h0; have := HM.own.base _ hm9; omega)
      replace HC1 := HC1.gros G2 (fun ad ha h0 hm9 => by have h1 := zHC1 ad ha h0; have := HM.own.base _ hm9; omega)
      replace HZ := HZ.le G2.size
      replace GG := G2.gro GG (fun k hk => by have := HM.own.base k hk; omega)
      clear G2 HM kq3
      have HM := HO2
      clear HO2
      refine nr ?_; intro U h; simp only [z0, z1] at h; subst h
      refine s_val 8 rfl rfl (.slice nma (spF (want s (frdL L s) half) (ownL L) i ++ [((ownL L).getD i zE).p]).length nmc) (rfl) ?_
      refine nr ?_; intro U h; simp only [z0, z1] at h; subst h
      refine wpList_nil ?_
      refine blk_n ?_
      refine then_n ?_
      refine wp_region_lit ?_
      refine s_val 34 rfl rfl (.int .i64 ((i + 1 : Nat) : Int)) (run_addI 3 _ _ _ rfl ((i : Nat) : Int) 1 ((i + 1 : Nat) : Int) rfl rfl (by omega) (by omega) (by omega) _) ?_
      refine nr ?_; intro U h; simp only [z0, z1] at h; subst h
      refine s_val 20 rfl rfl (.int .i64 ((i + 1 : Nat) : Int)) (rfl) ?_
      refine nr ?_; intro U h; simp only [z0, z1] at h; subst h
      refine wpList_nil ?_
      refine then_n ?_
      exact ⟨(ownL L).length + 1 - (i + 1), by omega, i + 1, nma, nmc, (fun kz => ([.pointer (some ⟨g2, 0, none⟩), .bool true, .pointer (pE ao2 i 0), .agg (enA ((ownL L).getD i zE)), .slice ao1 (want s (frdL L s) half).length cap1, .agg (enA ((ownL L).getD i zE)), .agg (idA (othI ((ownL L).getD i zE))), .bool false, .bool true, .slice ao (spF (want s (frdL L s) half) (ownL L) i).length cap, .pointer (some ⟨g2, 0, none⟩), .agg (paA ((ownL L).getD i zE).p), .slice (some ⟨q3, 0, none⟩) 1 1, .slice nma (spF (want s (frdL L s) half) (ownL L) i ++ [((ownL L).getD i zE).p]).length nmc, .int .i64 ((i + 1 : Nat) : Int)] : List Value).getD kz undef), rfl, by rw [spF_n hil hq]; rfl, by omega, GG, HZ, kt, HT, kg1, HR2, HC1, by rw [spF_n hil hq]; exact HM⟩
    · refine wp_region_lit ?_
      refine s_val 24 rfl rfl (.slice ao1 (want s (frdL L s) half).length cap1) (rfl) ?_
      refine nr ?_; intro U h; simp only [z0, z1] at h; subst h
      refine s_val 25 rfl rfl (.agg (enA ((ownL L).getD i zE))) (ldE0 _ rfl g2 rfl (kg2)) ?_
      refine nr ?_; intro U h; simp only [z0, z1] at h; subst h
      refine s_callv 26 rfl rfl _ 27 Tryz.call27 rfl rfl _ rfl [.agg (enA ((ownL L).getD i zE))] rfl (oend_any _ ((ownL L).getD i zE) (HR2.all.at (by omega))) ?_
      intro w7 G
      replace kt := G.has kt
      replace kg1 := G.has kg1
      replace kg2 := G.has kg2
      replace HT := HT.gro G
      replace HR2 := HR2.gro G
      replace HC1 := HC1.gro G
      replace HZ := HZ.gro G
      replace HM := HM.gro G
      replace GG := GG.trans G
      clear G
      refine nr ?_; intro U h; simp only [z0, z1] at h; subst h
      refine s_callv 27 rfl rfl _ 36 Tryz.call36 rfl rfl _ rfl [.slice ao1 (want s (frdL L s) half).length cap1, .agg (idA (othI ((ownL L).getD i zE)))] rfl (Calls.bool (has_any _ ao1 cap1 (want s (frdL L s) half) HC1.rc (by omega) (othI ((ownL L).getD i zE)) (othI_ok (HR2.all.at hil))) hq) ?_
      intro w8 G
      replace kt := G.has kt
      replace kg1 := G.has kg1
      replace kg2 := G.has kg2
      replace HT := HT.gro G
      replace HR2 := HR2.gro G
      replace HC1 := HC1.gro G
      replace HZ := HZ.gro G
      replace HM := HM.gro G
      replace GG := GG.trans G
      clear G
      refine nr ?_; intro U h; simp only [z0, z1] at h; subst h
      refine s_val 28 rfl rfl (.bool false) (run_nt _ _ rfl true rfl) ?_
      refine nr ?_; intro U h; simp only [z0, z1] at h; subst h
      refine wpList_nil ?_
      refine then_n ?_
      refine wp_cond_false rfl ?_
      refine wp_skip ?_
      refine blk_n ?_
      refine then_n ?_
      refine wp_region_lit ?_
      refine s_val 34 rfl rfl (.int .i64 ((i + 1 : Nat) : Int)) (run_addI 3 _ _ _ rfl ((i : Nat) : Int) 1 ((i + 1 : Nat) : Int) rfl rfl (by omega) (by omega) (by omega) _) ?_
      refine nr ?_; intro U h; simp only [z0, z1] at h; subst h
      refine s_val 20 rfl rfl (.int .i64 ((i + 1 : Nat) : Int)) (rfl) ?_
      refine nr ?_; intro U h; simp only [z0, z1] at h; subst h
      refine wpList_nil ?_
      refine then_n ?_
      exact ⟨(ownL L).length + 1 - (i + 1), by omega, i + 1, ao, cap, (fun kz => ([.pointer (some ⟨g2, 0, none⟩), .bool true, .pointer (pE ao2 i 0), .agg (enA ((ownL L).getD i zE)), .slice ao1 (want s (frdL L s) half).length cap1, .agg (enA ((ownL L).getD i zE)), .agg (idA (othI ((ownL L).getD i zE))), .bool true, .bool false, us1 9, us1 10, us1 11, us1 12, us1 13, .int .i64 ((i + 1 : Nat) : Int)] : List Value).getD kz undef), rfl, by rw [spF_y hil hq]; rfl, by omega, GG, HZ, kt, HT, kg1, HR2, HC1, by rw [spF_y hil hq]; exact HM⟩
set_option maxRecDepth 100000 in
set_option maxHeartbeats 4000000 in
theorem twi_any (w : World) (t b room : Nat) (L : List En) (kt : w.heap[t]? = some (.cells (tbA room b) 92 (0, 0))) (HT : TM w b L) (hris : Ris L) (hlen : L.length ≤ 1000) : Calls Tryz.prog 15 #[.pointer (some ⟨t, 0, none⟩)] w (RowK kP 31 w (twnL L)) := by
  refine s_enter Tryz.func15 rfl Tryz.ntmps15 [.pointer (some ⟨t, 0, none⟩)] [.pointer (some ⟨t, 0, none⟩), undef, undef, undef, undef, undef, undef, undef, undef, undef, undef, undef, undef, undef, undef, undef, undef, undef, undef, undef, undef, undef, undef, undef, undef, undef, undef, undef, undef, undef, undef] rfl ?_
  have GG := Gro.refl w
  have hol := own_len L
  refine wp_seq ?_
  refine wp_region_lit ?_
  refine s_val 2 rfl rfl (.slice none 0 0) (rfl) ?_
  refine nr ?_; intro U h; simp only [z0, z1] at h; subst h
  refine wpList_nil ?_
  refine then_n ?_
  refine wp_seq ?_
  refine wp_region_lit ?_
  refine s_val 3 rfl rfl (.slice none 0 0) (rfl) ?_
  refine nr ?_; intro U h; simp only [z0, z1] at h; subst h
  refine wpList_nil ?_
  refine then_n ?_
  refine wp_seq ?_
  refine wp_region_lit ?_
  refine s_val 4 rfl rfl (.slice none 0 0) (rfl) ?_
  refine nr ?_; intro U h; simp only [z0, z1] at h; subst h
  refine wpList_nil ?_
  refine then_n ?_
  refine wp_seq ?_
  refine wp_seq ?_
  refine wp_region_lit ?_
  refine s_val 8 rfl rfl (.pointer (some ⟨t, 0, none⟩)) (rfl) ?_
  refine nr ?_; intro U h; simp only [z0, z1] at h; subst h
  refine s_callx 9 rfl rfl _ 20 Tryz.call20 rfl rfl _ rfl [.pointer (some ⟨t, 0, none⟩)] rfl (own_e _ t b room L (kt) (HT) hris hlen) (by rintro _ _ ⟨_, _, he, _⟩; exact ⟨_, he⟩) ?_
  rintro v w1 ⟨ao1, cap1, he, G, HO1⟩
  cases he
  replace HO1 := HO1.mono GG.size
  replace kt := G.has kt
  replace HT := HT.gro G
  replace GG := GG.trans G
  clear G
  have HR1 := HO1.re
  refine nr ?_; intro U h; simp only [z0, z1] at h; subst h
  refine s_val 10 rfl rfl (.int .i64 (((ownL L).length : Nat) : Int)) (run_len Tryz.underlying22 _ rfl _ _ _ rfl _) ?_
  refine nr ?_; intro U h; simp only [z0, z1] at h; subst h
  refine s_val 11 rfl rfl (.int .i64 0) (rfl) ?_
  refine nr ?_; intro U h; simp only [z0, z1] at h; subst h
  refine wpList_nil ?_
  refine then_n ?_
  refine wp_block ?_
  obtain ⟨B, hB⟩ : ∃ m, w1.heap.size = m := ⟨_, rfl⟩
  have hwB : w.heap.size ≤ B := hB ▸ GG.size
  have HZ : SZ B w1 := Nat.le_of_eq hB.symm
  have zt : t < B := hB ▸ lt_of_heap kt
  have dHZt : True := trivial
  have zb : b < B := hB ▸ HT.lt
  have zHR1 := HR1.lt
  rw [hB] at zHR1
  refine wp_loopN (fun mz az wv => ∃ (i : Nat) (ao : Option Addr) (cap : Nat) (bo : Option Addr) (bc : Nat) (us1 : Nat → Value), mz = (ownL L).length + 1 - i ∧ az = ⟨[.pointer (some ⟨t, 0, none⟩), undef, .slice none 0 0, .slice ao (((ownL L).take i).map othI).length cap, .slice bo (twT (ownL L) i).length bc, undef, us1 0, us1 1, .pointer (some ⟨t, 0, none⟩), .slice ao1 (ownL L).length cap1, .int .i64 (((ownL L).length : Nat) : Int), .int .i64 ((i : Nat) : Int), us1 2, us1 3, us1 4, us1 5, us1 6, us1 7, us1 8, us1 9, us1 10, us1 11, us1 12, us1 13, us1 14, us1 15, us1 16, us1 17, us1 18, us1 19, undef].toArray, []⟩ ∧ i ≤ (ownL L).length ∧ Gro w wv ∧ SZ B wv ∧ wv.heap[t]? = some (.cells (tbA room b) 92 (0, 0)) ∧ TM wv b L ∧ RE wv ao1 cap1 (ownL L) ∧ OW kI 24 wv B ao cap (((ownL L).take i).map othI) ∧ OW kP 31 wv B bo bc (twT (ownL L) i)) ?_ _ ⟨0, none, 0, none, 0, (fun kz => ([undef, undef, undef, undef, undef, undef, undef, undef, undef, undef, undef, undef, undef, undef, undef, undef, undef, undef, undef, undef] : List Value).getD kz undef), rfl, rfl, Nat.zero_le _, GG, HZ, kt, HT, HR1, OW.nil _ _, OW.nil _ _⟩
  clear GG kt HT HR1
  rintro mz az wv ⟨i, ao, cap, bo, bc, us1, rfl, rfl, hi, GG, HZ, kt, HT, HR1, HM, HK⟩
  have hml : (((ownL L).take i).map othI).length ≤ 1000 := by rw [List.length_map, List.length_take]; omega
  have htl := twT_len (ownL L) i
  refine wp_seq ?_
  refine wp_region_lit ?_
  cases hi1 : decide (((i : Nat) : Int) < (((ownL L).length : Nat) : Int))
  · have hie : i = (ownL L).length := by have := of_decide_eq_false hi1; omega
    refine s_val 12 rfl rfl (.bool false) (run_lssT 3 _ _ _ rfl ((i : Nat) : Int) (((ownL L).length : Nat) : Int) rfl rfl false hi1 _) ?_
    refine nr ?_; intro U h; simp only [z0, z1] at h; subst h
    refine wpList_nil ?_
    refine then_n ?_
    refine wp_seq ?_
    refine wp_cond_false rfl ?_
    refine wp_exit ?_
    refine then_x ?_
    refine then_x ?_
    refine blk_x ?_
    refine then_n ?_
    refine wp_seq ?_
    refine wp_region_lit ?_
    refine s_val 30 rfl rfl (.slice bo (twT (ownL L) i).length bc) (rfl) ?_
    refine nr ?_; intro U h; simp only [z0, z1] at h; subst h
    refine s_val 2 rfl rfl (.slice bo (twT (ownL L) i).length bc) (rfl) ?_
    refine nr ?_; intro U h; simp only [z0, z1] at h; subst h
    refine wpList_nil ?_
    refine then_n ?_
    refine wp_ret ?_
    refine bodyPost_ret (results_tmp Tryz.results15 _ _ _) rfl ?_
    subst hie
    exact ⟨bo, bc, rfl, GG, HK.mono hwB⟩
  · have hil : i < (ownL L).length := by have := of_decide_eq_true hi1; omega
    refine s_val 12 rfl rfl (.bool true) (run_lssT 3 _ _ _ rfl ((i : Nat) : Int) (((ownL L).length : Nat) : Int) rfl rfl true hi1 _) ?_
    refine nr ?_; intro U h; simp only [z0, z1] at h; subst h
    refine wpList_nil ?_
    refine then_n ?_
    refine wp_seq ?_
    refine wp_cond_true rfl ?_
    refine wp_skip ?_
    refine then_n ?_
    refine wp_seq ?_
    refine wp_block ?_
    refine wp_seq ?_
    refine wp_region_lit ?_
    refine s_val 13 rfl rfl (.pointer (pE ao1 i 0)) (run_ixE (HR1) _ _ rfl rfl i rfl (by omega)) ?_
    refine nr ?_; intro U h; simp only [z0, z1] at h; subst h
    refine s_val 14 rfl rfl (.agg (enA ((ownL L).getD i zE))) (run_ldE (HR1) _ rfl i rfl (by omega)) ?_
    refine nr ?_; intro U h; simp only [z0, z1] at h; subst h
    refine s_alloc 6 rfl rfl 33 rfl _ zero33 (enA zE) rfl ?_
    intro w2 g1 G eg1 kg1
    have bg1 := size_base GG eg1
    have dtg1 := lt_new kt eg1
    have dHTg1 := HT.ne eg1
    have dHR1g1 := HR1.ne eg1
    have dHZg1 := HZ.ne eg1
    have dHMg1 := HM.ne eg1
    have dHKg1 := HK.ne eg1
    replace kt := G.has kt
    replace HT := HT.gro G
    replace HR1 := HR1.gro G
    replace HZ := HZ.gro G
    replace HM := HM.gro G
    replace HK := HK.gro G
    replace GG := GG.trans G
    clear G
    clear eg1
    refine nr ?_; intro U h; simp only [z0, z1] at h; subst h
    refine s_store rfl rfl 33 _ _ rfl g1 0 rfl (.agg (enA ((ownL L).getD i zE))) rfl 33 _ kg1 (enA ((ownL L).getD i zE)) rfl (si33' _) (enA_fit _ _) (enA_one _) (enA ((ownL L).getD i zE)) (splice_whole _ _ (enA_sz _ _)) ?_
    intro w3 St
    have kS := kg1
    replace kt := St.has (by omega) kt
    replace HT := HT.st St dHTg1
    replace HR1 := HR1.st St dHR1g1
    replace HZ := HZ.st St dHZg1
    replace HM := HM.st St dHMg1
    replace HK := HK.st St dHKg1
    replace GG := GG.store St bg1
    replace kg1 := St.new
    clear St
    refine wpList_nil ?_
    refine then_n ?_
    refine wp_seq ?_
    refine wp_region_lit ?_
    refine s_val 15 rfl rfl (.agg (enA ((ownL L).getD i zE))) (ldE0 _ rfl g1 rfl (kg1)) ?_
    refine nr ?_; intro U h; simp only [z0, z1] at h; subst h
    refine s_callv 16 rfl rfl _ 27 Tryz.call27 rfl rfl _ rfl [.agg (enA ((ownL L).getD i zE))] rfl (oend_any _ ((ownL L).getD i zE) (HR1.all.at (by omega))) ?_
    intro w4 G
    replace kt := G.has kt
    replace kg1 := G.has kg1
    replace HT := HT.gro G
    replace HR1 := HR1.gro G
    replace HZ := HZ.gro G
    replace HM := HM.gro G
    replace HK := HK.gro G
    replace GG := GG.trans G
    clear G
    refine nr ?_; intro U h; simp only [z0, z1] at h; subst h
    refine s_alloc 7 rfl rfl 24 rfl _ zero23 (idA 0) rfl ?_
    intro w5 g2 G eg2 kg2
    have bg2 := size_base GG eg2
    have dtg2 := lt_new kt eg2
    have dg1g2 := lt_new kg1 eg2
    have dHTg2 := HT.ne eg2
    have dHR1g2 := HR1.ne eg2
    have dHZg2 := HZ.ne eg2
    have dHMg2 := HM.ne eg2
    have dHKg2 := HK.ne eg2
    replace kt := G.has kt
    replace kg1 := G.has kg1
    replace HT := HT.gro G
    replace HR1 := HR1.gro G
    replace HZ := HZ.gro G
    replace HM := HM.gro G
    replace HK := HK.gro G
    replace GG := GG.trans G
    clear G
    clear eg2
    refine nr ?_; intro U h; simp only [z0, z1] at h; subst h
    refine s_store rfl rfl 24 _ _ rfl g2 0 rfl (.agg (idA (othI ((ownL L).getD i zE)))) rfl 24 _ kg2 (idA (othI ((ownL L).getD i zE))) rfl (size23' _) (idA_fit _ _) (idA_one _) (idA (othI ((ownL L).getD i zE))) (splice_whole _ _ (idA_sz _ _)) ?_
    intro w6 St
    have kS := kg2
    replace kt := St.has (by omega) kt
    replace kg1 := St.has (by omega) kg1
    replace HT := HT.st St dHTg2
    replace HR1 := HR1.st St dHR1g2
    replace HZ := HZ.st St dHZg2
    replace HM := HM.st St dHMg2
    replace HK := HK.st St dHKg2
    replace GG := GG.store St bg2
    replace kg2 := St.new
    clear St
    refine wpList_nil ?_
    refine then_n ?_
    refine wp_seq ?_
    refine wp_seq ?_
    cases hq : decide (othI ((ownL L).getD i zE) ∈ (((ownL L).take i).map othI))
    · refine wp_region_lit ?_
      refine s_val 17 rfl rfl (.slice ao (((ownL L).take i).map othI).length cap) (rfl) ?_
      refine nr ?_; intro U h; simp only [z0, z1] at h; subst h
      refine s_val 18 rfl rfl (.agg (idA (othI ((ownL L).getD i zE)))) (ldI0 _ rfl g2 rfl (kg2)) ?_
      refine nr ?_; intro U h; simp only [z0, z1] at h; subst h
      refine s_callv 19 rfl rfl _ 36 Tryz.call36 rfl rfl _ rfl [.slice ao (((ownL L).take i).map othI).length cap, .agg (idA (othI ((ownL L).getD i zE)))] rfl (Calls.bool (has_any _ ao cap (((ownL L).take i).map othI) HM.re.rc (by omega) (othI ((ownL L).getD i zE)) (othI_ok (HR1.all.at hil))) hq) ?_
      intro w7 G
      replace kt := G.has kt
      replace kg1 := G.has kg1
      replace kg2 := G.has kg2
      replace HT := HT.gro G
      replace HR1 := HR1.gro G
      replace HZ := HZ.gro G
      replace HM := HM.gro G
      replace HK := HK.gro G
      replace GG := GG.trans G
      clear G
      refine nr ?_; intro U h; simp only [z0, z1] at h; subst h
      refine wpList_nil ?_
      refine then_n ?_
      refine wp_cond_false rfl ?_
      refine wp_skip ?_
      refine then_n ?_
      refine wp_region_lit ?_
      refine s_val 25 rfl rfl (.slice ao (((ownL L).take i).map othI).length cap) (rfl) ?_
      refine nr ?_; intro U h; simp only [z0, z1] at h; subst h
      refine s_val 26 rfl rfl (.agg (idA (othI ((ownL L).getD i zE)))) (ldI0 _ rfl g2 rfl (kg2)) ?_
      refine nr ?_; intro U h; simp only [z0, z1] at h; subst h
      refine s_bsl 27 rfl rfl 39 1 _ rfl [(0, .agg (idA (othI ((ownL L).getD i zE))))] rfl (([(othI ((ownL L).getD i zE))] : List Nat).flatMap kI.E).toArray 24 (by kernel_rfl) ?_
      intro w8 q2 G eq2 kq2
      have bq2 := size_base GG eq2
      have dtq2 := lt_new kt eq2
      have dg1q2 := lt_new kg1 eq2
      have dg2q2 := lt_new kg2 eq2
      have dHTq2 := HT.ne eq2
      have dHR1q2 := HR1.ne eq2
      have dHZq2 := HZ.ne eq2
      have dHMq2 := HM.ne eq2
      have dHKq2 := HK.ne eq2
      replace kt := G.has kt
      replace kg1 := G.has kg1
      replace kg2 := G.has kg2
      replace HT := HT.gro G
      replace HR1 := HR1.gro G
      replace HZ := HZ.gro G
      replace HM := HM.gro G
      replace HK := HK.gro G
      replace GG := GG.trans G
      clear G
      clear eq2
      refine nr ?_; intro U h; simp only [z0, z1] at h; subst h
      have ng19 : g1 ∉ Go.Proofs.YtmpnepbmpmkmkaaGreat.blk ao := dHMg1
      have ng29 : g2 ∉ Go.Proofs.YtmpnepbmpmkmkaaGreat.blk ao := dHMg2
      refine s_appK rI (by decide) (by decide) 28 rfl rfl _ _ rfl rfl HM (l' := ([(othI ((ownL L).getD i zE))] : List Nat)) rfl (RK.blk (K := kI) kq2 (one_all (othI_ok (HR1.all.at hil))) (Nat.le_refl _)) (by show _ + 1 ≤ _; omega) HZ ?_
      intro nma nmc w9 HO2 G2 _
      replace kt := G2.has kt (fun hm9 => by have := HM.own.base t hm9; omega)
      replace kg1 := G2.has kg1 ng19
      replace kg2 := G2.has kg2 ng29
      replace HT := HT.gros G2 (fun hm9 => by have := HM.own.base _ hm9; omega)
      replace HR1 := HR1.gros G2 (fun ad ha h0 hm9 => by have h1 := zHR1 ad ha h0; have := HM.own.base _ hm9; omega)
      replace HZ := HZ.le G2.size
      replace HK := HK.gros G2 (fun k hk hm9 => by obtain ⟨_, c9, hc9⟩ := HK.own.at k hk; exact HM.own.ne hc9 (by decide) hm9)
      replace GG := G2.gro GG (fun k hk => by have := HM.own.base k hk; omega)
      clear G2 HM kq2
      have HM := HO2
      clear HO2
      refine nr ?_; intro U h; simp only [z0, z1] at h; subst h
      refine s_val 3 rfl rfl (.slice nma ((((ownL L).take i).map othI) ++ [othI ((ownL L).getD i zE)]).length nmc) (rfl) ?_
      refine nr ?_; intro U h; simp only [z0, z1] at h; subst h
      refine wpList_nil ?_
      refine blk_n ?_
      refine then_n ?_
      refine wp_region_lit ?_
      refine s_val 29 rfl rfl (.int .i64 ((i + 1 : Nat) : Int)) (run_addI 3 _ _ _ rfl ((i : Nat) : Int) 1 ((i + 1 : Nat) : Int) rfl rfl (by omega) (by omega) (by omega) _) ?_
      refine nr ?_; intro U h; simp only [z0, z1] at h; subst h
      refine s_val 11 rfl rfl (.int .i64 ((i + 1 : Nat) : Int)) (rfl) ?_
      refine nr ?_; intro U h; simp only [z0, z1] at h; subst h
      refine wpList_nil ?_
      refine then_n ?_
      exact ⟨(ownL L).length + 1 - (i + 1), by omega, i + 1, nma, nmc, bo, bc, (fun kz => ([.pointer (some ⟨g1, 0, none⟩), .pointer (some ⟨g2, 0, none⟩), .bool true, .pointer (pE ao1 i 0), .agg (enA ((ownL L).getD i zE)), .agg (enA ((ownL L).getD i zE)), .agg (idA (othI ((ownL L).getD i zE))), .slice ao (((ownL L).take i).map othI).length cap, .agg (idA (othI ((ownL L).getD i zE))), .bool false, us1 10, us1 11, us1 12, us1 13, us1 14, .slice ao (((ownL L).take i).map othI).length cap, .agg (idA (othI ((ownL L).getD i zE))), .slice (some ⟨q2, 0, none⟩) 1 1, .slice nma ((((ownL L).take i).map othI) ++ [othI ((ownL L).getD i zE)]).length nmc, .int .i64 ((i + 1 : Nat) : Int)] : List Value).getD kz undef), rfl, by rw [mapo_step hil, twT_n hq]; rfl, by omega, GG, HZ, kt, HT, HR1, by rw [mapo_step hil]; exact HM, by rw [twT_n hq]; exact HK⟩
    · refine wp_region_lit ?_
      refine s_val 17 rfl rfl (.slice ao (((ownL L).take i).map othI).length cap) (rfl) ?_
      refine nr ?_; intro U h; simp only [z0, z1] at h; subst h
      refine s_val 18 rfl rfl (.agg (idA (othI ((ownL L).getD i zE)))) (ldI0 _ rfl g2 rfl (kg2)) ?_
      refine nr ?_; intro U h; simp only [z0, z1] at h; subst h
      refine s_callv 19 rfl rfl _ 36 Tryz.call36 rfl rfl _ rfl [.slice ao (((ownL L).take i).map othI).length cap, .agg (idA (othI ((ownL L).getD i zE)))] rfl (Calls.bool (has_any _ ao cap (((ownL L).take i).map othI) HM.re.rc (by omega) (othI ((ownL L).getD i zE)) (othI_ok (HR1.all.at hil))) hq) ?_
      intro w7 G
      replace kt := G.has kt
      replace kg1 := G.has kg1
      replace kg2 := G.has kg2
      replace HT := HT.gro G
      replace HR1 := HR1.gro G
      replace HZ := HZ.gro G
      replace HM := HM.gro G
      replace HK := HK.gro G
      replace GG := GG.trans G
      clear G
      refine nr ?_; intro U h; simp only [z0, z1] at h; subst h
      refine wpList_nil ?_
      refine then_n ?_
      refine wp_cond_true rfl ?_
      refine wp_region_lit ?_
      refine s_val 20 rfl rfl (.slice bo (twT (ownL L) i).length bc) (rfl) ?_
      refine nr ?_; intro U h; simp only [z0, z1] at h; subst h
      refine s_val 21 rfl rfl (.pointer (some ⟨g1, 0, none⟩)) (run_fld 33 _ 0 rfl g1 0 rfl 0 (by kernel_rfl)) ?_
      refine nr ?_; intro U h; simp only [z0, z1] at h; subst h
      refine s_val 22 rfl rfl (.agg (paA ((ownL L).getD i zE).p)) (ldEp _ rfl g1 rfl (kg1)) ?_
      refine nr ?_; intro U h; simp only [z0, z1] at h; subst h
      refine s_bsl 23 rfl rfl 43 1 _ rfl [(0, .agg (paA ((ownL L).getD i zE).p))] rfl (([((ownL L).getD i zE).p] : List Pa).flatMap kP.E).toArray 31 (by kernel_rfl) ?_
      intro w8 q2 G eq2 kq2
      have bq2 := size_base GG eq2
      have dtq2 := lt_new kt eq2
      have dg1q2 := lt_new kg1 eq2
      have dg2q2 := lt_new kg2 eq2
      have dHTq2 := HT.ne eq2
      have dHR1q2 := HR1.ne eq2
      have dHZq2 := HZ.ne eq2
      have dHMq2 := HM.ne eq2
      have dHKq2 := HK.ne eq2
      replace kt := G.has kt
      replace kg1 := G.has kg1
      replace kg2 := G.has kg2
      replace HT := HT.gro G
      replace HR1 := HR1.gro G
      replace HZ := HZ.gro G
      replace HM := HM.gro G
      replace HK := HK.gro G
      replace GG := GG.trans G
      clear G
      clear eq2
      refine nr ?_; intro U h; simp only [z0, z1] at h; subst h
      have ng19 : g1 ∉ Go.Proofs.YtmpnepbmpmkmkaaGreat.blk bo := dHKg1
      have ng29 : g2 ∉ Go.Proofs.YtmpnepbmpmkmkaaGreat.blk bo := dHKg2
      refine s_appK rP (by decide) (by decide) 24 rfl rfl _ _ rfl rfl HK (l' := ([((ownL L).getD i zE).p] : List Pa)) rfl (RK.blk (K := kP) kq2 (one_all (HR1.all.at hil).p) (Nat.le_refl _)) (by show _ + 1 ≤ _; omega) HZ ?_
      intro nka nkc w9 HO2 G2 _
      replace kt := G2.has kt (fun hm9 => by have := HK.own.base t hm9; omega)
      replace kg1 := G2.has kg1 ng19
      replace kg2 := G2.has kg2 ng29
      replace HT := HT.gros G2 (fun hm9 => by have := HK.own.base _ hm9; omega)
      replace HR1 := HR1.gros G2 (fun ad ha h0 hm9 => by have h1 := zHR1 ad ha h0; have := HK.own.base _ hm9; omega)
      replace HZ := HZ.le G2.size
      replace HM := HM.gros G2 (fun k hk hm9 => by obtain ⟨_, c9, hc9⟩ := HM.own.at k hk; exact HK.own.ne hc9 (by decide) hm9)
      replace GG := G2.gro GG (fun k hk => by have := HK.own.base k hk; omega)
      clear G2 HK kq2
      have HK := HO2
      clear HO2
      refine nr ?_; intro U h; simp only [z0, z1] at h; subst h
      refine s_val 4 rfl rfl (.slice nka (twT (ownL L) i ++ [((ownL L).getD i zE).p]).length nkc) (rfl) ?_
      refine nr ?_; intro U h; simp only [z0, z1] at h; subst h
      refine wpList_nil ?_
      refine then_n ?_
      refine wp_region_lit ?_
      refine s_val 25 rfl rfl (.slice ao (((ownL L).take i).map othI).length cap) (rfl) ?_
      refine nr ?_; intro U h; simp only [z0, z1] at h; subst h
      refine s_val 26 rfl rfl (.agg (idA (othI ((ownL L).getD i zE)))) (ldI0 _ rfl g2 rfl (kg2)) ?_
      refine nr ?_; intro U h; simp only [z0, z1] at h; subst h
      refine s_bsl 27 rfl rfl 39 1 _ rfl [(0, .agg (idA (othI ((ownL L).getD i zE))))] rfl (([(othI ((ownL L).getD i zE))] : List Nat).flatMap kI.E).toArray 24 (by kernel_rfl) ?_
      intro w10 q3 G eq3 kq3
      have bq3 := size_base GG eq3
      have dtq3 := lt_new kt eq3
      have dg1q3 := lt_new kg1 eq3
      have dg2q3 := lt_new kg2 eq3
      have dHTq3 := HT.ne eq3
      have dHR1q3 := HR1.ne eq3
      have dHZq3 := HZ.ne eq3
      have dHMq3 := HM.ne eq3
      have dHKq3 := HK.ne eq3
      replace kt := G.has kt
      replace kg1 := G.has kg1
      replace kg2 := G.has kg2
      replace HT := HT.gro G
      replace HR1 := HR1.gro G
      replace HZ := HZ.gro G
      replace HM := HM.gro G
      replace HK := HK.gro G
      replace GG := GG.trans G
      clear G
      clear eq3
      refine nr ?_; intro U h; simp only [z0, z1] at h; subst h
      have ng19 : g1 ∉ Go.Proofs.YtmpnepbmpmkmkaaGreat.blk ao := dHMg1
      have ng29 : g2 ∉ Go.Proofs.YtmpnepbmpmkmkaaGreat.blk ao := dHMg2
      refine s_appK rI (by decide) (by decide) 28 rfl rfl _ _ rfl rfl HM (l' := ([(othI ((ownL L).getD i zE))] : List Nat)) rfl (RK.blk (K := kI) kq3 (one_all (othI_ok (HR1.all.at hil))) (Nat.le_refl _)) (by show _ + 1 ≤ _; omega) HZ ?_
      intro nma nmc w11 HO2 G2 _
      replace kt := G2.has kt (fun hm9 => by have := HM.own.base t hm9; omega)
      replace kg1 := G2.has kg1 ng19
      replace kg2 := G2.has kg2 ng29
      replace HT := HT.gros G2 (fun hm9 => by have := HM.own.base _ hm9; omega)
      replace HR1 := HR1.gros G2 (fun ad ha h0 hm9 => by have h1 := zHR1 ad ha h0; have := HM.own.base _ hm9; omega)
      replace HZ := HZ.le G2.size
      replace HK := HK.gros G2 (fun k hk hm9 => by obtain ⟨_, c9, hc9⟩ := HK.own.at k hk; exact HM.own.ne hc9 (by decide) hm9)
      replace GG := G2.gro GG (fun k hk => by have := HM.own.base k hk; omega)
      clear G2 HM kq3
      have HM := HO2
      clear HO2
      refine nr ?_; intro U h; simp only [z0, z1] at h; subst h
      refine s_val 3 rfl rfl (.slice nma ((((ownL L).take i).map othI) ++ [othI ((ownL L).getD i zE)]).length nmc) (rfl) ?_
      refine nr ?_; intro U h; simp only [z0, z1] at h; subst h
      refine wpList_nil ?_
      refine blk_n ?_
      refine then_n ?_
      refine wp_region_lit ?_
      refine s_val 29 rfl rfl (.int .i64 ((i + 1 : Nat) : Int)) (run_addI 3 _ _ _ rfl ((i : Nat) : Int) 1 ((i + 1 : Nat) : Int) rfl rfl (by omega) (by omega) (by omega) _) ?_
      refine nr ?_; intro U h; simp only [z0, z1] at h; subst h
      refine s_val 11 rfl rfl (.int .i64 ((i + 1 : Nat) : Int)) (rfl) ?_
      refine nr ?_; intro U h; simp only [z0, z1] at h; subst h
      refine wpList_nil ?_
      refine then_n ?_
      exact ⟨(ownL L).length + 1 - (i + 1), by omega, i + 1, nma, nmc, nka, nkc, (fun kz => ([.pointer (some ⟨g1, 0, none⟩), .pointer (some ⟨g2, 0, none⟩), .bool true, .pointer (pE ao1 i 0), .agg (enA ((ownL L).getD i zE)), .agg (enA ((ownL L).getD i zE)), .agg (idA (othI ((ownL L).getD i zE))), .slice ao (((ownL L).take i).map othI).length cap, .agg (idA (othI ((ownL L).getD i zE))), .bool true, .slice bo (twT (ownL L) i).length bc, .pointer (some ⟨g1, 0, none⟩), .agg (paA ((ownL L).getD i zE).p), .slice (some ⟨q2, 0, none⟩) 1 1, .slice nka (twT (ownL L) i ++ [((ownL L).getD i zE).p]).length nkc, .slice ao (((ownL L).take i).map othI).length cap, .agg (idA (othI ((ownL L).getD i zE))), .slice (some ⟨q3, 0, none⟩) 1 1, .slice nma ((((ownL L).take i).map othI) ++ [othI ((ownL L).getD i zE)]).length nmc, .int .i64 ((i + 1 : Nat) : Int)] : List Value).getD kz undef), rfl, by rw [mapo_step hil, twT_y hq]; rfl, by omega, GG, HZ, kt, HT, HR1, by rw [mapo_step hil]; exact HM, by rw [twT_y hq]; exact HK⟩
end Go.Proofs.YtmpnepbmpmkmkaaGreat
