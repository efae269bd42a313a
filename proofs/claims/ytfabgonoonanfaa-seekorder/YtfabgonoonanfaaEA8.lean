/- Whom a node knows, whom it misses, for whom it asks. -/
import Derived.Test.YtfabgonoonanfaaEA7
import Derived.Test.YtfabgonoonanfaaEI11
namespace Go.Proofs.Ytfabgonoonanfaa
open Go.RowKit
set_option maxRecDepth 100000 in
set_option maxHeartbeats 4000000 in
theorem want_own (w : World) (ao : Option Addr) (cap : Nat) (l : List Nat) (H : RC w ao cap l) (hl : l.length ≤ 1000000) (s : Nat) (hs : s < top) (half : Int) : Calls Try.prog 33 #[.agg (idA s), .slice ao l.length cap, .int .i64 half] w (RowPo w (want s l half)) := by
  refine s_enter Try.func33 rfl Try.ntmps33 [.agg (idA s), .slice ao l.length cap, .int .i64 half] [.agg (idA s), .slice ao l.length cap, .int .i64 half, undef, undef, undef, undef, undef, undef, undef, undef, undef, undef, undef, undef, undef, undef, undef, undef, undef, undef, undef, undef, undef, undef, undef, undef, undef, undef, undef, undef, undef, undef, undef, undef, undef, undef, undef, undef, undef, undef, undef, undef] rfl ?_
  have GG := Gro.refl w
  refine wp_seq ?_
  refine wp_region_lit ?_
  refine s_box 3 rfl rfl 23 _ rfl _ rfl (idA s) rfl ?_
  intro w1 g1 G eg1 kg1
  have bg1 := size_base GG eg1
  replace GG := GG.trans G
  clear G
  clear eg1
  refine nr ?_; intro U h; simp only [z0, z1] at h; subst h
  refine s_val 6 rfl rfl (.slice none 0 0) (rfl) ?_
  refine nr ?_; intro U h; simp only [z0, z1] at h; subst h
  refine wpList_nil ?_
  refine then_n ?_
  refine wp_seq ?_
  refine wp_region_exA (A := ?Ax9) 4 [(0, 12), (1, 13), (2, 14), (3, 15)] [.val (.agg (idA s)), cloE s, .val (.agg (idA s)), .val (.slice ao l.length cap)] follows (by kernel_rfl) rfl ?hAx9 (opsA_cons ?o0x9 (opsA_cons ?o1x9 (opsA_cons ?o2x9 (opsA_cons ?o3x9 opsA_nil)))) ?restx9
  case hAx9 =>
    intro ptrs
    simp only [full, foldSlots, filledE, postE, List.foldl_cons, List.foldl_nil, List.getD_cons_zero, List.getD_cons_succ, fill_val, fill_cloE, List.set_cons_zero, List.set_cons_succ]
    exact rfl
  case o0x9 => exact fun _ _ hw _ => opE_value (v := .agg (idA s)) rfl (run_ldB _ rfl g1 _ rfl (hw.has kg1))
  case o1x9 =>
    intro ptrs w' hw hE
    exact opE_call (cloE s) rfl _ 48 Try.call48 rfl rfl _ rfl [.agg (idA s)] rfl ((clockwise_any _ s).mono fun e w' ⟨c, he, hg, hk⟩ => ⟨_, he, hg, c, rfl, hk⟩)
  case o2x9 => exact fun _ _ hw _ => opE_value (v := .agg (idA s)) rfl (run_ldB _ rfl g1 _ rfl (hw.has kg1))
  case o3x9 => exact fun _ _ _ _ => opE_move (v := .slice ao l.length cap) _ rfl rfl rfl
  intro ptrs w2 GD hxE
  simp only [List.drop_succ_cons, List.drop_zero]
  replace kg1 := GD.has kg1
  replace GG := GG.drew.trans GD
  obtain ⟨⟨c1, hx1, kc1⟩, _⟩ := hxE
  simp only [hx1]
  clear hx1
  clear GD
  refine s_callx 16 rfl rfl _ 46 Try.call46 rfl rfl _ rfl [.func (.func 57) #[] #[.pointer (some ⟨c1, 0, none⟩)], .agg (idA s), .slice ao l.length cap] rfl (lined_any _ s c1 s ao cap l hs hs kc1 (H.gro GG) hl) (by rintro _ _ ⟨_, _, he, _⟩; exact ⟨_, he⟩) ?_
  rintro v w3 ⟨ao2, cap2, he, G, HR2⟩
  cases he
  replace kg1 := G.has kg1
  replace kc1 := G.has kc1
  replace GG := GG.trans G
  clear G
  refine nr ?_; intro U h; simp only [z0, z1] at h; subst h
  refine s_val 7 rfl rfl (.slice ao2 ((lin (kc s) s l).length) cap2) (rfl) ?_
  refine nr ?_; intro U h; simp only [z0, z1] at h; subst h
  refine wpList_nil ?_
  refine then_n ?_
  refine wp_seq ?_
  refine wp_region_lit ?_
  refine s_val 8 rfl rfl (.slice none 0 0) (rfl) ?_
  refine nr ?_; intro U h; simp only [z0, z1] at h; subst h
  refine wpList_nil ?_
  refine then_n ?_
  refine wp_seq ?_
  refine wp_seq ?_
  refine wp_region_lit ?_
  refine s_val 17 rfl rfl (.slice ao2 ((lin (kc s) s l).length) cap2) (rfl) ?_
  refine nr ?_; intro U h; simp only [z0, z1] at h; subst h
  refine s_val 18 rfl rfl (.int .i64 (((lin (kc s) s l).length : Nat) : Int)) (run_len Try.underlying24 _ rfl _ _ _ rfl _) ?_
  refine nr ?_; intro U h; simp only [z0, z1] at h; subst h
  refine s_val 19 rfl rfl (.int .i64 0) (rfl) ?_
  refine nr ?_; intro U h; simp only [z0, z1] at h; subst h
  refine wpList_nil ?_
  refine then_n ?_
  refine wp_block ?_
  obtain ⟨B, hB⟩ : ∃ B, w3.heap.size = B := ⟨_, rfl⟩
  have hgB : g1 < B := hB ▸ lt_of_heap kg1
  have hmB : ∀ ad, ao2 = some ad → 0 < (fl (lin (kc s) s l)).length → ad.block < B := hB ▸ HR2.lt
  have hwB : w.heap.size ≤ B := hB ▸ GG.size
  have hML := lin_len (kc s) s l
  refine wp_loopN (fun mz az wv => ∃ (i : Nat) (no : Option Addr) (nc : Nat) (us1 : Nat → Value), mz = (lin (kc s) s l).length - i ∧ az = ⟨[.agg (idA s), .slice ao l.length cap, .int .i64 half, .pointer (some ⟨g1, 0, none⟩), undef, undef, .slice none 0 0, .slice ao2 ((lin (kc s) s l).length) cap2, .slice no ((nearK (lin (kc s) s l) half i).length) nc, us1 0, us1 1, us1 2, .agg (idA s), .func (.func 57) #[] #[.pointer (some ⟨c1, 0, none⟩)], .agg (idA s), .slice ao l.length cap, .slice ao2 ((lin (kc s) s l).length) cap2, .slice ao2 ((lin (kc s) s l).length) cap2, .int .i64 (((lin (kc s) s l).length : Nat) : Int), .int .i64 ((i : Nat) : Int), us1 3, us1 4, us1 5, us1 6, us1 7, us1 8, us1 9, us1 10, us1 11, us1 12, us1 13, us1 14, us1 15, us1 16, us1 17, us1 18, us1 19, us1 20, us1 21, undef, undef, undef, undef].toArray, []⟩ ∧ i ≤ (lin (kc s) s l).length ∧ Gro w wv ∧ wv.heap[g1]? = some (.cells (idA s) 23 (0, 0)) ∧ RC wv ao2 cap2 (lin (kc s) s l) ∧ OI wv B no nc (nearK (lin (kc s) s l) half i) ∧ B ≤ wv.heap.size) ?_ _ ⟨0, none, 0, (fun kz => ([undef, undef, undef, undef, undef, undef, undef, undef, undef, undef, undef, undef, undef, undef, undef, undef, undef, undef, undef, undef, undef, undef] : List Value).getD kz undef), rfl, rfl, Nat.zero_le _, GG, kg1, HR2, (OI.nil _ _), (Nat.le_of_eq hB.symm)⟩
  clear GG kg1 HR2
  rintro mz az wv ⟨i, no, nc, us1, rfl, rfl, hi, GG, kg1, HR2, HO, hBw⟩
  have hnl := nearK_len (lin (kc s) s l) half i
  refine wp_seq ?_
  refine wp_region_lit ?_
  cases hi1 : decide (((i : Nat) : Int) < (((lin (kc s) s l).length : Nat) : Int))
  · have hie : i = (lin (kc s) s l).length := by have := of_decide_eq_false hi1; omega
    refine s_val 20 rfl rfl (.bool false) (run_lssT 3 _ _ _ rfl ((i : Nat) : Int) (((lin (kc s) s l).length : Nat) : Int) rfl rfl false hi1 _) ?_
    refine nr ?_; intro U h; simp only [z0, z1] at h; subst h
    refine wpList_nil ?_
    refine then_n ?_
    refine wp_seq ?_
    refine wp_cond_false rfl ?_
    refine wp_exit ?_
    refine then_x ?_
    refine then_x ?_
    refine blk_x ?_
    refine then_n ?_
    refine wp_seq ?_
    subst hie
    have HN := HO.rc
    refine wp_region_exA (A := ?Ax10) 3 [(0, 39), (1, 40), (2, 41)] [cloE 0, .val (.agg (idA s)), .val (.slice no ((nearK (lin (kc s) s l) half (lin (kc s) s l).length).length) nc)] follows (by kernel_rfl) rfl ?hAx10 (opsA_cons ?o0x10 (opsA_cons ?o1x10 (opsA_cons ?o2x10 opsA_nil))) ?restx10
    case hAx10 =>
      intro ptrs
      simp only [full, foldSlots, filledE, postE, List.foldl_cons, List.foldl_nil, List.getD_cons_zero, List.getD_cons_succ, fill_val, fill_cloE, List.set_cons_zero, List.set_cons_succ]
      exact rfl
    case o0x10 =>
      intro ptrs w' hw hE
      exact opE_call (cloE 0) rfl _ 47 Try.call47 rfl rfl _ rfl [] rfl ((rising_any _).mono fun e w' ⟨c, he, hg, hk⟩ => ⟨_, he, hg, c, rfl, hk⟩)
    case o1x10 => exact fun _ _ hw _ => opE_value (v := .agg (idA s)) rfl (run_ldB _ rfl g1 _ rfl (hw.has kg1))
    case o2x10 => exact fun _ _ _ _ => opE_move (v := .slice no ((nearK (lin (kc s) s l) half (lin (kc s) s l).length).length) nc) _ rfl rfl rfl
    intro ptrs w4 GD hxE
    simp only [List.drop_succ_cons, List.drop_zero]
    replace kg1 := GD.has kg1
    replace HR2 := HR2.gro ((Gro.refl _).drew.trans GD)
    replace HN := HN.gro ((Gro.refl _).drew.trans GD)
    replace GG := GG.drew.trans GD
    obtain ⟨⟨c3, hx3, kc3⟩, _⟩ := hxE
    simp only [hx3]
    clear hx3
    clear GD
    refine s_callx 42 rfl rfl _ 46 Try.call46 rfl rfl _ rfl [.func (.func 57) #[] #[.pointer (some ⟨c3, 0, none⟩)], .agg (idA s), .slice no ((nearK (lin (kc s) s l) half (lin (kc s) s l).length).length) nc] rfl (lined_own _ 0 c3 s no nc (nearK (lin (kc s) s l) half (lin (kc s) s l).length) top_0i hs kc3 (HN) (by have := nearK_len (lin (kc s) s l) half (lin (kc s) s l).length; omega)) (by rintro _ _ ⟨_, _, he, _⟩; exact ⟨_, he⟩) ?_
    rintro v w5 ⟨ao4, cap4, he, G, HR4, HY4⟩
    replace HY4 := HY4.mono GG.size
    cases he
    replace kg1 := G.has kg1
    replace kc3 := G.has kc3
    replace HR2 := HR2.gro G
    replace HN := HN.gro G
    replace GG := GG.trans G
    clear G
    refine nr ?_; intro U h; simp only [z0, z1] at h; subst h
    refine s_val 6 rfl rfl (.slice ao4 ((lin (kc 0) s (nearK (lin (kc s) s l) half (lin (kc s) s l).length)).length) cap4) (rfl) ?_
    refine nr ?_; intro U h; simp only [z0, z1] at h; subst h
    refine wpList_nil ?_
    refine then_n ?_
    refine wp_ret ?_
    refine bodyPost_ret (results_tmp Try.results33 _ _ _) rfl ?_
    rw [← want_eq hs H.all half]
    exact ⟨_, _, rfl, GG, HR4, HY4⟩
  · have hil : i < (lin (kc s) s l).length := by have := of_decide_eq_true hi1; omega
    refine s_val 20 rfl rfl (.bool true) (run_lssT 3 _ _ _ rfl ((i : Nat) : Int) (((lin (kc s) s l).length : Nat) : Int) rfl rfl true hi1 _) ?_
    refine nr ?_; intro U h; simp only [z0, z1] at h; subst h
    refine wpList_nil ?_
    refine then_n ?_
    refine wp_seq ?_
    refine wp_cond_true rfl ?_
    refine wp_skip ?_
    refine then_n ?_
    refine wp_seq ?_
    refine wp_block ?_
    refine wp_seq ?_
    refine wp_region_lit ?_
    refine s_val 21 rfl rfl (.int .i64 ((i : Nat) : Int)) (rfl) ?_
    refine nr ?_; intro U h; simp only [z0, z1] at h; subst h
    refine s_val 22 rfl rfl (.pointer (pA ao2 i)) (run_ixI (HR2) _ _ rfl rfl i rfl hil) ?_
    refine nr ?_; intro U h; simp only [z0, z1] at h; subst h
    refine s_val 23 rfl rfl (.agg (idA ((lin (kc s) s l).getD i 0))) (run_ldI (HR2) _ rfl i rfl hil) ?_
    refine nr ?_; intro U h; simp only [z0, z1] at h; subst h
    have hsz9 := hBw
    refine s_alloc 10 rfl rfl 23 rfl _ zero23 (idA 0) rfl ?_
    intro w4 g2 G eg2 kg2
    have bg2 := size_base GG eg2
    have dg1g2 := lt_new kg1 eg2
    have dHR2g2 := HR2.ne eg2
    have dHOg2 : ∀ ad, no = some ad → ad.block ≠ g2 := fun ad ha => by have := (HO.own.ge ad ha).2; omega
    replace hBw := Nat.le_trans hBw G.size
    replace kg1 := G.has kg1
    replace HR2 := HR2.gro G
    replace HO := HO.gro G
    replace GG := GG.trans G
    clear G
    clear eg2 hsz9
    refine nr ?_; intro U h; simp only [z0, z1] at h; subst h
    refine s_val 9 rfl rfl (.int .i64 ((i : Nat) : Int)) (rfl) ?_
    refine nr ?_; intro U h; simp only [z0, z1] at h; subst h
    refine s_store rfl rfl 23 _ _ rfl g2 0 rfl (.agg (idA ((lin (kc s) s l).getD i 0))) rfl 23 _ kg2 (idA ((lin (kc s) s l).getD i 0)) rfl (size23' _) (idA_fiti _ _) (idA_one _) (idA ((lin (kc s) s l).getD i 0)) (splice_whole _ _ (idA_szi _ _)) ?_
    intro w5 St
    replace kg1 := St.has (by omega) kg1
    replace HR2 := HR2.st St dHR2g2
    replace HO := HO.st St (fun ad ha _ => dHOg2 ad ha) (.inr dHOg2)
    replace hBw := Nat.le_trans hBw (Nat.le_of_eq St.size.symm)
    replace GG := GG.store St bg2
    replace kg2 := St.new
    clear St
    refine wpList_nil ?_
    refine then_n ?_
    refine wp_seq ?_
    refine wp_region_lit ?_
    refine s_val 24 rfl rfl (.slice ao2 ((lin (kc s) s l).length) cap2) (rfl) ?_
    refine nr ?_; intro U h; simp only [z0, z1] at h; subst h
    refine s_val 25 rfl rfl (.int .i64 (((lin (kc s) s l).length : Nat) : Int)) (run_len Try.underlying24 _ rfl _ _ _ rfl _) ?_
    refine nr ?_; intro U h; simp only [z0, z1] at h; subst h
    refine s_val 26 rfl rfl (.int .i64 ((((lin (kc s) s l).length : Nat) : Int) - 1)) (run_subIi 3 _ _ _ rfl (((lin (kc s) s l).length : Nat) : Int) 1 ((((lin (kc s) s l).length : Nat) : Int) - 1) rfl rfl (by omega) (by omega) (by omega) _) ?_
    refine nr ?_; intro U h; simp only [z0, z1] at h; subst h
    refine s_val 27 rfl rfl (.int .i64 ((i : Nat) : Int)) (rfl) ?_
    refine nr ?_; intro U h; simp only [z0, z1] at h; subst h
    refine s_val 28 rfl rfl (.int .i64 ((((lin (kc s) s l).length : Nat) : Int) - 1 - ((i : Nat) : Int))) (run_subIi 3 _ _ _ rfl ((((lin (kc s) s l).length : Nat) : Int) - 1) ((i : Nat) : Int) ((((lin (kc s) s l).length : Nat) : Int) - 1 - ((i : Nat) : Int)) rfl rfl (by omega) (by omega) (by omega) _) ?_
    refine nr ?_; intro U h; simp only [z0, z1] at h; subst h
    refine s_val 11 rfl rfl (.int .i64 ((((lin (kc s) s l).length : Nat) : Int) - 1 - ((i : Nat) : Int))) (rfl) ?_
    refine nr ?_; intro U h; simp only [z0, z1] at h; subst h
    refine wpList_nil ?_
    refine then_n ?_
    refine wp_seq ?_
    refine wp_region_lit ?_
    refine s_val 29 rfl rfl (.int .i64 ((i : Nat) : Int)) (rfl) ?_
    refine nr ?_; intro U h; simp only [z0, z1] at h; subst h
    refine s_val 30 rfl rfl (.int .i64 ((((lin (kc s) s l).length : Nat) : Int) - 1 - ((i : Nat) : Int))) (rfl) ?_
    refine nr ?_; intro U h; simp only [z0, z1] at h; subst h
    refine s_val 31 rfl rfl (.int .i64 (min ((i : Nat) : Int) ((((lin (kc s) s l).length : Nat) : Int) - 1 - ((i : Nat) : Int)))) (run_minIi _ _ _ rfl _ _ rfl rfl _) ?_
    refine nr ?_; intro U h; simp only [z0, z1] at h; subst h
    refine s_val 32 rfl rfl (.int .i64 half) (rfl) ?_
    refine nr ?_; intro U h; simp only [z0, z1] at h; subst h
    cases hc : decide ((min ((i : Nat) : Int) ((((lin (kc s) s l).length : Nat) : Int) - 1 - ((i : Nat) : Int))) < half)
    · refine s_val 33 rfl rfl (.bool false) (run_lssT 3 _ _ _ rfl (min ((i : Nat) : Int) ((((lin (kc s) s l).length : Nat) : Int) - 1 - ((i : Nat) : Int))) half rfl rfl false hc _) ?_
      refine nr ?_; intro U h; simp only [z0, z1] at h; subst h
      refine wpList_nil ?_
      refine then_n ?_
      refine wp_cond_false rfl ?_
      refine wp_skip ?_
      refine blk_n ?_
      refine then_n ?_
      refine wp_region_lit ?_
      refine s_val 38 rfl rfl (.int .i64 ((i + 1 : Nat) : Int)) (run_addIi 3 _ _ _ rfl ((i : Nat) : Int) 1 ((i + 1 : Nat) : Int) rfl rfl (by omega) (by omega) (by omega) _) ?_
      refine nr ?_; intro U h; simp only [z0, z1] at h; subst h
      refine s_val 19 rfl rfl (.int .i64 ((i + 1 : Nat) : Int)) (rfl) ?_
      refine nr ?_; intro U h; simp only [z0, z1] at h; subst h
      refine wpList_nil ?_
      refine then_n ?_
      have hn : nearK (lin (kc s) s l) half (i + 1) = nearK (lin (kc s) s l) half i := by rw [nearK, if_neg (of_decide_eq_false hc), List.append_nil]
      exact ⟨_, (by omega : (lin (kc s) s l).length - (i + 1) < (lin (kc s) s l).length - i), i + 1, no, nc, (fun kz => ([.int .i64 ((i : Nat) : Int), .pointer (some ⟨g2, 0, none⟩), .int .i64 ((((lin (kc s) s l).length : Nat) : Int) - 1 - ((i : Nat) : Int)), .bool true, .int .i64 ((i : Nat) : Int), .pointer (pA ao2 i), .agg (idA ((lin (kc s) s l).getD i 0)), .slice ao2 ((lin (kc s) s l).length) cap2, .int .i64 (((lin (kc s) s l).length : Nat) : Int), .int .i64 ((((lin (kc s) s l).length : Nat) : Int) - 1), .int .i64 ((i : Nat) : Int), .int .i64 ((((lin (kc s) s l).length : Nat) : Int) - 1 - ((i : Nat) : Int)), .int .i64 ((i : Nat) : Int), .int .i64 ((((lin (kc s) s l).length : Nat) : Int) - 1 - ((i : Nat) : Int)), .int .i64 (min ((i : Nat) : Int) ((((lin (kc s) s l).length : Nat) : Int) - 1 - ((i : Nat) : Int))), .int .i64 half, .bool false, us1 17, us1 18, us1 19, us1 20, .int .i64 ((i + 1 : Nat) : Int)] : List Value).getD kz undef), rfl, (by rw [hn]; first | done | rfl), hil, GG, kg1, HR2, (by rw [hn]; exact HO), (Nat.le_trans hBw (Nat.le_refl _))⟩
    · refine s_val 33 rfl rfl (.bool true) (run_lssT 3 _ _ _ rfl (min ((i : Nat) : Int) ((((lin (kc s) s l).length : Nat) : Int) - 1 - ((i : Nat) : Int))) half rfl rfl true hc _) ?_
      refine nr ?_; intro U h; simp only [z0, z1] at h; subst h
      refine wpList_nil ?_
      refine then_n ?_
      refine wp_cond_true rfl ?_
      refine wp_region_lit ?_
      refine s_val 34 rfl rfl (.slice no ((nearK (lin (kc s) s l) half i).length) nc) (rfl) ?_
      refine nr ?_; intro U h; simp only [z0, z1] at h; subst h
      refine s_val 35 rfl rfl (.agg (idA ((lin (kc s) s l).getD i 0))) (run_ldB _ rfl g2 _ rfl (kg2)) ?_
      refine nr ?_; intro U h; simp only [z0, z1] at h; subst h
      refine s_bsl 36 rfl rfl 24 1 _ rfl [(0, .agg (idA ((lin (kc s) s l).getD i 0)))] rfl (fl [((lin (kc s) s l).getD i 0)]).toArray 23 (bs1i ((lin (kc s) s l).getD i 0) _) ?_
      intro w6 q9 G eq9 kq9
      replace hBw := Nat.le_trans hBw G.size
      replace kg1 := G.has kg1
      replace kg2 := G.has kg2
      replace HR2 := HR2.gro G
      replace HO := HO.gro G
      replace GG := GG.trans G
      clear G
      have HQ : RC _ (some ⟨q9, 0, none⟩) 1 [((lin (kc s) s l).getD i 0)] := RC.all_blk kq9 (all_of [((lin (kc s) s l).getD i 0)] ⟨(HR2.at hil), trivial⟩) (Nat.le_refl _)
      clear eq9
      refine nr ?_; intro U h; simp only [z0, z1] at h; subst h
      refine s_appI 37 rfl rfl _ _ rfl rfl HO rfl HQ (by have : [((lin (kc s) s l).getD i 0)].length = 1 := rfl; omega) hBw ?_
      intro ao9 cap9 w7 HO9 HB
      have hB9 := Nat.le_trans hBw HB.size
      replace kg1 := (HB.block g1 hgB).trans kg1
      replace HR2 := HR2.below HB hmB
      replace GG := below_gro GG HB hwB
      clear HB
      refine nr ?_; intro U h; simp only [z0, z1] at h; subst h
      refine s_val 8 rfl rfl (.slice ao9 (((nearK (lin (kc s) s l) half i) ++ [((lin (kc s) s l).getD i 0)]).length) cap9) (rfl) ?_
      refine nr ?_; intro U h; simp only [z0, z1] at h; subst h
      refine wpList_nil ?_
      refine blk_n ?_
      refine then_n ?_
      refine wp_region_lit ?_
      refine s_val 38 rfl rfl (.int .i64 ((i + 1 : Nat) : Int)) (run_addIi 3 _ _ _ rfl ((i : Nat) : Int) 1 ((i + 1 : Nat) : Int) rfl rfl (by omega) (by omega) (by omega) _) ?_
      refine nr ?_; intro U h; simp only [z0, z1] at h; subst h
      refine s_val 19 rfl rfl (.int .i64 ((i + 1 : Nat) : Int)) (rfl) ?_
      refine nr ?_; intro U h; simp only [z0, z1] at h; subst h
      refine wpList_nil ?_
      refine then_n ?_
      have hn : nearK (lin (kc s) s l) half (i + 1) = nearK (lin (kc s) s l) half i ++ [(lin (kc s) s l).getD i 0] := by rw [nearK, if_pos (of_decide_eq_true hc)]
      exact ⟨_, (by omega : (lin (kc s) s l).length - (i + 1) < (lin (kc s) s l).length - i), i + 1, ao9, cap9, (fun kz => ([.int .i64 ((i : Nat) : Int), .pointer (some ⟨g2, 0, none⟩), .int .i64 ((((lin (kc s) s l).length : Nat) : Int) - 1 - ((i : Nat) : Int)), .bool true, .int .i64 ((i : Nat) : Int), .pointer (pA ao2 i), .agg (idA ((lin (kc s) s l).getD i 0)), .slice ao2 ((lin (kc s) s l).length) cap2, .int .i64 (((lin (kc s) s l).length : Nat) : Int), .int .i64 ((((lin (kc s) s l).length : Nat) : Int) - 1), .int .i64 ((i : Nat) : Int), .int .i64 ((((lin (kc s) s l).length : Nat) : Int) - 1 - ((i : Nat) : Int)), .int .i64 ((i : Nat) : Int), .int .i64 ((((lin (kc s) s l).length : Nat) : Int) - 1 - ((i : Nat) : Int)), .int .i64 (min ((i : Nat) : Int) ((((lin (kc s) s l).length : Nat) : Int) - 1 - ((i : Nat) : Int))), .int .i64 half, .bool true, .slice no ((nearK (lin (kc s) s l) half i).length) nc, .agg (idA ((lin (kc s) s l).getD i 0)), .slice (some ⟨q9, 0, none⟩) 1 1, .slice ao9 (((nearK (lin (kc s) s l) half i) ++ [((lin (kc s) s l).getD i 0)]).length) cap9, .int .i64 ((i + 1 : Nat) : Int)] : List Value).getD kz undef), rfl, (by rw [hn]; first | done | rfl), hil, GG, kg1, HR2, (by rw [hn]; exact HO9), hB9⟩
theorem ofRC {w : World} {ao : Option Addr} {cap : Nat} {l : List Nat} (h : RC w ao cap l) : RK kI w ao cap l := ⟨h.xc, h.all⟩
theorem RK.rc {w : World} {ao : Option Addr} {cap : Nat} {l : List Nat} (h : RK kI w ao cap l) : RC w ao cap l := ⟨h.xc, h.all⟩
/-- A call that answers a row that may be read. -/
def RowR {α : Type} (K : Kd α) (w : World) (L : List α) (x : Ending) (w' : World) : Prop := ∃ ao cap, x = .returned (.slice ao L.length cap) ∧ Gro w w' ∧ RK K w' ao cap L
theorem sortedK (w : World) (ao : Option Addr) (cap : Nat) (l : List Nat) (H : RK kI w ao cap l) (hl : l.length ≤ 1000000) (s : Nat) (hs : s < top) : Calls Try.prog 32 #[.agg (idA s), .slice ao l.length cap] w (RowR kI w (lin (kc 0) s l)) :=
  (sorted_any w ao cap l H.rc hl s hs).mono fun _ _ ⟨ao, cap, h1, h2, h3⟩ => ⟨ao, cap, h1, h2, ofRC h3⟩
theorem wantK (w : World) (ao : Option Addr) (cap : Nat) (l : List Nat) (H : RK kI w ao cap l) (hl : l.length ≤ 1000000) (s : Nat) (hs : s < top) (half : Int) : Calls Try.prog 33 #[.agg (idA s), .slice ao l.length cap, .int .i64 half] w (RowK kI 23 w (want s l half)) :=
  (want_own w ao cap l H.rc hl s hs half).mono fun _ _ ⟨ao, cap, h1, h2, h3, h4⟩ => ⟨ao, cap, h1, h2, h4, h3.all⟩
theorem zero24 (w : World) : (zeroValue 24).run Try.prog w = .ok (.slice none 0 0) w := by rw [Try.zeroValue24]
theorem si24 : (Try.prog.info? 24).map (·.size) = some 1 := by kernel_rfl
theorem ids_step {l : List Cd} {i : Nat} (hi : i < l.length) : ids (l.take i) ++ [(l.getD i zC).id] = ids (l.take (i + 1)) := by
  rw [take_at zC l i hi]
  simp [ids]
/-- Whom it misses. -/
theorem out_ask {s : Nat} {fr : List Nat} {l : List Cd} {half : Int} (hf : All fr) (hl : ∀ c ∈ l, c.ok) : out (lin (kc 0) s fr) (want s (allC fr l) half) = askI s fr l half := by
  unfold out askI
  refine List.filter_congr fun x hx => ?_
  have hxs := ((want_mem (all_all hf hl) half x).1 hx).1.2
  congr 1
  rw [Bool.eq_iff_iff, decide_eq_true_eq, lin_mem (kc_inj top_0i) hf, List.contains_iff_mem]
  exact ⟨fun h => h.1, fun h => ⟨h, hxs⟩⟩
theorem lin_lt {s : Nat} {fr : List Nat} (hf : All fr) : (lin (kc 0) s fr).Pairwise (· < ·) := by
  have h := lin_ris (wo := s) (kc_inj top_0i) hf
  have ha : All (lin (kc 0) s fr) := fun x hx => hf x ((lin_mem (kc_inj top_0i) hf x).1 hx).1
  exact List.Pairwise.imp_of_mem (fun {a b} ha' hb' h => by rwa [kc_0 (ha a ha'), kc_0 (ha b hb')] at h) h
theorem ask_lt {s : Nat} {fr : List Nat} {l : List Cd} {half : Int} (hf : All fr) (hl : ∀ c ∈ l, c.ok) : (askI s fr l half).Pairwise (· < ·) := by
  have h := askI_ris (s := s) (half := half) hf hl
  have ha : All (askI s fr l half) := fun x hx => want_all (all_all hf hl) half x (askI_mem hf hl hx).1
  exact List.Pairwise.imp_of_mem (fun {a b} ha' hb' h => by rwa [kc_0 (ha a ha'), kc_0 (ha b hb')] at h) h
theorem ask_len {s : Nat} {fr : List Nat} {l : List Cd} {half : Int} : (askI s fr l half).length ≤ fr.length + l.length := by
  unfold askI
  refine Nat.le_trans (List.length_filter_le _ _) (Nat.le_trans (want_len _ _ _) ?_)
  simp [allC, ids]
set_option maxRecDepth 100000 in
set_option maxHeartbeats 4000000 in
theorem known_any (w : World) (fo : Option Addr) (fc : Nat) (fr : List Nat) (HF : RK kI w fo fc fr) (hf : fr.length ≤ 100) (ao : Option Addr) (cap : Nat) (l : List Cd) (HC : RK kC w ao cap l) (hl : l.length ≤ 100) : Calls Try.prog 34 #[.slice fo fr.length fc, .slice ao l.length cap] w (RowK kI 23 w (allC fr l)) := by
  refine s_enter Try.func34 rfl Try.ntmps34 [.slice fo fr.length fc, .slice ao l.length cap] [.slice fo fr.length fc, .slice ao l.length cap, undef, undef, undef, undef, undef, undef, undef, undef, undef, undef, undef, undef, undef, undef, undef, undef, undef, undef, undef, undef, undef, undef, undef, undef, undef, undef, undef, undef] rfl ?_
  have GG := Gro.refl w
  refine wp_seq ?_
  refine wp_region_lit ?_
  refine s_val 4 rfl rfl (.slice none 0 0) (rfl) ?_
  refine nr ?_; intro U h; simp only [z0, z1] at h; subst h
  refine wpList_nil ?_
  refine then_n ?_
  refine wp_seq ?_
  refine wp_region_lit ?_
  refine s_val 8 rfl rfl (.slice fo fr.length fc) (rfl) ?_
  refine nr ?_; intro U h; simp only [z0, z1] at h; subst h
  refine s_val 9 rfl rfl (.int .i64 ((fr.length : Nat) : Int)) (run_len Try.underlying24 _ rfl _ _ _ rfl _) ?_
  refine nr ?_; intro U h; simp only [z0, z1] at h; subst h
  refine s_val 10 rfl rfl (.slice ao l.length cap) (rfl) ?_
  refine nr ?_; intro U h; simp only [z0, z1] at h; subst h
  refine s_val 11 rfl rfl (.int .i64 ((l.length : Nat) : Int)) (run_len Try.underlying25 _ rfl _ _ _ rfl _) ?_
  refine nr ?_; intro U h; simp only [z0, z1] at h; subst h
  refine s_val 12 rfl rfl (.int .i64 ((fr.length + l.length : Nat) : Int)) (run_addI 3 _ _ _ rfl ((fr.length : Nat) : Int) ((l.length : Nat) : Int) ((fr.length + l.length : Nat) : Int) rfl rfl (by omega) (by omega) (by omega) _) ?_
  refine nr ?_; intro U h; simp only [z0, z1] at h; subst h
  refine s_mkE (K := kI) (B := w.heap.size) rIk rfl 13 rfl rfl _ _ rfl (fr.length + l.length) rfl rfl (by omega) (by decide) GG.size ?_
  intro w1 gm G _ HO
  replace GG := GG.trans G
  clear G
  refine nr ?_; intro U h; simp only [z0, z1] at h; subst h
  refine s_val 5 rfl rfl (.slice (some ⟨gm, 0, none⟩) 0 (fr.length + l.length)) (rfl) ?_
  refine nr ?_; intro U h; simp only [z0, z1] at h; subst h
  refine wpList_nil ?_
  refine then_n ?_
  refine wp_seq ?_
  refine wp_region_lit ?_
  refine s_val 14 rfl rfl (.slice (some ⟨gm, 0, none⟩) 0 (fr.length + l.length)) (rfl) ?_
  refine nr ?_; intro U h; simp only [z0, z1] at h; subst h
  refine s_val 15 rfl rfl (.slice fo fr.length fc) (rfl) ?_
  refine nr ?_; intro U h; simp only [z0, z1] at h; subst h
  refine s_appK rIk (by decide) 16 rfl rfl _ _ rfl rfl HO rfl (HF.gro GG) (by simp; omega) GG.size ?_
  intro no0 nc0 w2 HO2 G2 _
  replace GG := G2.gro GG (fun k hk => HO.own.base k hk)
  clear G2 HO
  have HO := HO2
  clear HO2
  simp only [List.nil_append] at HO ⊢
  refine nr ?_; intro U h; simp only [z0, z1] at h; subst h
  refine s_val 5 rfl rfl (.slice no0 fr.length nc0) (rfl) ?_
  refine nr ?_; intro U h; simp only [z0, z1] at h; subst h
  refine wpList_nil ?_
  refine then_n ?_
  refine wp_seq ?_
  refine wp_seq ?_
  refine wp_region_lit ?_
  refine s_val 17 rfl rfl (.slice ao l.length cap) (rfl) ?_
  refine nr ?_; intro U h; simp only [z0, z1] at h; subst h
  refine s_val 18 rfl rfl (.int .i64 ((l.length : Nat) : Int)) (run_len Try.underlying25 _ rfl _ _ _ rfl _) ?_
  refine nr ?_; intro U h; simp only [z0, z1] at h; subst h
  refine s_val 19 rfl rfl (.int .i64 0) (rfl) ?_
  refine nr ?_; intro U h; simp only [z0, z1] at h; subst h
  refine wpList_nil ?_
  refine then_n ?_
  refine wp_block ?_
  refine wp_loopN (fun mz az wv => ∃ (i : Nat) (no : Option Addr) (nc : Nat) (us1 : Nat → Value), mz = l.length + 1 - i ∧ az = ⟨[.slice fo fr.length fc, .slice ao l.length cap, undef, undef, .slice none 0 0, .slice no (fr.length + i) nc, undef, us1 0, .slice fo fr.length fc, .int .i64 ((fr.length : Nat) : Int), .slice ao l.length cap, .int .i64 ((l.length : Nat) : Int), .int .i64 ((fr.length + l.length : Nat) : Int), .slice (some ⟨gm, 0, none⟩) 0 (fr.length + l.length), .slice (some ⟨gm, 0, none⟩) 0 (fr.length + l.length), .slice fo fr.length fc, .slice no0 fr.length nc0, .slice ao l.length cap, .int .i64 ((l.length : Nat) : Int), .int .i64 ((i : Nat) : Int), us1 1, us1 2, us1 3, us1 4, us1 5, us1 6, us1 7, us1 8, us1 9, undef].toArray, []⟩ ∧ i ≤ l.length ∧ Gro w wv ∧ OW kI 23 wv w.heap.size no nc (fr ++ ids (l.take i))) ?_ _ ⟨0, no0, nc0, (fun kz => ([undef, undef, undef, undef, undef, undef, undef, undef, undef, undef] : List Value).getD kz undef), rfl, rfl, Nat.zero_le _, GG, by simp only [List.take_zero, ids, List.map_nil, List.append_nil]; exact HO⟩
  clear GG HO
  rintro mz az wv ⟨i, no, nc, us1, rfl, rfl, hi, GG, HO⟩
  refine wp_seq ?_
  refine wp_region_lit ?_
  cases hi1 : decide (((i : Nat) : Int) < ((l.length : Nat) : Int))
  · have hie : i = l.length := by have := of_decide_eq_false hi1; omega
    refine s_val 20 rfl rfl (.bool false) (run_lssT 3 _ _ _ rfl ((i : Nat) : Int) ((l.length : Nat) : Int) rfl rfl false hi1 _) ?_
    refine nr ?_; intro U h; simp only [z0, z1] at h; subst h
    refine wpList_nil ?_
    refine then_n ?_
    refine wp_seq ?_
    refine wp_cond_false rfl ?_
    refine wp_exit ?_
    refine then_x ?_
    refine then_x ?_
    refine blk_x ?_
    refine then_n ?_
    refine wp_seq ?_
    refine wp_region_lit ?_
    refine s_val 29 rfl rfl (.slice no (fr.length + i) nc) (rfl) ?_
    refine nr ?_; intro U h; simp only [z0, z1] at h; subst h
    refine s_val 4 rfl rfl (.slice no (fr.length + i) nc) (rfl) ?_
    refine nr ?_; intro U h; simp only [z0, z1] at h; subst h
    refine wpList_nil ?_
    refine then_n ?_
    refine wp_ret ?_
    refine bodyPost_ret (results_tmp Try.results34 _ _ _) rfl ?_
    rw [hie, List.take_length] at HO
    exact ⟨no, nc, by rw [hie, show (allC fr l).length = fr.length + l.length by simp [allC, ids]]; rfl, GG, HO⟩
  · have hil : i < l.length := by have := of_decide_eq_true hi1; omega
    refine s_val 20 rfl rfl (.bool true) (run_lssT 3 _ _ _ rfl ((i : Nat) : Int) ((l.length : Nat) : Int) rfl rfl true hi1 _) ?_
    refine nr ?_; intro U h; simp only [z0, z1] at h; subst h
    refine wpList_nil ?_
    refine then_n ?_
    refine wp_seq ?_
    refine wp_cond_true rfl ?_
    refine wp_skip ?_
    refine then_n ?_
    refine wp_seq ?_
    refine wp_block ?_
    refine wp_seq ?_
    refine wp_region_lit ?_
    refine s_val 21 rfl rfl (.pointer (pK kC ao i 0)) (run_ixK rC (HC.gro GG) _ _ rfl rfl i rfl (by omega)) ?_
    refine nr ?_; intro U h; simp only [z0, z1] at h; subst h
    refine s_val 22 rfl rfl (.agg (cdA (l.getD i zC))) (run_ldKC (HC.gro GG) _ rfl i rfl (by omega)) ?_
    refine nr ?_; intro U h; simp only [z0, z1] at h; subst h
    refine s_alloc 7 rfl rfl 33 rfl _ zeroC (cdA zC) rfl ?_
    intro w3 g1 G eg1 kg1
    have bg1 := size_base GG eg1
    have dHOg1 := HO.ne eg1
    replace HO := HO.gro G
    replace GG := GG.trans G
    clear G
    clear eg1
    refine nr ?_; intro U h; simp only [z0, z1] at h; subst h
    refine s_store rfl rfl 33 _ _ rfl g1 0 rfl (.agg (cdA (l.getD i zC))) rfl 33 _ kg1 (cdA (l.getD i zC)) rfl (siC' _) (cdA_fit _ _) (cdA_one _) (cdA (l.getD i zC)) (splice_whole _ _ (cdA_sz _ _)) ?_
    intro w4 St
    have kS := kg1
    replace HO := HO.st St dHOg1
    replace GG := GG.store St bg1
    replace kg1 := St.new
    clear St
    refine wpList_nil ?_
    refine then_n ?_
    refine wp_region_lit ?_
    refine s_val 23 rfl rfl (.slice no (fr.length + i) nc) (rfl) ?_
    refine nr ?_; intro U h; simp only [z0, z1] at h; subst h
    refine s_val 24 rfl rfl (.pointer (some ⟨g1, 0, none⟩)) (run_fld 33 _ 0 rfl g1 0 rfl 0 (by kernel_rfl)) ?_
    refine nr ?_; intro U h; simp only [z0, z1] at h; subst h
    refine s_val 25 rfl rfl (.agg (idA (l.getD i zC).id)) (ldCi _ rfl g1 rfl (kg1)) ?_
    refine nr ?_; intro U h; simp only [z0, z1] at h; subst h
    refine s_bsl 26 rfl rfl 24 1 _ rfl [(0, .agg (idA (l.getD i zC).id))] rfl ([(l.getD i zC).id].flatMap kI.E).toArray 23 (bsI (l.getD i zC).id _) ?_
    intro w5 q1 G eq1 kq1
    have bq1 := size_base GG eq1
    replace kg1 := G.has kg1
    replace HO := HO.gro G
    replace GG := GG.trans G
    clear G
    have HR1 : RK kI _ (some ⟨q1, 0, none⟩) 1 [(l.getD i zC).id] := RK.blk kq1 (one_all (atC HC (by omega)).id) (Nat.le_refl _)
    clear eq1
    refine nr ?_; intro U h; simp only [z0, z1] at h; subst h
    have hAC : (fr ++ ids (l.take i)).length = fr.length + i := by rw [List.length_append, ids, List.length_map, List.length_take]; omega
    have hAC2 : ((fr ++ ids (l.take i)) ++ [(l.getD i zC).id]).length = fr.length + (i + 1) := by rw [List.length_append, hAC]; rfl
    refine s_appK rIk (by decide) 27 rfl rfl _ _ rfl (by rw [hAC]; rfl) HO rfl HR1 (by rw [hAC]; simp; omega) GG.size ?_
    intro no2 nc2 w6 HO2 G2 _
    replace GG := G2.gro GG (fun k hk => HO.own.base k hk)
    clear G2 HO
    have HO := HO2
    clear HO2
    clear kg1
    refine nr ?_; intro U h; simp only [z0, z1] at h; subst h
    refine s_val 5 rfl rfl (.slice no2 ((fr ++ ids (l.take i)) ++ [(l.getD i zC).id]).length nc2) (rfl) ?_
    refine nr ?_; intro U h; simp only [z0, z1] at h; subst h
    refine wpList_nil ?_
    refine blk_n ?_
    refine then_n ?_
    refine wp_region_lit ?_
    refine s_val 28 rfl rfl (.int .i64 ((i + 1 : Nat) : Int)) (run_addI 3 _ _ _ rfl ((i : Nat) : Int) 1 ((i + 1 : Nat) : Int) rfl rfl (by omega) (by omega) (by omega) _) ?_
    refine nr ?_; intro U h; simp only [z0, z1] at h; subst h
    refine s_val 19 rfl rfl (.int .i64 ((i + 1 : Nat) : Int)) (rfl) ?_
    refine nr ?_; intro U h; simp only [z0, z1] at h; subst h
    refine wpList_nil ?_
    refine then_n ?_
    exact ⟨l.length + 1 - (i + 1), by omega, i + 1, no2, nc2, (fun kz => ([.pointer (some ⟨g1, 0, none⟩), .bool true, .pointer (pK kC ao i 0), .agg (cdA (l.getD i zC)), .slice no (fr.length + i) nc, .pointer (some ⟨g1, 0, none⟩), .agg (idA (l.getD i zC).id), .slice (some ⟨q1, 0, none⟩) 1 1, .slice no2 ((fr ++ ids (l.take i)) ++ [(l.getD i zC).id]).length nc2, .int .i64 ((i + 1 : Nat) : Int)] : List Value).getD kz undef), rfl, by rw [hAC2]; rfl, by omega, GG, by rw [← ids_step hil, ← List.append_assoc]; exact HO⟩
set_option maxRecDepth 100000 in
set_option maxHeartbeats 4000000 in
theorem missing_any (w : World) (s : Nat) (hs : s < top) (half : Int) (fo : Option Addr) (fc : Nat) (fr : List Nat) (HF : RK kI w fo fc fr) (hf : fr.length ≤ 100) (ao : Option Addr) (cap : Nat) (l : List Cd) (HC : RK kC w ao cap l) (hl : l.length ≤ 100) : Calls Try.prog 18 #[.agg (idA s), .slice fo fr.length fc, .slice ao l.length cap, .int .i64 half] w (RowR kI w (askI s fr l half)) := by
  refine s_enter Try.func18 rfl Try.ntmps18 [.agg (idA s), .slice fo fr.length fc, .slice ao l.length cap, .int .i64 half] [.agg (idA s), .slice fo fr.length fc, .slice ao l.length cap, .int .i64 half, undef, undef, undef, undef, undef, undef, undef, undef, undef, undef, undef, undef, undef, undef, undef, undef, undef, undef, undef] rfl ?_
  have GG := Gro.refl w
  refine wp_seq ?_
  refine wp_region_lit ?_
  refine s_box 4 rfl rfl 23 _ rfl _ rfl (idA s) rfl ?_
  intro w1 g1 G eg1 kg1
  have bg1 := size_base GG eg1
  replace GG := GG.trans G
  clear G
  clear eg1
  refine nr ?_; intro U h; simp only [z0, z1] at h; subst h
  refine s_val 8 rfl rfl (.slice none 0 0) (rfl) ?_
  refine nr ?_; intro U h; simp only [z0, z1] at h; subst h
  refine wpList_nil ?_
  refine then_n ?_
  refine wp_seq ?_
  refine wp_region_lit ?_
  refine s_val 11 rfl rfl (.agg (idA s)) (ldI0 _ rfl g1 rfl (kg1)) ?_
  refine nr ?_; intro U h; simp only [z0, z1] at h; subst h
  refine s_val 12 rfl rfl (.slice fo fr.length fc) (rfl) ?_
  refine nr ?_; intro U h; simp only [z0, z1] at h; subst h
  refine s_callx 13 rfl rfl _ 32 Try.call32 rfl rfl _ rfl [.agg (idA s), .slice fo fr.length fc] rfl (sortedK _ fo fc fr (HF.gro GG) (by omega) s hs) (by rintro _ _ ⟨_, _, he, _⟩; exact ⟨_, he⟩) ?_
  rintro v w2 ⟨mo, mc, he, G, HM⟩
  cases he
  replace kg1 := G.has kg1
  replace GG := GG.trans G
  clear G
  refine nr ?_; intro U h; simp only [z0, z1] at h; subst h
  refine s_alloc 9 rfl rfl 24 rfl _ zero24 #[.slice none 0 0] rfl ?_
  intro w3 h G eh kh
  have bh := size_base GG eh
  have dg1h := lt_new kg1 eh
  have dHMh := HM.ne eh
  replace kg1 := G.has kg1
  replace HM := HM.gro G
  replace GG := GG.trans G
  clear G
  clear eh
  refine nr ?_; intro U h; simp only [z0, z1] at h; subst h
  refine s_store rfl rfl 24 _ _ rfl h 0 rfl (.slice mo (lin (kc 0) s fr).length mc) rfl 24 _ kh #[.slice mo (lin (kc 0) s fr).length mc] rfl si24 (Nat.le_refl _) (sl_one _ _ _) #[.slice mo (lin (kc 0) s fr).length mc] (splice_whole _ _ rfl) ?_
  intro w4 St
  have kS := kh
  replace kg1 := St.has (by omega) kg1
  replace HM := HM.st St dHMh
  replace GG := GG.store St bh
  replace kh := St.new
  clear St
  refine wpList_nil ?_
  refine then_n ?_
  refine wp_seq ?_
  refine wp_region_exA (A := ?Ax1) 5 [(0, 14), (1, 15), (2, 16), (3, 17), (4, 18)] [.val (.agg (idA s)), .val (.slice fo fr.length fc), .val (.slice ao l.length cap), rowK kI (allC fr l), .val (.int .i64 half)] follows (by kernel_rfl) rfl ?hAx1 (opsA_cons ?o0x1 (opsA_cons ?o1x1 (opsA_cons ?o2x1 (opsA_cons ?o3x1 (opsA_cons ?o4x1 opsA_nil))))) ?restx1
  case hAx1 =>
    intro ptrs
    simp only [full, foldSlots, filledE, postE, List.foldl_cons, List.foldl_nil, List.getD_cons_zero, List.getD_cons_succ, fill_val, fill_rowK, List.set_cons_zero, List.set_cons_succ]
    exact rfl
  case o0x1 => exact fun _ _ hw _ => opE_value (v := .agg (idA s)) rfl (ldI0 _ rfl g1 rfl (hw.has kg1))
  case o1x1 => exact fun _ _ _ _ => opE_move (v := .slice fo fr.length fc) _ rfl rfl rfl
  case o2x1 => exact fun _ _ _ _ => opE_move (v := .slice ao l.length cap) _ rfl rfl rfl
  case o3x1 =>
    intro ptrs w' hw hE
    exact opE_call (rowK kI (allC fr l)) rfl _ 34 Try.call34 rfl rfl _ rfl [.slice fo fr.length fc, .slice ao l.length cap] rfl ((known_any _ fo fc fr (HF.gro (GG.drew.trans hw)) hf ao cap l (HC.gro (GG.drew.trans hw)) hl).mono fun e w' ⟨ao, cap, he, hg, hr⟩ => ⟨_, he, hg, ao, cap, rfl, hr.re⟩)
  case o4x1 => exact fun _ _ _ _ => opE_move (v := .int .i64 half) _ rfl rfl rfl
  intro ptrs w5 GD hxE
  simp only [List.drop_succ_cons, List.drop_zero]
  replace kg1 := GD.has kg1
  replace kh := GD.has kh
  replace HM := HM.gro ((Gro.refl _).drew.trans GD)
  replace GG := GG.drew.trans GD
  obtain ⟨⟨ao1, cap1, hx1, HR1⟩, _⟩ := hxE
  simp only [hx1]
  clear hx1
  clear GD
  refine s_callx 19 rfl rfl _ 33 Try.call33 rfl rfl _ rfl [.agg (idA s), .slice ao1 (allC fr l).length cap1, .int .i64 half] rfl (wantK _ _ _ (allC fr l) HR1 (by simp [allC, ids]; omega) s hs half) (by rintro _ _ ⟨_, _, he, _⟩; exact ⟨_, he⟩) ?_
  have hhB := lt_of_heap kh
  have hMB := HM.lt
  have hsB := GG.size
  rintro v w6 ⟨wo, wc, he, G, HO⟩
  cases he
  replace kg1 := G.has kg1
  replace kh := G.has kh
  replace HM := HM.gro G
  replace GG := GG.trans G
  have CM : CloM _ _ h (lin (kc 0) s fr) := ⟨mo, mc, hhB, G.size, hMB, kh, HM⟩
  clear G
  refine nr ?_; intro U h; simp only [z0, z1] at h; subst h
  refine s_val 10 rfl rfl (.slice wo (want s (allC fr l) half).length wc) (rfl) ?_
  refine nr ?_; intro U h; simp only [z0, z1] at h; subst h
  refine wpList_nil ?_
  refine then_n ?_
  refine wp_seq ?_
  refine wp_region_lit ?_
  refine s_val 20 rfl rfl (.slice wo (want s (allC fr l) half).length wc) (rfl) ?_
  refine nr ?_; intro U h; simp only [z0, z1] at h; subst h
  refine s_val 21 rfl rfl (.func (.func 36) #[] #[.pointer (some ⟨h, 0, none⟩)]) (run_mkF 36 _ rfl _ rfl) ?_
  refine nr ?_; intro U h; simp only [z0, z1] at h; subst h
  refine s_callx 22 rfl rfl _ 35 Try.call35 rfl rfl _ rfl [.slice wo (want s (allC fr l) half).length wc, .func (.func 36) #[] #[.pointer (some ⟨h, 0, none⟩)]] rfl (deleteM_any _ _ wo wc (want s (allC fr l) half) HO (Nat.le_trans (want_len _ _ _) (by simp [allC, ids]; omega)) h (lin (kc 0) s fr) CM (Nat.le_trans (lin_len _ _ _) (by omega)) (lin_lt HF.all)) (by rintro _ _ ⟨he, _⟩; exact ⟨_, he⟩) ?_
  rintro v w7 ⟨he, G2, HO2⟩
  cases he
  replace GG := G2.gro GG (fun k hk => Nat.le_trans hsB (HO.own.base k hk))
  refine nr ?_; intro U h; simp only [z0, z1] at h; subst h
  refine s_val 8 rfl rfl (.slice wo (out (lin (kc 0) s fr) (want s (allC fr l) half)).length wc) (rfl) ?_
  refine nr ?_; intro U h; simp only [z0, z1] at h; subst h
  refine wpList_nil ?_
  refine then_n ?_
  refine wp_ret ?_
  refine bodyPost_ret (results_tmp Try.results18 _ _ _) rfl ?_
  rw [out_ask HF.all HC.all] at HO2
  exact ⟨wo, wc, by rw [out_ask HF.all HC.all]; rfl, GG, HO2.re⟩
set_option maxRecDepth 100000 in
set_option maxHeartbeats 4000000 in
theorem inTurn_any (w : World) (q : Nat) (kq : w.heap[q]? = some (.cells ordV 49 (0, 0))) : Calls Try.prog 21 #[.slice (some ⟨q, 0, none⟩) 3 3] w (fun e w' => ∃ c, e = .returned (.func (.func 40) #[] #[.pointer (some ⟨c, 0, none⟩)]) ∧ Gro w w' ∧ CloC w' c) := by
  refine s_enter Try.func21 rfl Try.ntmps21 [.slice (some ⟨q, 0, none⟩) 3 3] [.slice (some ⟨q, 0, none⟩) 3 3, undef, undef, undef] rfl ?_
  have GG := Gro.refl w
  refine wp_seq ?_
  refine wp_region_lit ?_
  refine s_box 1 rfl rfl 68 _ rfl _ rfl #[.slice (some ⟨q, 0, none⟩) 3 3] rfl ?_
  intro w1 c G ec kc
  have bc := size_base GG ec
  replace GG := GG.trans G
  clear G
  clear ec
  refine nr ?_; intro U h; simp only [z0, z1] at h; subst h
  refine s_val 2 rfl rfl (.nilFunc) (rfl) ?_
  refine nr ?_; intro U h; simp only [z0, z1] at h; subst h
  refine wpList_nil ?_
  refine then_n ?_
  refine wp_seq ?_
  refine wp_region_lit ?_
  refine s_val 3 rfl rfl (.func (.func 40) #[] #[.pointer (some ⟨c, 0, none⟩)]) (run_mkF 40 _ rfl _ rfl) ?_
  refine nr ?_; intro U h; simp only [z0, z1] at h; subst h
  refine s_val 2 rfl rfl (.func (.func 40) #[] #[.pointer (some ⟨c, 0, none⟩)]) (rfl) ?_
  refine nr ?_; intro U h; simp only [z0, z1] at h; subst h
  refine wpList_nil ?_
  refine then_n ?_
  refine wp_ret ?_
  refine bodyPost_ret (results_tmp Try.results21 _ _ _) rfl ?_
  exact ⟨c, rfl, GG, q, kc, GG.has kq⟩
theorem bsF (w : World) : (Instr.buildSlice 68 3 #[(0, .func (.func 22) #[] #[]), (1, .func (.func 23) #[] #[]), (2, .func (.func 24) #[] #[])]).run Try.prog w = .ok (.slice (some ⟨w.heap.size, 0, none⟩) 3 3) (w.alloc (.cells ordV 49)) := by kernel_rfl
def pik (M : List Nat) (l : List Cd) : List Cd := l.filter fun c => decide (c.id ∈ M)
theorem pik_step (M : List Nat) (l : List Cd) (j : Nat) (hj : j < l.length) : pik M (l.take (j + 1)) = pik M (l.take j) ++ if (l.getD j zC).id ∈ M then [l.getD j zC] else [] := by
  unfold pik
  rw [take_at zC l j hj, List.filter_append]
  congr 1
  by_cases h : (l.getD j zC).id ∈ M
  · rw [if_pos h, List.filter_cons, decide_eq_true h]; rfl
  · rw [if_neg h, List.filter_cons, decide_eq_false h]; rfl
theorem pik_len (M : List Nat) (l : List Cd) (j : Nat) : (pik M (l.take j)).length ≤ l.length := Nat.le_trans (List.length_filter_le _ _) (by rw [List.length_take]; omega)
set_option maxRecDepth 100000 in
set_option maxHeartbeats 4000000 in
theorem asks_any (w : World) (s : Nat) (hs : s < top) (half : Int) (fo : Option Addr) (fc : Nat) (fr : List Nat) (HF : RK kI w fo fc fr) (hf : fr.length ≤ 100) (ao : Option Addr) (cap : Nat) (l : List Cd) (HC : RK kC w ao cap l) (hl : l.length ≤ 40) : Calls Try.prog 11 #[.agg (idA s), .slice fo fr.length fc, .slice ao l.length cap, .int .i64 half] w (RowK kC 33 w (askC s fr l half)) := by
  refine s_enter Try.func11 rfl Try.ntmps11 [.agg (idA s), .slice fo fr.length fc, .slice ao l.length cap, .int .i64 half] [.agg (idA s), .slice fo fr.length fc, .slice ao l.length cap, .int .i64 half, undef, undef, undef, undef, undef, undef, undef, undef, undef, undef, undef, undef, undef, undef, undef, undef, undef, undef, undef, undef, undef, undef, undef, undef, undef, undef, undef, undef, undef, undef, undef, undef, undef, undef, undef] rfl ?_
  have GG := Gro.refl w
  refine wp_seq ?_
  refine wp_region_lit ?_
  refine s_box 4 rfl rfl 23 _ rfl _ rfl (idA s) rfl ?_
  intro w1 g1 G eg1 kg1
  have bg1 := size_base GG eg1
  replace GG := GG.trans G
  clear G
  clear eg1
  refine nr ?_; intro U h; simp only [z0, z1] at h; subst h
  refine s_val 8 rfl rfl (.slice none 0 0) (rfl) ?_
  refine nr ?_; intro U h; simp only [z0, z1] at h; subst h
  refine wpList_nil ?_
  refine then_n ?_
  refine wp_seq ?_
  refine wp_region_lit ?_
  refine s_val 13 rfl rfl (.agg (idA s)) (ldI0 _ rfl g1 rfl (kg1)) ?_
  refine nr ?_; intro U h; simp only [z0, z1] at h; subst h
  refine s_val 14 rfl rfl (.slice fo fr.length fc) (rfl) ?_
  refine nr ?_; intro U h; simp only [z0, z1] at h; subst h
  refine s_val 15 rfl rfl (.slice ao l.length cap) (rfl) ?_
  refine nr ?_; intro U h; simp only [z0, z1] at h; subst h
  refine s_val 16 rfl rfl (.int .i64 half) (rfl) ?_
  refine nr ?_; intro U h; simp only [z0, z1] at h; subst h
  refine s_callx 17 rfl rfl _ 18 Try.call18 rfl rfl _ rfl [.agg (idA s), .slice fo fr.length fc, .slice ao l.length cap, .int .i64 half] rfl (missing_any _ s hs half fo fc fr (HF.gro GG) hf ao cap l (HC.gro GG) (by omega)) (by rintro _ _ ⟨_, _, he, _⟩; exact ⟨_, he⟩) ?_
  rintro v w2 ⟨mo, mc, he, G, HM⟩
  cases he
  replace kg1 := G.has kg1
  replace GG := GG.trans G
  clear G
  refine nr ?_; intro U h; simp only [z0, z1] at h; subst h
  refine s_val 9 rfl rfl (.slice mo (askI s fr l half).length mc) (rfl) ?_
  refine nr ?_; intro U h; simp only [z0, z1] at h; subst h
  refine wpList_nil ?_
  refine then_n ?_
  refine wp_seq ?_
  refine wp_region_lit ?_
  refine s_val 10 rfl rfl (.slice none 0 0) (rfl) ?_
  refine nr ?_; intro U h; simp only [z0, z1] at h; subst h
  refine wpList_nil ?_
  refine then_n ?_
  refine wp_seq ?_
  refine wp_seq ?_
  refine wp_region_lit ?_
  refine s_val 18 rfl rfl (.slice ao l.length cap) (rfl) ?_
  refine nr ?_; intro U h; simp only [z0, z1] at h; subst h
  refine s_val 19 rfl rfl (.int .i64 ((l.length : Nat) : Int)) (run_len Try.underlying25 _ rfl _ _ _ rfl _) ?_
  refine nr ?_; intro U h; simp only [z0, z1] at h; subst h
  refine s_val 20 rfl rfl (.int .i64 0) (rfl) ?_
  refine nr ?_; intro U h; simp only [z0, z1] at h; subst h
  refine wpList_nil ?_
  refine then_n ?_
  refine wp_block ?_
  obtain ⟨B, hB⟩ : ∃ B, w2.heap.size = B := ⟨_, rfl⟩
  have hwB : w.heap.size ≤ B := hB ▸ GG.size
  have hMB : ∀ ad, mo = some ad → 0 < ((askI s fr l half).flatMap kI.E).length → ad.block < B := hB ▸ HM.lt
  refine wp_loopN (fun mz az wv => ∃ (i : Nat) (no : Option Addr) (nc : Nat) (us1 : Nat → Value), mz = l.length + 1 - i ∧ az = ⟨[.agg (idA s), .slice fo fr.length fc, .slice ao l.length cap, .int .i64 half, .pointer (some ⟨g1, 0, none⟩), undef, undef, undef, .slice none 0 0, .slice mo (askI s fr l half).length mc, .slice no (pik (askI s fr l half) (l.take i)).length nc, undef, us1 0, .agg (idA s), .slice fo fr.length fc, .slice ao l.length cap, .int .i64 half, .slice mo (askI s fr l half).length mc, .slice ao l.length cap, .int .i64 ((l.length : Nat) : Int), .int .i64 ((i : Nat) : Int), us1 1, us1 2, us1 3, us1 4, us1 5, us1 6, us1 7, us1 8, us1 9, us1 10, us1 11, us1 12, undef, undef, undef, undef, undef, undef].toArray, []⟩ ∧ i ≤ l.length ∧ Gro w wv ∧ B ≤ wv.heap.size ∧ RK kI wv mo mc (askI s fr l half) ∧ OW kC 33 wv B no nc (pik (askI s fr l half) (l.take i))) ?_ _ ⟨0, none, 0, (fun kz => ([undef, undef, undef, undef, undef, undef, undef, undef, undef, undef, undef, undef, undef] : List Value).getD kz undef), rfl, rfl, Nat.zero_le _, GG, Nat.le_of_eq hB.symm, HM, OW.nil _ _⟩
  clear GG HM
  rintro mz az wv ⟨i, no, nc, us1, rfl, rfl, hi, GG, hBw, HM, HO⟩
  refine wp_seq ?_
  refine wp_region_lit ?_
  cases hi1 : decide (((i : Nat) : Int) < ((l.length : Nat) : Int))
  · have hie : i = l.length := by have := of_decide_eq_false hi1; omega
    refine s_val 21 rfl rfl (.bool false) (run_lssT 3 _ _ _ rfl ((i : Nat) : Int) ((l.length : Nat) : Int) rfl rfl false hi1 _) ?_
    refine nr ?_; intro U h; simp only [z0, z1] at h; subst h
    refine wpList_nil ?_
    refine then_n ?_
    refine wp_seq ?_
    refine wp_cond_false rfl ?_
    refine wp_exit ?_
    refine then_x ?_
    refine then_x ?_
    refine blk_x ?_
    refine then_n ?_
    refine wp_seq ?_
    refine wp_region_lit ?_
    refine s_val 33 rfl rfl (.slice no (pik (askI s fr l half) (l.take i)).length nc) (rfl) ?_
    refine nr ?_; intro U h; simp only [z0, z1] at h; subst h
    rw [hie, List.take_length] at HO
    refine s_bsl 34 rfl rfl 68 3 _ rfl [(0, .func (.func 22) #[] #[]), (1, .func (.func 23) #[] #[]), (2, .func (.func 24) #[] #[])] rfl ordV 49 (bsF _) ?_
    intro w3 q G _ kq
    replace HM := HM.gro G
    replace HO := HO.gro G
    replace GG := GG.trans G
    clear G
    refine nr ?_; intro U h; simp only [z0, z1] at h; subst h
    refine s_callx 35 rfl rfl _ 21 Try.call21 rfl rfl _ rfl [.slice (some ⟨q, 0, none⟩) 3 3] rfl (inTurn_any _ q kq) (by rintro _ _ ⟨_, he, _⟩; exact ⟨_, he⟩) ?_
    rintro v w4 ⟨c, he, G, CK⟩
    cases he
    replace HM := HM.gro G
    replace HO := HO.gro G
    replace GG := GG.trans G
    clear G
    refine nr ?_; intro U h; simp only [z0, z1] at h; subst h
    refine s_callx 36 rfl rfl _ 20 Try.call20 rfl rfl _ rfl [.slice no (pik (askI s fr l half) (l.take i)).length nc, .func (.func 40) #[] #[.pointer (some ⟨c, 0, none⟩)]] rfl (by rw [hie, List.take_length]; exact sortStable_any _ B no nc (pik (askI s fr l half) l) c HO CK (by have := pik_len (askI s fr l half) l l.length; rw [List.take_length] at this; omega) (by have := pik_len (askI s fr l half) l l.length; rw [List.take_length] at this; omega)) (by rintro _ _ ⟨he, _⟩; exact ⟨_, he⟩) ?_
    rintro v w5 ⟨he, G2, HO2⟩
    cases he
    replace GG := G2.gro GG (fun k hk => Nat.le_trans hwB (HO.own.base k hk))
    clear G2 HO
    have HO := HO2
    clear HO2
    refine nr ?_; intro U h; simp only [z0, z1] at h; subst h
    refine wpList_nil ?_
    refine then_n ?_
    refine wp_seq ?_
    refine wp_region_lit ?_
    refine s_val 37 rfl rfl (.slice no (pik (askI s fr l half) (l.take i)).length nc) (rfl) ?_
    refine nr ?_; intro U h; simp only [z0, z1] at h; subst h
    have hsl : (pik (askI s fr l half) (l.take i)).length = (srt ltC (pik (askI s fr l half) l)).length := by rw [hie, List.take_length, srt_len]
    refine s_callx 38 rfl rfl _ 25 Try.call25 rfl rfl _ rfl [.slice no (pik (askI s fr l half) (l.take i)).length nc, .func (.func 26) #[] #[]] rfl (by rw [hsl]; exact compactF_any _ B no nc (srt ltC (pik (askI s fr l half) l)) HO (by rw [srt_len]; have := pik_len (askI s fr l half) l l.length; rw [List.take_length] at this; omega)) (by rintro _ _ ⟨he, _⟩; exact ⟨_, he⟩) ?_
    rintro v w6 ⟨he, G2, HO2⟩
    cases he
    replace GG := G2.gro GG (fun k hk => Nat.le_trans hwB (HO.own.base k hk))
    refine nr ?_; intro U h; simp only [z0, z1] at h; subst h
    refine s_val 8 rfl rfl (.slice no (cpC (srt ltC (pik (askI s fr l half) l)) (srt ltC (pik (askI s fr l half) l)).length).length nc) (rfl) ?_
    refine nr ?_; intro U h; simp only [z0, z1] at h; subst h
    refine wpList_nil ?_
    refine then_n ?_
    refine wp_ret ?_
    refine bodyPost_ret (results_tmp Try.results11 _ _ _) rfl ?_
    have hfin : cpC (srt ltC (pik (askI s fr l half) l)) (srt ltC (pik (askI s fr l half) l)).length = askC s fr l half := by rw [srt_len]; exact cp_ask HF.all HC.all
    rw [hfin] at HO2
    exact ⟨no, nc, by rw [hfin]; rfl, GG, HO2.mono hwB⟩
  · have hil : i < l.length := by have := of_decide_eq_true hi1; omega
    refine s_val 21 rfl rfl (.bool true) (run_lssT 3 _ _ _ rfl ((i : Nat) : Int) ((l.length : Nat) : Int) rfl rfl true hi1 _) ?_
    refine nr ?_; intro U h; simp only [z0, z1] at h; subst h
    refine wpList_nil ?_
    refine then_n ?_
    refine wp_seq ?_
    refine wp_cond_true rfl ?_
    refine wp_skip ?_
    refine then_n ?_
    refine wp_seq ?_
    refine wp_block ?_
    refine wp_seq ?_
    refine wp_region_lit ?_
    refine s_val 22 rfl rfl (.pointer (pK kC ao i 0)) (run_ixK rC (HC.gro GG) _ _ rfl rfl i rfl (by omega)) ?_
    refine nr ?_; intro U h; simp only [z0, z1] at h; subst h
    refine s_val 23 rfl rfl (.agg (cdA (l.getD i zC))) (run_ldKC (HC.gro GG) _ rfl i rfl (by omega)) ?_
    refine nr ?_; intro U h; simp only [z0, z1] at h; subst h
    refine s_alloc 12 rfl rfl 33 rfl _ zeroC (cdA zC) rfl ?_
    intro w3 g2 G eg2 kg2
    have bg2 := size_base GG eg2
    have dHMg2 := HM.ne eg2
    have dHOg2 := HO.ne eg2
    replace hBw := Nat.le_trans hBw G.size
    replace HM := HM.gro G
    replace HO := HO.gro G
    replace GG := GG.trans G
    clear G
    clear eg2
    refine nr ?_; intro U h; simp only [z0, z1] at h; subst h
    refine s_store rfl rfl 33 _ _ rfl g2 0 rfl (.agg (cdA (l.getD i zC))) rfl 33 _ kg2 (cdA (l.getD i zC)) rfl (siC' _) (cdA_fit _ _) (cdA_one _) (cdA (l.getD i zC)) (splice_whole _ _ (cdA_sz _ _)) ?_
    intro w4 St
    have kS := kg2
    replace HM := HM.st St dHMg2
    replace HO := HO.st St dHOg2
    replace GG := GG.store St bg2
    replace kg2 := St.new
    replace hBw := Nat.le_trans hBw (Nat.le_of_eq St.size.symm)
    clear St
    refine wpList_nil ?_
    refine then_n ?_
    refine wp_seq ?_
    cases hc : decide ((l.getD i zC).id ∈ (askI s fr l half))
    · refine wp_region_lit ?_
      refine s_val 24 rfl rfl (.slice mo (askI s fr l half).length mc) (rfl) ?_
      refine nr ?_; intro U h; simp only [z0, z1] at h; subst h
      refine s_val 25 rfl rfl (.pointer (some ⟨g2, 0, none⟩)) (run_fld 33 _ 0 rfl g2 0 rfl 0 (by kernel_rfl)) ?_
      refine nr ?_; intro U h; simp only [z0, z1] at h; subst h
      refine s_val 26 rfl rfl (.agg (idA (l.getD i zC).id)) (ldCi _ rfl g2 rfl (kg2)) ?_
      refine nr ?_; intro U h; simp only [z0, z1] at h; subst h
      refine s_callv 27 rfl rfl _ 19 Try.call19 rfl rfl _ rfl [.slice mo (askI s fr l half).length mc, .agg (idA (l.getD i zC).id)] rfl (Calls.bool (among_any _ mo mc (askI s fr l half) HM (Nat.le_trans ask_len (by omega)) (ask_lt HF.all HC.all) (l.getD i zC).id (atC HC (by omega)).id) hc) ?_
      intro w5 G
      replace hBw := Nat.le_trans hBw G.size
      replace kg2 := G.has kg2
      replace HM := HM.gro G
      replace HO := HO.gro G
      replace GG := GG.trans G
      clear G
      refine nr ?_; intro U h; simp only [z0, z1] at h; subst h
      refine wpList_nil ?_
      refine then_n ?_
      refine wp_cond_false rfl ?_
      refine wp_skip ?_
      refine blk_n ?_
      refine then_n ?_
      refine wp_region_lit ?_
      refine s_val 32 rfl rfl (.int .i64 ((i + 1 : Nat) : Int)) (run_addI 3 _ _ _ rfl ((i : Nat) : Int) 1 ((i + 1 : Nat) : Int) rfl rfl (by omega) (by omega) (by omega) _) ?_
      refine nr ?_; intro U h; simp only [z0, z1] at h; subst h
      refine s_val 20 rfl rfl (.int .i64 ((i + 1 : Nat) : Int)) (rfl) ?_
      refine nr ?_; intro U h; simp only [z0, z1] at h; subst h
      refine wpList_nil ?_
      refine then_n ?_
      exact ⟨l.length + 1 - (i + 1), by omega, i + 1, no, nc, (fun kz => ([.pointer (some ⟨g2, 0, none⟩), .bool true, .pointer (pK kC ao i 0), .agg (cdA (l.getD i zC)), .slice mo (askI s fr l half).length mc, .pointer (some ⟨g2, 0, none⟩), .agg (idA (l.getD i zC).id), .bool false, us1 8, us1 9, us1 10, us1 11, .int .i64 ((i + 1 : Nat) : Int)] : List Value).getD kz undef), rfl, by rw [pik_step _ l i hil, if_neg (of_decide_eq_false hc), List.append_nil]; rfl, by omega, GG, hBw, HM, by rw [pik_step _ l i hil, if_neg (of_decide_eq_false hc), List.append_nil]; exact HO⟩
    · refine wp_region_lit ?_
      refine s_val 24 rfl rfl (.slice mo (askI s fr l half).length mc) (rfl) ?_
      refine nr ?_; intro U h; simp only [z0, z1] at h; subst h
      refine s_val 25 rfl rfl (.pointer (some ⟨g2, 0, none⟩)) (run_fld 33 _ 0 rfl g2 0 rfl 0 (by kernel_rfl)) ?_
      refine nr ?_; intro U h; simp only [z0, z1] at h; subst h
      refine s_val 26 rfl rfl (.agg (idA (l.getD i zC).id)) (ldCi _ rfl g2 rfl (kg2)) ?_
      refine nr ?_; intro U h; simp only [z0, z1] at h; subst h
      refine s_callv 27 rfl rfl _ 19 Try.call19 rfl rfl _ rfl [.slice mo (askI s fr l half).length mc, .agg (idA (l.getD i zC).id)] rfl (Calls.bool (among_any _ mo mc (askI s fr l half) HM (Nat.le_trans ask_len (by omega)) (ask_lt HF.all HC.all) (l.getD i zC).id (atC HC (by omega)).id) hc) ?_
      intro w5 G
      replace hBw := Nat.le_trans hBw G.size
      replace kg2 := G.has kg2
      replace HM := HM.gro G
      replace HO := HO.gro G
      replace GG := GG.trans G
      clear G
      refine nr ?_; intro U h; simp only [z0, z1] at h; subst h
      refine wpList_nil ?_
      refine then_n ?_
      refine wp_cond_true rfl ?_
      refine wp_region_lit ?_
      refine s_val 28 rfl rfl (.slice no (pik (askI s fr l half) (l.take i)).length nc) (rfl) ?_
      refine nr ?_; intro U h; simp only [z0, z1] at h; subst h
      refine s_val 29 rfl rfl (.agg (cdA (l.getD i zC))) (ldC0 _ rfl g2 rfl (kg2)) ?_
      refine nr ?_; intro U h; simp only [z0, z1] at h; subst h
      refine s_bsl 30 rfl rfl 25 1 _ rfl [(0, .agg (cdA (l.getD i zC)))] rfl ([(l.getD i zC)].flatMap kC.E).toArray 33 (bsC (l.getD i zC) _) ?_
      intro w6 q1 G eq1 kq1
      have bq1 := size_base GG eq1
      replace hBw := Nat.le_trans hBw G.size
      replace kg2 := G.has kg2
      replace HM := HM.gro G
      replace HO := HO.gro G
      replace GG := GG.trans G
      clear G
      have HR1 : RK kC _ (some ⟨q1, 0, none⟩) 1 [(l.getD i zC)] := RK.blk kq1 (one_all (atC HC (by omega))) (Nat.le_refl _)
      clear eq1
      refine nr ?_; intro U h; simp only [z0, z1] at h; subst h
      refine s_appK rC (by decide) 31 rfl rfl _ _ rfl rfl HO rfl HR1 (by have := pik_len (askI s fr l half) l i; simp; omega) hBw ?_
      intro no2 nc2 w7 HO2 G2 _
      replace HM := HM.gros G2 (fun ad ha h0 hm => by have := HO.own.base _ hm; have := hMB ad ha h0; omega)
      replace GG := G2.gro GG (fun k hk => Nat.le_trans hwB (HO.own.base k hk))
      replace hBw := Nat.le_trans hBw G2.size
      clear G2 HO
      have HO := HO2
      clear HO2
      clear kg2
      refine nr ?_; intro U h; simp only [z0, z1] at h; subst h
      refine s_val 10 rfl rfl (.slice no2 ((pik (askI s fr l half) (l.take i)) ++ [(l.getD i zC)]).length nc2) (rfl) ?_
      refine nr ?_; intro U h; simp only [z0, z1] at h; subst h
      refine wpList_nil ?_
      refine blk_n ?_
      refine then_n ?_
      refine wp_region_lit ?_
      refine s_val 32 rfl rfl (.int .i64 ((i + 1 : Nat) : Int)) (run_addI 3 _ _ _ rfl ((i : Nat) : Int) 1 ((i + 1 : Nat) : Int) rfl rfl (by omega) (by omega) (by omega) _) ?_
      refine nr ?_; intro U h; simp only [z0, z1] at h; subst h
      refine s_val 20 rfl rfl (.int .i64 ((i + 1 : Nat) : Int)) (rfl) ?_
      refine nr ?_; intro U h; simp only [z0, z1] at h; subst h
      refine wpList_nil ?_
      refine then_n ?_
      exact ⟨l.length + 1 - (i + 1), by omega, i + 1, no2, nc2, (fun kz => ([.pointer (some ⟨g2, 0, none⟩), .bool true, .pointer (pK kC ao i 0), .agg (cdA (l.getD i zC)), .slice mo (askI s fr l half).length mc, .pointer (some ⟨g2, 0, none⟩), .agg (idA (l.getD i zC).id), .bool true, .slice no (pik (askI s fr l half) (l.take i)).length nc, .agg (cdA (l.getD i zC)), .slice (some ⟨q1, 0, none⟩) 1 1, .slice no2 ((pik (askI s fr l half) (l.take i)) ++ [(l.getD i zC)]).length nc2, .int .i64 ((i + 1 : Nat) : Int)] : List Value).getD kz undef), rfl, by rw [pik_step _ l i hil, if_pos (of_decide_eq_true hc)]; rfl, by omega, GG, hBw, HM, by rw [pik_step _ l i hil, if_pos (of_decide_eq_true hc)]; exact HO⟩
end Go.Proofs.Ytfabgonoonanfaa
