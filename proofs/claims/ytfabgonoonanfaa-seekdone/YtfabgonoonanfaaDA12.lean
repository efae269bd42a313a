/- The law that all who are wanted are friends or asked for, and that then nobody is asked for. -/
import Derived.Test.YtfabgonoonanfaaDA10
namespace Go.Proofs.Ytfabgonoonanfaa
open Go.RowKit
set_option maxRecDepth 100000 in
set_option maxHeartbeats 4000000 in
theorem seekDone_any (w : World) (s : Nat) (hs : s < top) (fo : Option Addr) (fc : Nat) (fr : List Nat) (HF : RK kI w fo fc fr) (ao : Option Addr) (cap : Nat) (l : List Cd) (HC : RK kC w ao cap l) (half : Int) : Calls Try.prog 5 #[.agg (knA s fo fr.length fc ao l.length cap half)] w (fun e w' => e = .returned (.bool true) ∧ Gro w w') := by
  refine s_enter Try.func5 rfl Try.ntmps5 [.agg (knA s fo fr.length fc ao l.length cap half)] [.agg (knA s fo fr.length fc ao l.length cap half), undef, undef, undef, undef, undef, undef, undef, undef, undef, undef, undef, undef, undef, undef, undef, undef, undef, undef, undef, undef, undef, undef, undef, undef, undef, undef, undef, undef, undef, undef, undef, undef, undef, undef, undef, undef, undef, undef, undef, undef, undef, undef, undef, undef, undef, undef, undef, undef, undef, undef, undef, undef, undef, undef, undef, undef, undef, undef, undef, undef, undef, undef, undef, undef, undef, undef, undef, undef, undef, undef, undef, undef, undef, undef, undef, undef, undef, undef, undef, undef, undef, undef] rfl ?_
  have GG := Gro.refl w
  have HF3 := HF.take 30
  have HC4 := HC.take 40
  have hf3 : (fr.take 30).length ≤ 30 := by rw [List.length_take]; omega
  have hl4 : (l.take 40).length ≤ 40 := by rw [List.length_take]; omega
  have hal := @askC_len s (fr.take 30) (l.take 40) half
  refine wp_seq ?_
  refine wp_region_lit ?_
  refine s_box 1 rfl rfl 27 _ rfl _ rfl (knA s fo fr.length fc ao l.length cap half) rfl ?_
  intro w1 g1 G eg1 kg1
  have bg1 := size_base GG eg1
  replace GG := GG.trans G
  clear G
  clear eg1
  refine nr ?_; intro U h; simp only [z0, z1] at h; subst h
  refine s_val 2 rfl rfl (.bool false) (rfl) ?_
  refine nr ?_; intro U h; simp only [z0, z1] at h; subst h
  refine wpList_nil ?_
  refine then_n ?_
  refine wp_seq ?_
  refine wp_region_g2A (A := ?Ax2) 14 [(0, 16), (1, 17), (2, 18), (3, 19), (4, 20), (5, 21), (6, 22), (7, 23), (8, 24), (9, 25), (10, 3), (12, 4), (13, 5)] [.val (.pointer (some ⟨g1, 0, none⟩)), .val (.agg (idA s)), .val (.pointer (some ⟨g1, 16, none⟩)), .val (.slice fo fr.length fc), .val (.slice fo (fr.take 30).length (fr.take 30).length), .val (.pointer (some ⟨g1, 17, none⟩)), .val (.slice ao l.length cap), .val (.slice ao (l.take 40).length (l.take 40).length), .val (.pointer (some ⟨g1, 18, none⟩)), .val (.int .i64 half), .new 23 (idA 0) (idA s) 11, .put 10, .val (.slice fo (fr.take 30).length (fr.take 30).length), .val (.slice ao (l.take 40).length (l.take 40).length)] follows (by kernel_rfl) (by kernel_rfl) rfl ?hAx2 (opsA2_cons ?o0x2 (opsA2_cons ?o1x2 (opsA2_cons ?o2x2 (opsA2_cons ?o3x2 (opsA2_cons ?o4x2 (opsA2_cons ?o5x2 (opsA2_cons ?o6x2 (opsA2_cons ?o7x2 (opsA2_cons ?o8x2 (opsA2_cons ?o9x2 (opsA2_cons ?o10x2 (opsA2_cons ?o11x2 (opsA2_cons ?o12x2 (opsA2_cons ?o13x2 opsA2_nil)))))))))))))) ?restx2
  case hAx2 =>
    intro ptrs
    simp only [full, foldSlots, filled2, postAt2, List.foldl_cons, List.foldl_nil, List.getD_cons_zero, List.getD_cons_succ, PostS.fill, PostS.val, PostS.new, PostS.put, List.set_cons_zero, List.set_cons_succ]
    exact rfl
  case o0x2 => exact fun _ _ _ _ _ _ => OpOK2.of_val (ok_value (v := .pointer (some ⟨g1, 0, none⟩)) rfl (run_fld 27 _ 0 rfl g1 0 rfl 0 (by kernel_rfl)))
  case o1x2 => exact fun _ _ _ hw _ _ => OpOK2.of_val (ok_value (v := .agg (idA s)) rfl (ldK0 _ rfl g1 rfl (hw.has kg1)))
  case o2x2 => exact fun _ _ _ _ _ _ => OpOK2.of_val (ok_value (v := .pointer (some ⟨g1, 16, none⟩)) rfl (run_fld 27 _ 1 rfl g1 0 rfl 16 (by kernel_rfl)))
  case o3x2 => exact fun _ _ _ hw _ _ => OpOK2.of_val (ok_value (v := .slice fo fr.length fc) rfl (ldK16 _ rfl g1 rfl (hw.has kg1)))
  case o4x2 => exact fun _ _ _ hw _ _ => OpOK2.of_val (ok_call rfl _ 7 Try.call7 rfl rfl _ rfl [.slice fo fr.length fc, .int .i64 30] rfl _ (cutI_any _ fo fc fr (HF.gro (GG.drew.trans hw)) 30))
  case o5x2 => exact fun _ _ _ _ _ _ => OpOK2.of_val (ok_value (v := .pointer (some ⟨g1, 17, none⟩)) rfl (run_fld 27 _ 2 rfl g1 0 rfl 17 (by kernel_rfl)))
  case o6x2 => exact fun _ _ _ hw _ _ => OpOK2.of_val (ok_value (v := .slice ao l.length cap) rfl (ldK17 _ rfl g1 rfl (hw.has kg1)))
  case o7x2 => exact fun _ _ _ hw _ _ => OpOK2.of_val (ok_call rfl _ 8 Try.call8 rfl rfl _ rfl [.slice ao l.length cap, .int .i64 40] rfl _ (cutC_any _ ao cap l (HC.gro (GG.drew.trans hw)) 40))
  case o8x2 => exact fun _ _ _ _ _ _ => OpOK2.of_val (ok_value (v := .pointer (some ⟨g1, 18, none⟩)) rfl (run_fld 27 _ 3 rfl g1 0 rfl 18 (by kernel_rfl)))
  case o9x2 => exact fun _ _ _ hw _ _ => OpOK2.of_val (ok_value (v := .int .i64 half) rfl (ldK18 _ rfl g1 rfl (hw.has kg1)))
  case o10x2 => exact fun _ _ _ _ _ _ => OpOK2.of_new (ok_alloc rfl 23 rfl _ zero23)
  case o11x2 =>
    intro ptrs Lq wq hw hn hL
    obtain ⟨⟨gq, pq, kq, cq⟩, hz⟩ := hn
    have hL' : Lq 11 = false := hL
    have p' : ptrs 10 = .pointer (some ⟨gq, 0, none⟩) := pq
    have k' : wq.heap[gq]? = some (.cells (if Lq 11 = true then (idA s) else (idA 0)) 23 (0, 0)) := kq
    rw [hL'] at k'
    refine ok2_store rfl 23 _ _ rfl gq ?_ (idA s) rfl (idA 0) k' (size23' _) (idA_sz _ _) (idA_one _) rfl p' _
    show ptrs 10 = _
    exact p'
  case o12x2 => exact fun _ _ _ _ _ _ => OpOK2.of_val (ok_value (v := .slice fo (fr.take 30).length (fr.take 30).length) rfl rfl)
  case o13x2 => exact fun _ _ _ _ _ _ => OpOK2.of_val (ok_value (v := .slice ao (l.take 40).length (l.take 40).length) rfl rfl)
  intro ptrs Lz w2 GD hLz hnz hapz
  obtain ⟨⟨gS, pzgS, kgS, czgS⟩, hzz⟩ := hnz
  simp only [List.drop_succ_cons, List.drop_zero, pzgS]
  replace kgS : w2.heap[gS]? = some (.cells (idA s) 23 (0, 0)) := by
    have hL' : Lz 11 = true := by rw [hLz]; rfl
    have kk : w2.heap[gS]? = some (.cells (if Lz 11 = true then (idA s) else (idA 0)) 23 (0, 0)) := kgS
    rw [hL'] at kk
    exact kk
  clear hzz hapz hLz
  have dg1gS : g1 < gS := Nat.lt_of_lt_of_le (lt_of_heap kg1) czgS
  replace kg1 := GD.has kg1
  have bgS := Nat.le_trans GG.size czgS
  replace GG := GG.drew.trans GD
  clear GD pzgS czgS
  refine s_val 6 rfl rfl (.int .i64 half) (rfl) ?_
  refine nr ?_; intro U h; simp only [z0, z1] at h; subst h
  refine wpList_nil ?_
  refine then_n ?_
  refine wp_seq ?_
  refine wp_region_lit ?_
  refine s_val 26 rfl rfl (.slice fo (fr.take 30).length (fr.take 30).length) (rfl) ?_
  refine nr ?_; intro U h; simp only [z0, z1] at h; subst h
  obtain ⟨B0, hB0e⟩ : ∃ B0, w2.heap.size = B0 := ⟨_, rfl⟩
  have hB0 : w.heap.size ≤ B0 := hB0e ▸ GG.size
  have hgSB0 : gS < B0 := hB0e ▸ lt_of_heap kgS
  refine s_callx 27 rfl rfl _ 9 Try.call9 rfl rfl _ rfl [.slice fo (fr.take 30).length (fr.take 30).length] rfl (copy_any _ fo _ (fr.take 30) (HF3.gro GG) (by omega)) (by rintro _ _ ⟨_, _, he, _⟩; exact ⟨_, he⟩) ?_
  rintro v w3 ⟨no0, noc0, he, G, HO⟩
  cases he
  rw [hB0e] at HO
  have hBw : B0 ≤ w3.heap.size := hB0e ▸ G.size
  replace kg1 := G.has kg1
  replace kgS := G.has kgS
  replace GG := GG.trans G
  clear G
  refine nr ?_; intro U h; simp only [z0, z1] at h; subst h
  refine s_val 7 rfl rfl (.slice no0 (fr.take 30).length noc0) (rfl) ?_
  refine nr ?_; intro U h; simp only [z0, z1] at h; subst h
  refine wpList_nil ?_
  refine then_n ?_
  refine wp_seq ?_
  refine wp_seq ?_
  refine wp_region_lit ?_
  refine s_val 28 rfl rfl (.slice ao (l.take 40).length (l.take 40).length) (rfl) ?_
  refine nr ?_; intro U h; simp only [z0, z1] at h; subst h
  refine s_val 29 rfl rfl (.int .i64 (((l.take 40).length : Nat) : Int)) (run_len Try.underlying25 _ rfl _ _ _ rfl _) ?_
  refine nr ?_; intro U h; simp only [z0, z1] at h; subst h
  refine s_val 30 rfl rfl (.int .i64 0) (rfl) ?_
  refine nr ?_; intro U h; simp only [z0, z1] at h; subst h
  refine wpList_nil ?_
  refine then_n ?_
  refine wp_block ?_
  refine wp_loopN (fun mz az wv => ∃ (i : Nat) (no : Option Addr) (noc : Nat) (us1 : Nat → Value), mz = (l.take 40).length + 1 - i ∧ az = ⟨[.agg (knA s fo fr.length fc ao l.length cap half), .pointer (some ⟨g1, 0, none⟩), .bool false, .pointer (some ⟨gS, 0, none⟩), .slice fo (fr.take 30).length (fr.take 30).length, .slice ao (l.take 40).length (l.take 40).length, .int .i64 half, .slice no ((fr.take 30).length + i) noc, undef, us1 0, undef, undef, undef, undef, undef, undef, .pointer (some ⟨g1, 0, none⟩), .agg (idA s), .pointer (some ⟨g1, 16, none⟩), .slice fo fr.length fc, .slice fo (fr.take 30).length (fr.take 30).length, .pointer (some ⟨g1, 17, none⟩), .slice ao l.length cap, .slice ao (l.take 40).length (l.take 40).length, .pointer (some ⟨g1, 18, none⟩), .int .i64 half, .slice fo (fr.take 30).length (fr.take 30).length, .slice no0 (fr.take 30).length noc0, .slice ao (l.take 40).length (l.take 40).length, .int .i64 (((l.take 40).length : Nat) : Int), .int .i64 ((i : Nat) : Int), us1 1, us1 2, us1 3, us1 4, us1 5, us1 6, us1 7, us1 8, us1 9, undef, undef, undef, undef, undef, undef, undef, undef, undef, undef, undef, undef, undef, undef, undef, undef, undef, undef, undef, undef, undef, undef, undef, undef, undef, undef, undef, undef, undef, undef, undef, undef, undef, undef, undef, undef, undef, undef, undef, undef, undef, undef, undef].toArray, []⟩ ∧ i ≤ (l.take 40).length ∧ Gro w wv ∧ B0 ≤ wv.heap.size ∧ wv.heap[gS]? = some (.cells (idA s) 23 (0, 0)) ∧ OW kI 23 wv B0 no noc ((fr.take 30) ++ ids ((l.take 40).take i))) ?_ _ ⟨0, no0, noc0, (fun kz => ([undef, undef, undef, undef, undef, undef, undef, undef, undef, undef] : List Value).getD kz undef), rfl, rfl, Nat.zero_le _, GG, hBw, kgS, by simp only [List.take_zero, ids, List.map_nil, List.append_nil]; exact HO⟩
  clear GG kgS HO
  rintro mz az wv ⟨i, no, noc, us1, rfl, rfl, hi, GG, hBw, kgS, HO⟩
  refine wp_seq ?_
  refine wp_region_lit ?_
  cases hi1 : decide (((i : Nat) : Int) < (((l.take 40).length : Nat) : Int))
  · have hie : i = (l.take 40).length := by have := of_decide_eq_false hi1; omega
    refine s_val 31 rfl rfl (.bool false) (run_lssT 3 _ _ _ rfl ((i : Nat) : Int) (((l.take 40).length : Nat) : Int) rfl rfl false hi1 _) ?_
    refine nr ?_; intro U h; simp only [z0, z1] at h; subst h
    refine wpList_nil ?_
    refine then_n ?_
    refine wp_seq ?_
    refine wp_cond_false rfl ?_
    refine wp_exit ?_
    refine then_x ?_
    refine then_x ?_
    refine blk_x ?_
    refine then_n ?_
    refine wp_seq ?_
    refine wp_region_lit ?_
    refine s_val 40 rfl rfl (.agg (idA s)) (ldI0 _ rfl gS rfl (kgS)) ?_
    refine nr ?_; intro U h; simp only [z0, z1] at h; subst h
    refine s_val 41 rfl rfl (.slice fo (fr.take 30).length (fr.take 30).length) (rfl) ?_
    refine nr ?_; intro U h; simp only [z0, z1] at h; subst h
    refine s_val 42 rfl rfl (.slice ao (l.take 40).length (l.take 40).length) (rfl) ?_
    refine nr ?_; intro U h; simp only [z0, z1] at h; subst h
    refine s_val 43 rfl rfl (.int .i64 half) (rfl) ?_
    refine nr ?_; intro U h; simp only [z0, z1] at h; subst h
    rw [hie, List.take_length] at HO
    have HL : RK kI wv no noc (allC (fr.take 30) (l.take 40)) := HO.re
    clear HO hBw
    refine s_callx 44 rfl rfl _ 11 Try.call11 rfl rfl _ rfl [.agg (idA s), .slice fo (fr.take 30).length (fr.take 30).length, .slice ao (l.take 40).length (l.take 40).length, .int .i64 half] rfl (asks_any _ s hs half _ _ (fr.take 30) (HF3.gro GG) (by omega) _ _ (l.take 40) (HC4.gro GG) (by omega)) (by rintro _ _ ⟨_, _, he, _⟩; exact ⟨_, he⟩) ?_
    rintro v w4 ⟨xo, xc, he, G, HA⟩
    cases he
    replace kgS := G.has kgS
    replace HL := HL.gro G
    replace GG := GG.trans G
    clear G
    replace HA := HA.re
    refine nr ?_; intro U h; simp only [z0, z1] at h; subst h
    refine s_val 10 rfl rfl (.slice xo (askC s (fr.take 30) (l.take 40) half).length xc) (rfl) ?_
    refine nr ?_; intro U h; simp only [z0, z1] at h; subst h
    refine wpList_nil ?_
    refine then_n ?_
    refine wp_seq ?_
    refine wp_region_lit ?_
    refine s_val 45 rfl rfl (.slice fo (fr.take 30).length (fr.take 30).length) (rfl) ?_
    refine nr ?_; intro U h; simp only [z0, z1] at h; subst h
    obtain ⟨B2, hB2e⟩ : ∃ B2, w4.heap.size = B2 := ⟨_, rfl⟩
    have hB2 : w.heap.size ≤ B2 := hB2e ▸ GG.size
    have hgS2 : gS < B2 := hB2e ▸ lt_of_heap kgS
    have hHL2 : ∀ ad, no = some ad → 0 < ((allC (fr.take 30) (l.take 40)).flatMap kI.E).length → ad.block < B2 := hB2e ▸ HL.lt
    have hHA2 : ∀ ad, xo = some ad → 0 < ((askC s (fr.take 30) (l.take 40) half).flatMap kC.E).length → ad.block < B2 := hB2e ▸ HA.lt
    refine s_callx 46 rfl rfl _ 9 Try.call9 rfl rfl _ rfl [.slice fo (fr.take 30).length (fr.take 30).length] rfl (copy_any _ fo _ (fr.take 30) (HF3.gro GG) (by omega)) (by rintro _ _ ⟨_, _, he, _⟩; exact ⟨_, he⟩) ?_
    rintro v w5 ⟨mo0, moc0, he, G, HM⟩
    cases he
    rw [hB2e] at HM
    have hBw : B2 ≤ w5.heap.size := hB2e ▸ G.size
    replace kgS := G.has kgS
    replace HL := HL.gro G
    replace HA := HA.gro G
    replace GG := GG.trans G
    clear G
    refine nr ?_; intro U h; simp only [z0, z1] at h; subst h
    refine s_val 11 rfl rfl (.slice mo0 (fr.take 30).length moc0) (rfl) ?_
    refine nr ?_; intro U h; simp only [z0, z1] at h; subst h
    refine wpList_nil ?_
    refine then_n ?_
    refine wp_seq ?_
    refine wp_seq ?_
    refine wp_region_lit ?_
    refine s_val 47 rfl rfl (.slice xo (askC s (fr.take 30) (l.take 40) half).length xc) (rfl) ?_
    refine nr ?_; intro U h; simp only [z0, z1] at h; subst h
    refine s_val 48 rfl rfl (.int .i64 (((askC s (fr.take 30) (l.take 40) half).length : Nat) : Int)) (run_len Try.underlying25 _ rfl _ _ _ rfl _) ?_
    refine nr ?_; intro U h; simp only [z0, z1] at h; subst h
    refine s_val 49 rfl rfl (.int .i64 0) (rfl) ?_
    refine nr ?_; intro U h; simp only [z0, z1] at h; subst h
    refine wpList_nil ?_
    refine then_n ?_
    refine wp_block ?_
    refine wp_loopN (fun mz az wv => ∃ (j : Nat) (mo : Option Addr) (moc : Nat) (us2 : Nat → Value), mz = (askC s (fr.take 30) (l.take 40) half).length + 1 - j ∧ az = ⟨[.agg (knA s fo fr.length fc ao l.length cap half), .pointer (some ⟨g1, 0, none⟩), .bool false, .pointer (some ⟨gS, 0, none⟩), .slice fo (fr.take 30).length (fr.take 30).length, .slice ao (l.take 40).length (l.take 40).length, .int .i64 half, .slice no ((fr.take 30).length + i) noc, undef, us1 0, .slice xo (askC s (fr.take 30) (l.take 40) half).length xc, .slice mo ((fr.take 30).length + j) moc, undef, us2 0, undef, undef, .pointer (some ⟨g1, 0, none⟩), .agg (idA s), .pointer (some ⟨g1, 16, none⟩), .slice fo fr.length fc, .slice fo (fr.take 30).length (fr.take 30).length, .pointer (some ⟨g1, 17, none⟩), .slice ao l.length cap, .slice ao (l.take 40).length (l.take 40).length, .pointer (some ⟨g1, 18, none⟩), .int .i64 half, .slice fo (fr.take 30).length (fr.take 30).length, .slice no0 (fr.take 30).length noc0, .slice ao (l.take 40).length (l.take 40).length, .int .i64 (((l.take 40).length : Nat) : Int), .int .i64 ((i : Nat) : Int), .bool false, us1 2, us1 3, us1 4, us1 5, us1 6, us1 7, us1 8, us1 9, .agg (idA s), .slice fo (fr.take 30).length (fr.take 30).length, .slice ao (l.take 40).length (l.take 40).length, .int .i64 half, .slice xo (askC s (fr.take 30) (l.take 40) half).length xc, .slice fo (fr.take 30).length (fr.take 30).length, .slice mo0 (fr.take 30).length moc0, .slice xo (askC s (fr.take 30) (l.take 40) half).length xc, .int .i64 (((askC s (fr.take 30) (l.take 40) half).length : Nat) : Int), .int .i64 ((j : Nat) : Int), us2 1, us2 2, us2 3, us2 4, us2 5, us2 6, us2 7, us2 8, us2 9, undef, undef, undef, undef, undef, undef, undef, undef, undef, undef, undef, undef, undef, undef, undef, undef, undef, undef, undef, undef, undef, undef, undef, undef].toArray, []⟩ ∧ j ≤ (askC s (fr.take 30) (l.take 40) half).length ∧ Gro w wv ∧ B2 ≤ wv.heap.size ∧ wv.heap[gS]? = some (.cells (idA s) 23 (0, 0)) ∧ RK kI wv no noc (allC (fr.take 30) (l.take 40)) ∧ RK kC wv xo xc (askC s (fr.take 30) (l.take 40) half) ∧ OW kI 23 wv B2 mo moc ((fr.take 30) ++ ids ((askC s (fr.take 30) (l.take 40) half).take j))) ?_ _ ⟨0, mo0, moc0, (fun kz => ([undef, undef, undef, undef, undef, undef, undef, undef, undef, undef] : List Value).getD kz undef), rfl, rfl, Nat.zero_le _, GG, hBw, kgS, HL, HA, by simp only [List.take_zero, ids, List.map_nil, List.append_nil]; exact HM⟩
    clear GG kgS HL HA HM
    rintro mz az wv ⟨j, mo, moc, us2, rfl, rfl, hj, GG, hBw, kgS, HL, HA, HM⟩
    refine wp_seq ?_
    refine wp_region_lit ?_
    cases hj1 : decide (((j : Nat) : Int) < (((askC s (fr.take 30) (l.take 40) half).length : Nat) : Int))
    · have hje : j = (askC s (fr.take 30) (l.take 40) half).length := by have := of_decide_eq_false hj1; omega
      refine s_val 50 rfl rfl (.bool false) (run_lssT 3 _ _ _ rfl ((j : Nat) : Int) (((askC s (fr.take 30) (l.take 40) half).length : Nat) : Int) rfl rfl false hj1 _) ?_
      refine nr ?_; intro U h; simp only [z0, z1] at h; subst h
      refine wpList_nil ?_
      refine then_n ?_
      refine wp_seq ?_
      refine wp_cond_false rfl ?_
      refine wp_exit ?_
      refine then_x ?_
      refine then_x ?_
      refine blk_x ?_
      refine then_n ?_
      refine wp_seq ?_
      refine wp_seq ?_
      refine wp_region_lit ?_
      refine s_val 59 rfl rfl (.agg (idA s)) (ldI0 _ rfl gS rfl (kgS)) ?_
      refine nr ?_; intro U h; simp only [z0, z1] at h; subst h
      refine s_val 60 rfl rfl (.slice no ((fr.take 30).length + i) noc) (rfl) ?_
      refine nr ?_; intro U h; simp only [z0, z1] at h; subst h
      refine s_val 61 rfl rfl (.int .i64 half) (rfl) ?_
      refine nr ?_; intro U h; simp only [z0, z1] at h; subst h
      rw [hje, List.take_length] at HM
      replace HM : RK kI wv mo moc ((fr.take 30) ++ ids (askC s (fr.take 30) (l.take 40) half)) := HM.re
      clear hBw
      have hMO : ((fr.take 30) ++ ids (askC s (fr.take 30) (l.take 40) half)).length = (fr.take 30).length + j := by rw [List.length_append, ids, List.length_map, hje]
      have hAL : (allC (fr.take 30) (l.take 40)).length = (fr.take 30).length + (l.take 40).length := by simp [allC, ids]
      refine s_callx 62 rfl rfl _ 15 Try.call15 rfl rfl _ rfl [.agg (idA s), .slice no ((fr.take 30).length + i) noc, .int .i64 half] rfl (by have h_ := refwantK _ no noc (allC (fr.take 30) (l.take 40)) HL (by rw [hAL]; omega) s hs half; rw [hAL, ← hie] at h_; exact h_) (by rintro _ _ ⟨_, _, he, _⟩; exact ⟨_, he⟩) ?_
      rintro v w6 ⟨wo, wc, he, G, HW⟩
      cases he
      replace kgS := G.has kgS
      replace HL := HL.gro G
      replace HA := HA.gro G
      replace HM := HM.gro G
      replace GG := GG.trans G
      clear G
      refine nr ?_; intro U h; simp only [z0, z1] at h; subst h
      have hWL := Nat.le_trans (want_len s (allC (fr.take 30) (l.take 40)) half) (Nat.le_of_eq hAL)
      refine s_val 63 rfl rfl (.int .i64 (((want s (allC (fr.take 30) (l.take 40)) half).length : Nat) : Int)) (run_len Try.underlying24 _ rfl _ _ _ rfl _) ?_
      refine nr ?_; intro U h; simp only [z0, z1] at h; subst h
      refine s_val 64 rfl rfl (.int .i64 0) (rfl) ?_
      refine nr ?_; intro U h; simp only [z0, z1] at h; subst h
      refine wpList_nil ?_
      refine then_n ?_
      refine wp_block ?_
      refine wp_loopN (fun mz az wv => ∃ (q : Nat) (us3 : Nat → Value), mz = (want s (allC (fr.take 30) (l.take 40)) half).length + 1 - q ∧ az = ⟨[.agg (knA s fo fr.length fc ao l.length cap half), .pointer (some ⟨g1, 0, none⟩), us3 0, .pointer (some ⟨gS, 0, none⟩), .slice fo (fr.take 30).length (fr.take 30).length, .slice ao (l.take 40).length (l.take 40).length, .int .i64 half, .slice no ((fr.take 30).length + i) noc, undef, us1 0, .slice xo (askC s (fr.take 30) (l.take 40) half).length xc, .slice mo ((fr.take 30).length + j) moc, undef, us2 0, undef, us3 1, .pointer (some ⟨g1, 0, none⟩), .agg (idA s), .pointer (some ⟨g1, 16, none⟩), .slice fo fr.length fc, .slice fo (fr.take 30).length (fr.take 30).length, .pointer (some ⟨g1, 17, none⟩), .slice ao l.length cap, .slice ao (l.take 40).length (l.take 40).length, .pointer (some ⟨g1, 18, none⟩), .int .i64 half, .slice fo (fr.take 30).length (fr.take 30).length, .slice no0 (fr.take 30).length noc0, .slice ao (l.take 40).length (l.take 40).length, .int .i64 (((l.take 40).length : Nat) : Int), .int .i64 ((i : Nat) : Int), .bool false, us1 2, us1 3, us1 4, us1 5, us1 6, us1 7, us1 8, us1 9, .agg (idA s), .slice fo (fr.take 30).length (fr.take 30).length, .slice ao (l.take 40).length (l.take 40).length, .int .i64 half, .slice xo (askC s (fr.take 30) (l.take 40) half).length xc, .slice fo (fr.take 30).length (fr.take 30).length, .slice mo0 (fr.take 30).length moc0, .slice xo (askC s (fr.take 30) (l.take 40) half).length xc, .int .i64 (((askC s (fr.take 30) (l.take 40) half).length : Nat) : Int), .int .i64 ((j : Nat) : Int), .bool false, us2 2, us2 3, us2 4, us2 5, us2 6, us2 7, us2 8, us2 9, .agg (idA s), .slice no ((fr.take 30).length + i) noc, .int .i64 half, .slice wo (want s (allC (fr.take 30) (l.take 40)) half).length wc, .int .i64 (((want s (allC (fr.take 30) (l.take 40)) half).length : Nat) : Int), .int .i64 ((q : Nat) : Int), us3 2, us3 3, us3 4, us3 5, us3 6, us3 7, us3 8, us3 9, undef, undef, undef, undef, undef, undef, undef, undef, undef, undef].toArray, []⟩ ∧ q ≤ (want s (allC (fr.take 30) (l.take 40)) half).length ∧ Gro w wv ∧ wv.heap[gS]? = some (.cells (idA s) 23 (0, 0)) ∧ RK kI wv mo moc ((fr.take 30) ++ ids (askC s (fr.take 30) (l.take 40) half)) ∧ RK kI wv wo wc (want s (allC (fr.take 30) (l.take 40)) half)) ?_ _ ⟨0, (fun kz => ([.bool false, undef, undef, undef, undef, undef, undef, undef, undef, undef] : List Value).getD kz undef), rfl, rfl, Nat.zero_le _, GG, kgS, HM, HW⟩
      clear GG kgS HM HW
      rintro mz az wv ⟨q, us3, rfl, rfl, hq, GG, kgS, HM, HW⟩
      refine wp_seq ?_
      refine wp_region_lit ?_
      cases hq1 : decide (((q : Nat) : Int) < (((want s (allC (fr.take 30) (l.take 40)) half).length : Nat) : Int))
      · have hqe : q = (want s (allC (fr.take 30) (l.take 40)) half).length := by have := of_decide_eq_false hq1; omega
        refine s_val 65 rfl rfl (.bool false) (run_lssT 3 _ _ _ rfl ((q : Nat) : Int) (((want s (allC (fr.take 30) (l.take 40)) half).length : Nat) : Int) rfl rfl false hq1 _) ?_
        refine nr ?_; intro U h; simp only [z0, z1] at h; subst h
        refine wpList_nil ?_
        refine then_n ?_
        refine wp_seq ?_
        refine wp_cond_false rfl ?_
        refine wp_exit ?_
        refine then_x ?_
        refine then_x ?_
        refine blk_x ?_
        refine then_n ?_
        refine wp_seq ?_
        refine wp_region_opq ?_
        intro OPS hY
        have y1 := hY 1 74 rfl
        clear hY
        refine s_callv 73 rfl rfl _ 14 Try.call14 rfl rfl _ rfl [] rfl (fixed_any _) ?_
        intro w7 G
        replace kgS := G.has kgS
        replace HM := HM.gro G
        replace HW := HW.gro G
        replace GG := GG.trans G
        clear G
        refine nr ?_; intro U h; simp only [z0, z1] at h; subst h
        refine s_val 74 rfl rfl (.bool true) (rfl) ?_
        refine nr ?_; intro U h; simp only [z0, z1] at h; subst h
        refine s_gvalY 75 rfl rfl y1 rfl (.agg (idA s)) (ldI0 _ rfl gS rfl (kgS)) ?_
        refine nr ?_; intro U h; simp only [z0, z1] at h; subst h
        refine s_gvalY 76 rfl rfl y1 rfl (.slice mo ((fr.take 30).length + j) moc) (rfl) ?_
        refine nr ?_; intro U h; simp only [z0, z1] at h; subst h
        refine s_gvalY 77 rfl rfl y1 rfl (.slice ao (l.take 40).length (l.take 40).length) (rfl) ?_
        refine nr ?_; intro U h; simp only [z0, z1] at h; subst h
        refine s_gvalY 78 rfl rfl y1 rfl (.int .i64 half) (rfl) ?_
        refine nr ?_; intro U h; simp only [z0, z1] at h; subst h
        refine s_gcallxY 79 rfl rfl y1 rfl _ 11 Try.call11 rfl rfl _ rfl [.agg (idA s), .slice mo ((fr.take 30).length + j) moc, .slice ao (l.take 40).length (l.take 40).length, .int .i64 half] rfl (by have h_ := asks_any _ s hs half mo moc ((fr.take 30) ++ ids (askC s (fr.take 30) (l.take 40) half)) HM (by rw [hMO]; omega) ao _ (l.take 40) (HC4.gro GG) (by omega); rw [hMO] at h_; exact h_) (by rintro _ _ ⟨_, _, he, _⟩; exact ⟨_, he⟩) ?_
        rintro v w8 ⟨zo, zc, he, G, HZ⟩
        cases he
        replace kgS := G.has kgS
        replace HM := HM.gro G
        replace HW := HW.gro G
        replace GG := GG.trans G
        clear G
        rw [show askC s ((fr.take 30) ++ ids (askC s (fr.take 30) (l.take 40) half)) (l.take 40) half = [] from askC_done HF3.all HC4.all]
        refine nr ?_; intro U h; simp only [z0, z1] at h; subst h
        refine s_gvalY 80 rfl rfl y1 rfl (.int .i64 0) (run_len Try.underlying25 _ rfl _ _ _ rfl _) ?_
        refine nr ?_; intro U h; simp only [z0, z1] at h; subst h
        refine s_gvalY 81 rfl rfl y1 rfl (.bool true) (run_eq_k 3 .i64 _ _ _ rfl Try.underlying3 0 0 rfl rfl true rfl _) ?_
        refine nr ?_; intro U h; simp only [z0, z1] at h; subst h
        refine s_val 82 rfl rfl (.bool true) (rfl) ?_
        refine nr ?_; intro U h; simp only [z0, z1] at h; subst h
        refine s_val 2 rfl rfl (.bool true) (rfl) ?_
        refine nr ?_; intro U h; simp only [z0, z1] at h; subst h
        refine wpList_nil ?_
        refine then_n ?_
        refine wp_ret ?_
        refine bodyPost_ret (results_tmp Try.results5 _ _ _) rfl ?_
        exact ⟨rfl, GG⟩
      · have hql : q < (want s (allC (fr.take 30) (l.take 40)) half).length := by have := of_decide_eq_true hq1; omega
        refine s_val 65 rfl rfl (.bool true) (run_lssT 3 _ _ _ rfl ((q : Nat) : Int) (((want s (allC (fr.take 30) (l.take 40)) half).length : Nat) : Int) rfl rfl true hq1 _) ?_
        refine nr ?_; intro U h; simp only [z0, z1] at h; subst h
        refine wpList_nil ?_
        refine then_n ?_
        refine wp_seq ?_
        refine wp_cond_true rfl ?_
        refine wp_skip ?_
        refine then_n ?_
        refine wp_seq ?_
        refine wp_block ?_
        refine wp_seq ?_
        refine wp_region_lit ?_
        refine s_val 66 rfl rfl (.pointer (pK kI wo q 0)) (run_ixK rIk (HW) _ _ rfl rfl q rfl hql) ?_
        refine nr ?_; intro U h; simp only [z0, z1] at h; subst h
        refine s_val 67 rfl rfl (.agg (idA ((want s (allC (fr.take 30) (l.take 40)) half).getD q 0))) (run_ldKI (HW) _ rfl q rfl hql) ?_
        refine nr ?_; intro U h; simp only [z0, z1] at h; subst h
        refine s_alloc 15 rfl rfl 23 rfl _ zero23 (idA 0) rfl ?_
        intro w7 g2 G eg2 kg2
        have bg2 := size_base GG eg2
        have dgSg2 := lt_new kgS eg2
        have dHMg2 := HM.ne eg2
        have dHWg2 := HW.ne eg2
        replace kgS := G.has kgS
        replace HM := HM.gro G
        replace HW := HW.gro G
        replace GG := GG.trans G
        clear G
        clear eg2
        refine nr ?_; intro U h; simp only [z0, z1] at h; subst h
        refine s_store rfl rfl 23 _ _ rfl g2 0 rfl (.agg (idA ((want s (allC (fr.take 30) (l.take 40)) half).getD q 0))) rfl 23 _ kg2 (idA ((want s (allC (fr.take 30) (l.take 40)) half).getD q 0)) rfl (size23' _) (idA_fit _ _) (idA_one _) (idA ((want s (allC (fr.take 30) (l.take 40)) half).getD q 0)) (splice_whole _ _ (idA_sz _ _)) ?_
        intro w8 St
        have kS := kg2
        replace kgS := St.has (by omega) kgS
        replace HM := HM.st St dHMg2
        replace HW := HW.st St dHWg2
        replace GG := GG.store St bg2
        replace kg2 := St.new
        clear St
        refine wpList_nil ?_
        refine then_n ?_
        refine wp_seq ?_
        refine wp_region_lit ?_
        refine s_val 68 rfl rfl (.slice mo ((fr.take 30).length + j) moc) (rfl) ?_
        refine nr ?_; intro U h; simp only [z0, z1] at h; subst h
        refine s_val 69 rfl rfl (.agg (idA ((want s (allC (fr.take 30) (l.take 40)) half).getD q 0))) (ldI0 _ rfl g2 rfl (kg2)) ?_
        refine nr ?_; intro U h; simp only [z0, z1] at h; subst h
        refine s_callv 70 rfl rfl _ 16 Try.call16 rfl rfl _ rfl [.slice mo ((fr.take 30).length + j) moc, .agg (idA ((want s (allC (fr.take 30) (l.take 40)) half).getD q 0))] rfl (by have h_ := Calls.bool (refhasK _ mo moc ((fr.take 30) ++ ids (askC s (fr.take 30) (l.take 40) half)) (HM) (by rw [hMO]; omega) ((want s (allC (fr.take 30) (l.take 40)) half).getD q 0) (atI HW hql)) (decide_eq_true (askC_all HF3.all HC4.all (getD_in 0 hql))); rw [hMO] at h_; exact h_) ?_
        intro w9 G
        replace kgS := G.has kgS
        replace kg2 := G.has kg2
        replace HM := HM.gro G
        replace HW := HW.gro G
        replace GG := GG.trans G
        clear G
        refine nr ?_; intro U h; simp only [z0, z1] at h; subst h
        refine s_val 71 rfl rfl (.bool false) (run_nt _ _ rfl true rfl) ?_
        refine nr ?_; intro U h; simp only [z0, z1] at h; subst h
        refine wpList_nil ?_
        refine then_n ?_
        refine wp_cond_false rfl ?_
        refine wp_skip ?_
        refine blk_n ?_
        refine then_n ?_
        refine wp_region_lit ?_
        refine s_val 72 rfl rfl (.int .i64 ((q + 1 : Nat) : Int)) (run_addI 3 _ _ _ rfl ((q : Nat) : Int) 1 ((q + 1 : Nat) : Int) rfl rfl (by omega) (by omega) (by omega) _) ?_
        refine nr ?_; intro U h; simp only [z0, z1] at h; subst h
        refine s_val 64 rfl rfl (.int .i64 ((q + 1 : Nat) : Int)) (rfl) ?_
        refine nr ?_; intro U h; simp only [z0, z1] at h; subst h
        refine wpList_nil ?_
        refine then_n ?_
        exact ⟨(want s (allC (fr.take 30) (l.take 40)) half).length + 1 - (q + 1), by omega, q + 1, (fun kz => ([us3 0, .pointer (some ⟨g2, 0, none⟩), .bool true, .pointer (pK kI wo q 0), .agg (idA ((want s (allC (fr.take 30) (l.take 40)) half).getD q 0)), .slice mo ((fr.take 30).length + j) moc, .agg (idA ((want s (allC (fr.take 30) (l.take 40)) half).getD q 0)), .bool true, .bool false, .int .i64 ((q + 1 : Nat) : Int)] : List Value).getD kz undef), rfl, rfl, by omega, GG, kgS, HM, HW⟩
    · have hjl : j < (askC s (fr.take 30) (l.take 40) half).length := by have := of_decide_eq_true hj1; omega
      refine s_val 50 rfl rfl (.bool true) (run_lssT 3 _ _ _ rfl ((j : Nat) : Int) (((askC s (fr.take 30) (l.take 40) half).length : Nat) : Int) rfl rfl true hj1 _) ?_
      refine nr ?_; intro U h; simp only [z0, z1] at h; subst h
      refine wpList_nil ?_
      refine then_n ?_
      refine wp_seq ?_
      refine wp_cond_true rfl ?_
      refine wp_skip ?_
      refine then_n ?_
      refine wp_seq ?_
      refine wp_block ?_
      refine wp_seq ?_
      refine wp_region_lit ?_
      refine s_val 51 rfl rfl (.pointer (pK kC xo j 0)) (run_ixK rC (HA) _ _ rfl rfl j rfl hjl) ?_
      refine nr ?_; intro U h; simp only [z0, z1] at h; subst h
      refine s_val 52 rfl rfl (.agg (cdA ((askC s (fr.take 30) (l.take 40) half).getD j zC))) (run_ldKC (HA) _ rfl j rfl hjl) ?_
      refine nr ?_; intro U h; simp only [z0, z1] at h; subst h
      refine s_alloc 13 rfl rfl 33 rfl _ zeroC (cdA zC) rfl ?_
      intro w6 g2 G eg2 kg2
      have bg2 := size_base GG eg2
      have dgSg2 := lt_new kgS eg2
      have dHLg2 := HL.ne eg2
      have dHAg2 := HA.ne eg2
      have dHMg2 := HM.ne eg2
      replace hBw := Nat.le_trans hBw G.size
      replace kgS := G.has kgS
      replace HL := HL.gro G
      replace HA := HA.gro G
      replace HM := HM.gro G
      replace GG := GG.trans G
      clear G
      clear eg2
      refine nr ?_; intro U h; simp only [z0, z1] at h; subst h
      refine s_store rfl rfl 33 _ _ rfl g2 0 rfl (.agg (cdA ((askC s (fr.take 30) (l.take 40) half).getD j zC))) rfl 33 _ kg2 (cdA ((askC s (fr.take 30) (l.take 40) half).getD j zC)) rfl (siC' _) (cdA_fit _ _) (cdA_one _) (cdA ((askC s (fr.take 30) (l.take 40) half).getD j zC)) (splice_whole _ _ (cdA_sz _ _)) ?_
      intro w7 St
      have kS := kg2
      replace kgS := St.has (by omega) kgS
      replace HL := HL.st St dHLg2
      replace HA := HA.st St dHAg2
      replace HM := HM.st St dHMg2
      replace GG := GG.store St bg2
      replace kg2 := St.new
      replace hBw := Nat.le_trans hBw (Nat.le_of_eq St.size.symm)
      clear St
      refine wpList_nil ?_
      refine then_n ?_
      refine wp_region_lit ?_
      refine s_val 53 rfl rfl (.slice mo ((fr.take 30).length + j) moc) (rfl) ?_
      refine nr ?_; intro U h; simp only [z0, z1] at h; subst h
      refine s_val 54 rfl rfl (.pointer (some ⟨g2, 0, none⟩)) (run_fld 33 _ 0 rfl g2 0 rfl 0 (by kernel_rfl)) ?_
      refine nr ?_; intro U h; simp only [z0, z1] at h; subst h
      refine s_val 55 rfl rfl (.agg (idA ((askC s (fr.take 30) (l.take 40) half).getD j zC).id)) (ldCi _ rfl g2 rfl (kg2)) ?_
      refine nr ?_; intro U h; simp only [z0, z1] at h; subst h
      refine s_bsl 56 rfl rfl 24 1 _ rfl [(0, .agg (idA ((askC s (fr.take 30) (l.take 40) half).getD j zC).id))] rfl ([((askC s (fr.take 30) (l.take 40) half).getD j zC).id].flatMap kI.E).toArray 23 (bsI ((askC s (fr.take 30) (l.take 40) half).getD j zC).id _) ?_
      intro w8 q1 G eq1 kq1
      have bq1 := size_base GG eq1
      replace hBw := Nat.le_trans hBw G.size
      replace kgS := G.has kgS
      replace kg2 := G.has kg2
      replace HL := HL.gro G
      replace HA := HA.gro G
      replace HM := HM.gro G
      replace GG := GG.trans G
      clear G
      have HR1 : RK kI _ (some ⟨q1, 0, none⟩) 1 [((askC s (fr.take 30) (l.take 40) half).getD j zC).id] := RK.blk kq1 (one_all (atC HA hjl).id) (Nat.le_refl _)
      clear eq1
      refine nr ?_; intro U h; simp only [z0, z1] at h; subst h
      have hAC : ((fr.take 30) ++ ids ((askC s (fr.take 30) (l.take 40) half).take j)).length = (fr.take 30).length + j := by have h9 : ((askC s (fr.take 30) (l.take 40) half).take j).length = j := (by rw [List.length_take]; omega); rw [List.length_append, ids, List.length_map, h9]
      have hAC2 : (((fr.take 30) ++ ids ((askC s (fr.take 30) (l.take 40) half).take j)) ++ [((askC s (fr.take 30) (l.take 40) half).getD j zC).id]).length = (fr.take 30).length + (j + 1) := by rw [List.length_append, hAC]; rfl
      refine s_appK rIk (by decide) 57 rfl rfl _ _ rfl (by rw [hAC]; rfl) HM rfl HR1 (by rw [hAC]; simp only [List.length_cons, List.length_nil]; omega) hBw ?_
      intro mo2 moc2 w9 HO9 G2 _
      replace kgS := G2.has kgS (fun hm => by have := HM.own.base _ hm; omega)
      replace HL := HL.gros G2 (fun ad ha h0 hm => by have := HM.own.base _ hm; have := hHL2 ad ha h0; omega)
      replace HA := HA.gros G2 (fun ad ha h0 hm => by have := HM.own.base _ hm; have := hHA2 ad ha h0; omega)
      replace hBw := Nat.le_trans hBw G2.size
      replace GG := G2.gro GG (fun k hk => Nat.le_trans hB2 (HM.own.base k hk))
      clear G2 HM
      have HM := HO9
      clear HO9
      clear kg2
      refine nr ?_; intro U h; simp only [z0, z1] at h; subst h
      refine s_val 11 rfl rfl (.slice mo2 (((fr.take 30) ++ ids ((askC s (fr.take 30) (l.take 40) half).take j)) ++ [((askC s (fr.take 30) (l.take 40) half).getD j zC).id]).length moc2) (rfl) ?_
      refine nr ?_; intro U h; simp only [z0, z1] at h; subst h
      refine wpList_nil ?_
      refine blk_n ?_
      refine then_n ?_
      refine wp_region_lit ?_
      refine s_val 58 rfl rfl (.int .i64 ((j + 1 : Nat) : Int)) (run_addI 3 _ _ _ rfl ((j : Nat) : Int) 1 ((j + 1 : Nat) : Int) rfl rfl (by omega) (by omega) (by omega) _) ?_
      refine nr ?_; intro U h; simp only [z0, z1] at h; subst h
      refine s_val 49 rfl rfl (.int .i64 ((j + 1 : Nat) : Int)) (rfl) ?_
      refine nr ?_; intro U h; simp only [z0, z1] at h; subst h
      refine wpList_nil ?_
      refine then_n ?_
      exact ⟨(askC s (fr.take 30) (l.take 40) half).length + 1 - (j + 1), by omega, j + 1, mo2, moc2, (fun kz => ([.pointer (some ⟨g2, 0, none⟩), .bool true, .pointer (pK kC xo j 0), .agg (cdA ((askC s (fr.take 30) (l.take 40) half).getD j zC)), .slice mo ((fr.take 30).length + j) moc, .pointer (some ⟨g2, 0, none⟩), .agg (idA ((askC s (fr.take 30) (l.take 40) half).getD j zC).id), .slice (some ⟨q1, 0, none⟩) 1 1, .slice mo2 (((fr.take 30) ++ ids ((askC s (fr.take 30) (l.take 40) half).take j)) ++ [((askC s (fr.take 30) (l.take 40) half).getD j zC).id]).length moc2, .int .i64 ((j + 1 : Nat) : Int)] : List Value).getD kz undef), rfl, by rw [hAC2]; rfl, by omega, GG, hBw, kgS, HL, HA, by rw [← ids_step hjl, ← List.append_assoc]; exact HM⟩
  · have hil : i < (l.take 40).length := by have := of_decide_eq_true hi1; omega
    refine s_val 31 rfl rfl (.bool true) (run_lssT 3 _ _ _ rfl ((i : Nat) : Int) (((l.take 40).length : Nat) : Int) rfl rfl true hi1 _) ?_
    refine nr ?_; intro U h; simp only [z0, z1] at h; subst h
    refine wpList_nil ?_
    refine then_n ?_
    refine wp_seq ?_
    refine wp_cond_true rfl ?_
    refine wp_skip ?_
    refine then_n ?_
    refine wp_seq ?_
    refine wp_block ?_
    refine wp_seq ?_
    refine wp_region_lit ?_
    refine s_val 32 rfl rfl (.pointer (pK kC ao i 0)) (run_ixK rC (HC4.gro GG) _ _ rfl rfl i rfl hil) ?_
    refine nr ?_; intro U h; simp only [z0, z1] at h; subst h
    refine s_val 33 rfl rfl (.agg (cdA ((l.take 40).getD i zC))) (run_ldKC (HC4.gro GG) _ rfl i rfl hil) ?_
    refine nr ?_; intro U h; simp only [z0, z1] at h; subst h
    refine s_alloc 9 rfl rfl 33 rfl _ zeroC (cdA zC) rfl ?_
    intro w4 g2 G eg2 kg2
    have bg2 := size_base GG eg2
    have dgSg2 := lt_new kgS eg2
    have dHOg2 := HO.ne eg2
    replace hBw := Nat.le_trans hBw G.size
    replace kgS := G.has kgS
    replace HO := HO.gro G
    replace GG := GG.trans G
    clear G
    clear eg2
    refine nr ?_; intro U h; simp only [z0, z1] at h; subst h
    refine s_store rfl rfl 33 _ _ rfl g2 0 rfl (.agg (cdA ((l.take 40).getD i zC))) rfl 33 _ kg2 (cdA ((l.take 40).getD i zC)) rfl (siC' _) (cdA_fit _ _) (cdA_one _) (cdA ((l.take 40).getD i zC)) (splice_whole _ _ (cdA_sz _ _)) ?_
    intro w5 St
    have kS := kg2
    replace kgS := St.has (by omega) kgS
    replace HO := HO.st St dHOg2
    replace GG := GG.store St bg2
    replace kg2 := St.new
    replace hBw := Nat.le_trans hBw (Nat.le_of_eq St.size.symm)
    clear St
    refine wpList_nil ?_
    refine then_n ?_
    refine wp_region_lit ?_
    refine s_val 34 rfl rfl (.slice no ((fr.take 30).length + i) noc) (rfl) ?_
    refine nr ?_; intro U h; simp only [z0, z1] at h; subst h
    refine s_val 35 rfl rfl (.pointer (some ⟨g2, 0, none⟩)) (run_fld 33 _ 0 rfl g2 0 rfl 0 (by kernel_rfl)) ?_
    refine nr ?_; intro U h; simp only [z0, z1] at h; subst h
    refine s_val 36 rfl rfl (.agg (idA ((l.take 40).getD i zC).id)) (ldCi _ rfl g2 rfl (kg2)) ?_
    refine nr ?_; intro U h; simp only [z0, z1] at h; subst h
    refine s_bsl 37 rfl rfl 24 1 _ rfl [(0, .agg (idA ((l.take 40).getD i zC).id))] rfl ([((l.take 40).getD i zC).id].flatMap kI.E).toArray 23 (bsI ((l.take 40).getD i zC).id _) ?_
    intro w6 q1 G eq1 kq1
    have bq1 := size_base GG eq1
    replace hBw := Nat.le_trans hBw G.size
    replace kgS := G.has kgS
    replace kg2 := G.has kg2
    replace HO := HO.gro G
    replace GG := GG.trans G
    clear G
    have HR1 : RK kI _ (some ⟨q1, 0, none⟩) 1 [((l.take 40).getD i zC).id] := RK.blk kq1 (one_all (atC HC4 hil).id) (Nat.le_refl _)
    clear eq1
    refine nr ?_; intro U h; simp only [z0, z1] at h; subst h
    have hAC : ((fr.take 30) ++ ids ((l.take 40).take i)).length = (fr.take 30).length + i := by have h9 : ((l.take 40).take i).length = i := (by rw [List.length_take]; omega); rw [List.length_append, ids, List.length_map, h9]
    have hAC2 : (((fr.take 30) ++ ids ((l.take 40).take i)) ++ [((l.take 40).getD i zC).id]).length = (fr.take 30).length + (i + 1) := by rw [List.length_append, hAC]; rfl
    refine s_appK rIk (by decide) 38 rfl rfl _ _ rfl (by rw [hAC]; rfl) HO rfl HR1 (by rw [hAC]; simp only [List.length_cons, List.length_nil]; omega) hBw ?_
    intro no2 noc2 w7 HO9 G2 _
    replace kgS := G2.has kgS (fun hm => by have := HO.own.base _ hm; omega)
    replace hBw := Nat.le_trans hBw G2.size
    replace GG := G2.gro GG (fun k hk => Nat.le_trans hB0 (HO.own.base k hk))
    clear G2 HO
    have HO := HO9
    clear HO9
    clear kg2
    refine nr ?_; intro U h; simp only [z0, z1] at h; subst h
    refine s_val 7 rfl rfl (.slice no2 (((fr.take 30) ++ ids ((l.take 40).take i)) ++ [((l.take 40).getD i zC).id]).length noc2) (rfl) ?_
    refine nr ?_; intro U h; simp only [z0, z1] at h; subst h
    refine wpList_nil ?_
    refine blk_n ?_
    refine then_n ?_
    refine wp_region_lit ?_
    refine s_val 39 rfl rfl (.int .i64 ((i + 1 : Nat) : Int)) (run_addI 3 _ _ _ rfl ((i : Nat) : Int) 1 ((i + 1 : Nat) : Int) rfl rfl (by omega) (by omega) (by omega) _) ?_
    refine nr ?_; intro U h; simp only [z0, z1] at h; subst h
    refine s_val 30 rfl rfl (.int .i64 ((i + 1 : Nat) : Int)) (rfl) ?_
    refine nr ?_; intro U h; simp only [z0, z1] at h; subst h
    refine wpList_nil ?_
    refine then_n ?_
    exact ⟨(l.take 40).length + 1 - (i + 1), by omega, i + 1, no2, noc2, (fun kz => ([.pointer (some ⟨g2, 0, none⟩), .bool true, .pointer (pK kC ao i 0), .agg (cdA ((l.take 40).getD i zC)), .slice no ((fr.take 30).length + i) noc, .pointer (some ⟨g2, 0, none⟩), .agg (idA ((l.take 40).getD i zC).id), .slice (some ⟨q1, 0, none⟩) 1 1, .slice no2 (((fr.take 30) ++ ids ((l.take 40).take i)) ++ [((l.take 40).getD i zC).id]).length noc2, .int .i64 ((i + 1 : Nat) : Int)] : List Value).getD kz undef), rfl, by rw [hAC2]; rfl, by omega, GG, hBw, kgS, by rw [← ids_step hil, ← List.append_assoc]; exact HO⟩
end Go.Proofs.Ytfabgonoonanfaa
