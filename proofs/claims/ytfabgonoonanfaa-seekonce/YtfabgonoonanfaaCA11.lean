/- The law that nobody is asked for twice, nor oneself, nor a friend; each is a candidate, and wanted; they rise. -/
import Derived.Test.YtfabgonoonanfaaCA10
namespace Go.Proofs.Ytfabgonoonanfaa
open Go.RowKit
theorem askC_rise {s : Nat} {fr : List Nat} {l : List Cd} {half : Int} (hf : All fr) (hl : ∀ c ∈ l, c.ok) {i : Nat} (h0 : 0 < i) (hi : i < (askC s fr l half).length) : ((askC s fr l half).getD (i - 1) zC).id < ((askC s fr l half).getD i zC).id := by
  have h := ask_lt (s := s) (half := half) hf hl
  rw [← askC_id hf hl, List.pairwise_map] at h
  have := List.pairwise_iff_getElem.1 h (i - 1) i (by omega) hi (by omega)
  rw [List.getD_eq_getElem?_getD, List.getD_eq_getElem?_getD, List.getElem?_eq_getElem hi, List.getElem?_eq_getElem (by omega : i - 1 < (askC s fr l half).length)]
  exact this
theorem in_step {tb : Bool} {p : Nat → Prop} {k : Nat} (h : tb = true ∨ ∀ q, q < k → p q) (hf : tb = false) (hk : p k) : ∀ q, q < k + 1 → p q := by
  rcases h with h | h
  · rw [hf] at h; cases h
  · exact uptoZ h hk
theorem eqC_ne {x y : Cd} (h : decide (eqC x y = true) = false) : x ≠ y := fun e => of_decide_eq_false h (eqC_iff.2 e)
set_option maxRecDepth 100000 in
set_option maxHeartbeats 4000000 in
theorem seekOnce_any (w : World) (s : Nat) (hs : s < top) (fo : Option Addr) (fc : Nat) (fr : List Nat) (HF : RK kI w fo fc fr) (ao : Option Addr) (cap : Nat) (l : List Cd) (HC : RK kC w ao cap l) (half : Int) : Calls Try.prog 4 #[.agg (knA s fo fr.length fc ao l.length cap half)] w (fun e w' => e = .returned (.bool true) ∧ Gro w w') := by
  refine s_enter Try.func4 rfl Try.ntmps4 [.agg (knA s fo fr.length fc ao l.length cap half)] [.agg (knA s fo fr.length fc ao l.length cap half), undef, undef, undef, undef, undef, undef, undef, undef, undef, undef, undef, undef, undef, undef, undef, undef, undef, undef, undef, undef, undef, undef, undef, undef, undef, undef, undef, undef, undef, undef, undef, undef, undef, undef, undef, undef, undef, undef, undef, undef, undef, undef, undef, undef, undef, undef, undef, undef, undef, undef, undef, undef, undef, undef, undef, undef, undef, undef, undef, undef, undef, undef, undef, undef, undef, undef, undef, undef, undef, undef, undef, undef, undef, undef, undef, undef, undef, undef, undef, undef, undef, undef, undef, undef, undef, undef, undef, undef, undef, undef, undef, undef, undef, undef, undef, undef, undef, undef, undef, undef, undef, undef, undef, undef, undef, undef, undef, undef] rfl ?_
  have GG := Gro.refl w
  have HF3 := HF.take 30
  have HC4 := HC.take 40
  have hf3 : (fr.take 30).length ≤ 30 := by rw [List.length_take]; omega
  have hl4 : (l.take 40).length ≤ 40 := by rw [List.length_take]; omega
  have hal := @askC_len s (fr.take 30) (l.take 40) half
  refine wp_seq ?_
  refine wp_region_lit ?_
  refine s_box 1 rfl rfl 27 _ rfl _ rfl (knA s fo fr.length fc ao l.length cap half) rfl ?_
  intro w1 g1 G eg1 kg1
  have bg1 := size_base GG eg1
  replace GG := GG.trans G
  clear G
  clear eg1
  refine nr ?_; intro U h; simp only [z0, z1] at h; subst h
  refine s_val 2 rfl rfl (.bool false) (rfl) ?_
  refine nr ?_; intro U h; simp only [z0, z1] at h; subst h
  refine wpList_nil ?_
  refine then_n ?_
  refine wp_seq ?_
  refine wp_region_g2A (A := ?Ax2) 14 [(0, 17), (1, 18), (2, 19), (3, 20), (4, 21), (5, 22), (6, 23), (7, 24), (8, 25), (9, 26), (10, 3), (12, 4), (13, 5)] [.val (.pointer (some ⟨g1, 0, none⟩)), .val (.agg (idA s)), .val (.pointer (some ⟨g1, 16, none⟩)), .val (.slice fo fr.length fc), .val (.slice fo (fr.take 30).length (fr.take 30).length), .val (.pointer (some ⟨g1, 17, none⟩)), .val (.slice ao l.length cap), .val (.slice ao (l.take 40).length (l.take 40).length), .val (.pointer (some ⟨g1, 18, none⟩)), .val (.int .i64 half), .new 23 (idA 0) (idA s) 11, .put 10, .val (.slice fo (fr.take 30).length (fr.take 30).length), .val (.slice ao (l.take 40).length (l.take 40).length)] follows (by kernel_rfl) (by kernel_rfl) rfl ?hAx2 (opsA2_cons ?o0x2 (opsA2_cons ?o1x2 (opsA2_cons ?o2x2 (opsA2_cons ?o3x2 (opsA2_cons ?o4x2 (opsA2_cons ?o5x2 (opsA2_cons ?o6x2 (opsA2_cons ?o7x2 (opsA2_cons ?o8x2 (opsA2_cons ?o9x2 (opsA2_cons ?o10x2 (opsA2_cons ?o11x2 (opsA2_cons ?o12x2 (opsA2_cons ?o13x2 opsA2_nil)))))))))))))) ?restx2
  case hAx2 =>
    intro ptrs
    simp only [full, foldSlots, filled2, postAt2, List.foldl_cons, List.foldl_nil, List.getD_cons_zero, List.getD_cons_succ, PostS.fill, PostS.val, PostS.new, PostS.put, List.set_cons_zero, List.set_cons_succ]
    exact rfl
  case o0x2 => exact fun _ _ _ _ _ _ => OpOK2.of_val (ok_value (v := .pointer (some ⟨g1, 0, none⟩)) rfl (run_fld 27 _ 0 rfl g1 0 rfl 0 (by kernel_rfl)))
  case o1x2 => exact fun _ _ _ hw _ _ => OpOK2.of_val (ok_value (v := .agg (idA s)) rfl (ldK0 _ rfl g1 rfl (hw.has kg1)))
  case o2x2 => exact fun _ _ _ _ _ _ => OpOK2.of_val (ok_value (v := .pointer (some ⟨g1, 16, none⟩)) rfl (run_fld 27 _ 1 rfl g1 0 rfl 16 (by kernel_rfl)))
  case o3x2 => exact fun _ _ _ hw _ _ => OpOK2.of_val (ok_value (v := .slice fo fr.length fc) rfl (ldK16 _ rfl g1 rfl (hw.has kg1)))
  case o4x2 => exact fun _ _ _ hw _ _ => OpOK2.of_val (ok_call rfl _ 7 Try.call7 rfl rfl _ rfl [.slice fo fr.length fc, .int .i64 30] rfl _ (cutI_any _ fo fc fr (HF.gro (GG.drew.trans hw)) 30))
  case o5x2 => exact fun _ _ _ _ _ _ => OpOK2.of_val (ok_value (v := .pointer (some ⟨g1, 17, none⟩)) rfl (run_fld 27 _ 2 rfl g1 0 rfl 17 (by kernel_rfl)))
  case o6x2 => exact fun _ _ _ hw _ _ => OpOK2.of_val (ok_value (v := .slice ao l.length cap) rfl (ldK17 _ rfl g1 rfl (hw.has kg1)))
  case o7x2 => exact fun _ _ _ hw _ _ => OpOK2.of_val (ok_call rfl _ 8 Try.call8 rfl rfl _ rfl [.slice ao l.length cap, .int .i64 40] rfl _ (cutC_any _ ao cap l (HC.gro (GG.drew.trans hw)) 40))
  case o8x2 => exact fun _ _ _ _ _ _ => OpOK2.of_val (ok_value (v := .pointer (some ⟨g1, 18, none⟩)) rfl (run_fld 27 _ 3 rfl g1 0 rfl 18 (by kernel_rfl)))
  case o9x2 => exact fun _ _ _ hw _ _ => OpOK2.of_val (ok_value (v := .int .i64 half) rfl (ldK18 _ rfl g1 rfl (hw.has kg1)))
  case o10x2 => exact fun _ _ _ _ _ _ => OpOK2.of_new (ok_alloc rfl 23 rfl _ zero23)
  case o11x2 =>
    intro ptrs Lq wq hw hn hL
    obtain ⟨⟨gq, pq, kq, cq⟩, hz⟩ := hn
    have hL' : Lq 11 = false := hL
    have p' : ptrs 10 = .pointer (some ⟨gq, 0, none⟩) := pq
    have k' : wq.heap[gq]? = some (.cells (if Lq 11 = true then (idA s) else (idA 0)) 23 (0, 0)) := kq
    rw [hL'] at k'
    refine ok2_store rfl 23 _ _ rfl gq ?_ (idA s) rfl (idA 0) k' (size23' _) (idA_sz _ _) (idA_one _) rfl p' _
    show ptrs 10 = _
    exact p'
  case o12x2 => exact fun _ _ _ _ _ _ => OpOK2.of_val (ok_value (v := .slice fo (fr.take 30).length (fr.take 30).length) rfl rfl)
  case o13x2 => exact fun _ _ _ _ _ _ => OpOK2.of_val (ok_value (v := .slice ao (l.take 40).length (l.take 40).length) rfl rfl)
  intro ptrs Lz w2 GD hLz hnz hapz
  obtain ⟨⟨gS, pzgS, kgS, czgS⟩, hzz⟩ := hnz
  simp only [List.drop_succ_cons, List.drop_zero, pzgS]
  replace kgS : w2.heap[gS]? = some (.cells (idA s) 23 (0, 0)) := by
    have hL' : Lz 11 = true := by rw [hLz]; rfl
    have kk : w2.heap[gS]? = some (.cells (if Lz 11 = true then (idA s) else (idA 0)) 23 (0, 0)) := kgS
    rw [hL'] at kk
    exact kk
  clear hzz hapz hLz
  have dg1gS : g1 < gS := Nat.lt_of_lt_of_le (lt_of_heap kg1) czgS
  replace kg1 := GD.has kg1
  have bgS := Nat.le_trans GG.size czgS
  replace GG := GG.drew.trans GD
  clear GD pzgS czgS
  refine s_val 6 rfl rfl (.int .i64 half) (rfl) ?_
  refine nr ?_; intro U h; simp only [z0, z1] at h; subst h
  refine wpList_nil ?_
  refine then_n ?_
  refine wp_seq ?_
  refine wp_region_lit ?_
  refine s_val 27 rfl rfl (.slice fo (fr.take 30).length (fr.take 30).length) (rfl) ?_
  refine nr ?_; intro U h; simp only [z0, z1] at h; subst h
  obtain ⟨B0, hB0e⟩ : ∃ B0, w2.heap.size = B0 := ⟨_, rfl⟩
  have hB0 : w.heap.size ≤ B0 := hB0e ▸ GG.size
  have hgSB0 : gS < B0 := hB0e ▸ lt_of_heap kgS
  refine s_callx 28 rfl rfl _ 9 Try.call9 rfl rfl _ rfl [.slice fo (fr.take 30).length (fr.take 30).length] rfl (copy_any _ fo _ (fr.take 30) (HF3.gro GG) (by omega)) (by rintro _ _ ⟨_, _, he, _⟩; exact ⟨_, he⟩) ?_
  rintro v w3 ⟨no0, noc0, he, G, HO⟩
  cases he
  rw [hB0e] at HO
  have hBw : B0 ≤ w3.heap.size := hB0e ▸ G.size
  replace kg1 := G.has kg1
  replace kgS := G.has kgS
  replace GG := GG.trans G
  clear G
  refine nr ?_; intro U h; simp only [z0, z1] at h; subst h
  refine s_val 7 rfl rfl (.slice no0 (fr.take 30).length noc0) (rfl) ?_
  refine nr ?_; intro U h; simp only [z0, z1] at h; subst h
  refine wpList_nil ?_
  refine then_n ?_
  refine wp_seq ?_
  refine wp_seq ?_
  refine wp_region_lit ?_
  refine s_val 29 rfl rfl (.slice ao (l.take 40).length (l.take 40).length) (rfl) ?_
  refine nr ?_; intro U h; simp only [z0, z1] at h; subst h
  refine s_val 30 rfl rfl (.int .i64 (((l.take 40).length : Nat) : Int)) (run_len Try.underlying25 _ rfl _ _ _ rfl _) ?_
  refine nr ?_; intro U h; simp only [z0, z1] at h; subst h
  refine s_val 31 rfl rfl (.int .i64 0) (rfl) ?_
  refine nr ?_; intro U h; simp only [z0, z1] at h; subst h
  refine wpList_nil ?_
  refine then_n ?_
  refine wp_block ?_
  refine wp_loopN (fun mz az wv => ∃ (i : Nat) (no : Option Addr) (noc : Nat) (us1 : Nat → Value), mz = (l.take 40).length + 1 - i ∧ az = ⟨[.agg (knA s fo fr.length fc ao l.length cap half), .pointer (some ⟨g1, 0, none⟩), .bool false, .pointer (some ⟨gS, 0, none⟩), .slice fo (fr.take 30).length (fr.take 30).length, .slice ao (l.take 40).length (l.take 40).length, .int .i64 half, .slice no ((fr.take 30).length + i) noc, undef, us1 0, undef, undef, undef, undef, undef, undef, undef, .pointer (some ⟨g1, 0, none⟩), .agg (idA s), .pointer (some ⟨g1, 16, none⟩), .slice fo fr.length fc, .slice fo (fr.take 30).length (fr.take 30).length, .pointer (some ⟨g1, 17, none⟩), .slice ao l.length cap, .slice ao (l.take 40).length (l.take 40).length, .pointer (some ⟨g1, 18, none⟩), .int .i64 half, .slice fo (fr.take 30).length (fr.take 30).length, .slice no0 (fr.take 30).length noc0, .slice ao (l.take 40).length (l.take 40).length, .int .i64 (((l.take 40).length : Nat) : Int), .int .i64 ((i : Nat) : Int), us1 1, us1 2, us1 3, us1 4, us1 5, us1 6, us1 7, us1 8, us1 9, undef, undef, undef, undef, undef, undef, undef, undef, undef, undef, undef, undef, undef, undef, undef, undef, undef, undef, undef, undef, undef, undef, undef, undef, undef, undef, undef, undef, undef, undef, undef, undef, undef, undef, undef, undef, undef, undef, undef, undef, undef, undef, undef, undef, undef, undef, undef, undef, undef, undef, undef, undef, undef, undef, undef, undef, undef, undef, undef, undef, undef, undef, undef, undef, undef, undef, undef, undef].toArray, []⟩ ∧ i ≤ (l.take 40).length ∧ Gro w wv ∧ B0 ≤ wv.heap.size ∧ wv.heap[gS]? = some (.cells (idA s) 23 (0, 0)) ∧ OW kI 23 wv B0 no noc ((fr.take 30) ++ ids ((l.take 40).take i))) ?_ _ ⟨0, no0, noc0, (fun kz => ([undef, undef, undef, undef, undef, undef, undef, undef, undef, undef] : List Value).getD kz undef), rfl, rfl, Nat.zero_le _, GG, hBw, kgS, by simp only [List.take_zero, ids, List.map_nil, List.append_nil]; exact HO⟩
  clear GG kgS HO
  rintro mz az wv ⟨i, no, noc, us1, rfl, rfl, hi, GG, hBw, kgS, HO⟩
  refine wp_seq ?_
  refine wp_region_lit ?_
  cases hi1 : decide (((i : Nat) : Int) < (((l.take 40).length : Nat) : Int))
  · have hie : i = (l.take 40).length := by have := of_decide_eq_false hi1; omega
    refine s_val 32 rfl rfl (.bool false) (run_lssT 3 _ _ _ rfl ((i : Nat) : Int) (((l.take 40).length : Nat) : Int) rfl rfl false hi1 _) ?_
    refine nr ?_; intro U h; simp only [z0, z1] at h; subst h
    refine wpList_nil ?_
    refine then_n ?_
    refine wp_seq ?_
    refine wp_cond_false rfl ?_
    refine wp_exit ?_
    refine then_x ?_
    refine then_x ?_
    refine blk_x ?_
    refine then_n ?_
    refine wp_seq ?_
    refine wp_region_lit ?_
    refine s_val 41 rfl rfl (.agg (idA s)) (ldI0 _ rfl gS rfl (kgS)) ?_
    refine nr ?_; intro U h; simp only [z0, z1] at h; subst h
    refine s_val 42 rfl rfl (.slice no ((fr.take 30).length + i) noc) (rfl) ?_
    refine nr ?_; intro U h; simp only [z0, z1] at h; subst h
    refine s_val 43 rfl rfl (.int .i64 half) (rfl) ?_
    refine nr ?_; intro U h; simp only [z0, z1] at h; subst h
    rw [hie, List.take_length] at HO
    have hAL : (allC (fr.take 30) (l.take 40)).length = (fr.take 30).length + (l.take 40).length := by simp [allC, ids]
    refine s_callx 44 rfl rfl _ 15 Try.call15 rfl rfl _ rfl [.agg (idA s), .slice no ((fr.take 30).length + i) noc, .int .i64 half] rfl (by have h_ := refwantK _ no noc (allC (fr.take 30) (l.take 40)) HO.re (by rw [hAL]; omega) s hs half; rw [hAL, ← hie] at h_; exact h_) (by rintro _ _ ⟨_, _, he, _⟩; exact ⟨_, he⟩) ?_
    rintro v w4 ⟨wo, wc, he, G, HW⟩
    cases he
    replace hBw := Nat.le_trans hBw G.size
    replace kgS := G.has kgS
    replace HO := HO.gro G
    replace GG := GG.trans G
    clear G
    refine nr ?_; intro U h; simp only [z0, z1] at h; subst h
    refine s_val 10 rfl rfl (.slice wo (want s (allC (fr.take 30) (l.take 40)) half).length wc) (rfl) ?_
    refine nr ?_; intro U h; simp only [z0, z1] at h; subst h
    refine wpList_nil ?_
    refine then_n ?_
    refine wp_seq ?_
    refine wp_region_lit ?_
    refine s_val 45 rfl rfl (.agg (idA s)) (ldI0 _ rfl gS rfl (kgS)) ?_
    refine nr ?_; intro U h; simp only [z0, z1] at h; subst h
    refine s_val 46 rfl rfl (.slice fo (fr.take 30).length (fr.take 30).length) (rfl) ?_
    refine nr ?_; intro U h; simp only [z0, z1] at h; subst h
    refine s_val 47 rfl rfl (.slice ao (l.take 40).length (l.take 40).length) (rfl) ?_
    refine nr ?_; intro U h; simp only [z0, z1] at h; subst h
    refine s_val 48 rfl rfl (.int .i64 half) (rfl) ?_
    refine nr ?_; intro U h; simp only [z0, z1] at h; subst h
    refine s_callx 49 rfl rfl _ 11 Try.call11 rfl rfl _ rfl [.agg (idA s), .slice fo (fr.take 30).length (fr.take 30).length, .slice ao (l.take 40).length (l.take 40).length, .int .i64 half] rfl (asks_any _ s hs half _ _ (fr.take 30) (HF3.gro GG) (by omega) _ _ (l.take 40) (HC4.gro GG) (by omega)) (by rintro _ _ ⟨_, _, he, _⟩; exact ⟨_, he⟩) ?_
    rintro v w5 ⟨xo, xc, he, G, HA⟩
    cases he
    replace hBw := Nat.le_trans hBw G.size
    replace kgS := G.has kgS
    replace HW := HW.gro G
    replace GG := GG.trans G
    clear G
    replace HA := HA.re
    refine nr ?_; intro U h; simp only [z0, z1] at h; subst h
    refine s_val 11 rfl rfl (.slice xo (askC s (fr.take 30) (l.take 40) half).length xc) (rfl) ?_
    refine nr ?_; intro U h; simp only [z0, z1] at h; subst h
    refine wpList_nil ?_
    refine then_n ?_
    refine wp_seq ?_
    refine wp_seq ?_
    refine wp_region_lit ?_
    refine s_val 50 rfl rfl (.slice xo (askC s (fr.take 30) (l.take 40) half).length xc) (rfl) ?_
    refine nr ?_; intro U h; simp only [z0, z1] at h; subst h
    refine s_val 51 rfl rfl (.int .i64 (((askC s (fr.take 30) (l.take 40) half).length : Nat) : Int)) (run_len Try.underlying25 _ rfl _ _ _ rfl _) ?_
    refine nr ?_; intro U h; simp only [z0, z1] at h; subst h
    refine s_val 52 rfl rfl (.int .i64 0) (rfl) ?_
    refine nr ?_; intro U h; simp only [z0, z1] at h; subst h
    refine wpList_nil ?_
    refine then_n ?_
    refine wp_block ?_
    refine wp_loopN (fun mz az wv => ∃ (j : Nat) (us2 : Nat → Value), mz = (askC s (fr.take 30) (l.take 40) half).length + 1 - j ∧ az = ⟨[.agg (knA s fo fr.length fc ao l.length cap half), .pointer (some ⟨g1, 0, none⟩), us2 0, .pointer (some ⟨gS, 0, none⟩), .slice fo (fr.take 30).length (fr.take 30).length, .slice ao (l.take 40).length (l.take 40).length, .int .i64 half, .slice no ((fr.take 30).length + i) noc, undef, us1 0, .slice wo (want s (allC (fr.take 30) (l.take 40)) half).length wc, .slice xo (askC s (fr.take 30) (l.take 40) half).length xc, us2 1, us2 2, us2 3, undef, us2 4, .pointer (some ⟨g1, 0, none⟩), .agg (idA s), .pointer (some ⟨g1, 16, none⟩), .slice fo fr.length fc, .slice fo (fr.take 30).length (fr.take 30).length, .pointer (some ⟨g1, 17, none⟩), .slice ao l.length cap, .slice ao (l.take 40).length (l.take 40).length, .pointer (some ⟨g1, 18, none⟩), .int .i64 half, .slice fo (fr.take 30).length (fr.take 30).length, .slice no0 (fr.take 30).length noc0, .slice ao (l.take 40).length (l.take 40).length, .int .i64 (((l.take 40).length : Nat) : Int), .int .i64 ((i : Nat) : Int), .bool false, us1 2, us1 3, us1 4, us1 5, us1 6, us1 7, us1 8, us1 9, .agg (idA s), .slice no ((fr.take 30).length + i) noc, .int .i64 half, .slice wo (want s (allC (fr.take 30) (l.take 40)) half).length wc, .agg (idA s), .slice fo (fr.take 30).length (fr.take 30).length, .slice ao (l.take 40).length (l.take 40).length, .int .i64 half, .slice xo (askC s (fr.take 30) (l.take 40) half).length xc, .slice xo (askC s (fr.take 30) (l.take 40) half).length xc, .int .i64 (((askC s (fr.take 30) (l.take 40) half).length : Nat) : Int), .int .i64 ((j : Nat) : Int), us2 5, us2 6, us2 7, us2 8, us2 9, us2 10, us2 11, us2 12, us2 13, us2 14, us2 15, us2 16, us2 17, us2 18, us2 19, us2 20, us2 21, us2 22, us2 23, us2 24, us2 25, us2 26, us2 27, us2 28, us2 29, us2 30, us2 31, us2 32, us2 33, us2 34, us2 35, us2 36, us2 37, us2 38, us2 39, us2 40, us2 41, us2 42, us2 43, us2 44, us2 45, us2 46, us2 47, us2 48, us2 49, us2 50, us2 51, us2 52, us2 53, us2 54, us2 55, us2 56, us2 57, us2 58, us2 59, undef].toArray, []⟩ ∧ j ≤ (askC s (fr.take 30) (l.take 40) half).length ∧ Gro w wv ∧ wv.heap[gS]? = some (.cells (idA s) 23 (0, 0)) ∧ RK kI wv wo wc (want s (allC (fr.take 30) (l.take 40)) half) ∧ RK kC wv xo xc (askC s (fr.take 30) (l.take 40) half)) ?_ _ ⟨0, (fun kz => ([.bool false, undef, undef, undef, undef, undef, undef, undef, undef, undef, undef, undef, undef, undef, undef, undef, undef, undef, undef, undef, undef, undef, undef, undef, undef, undef, undef, undef, undef, undef, undef, undef, undef, undef, undef, undef, undef, undef, undef, undef, undef, undef, undef, undef, undef, undef, undef, undef, undef, undef, undef, undef, undef, undef, undef, undef, undef, undef, undef, undef] : List Value).getD kz undef), rfl, rfl, Nat.zero_le _, GG, kgS, HW, HA⟩
    clear GG kgS HW HA
    rintro mz az wv ⟨j, us2, rfl, rfl, hj, GG, kgS, HW, HA⟩
    refine wp_seq ?_
    refine wp_region_lit ?_
    cases hj1 : decide (((j : Nat) : Int) < (((askC s (fr.take 30) (l.take 40) half).length : Nat) : Int))
    · have hje : j = (askC s (fr.take 30) (l.take 40) half).length := by have := of_decide_eq_false hj1; omega
      refine s_val 53 rfl rfl (.bool false) (run_lssT 3 _ _ _ rfl ((j : Nat) : Int) (((askC s (fr.take 30) (l.take 40) half).length : Nat) : Int) rfl rfl false hj1 _) ?_
      refine nr ?_; intro U h; simp only [z0, z1] at h; subst h
      refine wpList_nil ?_
      refine then_n ?_
      refine wp_seq ?_
      refine wp_cond_false rfl ?_
      refine wp_exit ?_
      refine then_x ?_
      refine then_x ?_
      refine blk_x ?_
      refine then_n ?_
      refine wp_seq ?_
      refine wp_region_lit ?_
      refine s_callv 108 rfl rfl _ 14 Try.call14 rfl rfl _ rfl [] rfl (fixed_any _) ?_
      intro w6 G
      replace kgS := G.has kgS
      replace HW := HW.gro G
      replace HA := HA.gro G
      replace GG := GG.trans G
      clear G
      refine nr ?_; intro U h; simp only [z0, z1] at h; subst h
      refine s_val 2 rfl rfl (.bool true) (rfl) ?_
      refine nr ?_; intro U h; simp only [z0, z1] at h; subst h
      refine wpList_nil ?_
      refine then_n ?_
      refine wp_ret ?_
      refine bodyPost_ret (results_tmp Try.results4 _ _ _) rfl ?_
      exact ⟨rfl, GG⟩
    · have hjl : j < (askC s (fr.take 30) (l.take 40) half).length := by have := of_decide_eq_true hj1; omega
      refine s_val 53 rfl rfl (.bool true) (run_lssT 3 _ _ _ rfl ((j : Nat) : Int) (((askC s (fr.take 30) (l.take 40) half).length : Nat) : Int) rfl rfl true hj1 _) ?_
      refine nr ?_; intro U h; simp only [z0, z1] at h; subst h
      refine wpList_nil ?_
      refine then_n ?_
      refine wp_seq ?_
      refine wp_cond_true rfl ?_
      refine wp_skip ?_
      refine then_n ?_
      refine wp_seq ?_
      refine wp_block ?_
      refine wp_seq ?_
      refine wp_region_lit ?_
      refine s_val 54 rfl rfl (.int .i64 ((j : Nat) : Int)) (rfl) ?_
      refine nr ?_; intro U h; simp only [z0, z1] at h; subst h
      refine s_val 55 rfl rfl (.pointer (pK kC xo j 0)) (run_ixK rC (HA) _ _ rfl rfl j rfl hjl) ?_
      refine nr ?_; intro U h; simp only [z0, z1] at h; subst h
      refine s_val 56 rfl rfl (.agg (cdA ((askC s (fr.take 30) (l.take 40) half).getD j zC))) (run_ldKC (HA) _ rfl j rfl hjl) ?_
      refine nr ?_; intro U h; simp only [z0, z1] at h; subst h
      refine s_alloc 13 rfl rfl 33 rfl _ zeroC (cdA zC) rfl ?_
      intro w6 g2 G eg2 kg2
      have bg2 := size_base GG eg2
      have dgSg2 := lt_new kgS eg2
      have dHWg2 := HW.ne eg2
      have dHAg2 := HA.ne eg2
      replace kgS := G.has kgS
      replace HW := HW.gro G
      replace HA := HA.gro G
      replace GG := GG.trans G
      clear G
      clear eg2
      refine nr ?_; intro U h; simp only [z0, z1] at h; subst h
      refine s_val 12 rfl rfl (.int .i64 ((j : Nat) : Int)) (rfl) ?_
      refine nr ?_; intro U h; simp only [z0, z1] at h; subst h
      refine s_store rfl rfl 33 _ _ rfl g2 0 rfl (.agg (cdA ((askC s (fr.take 30) (l.take 40) half).getD j zC))) rfl 33 _ kg2 (cdA ((askC s (fr.take 30) (l.take 40) half).getD j zC)) rfl (siC' _) (cdA_fit _ _) (cdA_one _) (cdA ((askC s (fr.take 30) (l.take 40) half).getD j zC)) (splice_whole _ _ (cdA_sz _ _)) ?_
      intro w7 St
      have kS := kg2
      replace kgS := St.has (by omega) kgS
      replace HW := HW.st St dHWg2
      replace HA := HA.st St dHAg2
      replace GG := GG.store St bg2
      replace kg2 := St.new
      clear St
      refine wpList_nil ?_
      refine then_n ?_
      refine wp_seq ?_
      refine wp_region_lit ?_
      refine s_val 14 rfl rfl (.bool false) (rfl) ?_
      refine nr ?_; intro U h; simp only [z0, z1] at h; subst h
      refine wpList_nil ?_
      refine then_n ?_
      refine wp_seq ?_
      refine wp_seq ?_
      refine wp_region_lit ?_
      refine s_val 57 rfl rfl (.slice ao (l.take 40).length (l.take 40).length) (rfl) ?_
      refine nr ?_; intro U h; simp only [z0, z1] at h; subst h
      refine s_val 58 rfl rfl (.int .i64 (((l.take 40).length : Nat) : Int)) (run_len Try.underlying25 _ rfl _ _ _ rfl _) ?_
      refine nr ?_; intro U h; simp only [z0, z1] at h; subst h
      refine s_val 59 rfl rfl (.int .i64 0) (rfl) ?_
      refine nr ?_; intro U h; simp only [z0, z1] at h; subst h
      refine wpList_nil ?_
      refine then_n ?_
      refine wp_block ?_
      refine wp_loopN (fun mz az wv => ∃ (k : Nat) (tb : Bool) (us3 : Nat → Value), mz = (l.take 40).length + 1 - k ∧ az = ⟨[.agg (knA s fo fr.length fc ao l.length cap half), .pointer (some ⟨g1, 0, none⟩), us2 0, .pointer (some ⟨gS, 0, none⟩), .slice fo (fr.take 30).length (fr.take 30).length, .slice ao (l.take 40).length (l.take 40).length, .int .i64 half, .slice no ((fr.take 30).length + i) noc, undef, us1 0, .slice wo (want s (allC (fr.take 30) (l.take 40)) half).length wc, .slice xo (askC s (fr.take 30) (l.take 40) half).length xc, .int .i64 ((j : Nat) : Int), .pointer (some ⟨g2, 0, none⟩), .bool tb, undef, us3 0, .pointer (some ⟨g1, 0, none⟩), .agg (idA s), .pointer (some ⟨g1, 16, none⟩), .slice fo fr.length fc, .slice fo (fr.take 30).length (fr.take 30).length, .pointer (some ⟨g1, 17, none⟩), .slice ao l.length cap, .slice ao (l.take 40).length (l.take 40).length, .pointer (some ⟨g1, 18, none⟩), .int .i64 half, .slice fo (fr.take 30).length (fr.take 30).length, .slice no0 (fr.take 30).length noc0, .slice ao (l.take 40).length (l.take 40).length, .int .i64 (((l.take 40).length : Nat) : Int), .int .i64 ((i : Nat) : Int), .bool false, us1 2, us1 3, us1 4, us1 5, us1 6, us1 7, us1 8, us1 9, .agg (idA s), .slice no ((fr.take 30).length + i) noc, .int .i64 half, .slice wo (want s (allC (fr.take 30) (l.take 40)) half).length wc, .agg (idA s), .slice fo (fr.take 30).length (fr.take 30).length, .slice ao (l.take 40).length (l.take 40).length, .int .i64 half, .slice xo (askC s (fr.take 30) (l.take 40) half).length xc, .slice xo (askC s (fr.take 30) (l.take 40) half).length xc, .int .i64 (((askC s (fr.take 30) (l.take 40) half).length : Nat) : Int), .int .i64 ((j : Nat) : Int), .bool true, .int .i64 ((j : Nat) : Int), .pointer (pK kC xo j 0), .agg (cdA ((askC s (fr.take 30) (l.take 40) half).getD j zC)), .slice ao (l.take 40).length (l.take 40).length, .int .i64 (((l.take 40).length : Nat) : Int), .int .i64 ((k : Nat) : Int), us3 1, us3 2, us3 3, us3 4, us3 5, us3 6, us3 7, us3 8, us3 9, us3 10, us2 22, us2 23, us2 24, us2 25, us2 26, us2 27, us2 28, us2 29, us2 30, us2 31, us2 32, us2 33, us2 34, us2 35, us2 36, us2 37, us2 38, us2 39, us2 40, us2 41, us2 42, us2 43, us2 44, us2 45, us2 46, us2 47, us2 48, us2 49, us2 50, us2 51, us2 52, us2 53, us2 54, us2 55, us2 56, us2 57, us2 58, us2 59, undef].toArray, []⟩ ∧ k ≤ (l.take 40).length ∧ (tb = true ∨ ∀ q, q < k → (l.take 40).getD q zC ≠ ((askC s (fr.take 30) (l.take 40) half).getD j zC)) ∧ Gro w wv ∧ wv.heap[gS]? = some (.cells (idA s) 23 (0, 0)) ∧ RK kI wv wo wc (want s (allC (fr.take 30) (l.take 40)) half) ∧ RK kC wv xo xc (askC s (fr.take 30) (l.take 40) half) ∧ wv.heap[g2]? = some (.cells (cdA ((askC s (fr.take 30) (l.take 40) half).getD j zC)) 33 (0, 0)) ∧ w.heap.size ≤ g2) ?_ _ ⟨0, false, (fun kz => ([us2 4, us2 12, us2 13, us2 14, us2 15, us2 16, us2 17, us2 18, us2 19, us2 20, us2 21] : List Value).getD kz undef), rfl, rfl, Nat.zero_le _, .inr fun _ h => absurd h (by omega), GG, kgS, HW, HA, kg2, bg2⟩
      clear GG kgS kg2 HW HA
      rintro mz az wv ⟨k, tb, us3, rfl, rfl, hk, hT, GG, kgS, HW, HA, kg2, bg2⟩
      refine wp_seq ?_
      refine wp_region_lit ?_
      cases hk1 : decide (((k : Nat) : Int) < (((l.take 40).length : Nat) : Int))
      · have hke : k = (l.take 40).length := by have := of_decide_eq_false hk1; omega
        refine s_val 60 rfl rfl (.bool false) (run_lssT 3 _ _ _ rfl ((k : Nat) : Int) (((l.take 40).length : Nat) : Int) rfl rfl false hk1 _) ?_
        refine nr ?_; intro U h; simp only [z0, z1] at h; subst h
        refine wpList_nil ?_
        refine then_n ?_
        refine wp_seq ?_
        refine wp_cond_false rfl ?_
        refine wp_exit ?_
        refine then_x ?_
        refine then_x ?_
        refine blk_x ?_
        refine then_n ?_
        refine wp_seq ?_
        have hm := askC_mem HF3.all HC4.all (getD_in zC hjl)
        have htb : tb = true := by
          rcases hT with h | h
          · exact h
          · obtain ⟨q, hq, e⟩ := getD_of_mem zC hm.1
            exact absurd e (h q (by omega))
        subst htb
        cases h0 : decide ((0 : Int) < ((j : Nat) : Int))
        · refine wp_region_exA (A := ?Ax3) 36 [(0, 70), (1, 71), (2, 72), (3, 73), (4, 74), (5, 75), (6, 76), (7, 77), (8, 78), (9, 79), (10, 80), (11, 81), (12, 82), (13, 83), (14, 84), (15, 85), (16, 86), (17, 87), (18, 88), (19, 89), (20, 90), (21, 91), (22, 92), (23, 93), (24, 94), (25, 95), (26, 96), (27, 97), (28, 98), (29, 99), (30, 100), (31, 101), (32, 102), (33, 103), (34, 104), (35, 105)] [.val (.bool true), .val (.bool false), .val (.bool false), .val (.pointer (some ⟨g2, 0, none⟩)), .val (.agg (idA ((askC s (fr.take 30) (l.take 40) half).getD j zC).id)), .val (.agg (idA s)), .val (.bool false), .val (.bool false), .val (.bool false), .val (.slice fo (fr.take 30).length (fr.take 30).length), .val (.pointer (some ⟨g2, 0, none⟩)), .val (.agg (idA ((askC s (fr.take 30) (l.take 40) half).getD j zC).id)), .val (.bool false), .val (.bool false), .val (.bool false), .val (.slice wo (want s (allC (fr.take 30) (l.take 40)) half).length wc), .val (.pointer (some ⟨g2, 0, none⟩)), .val (.agg (idA ((askC s (fr.take 30) (l.take 40) half).getD j zC).id)), .val (.bool true), .val (.bool false), .val (.bool false), .val (.bool false), .val (.int .i64 ((j : Nat) : Int)), .val (.bool false), .val (.bool false), .val undef, .val undef, .val undef, .val undef, .val undef, .val undef, .val undef, .val undef, .val undef, .val undef, .val (.bool false)] follows (by kernel_rfl) rfl ?hAx3 (opsA_cons ?o0x3 (opsA_cons ?o1x3 (opsA_cons ?o2x3 (opsA_cons ?o3x3 (opsA_cons ?o4x3 (opsA_cons ?o5x3 (opsA_cons ?o6x3 (opsA_cons ?o7x3 (opsA_cons ?o8x3 (opsA_cons ?o9x3 (opsA_cons ?o10x3 (opsA_cons ?o11x3 (opsA_cons ?o12x3 (opsA_cons ?o13x3 (opsA_cons ?o14x3 (opsA_cons ?o15x3 (opsA_cons ?o16x3 (opsA_cons ?o17x3 (opsA_cons ?o18x3 (opsA_cons ?o19x3 (opsA_cons ?o20x3 (opsA_cons ?o21x3 (opsA_cons ?o22x3 (opsA_cons ?o23x3 (opsA_cons ?o24x3 (opsA_cons ?o25x3 (opsA_cons ?o26x3 (opsA_cons ?o27x3 (opsA_cons ?o28x3 (opsA_cons ?o29x3 (opsA_cons ?o30x3 (opsA_cons ?o31x3 (opsA_cons ?o32x3 (opsA_cons ?o33x3 (opsA_cons ?o34x3 (opsA_cons ?o35x3 opsA_nil)))))))))))))))))))))))))))))))))))) ?restx3
          case hAx3 =>
            intro ptrs
            simp only [full, foldSlots, filledE, postE, List.foldl_cons, List.foldl_nil, List.getD_cons_zero, List.getD_cons_succ, fill_val, List.set_cons_zero, List.set_cons_succ]
            exact rfl
          case o0x3 => exact fun _ _ _ _ => opE_move (v := .bool true) _ rfl rfl rfl
          case o1x3 => exact fun _ _ _ _ => opE_value (v := .bool false) rfl (run_nt _ _ rfl true rfl)
          case o2x3 => exact fun _ _ _ _ => opE_move (v := .bool false) _ rfl rfl rfl
          case o3x3 => exact fun _ _ _ _ => opE_value (v := .pointer (some ⟨g2, 0, none⟩)) rfl (run_fld 33 _ 0 rfl g2 0 rfl 0 (by kernel_rfl))
          case o4x3 => exact fun _ _ hw _ => opE_value (v := .agg (idA ((askC s (fr.take 30) (l.take 40) half).getD j zC).id)) rfl (ldCi _ rfl g2 rfl (hw.has kg2))
          case o5x3 => exact fun _ _ hw _ => opE_value (v := .agg (idA s)) rfl (ldI0 _ rfl gS rfl (hw.has kgS))
          case o6x3 => exact fun _ _ _ _ => opE_value (v := .bool false) rfl (run_eqI _ _ _ rfl ((askC s (fr.take 30) (l.take 40) half).getD j zC).id s rfl rfl (atC HA hjl).id hs false (decide_eq_false hm.2.1))
          case o7x3 => exact fun _ _ _ _ => opE_pick (v := .bool false) _ _ _ rfl rfl false rfl rfl
          case o8x3 => exact fun _ _ _ _ => opE_move (v := .bool false) _ rfl rfl rfl
          case o9x3 => exact fun _ _ _ _ => opE_move (v := .slice fo (fr.take 30).length (fr.take 30).length) _ rfl rfl rfl
          case o10x3 => exact fun _ _ _ _ => opE_value (v := .pointer (some ⟨g2, 0, none⟩)) rfl (run_fld 33 _ 0 rfl g2 0 rfl 0 (by kernel_rfl))
          case o11x3 => exact fun _ _ hw _ => opE_value (v := .agg (idA ((askC s (fr.take 30) (l.take 40) half).getD j zC).id)) rfl (ldCi _ rfl g2 rfl (hw.has kg2))
          case o12x3 =>
            intro ptrs w' hw hE
            exact opE_call (.val (.bool false)) rfl _ 16 Try.call16 rfl rfl _ rfl [.slice fo (fr.take 30).length (fr.take 30).length, .agg (idA ((askC s (fr.take 30) (l.take 40) half).getD j zC).id)] rfl ((Calls.bool (refhasK _ fo _ (fr.take 30) (HF3.gro (GG.drew.trans hw)) (by omega) ((askC s (fr.take 30) (l.take 40) half).getD j zC).id (atC HA hjl).id) (decide_eq_false hm.2.2.1)).mono fun e w' ⟨he, hg⟩ => ⟨_, he, hg, rfl⟩)
          case o13x3 => exact fun _ _ _ _ => opE_pick (v := .bool false) _ _ _ rfl rfl false rfl rfl
          case o14x3 => exact fun _ _ _ _ => opE_move (v := .bool false) _ rfl rfl rfl
          case o15x3 => exact fun _ _ _ _ => opE_move (v := .slice wo (want s (allC (fr.take 30) (l.take 40)) half).length wc) _ rfl rfl rfl
          case o16x3 => exact fun _ _ _ _ => opE_value (v := .pointer (some ⟨g2, 0, none⟩)) rfl (run_fld 33 _ 0 rfl g2 0 rfl 0 (by kernel_rfl))
          case o17x3 => exact fun _ _ hw _ => opE_value (v := .agg (idA ((askC s (fr.take 30) (l.take 40) half).getD j zC).id)) rfl (ldCi _ rfl g2 rfl (hw.has kg2))
          case o18x3 =>
            intro ptrs w' hw hE
            exact opE_call (.val (.bool true)) rfl _ 16 Try.call16 rfl rfl _ rfl [.slice wo (want s (allC (fr.take 30) (l.take 40)) half).length wc, .agg (idA ((askC s (fr.take 30) (l.take 40) half).getD j zC).id)] rfl ((Calls.bool (refhasK _ wo wc (want s (allC (fr.take 30) (l.take 40)) half) (HW.gro ((Gro.refl _).drew.trans hw)) (Nat.le_trans (want_len _ _ _) (by rw [hAL]; omega)) ((askC s (fr.take 30) (l.take 40) half).getD j zC).id (atC HA hjl).id) (decide_eq_true hm.2.2.2)).mono fun e w' ⟨he, hg⟩ => ⟨_, he, hg, rfl⟩)
          case o19x3 => exact fun _ _ _ _ => opE_value (v := .bool false) rfl (run_nt _ _ rfl true rfl)
          case o20x3 => exact fun _ _ _ _ => opE_pick (v := .bool false) _ _ _ rfl rfl false rfl rfl
          case o21x3 => exact fun _ _ _ _ => opE_move (v := .bool false) _ rfl rfl rfl
          case o22x3 => exact fun _ _ _ _ => opE_move (v := .int .i64 ((j : Nat) : Int)) _ rfl rfl rfl
          case o23x3 => exact fun _ _ _ _ => opE_value (v := .bool false) rfl (run_gtrT 3 _ _ _ rfl ((j : Nat) : Int) 0 rfl rfl false h0 _)
          case o24x3 => exact fun _ _ _ _ => opE_move (v := .bool false) _ rfl rfl rfl
          case o25x3 => exact fun _ _ _ _ => opE_skip rfl
          case o26x3 => exact fun _ _ _ _ => opE_skip rfl
          case o27x3 => exact fun _ _ _ _ => opE_skip rfl
          case o28x3 => exact fun _ _ _ _ => opE_skip rfl
          case o29x3 => exact fun _ _ _ _ => opE_skip rfl
          case o30x3 => exact fun _ _ _ _ => opE_skip rfl
          case o31x3 => exact fun _ _ _ _ => opE_skip rfl
          case o32x3 => exact fun _ _ _ _ => opE_skip rfl
          case o33x3 => exact fun _ _ _ _ => opE_skip rfl
          case o34x3 => exact fun _ _ _ _ => opE_skip rfl
          case o35x3 => exact fun _ _ _ _ => opE_pick (v := .bool false) _ _ _ rfl rfl false rfl rfl
          intro ptrs w8 GD hxE
          simp only [List.drop_succ_cons, List.drop_zero]
          replace kgS := GD.has kgS
          replace kg2 := GD.has kg2
          replace HW := HW.gro ((Gro.refl _).drew.trans GD)
          replace HA := HA.gro ((Gro.refl _).drew.trans GD)
          replace GG := GG.drew.trans GD
          clear GD
          refine s_val 106 rfl rfl (.bool false) (rfl) ?_
          refine nr ?_; intro U h; simp only [z0, z1] at h; subst h
          refine wpList_nil ?_
          refine then_n ?_
          refine wp_cond_false rfl ?_
          refine wp_skip ?_
          refine blk_n ?_
          refine then_n ?_
          refine wp_region_lit ?_
          refine s_val 107 rfl rfl (.int .i64 ((j + 1 : Nat) : Int)) (run_addI 3 _ _ _ rfl ((j : Nat) : Int) 1 ((j + 1 : Nat) : Int) rfl rfl (by omega) (by omega) (by omega) _) ?_
          refine nr ?_; intro U h; simp only [z0, z1] at h; subst h
          refine s_val 52 rfl rfl (.int .i64 ((j + 1 : Nat) : Int)) (rfl) ?_
          refine nr ?_; intro U h; simp only [z0, z1] at h; subst h
          refine wpList_nil ?_
          refine then_n ?_
          exact ⟨(askC s (fr.take 30) (l.take 40) half).length + 1 - (j + 1), by omega, j + 1, (fun kz => ([us2 0, .int .i64 ((j : Nat) : Int), .pointer (some ⟨g2, 0, none⟩), .bool true, us3 0, .bool true, .int .i64 ((j : Nat) : Int), .pointer (pK kC xo j 0), .agg (cdA ((askC s (fr.take 30) (l.take 40) half).getD j zC)), .slice ao (l.take 40).length (l.take 40).length, .int .i64 (((l.take 40).length : Nat) : Int), .int .i64 ((k : Nat) : Int), .bool false, us3 2, us3 3, us3 4, us3 5, us3 6, us3 7, us3 8, us3 9, us3 10, .bool true, .bool false, .bool false, .pointer (some ⟨g2, 0, none⟩), .agg (idA ((askC s (fr.take 30) (l.take 40) half).getD j zC).id), .agg (idA s), .bool false, .bool false, .bool false, .slice fo (fr.take 30).length (fr.take 30).length, .pointer (some ⟨g2, 0, none⟩), .agg (idA ((askC s (fr.take 30) (l.take 40) half).getD j zC).id), .bool false, .bool false, .bool false, .slice wo (want s (allC (fr.take 30) (l.take 40)) half).length wc, .pointer (some ⟨g2, 0, none⟩), .agg (idA ((askC s (fr.take 30) (l.take 40) half).getD j zC).id), .bool true, .bool false, .bool false, .bool false, .int .i64 ((j : Nat) : Int), .bool false, .bool false, undef, undef, undef, undef, undef, undef, undef, undef, undef, undef, .bool false, .bool false, .int .i64 ((j + 1 : Nat) : Int)] : List Value).getD kz undef), rfl, rfl, by omega, GG, kgS, HW, HA⟩
        · have h0l : 0 < j := by have := of_decide_eq_true h0; omega
          refine wp_region_exA (A := ?Ax4) 36 [(0, 70), (1, 71), (2, 72), (3, 73), (4, 74), (5, 75), (6, 76), (7, 77), (8, 78), (9, 79), (10, 80), (11, 81), (12, 82), (13, 83), (14, 84), (15, 85), (16, 86), (17, 87), (18, 88), (19, 89), (20, 90), (21, 91), (22, 92), (23, 93), (24, 94), (25, 95), (26, 96), (27, 97), (28, 98), (29, 99), (30, 100), (31, 101), (32, 102), (33, 103), (34, 104), (35, 105)] [.val (.bool true), .val (.bool false), .val (.bool false), .val (.pointer (some ⟨g2, 0, none⟩)), .val (.agg (idA ((askC s (fr.take 30) (l.take 40) half).getD j zC).id)), .val (.agg (idA s)), .val (.bool false), .val (.bool false), .val (.bool false), .val (.slice fo (fr.take 30).length (fr.take 30).length), .val (.pointer (some ⟨g2, 0, none⟩)), .val (.agg (idA ((askC s (fr.take 30) (l.take 40) half).getD j zC).id)), .val (.bool false), .val (.bool false), .val (.bool false), .val (.slice wo (want s (allC (fr.take 30) (l.take 40)) half).length wc), .val (.pointer (some ⟨g2, 0, none⟩)), .val (.agg (idA ((askC s (fr.take 30) (l.take 40) half).getD j zC).id)), .val (.bool true), .val (.bool false), .val (.bool false), .val (.bool false), .val (.int .i64 ((j : Nat) : Int)), .val (.bool true), .val (.bool true), .val (.slice xo (askC s (fr.take 30) (l.take 40) half).length xc), .val (.int .i64 ((j : Nat) : Int)), .val (.int .i64 ((j - 1 : Nat) : Int)), .val (.pointer (pK kC xo (j - 1) 0)), .val (.pointer (pK kC xo (j - 1) 0)), .val (.agg (idA ((askC s (fr.take 30) (l.take 40) half).getD (j - 1) zC).id)), .val (.pointer (some ⟨g2, 0, none⟩)), .val (.agg (idA ((askC s (fr.take 30) (l.take 40) half).getD j zC).id)), .val (.bool true), .val (.bool false), .val (.bool false)] follows (by kernel_rfl) rfl ?hAx4 (opsA_cons ?o0x4 (opsA_cons ?o1x4 (opsA_cons ?o2x4 (opsA_cons ?o3x4 (opsA_cons ?o4x4 (opsA_cons ?o5x4 (opsA_cons ?o6x4 (opsA_cons ?o7x4 (opsA_cons ?o8x4 (opsA_cons ?o9x4 (opsA_cons ?o10x4 (opsA_cons ?o11x4 (opsA_cons ?o12x4 (opsA_cons ?o13x4 (opsA_cons ?o14x4 (opsA_cons ?o15x4 (opsA_cons ?o16x4 (opsA_cons ?o17x4 (opsA_cons ?o18x4 (opsA_cons ?o19x4 (opsA_cons ?o20x4 (opsA_cons ?o21x4 (opsA_cons ?o22x4 (opsA_cons ?o23x4 (opsA_cons ?o24x4 (opsA_cons ?o25x4 (opsA_cons ?o26x4 (opsA_cons ?o27x4 (opsA_cons ?o28x4 (opsA_cons ?o29x4 (opsA_cons ?o30x4 (opsA_cons ?o31x4 (opsA_cons ?o32x4 (opsA_cons ?o33x4 (opsA_cons ?o34x4 (opsA_cons ?o35x4 opsA_nil)))))))))))))))))))))))))))))))))))) ?restx4
          case hAx4 =>
            intro ptrs
            simp only [full, foldSlots, filledE, postE, List.foldl_cons, List.foldl_nil, List.getD_cons_zero, List.getD_cons_succ, fill_val, List.set_cons_zero, List.set_cons_succ]
            exact rfl
          case o0x4 => exact fun _ _ _ _ => opE_move (v := .bool true) _ rfl rfl rfl
          case o1x4 => exact fun _ _ _ _ => opE_value (v := .bool false) rfl (run_nt _ _ rfl true rfl)
          case o2x4 => exact fun _ _ _ _ => opE_move (v := .bool false) _ rfl rfl rfl
          case o3x4 => exact fun _ _ _ _ => opE_value (v := .pointer (some ⟨g2, 0, none⟩)) rfl (run_fld 33 _ 0 rfl g2 0 rfl 0 (by kernel_rfl))
          case o4x4 => exact fun _ _ hw _ => opE_value (v := .agg (idA ((askC s (fr.take 30) (l.take 40) half).getD j zC).id)) rfl (ldCi _ rfl g2 rfl (hw.has kg2))
          case o5x4 => exact fun _ _ hw _ => opE_value (v := .agg (idA s)) rfl (ldI0 _ rfl gS rfl (hw.has kgS))
          case o6x4 => exact fun _ _ _ _ => opE_value (v := .bool false) rfl (run_eqI _ _ _ rfl ((askC s (fr.take 30) (l.take 40) half).getD j zC).id s rfl rfl (atC HA hjl).id hs false (decide_eq_false hm.2.1))
          case o7x4 => exact fun _ _ _ _ => opE_pick (v := .bool false) _ _ _ rfl rfl false rfl rfl
          case o8x4 => exact fun _ _ _ _ => opE_move (v := .bool false) _ rfl rfl rfl
          case o9x4 => exact fun _ _ _ _ => opE_move (v := .slice fo (fr.take 30).length (fr.take 30).length) _ rfl rfl rfl
          case o10x4 => exact fun _ _ _ _ => opE_value (v := .pointer (some ⟨g2, 0, none⟩)) rfl (run_fld 33 _ 0 rfl g2 0 rfl 0 (by kernel_rfl))
          case o11x4 => exact fun _ _ hw _ => opE_value (v := .agg (idA ((askC s (fr.take 30) (l.take 40) half).getD j zC).id)) rfl (ldCi _ rfl g2 rfl (hw.has kg2))
          case o12x4 =>
            intro ptrs w' hw hE
            exact opE_call (.val (.bool false)) rfl _ 16 Try.call16 rfl rfl _ rfl [.slice fo (fr.take 30).length (fr.take 30).length, .agg (idA ((askC s (fr.take 30) (l.take 40) half).getD j zC).id)] rfl ((Calls.bool (refhasK _ fo _ (fr.take 30) (HF3.gro (GG.drew.trans hw)) (by omega) ((askC s (fr.take 30) (l.take 40) half).getD j zC).id (atC HA hjl).id) (decide_eq_false hm.2.2.1)).mono fun e w' ⟨he, hg⟩ => ⟨_, he, hg, rfl⟩)
          case o13x4 => exact fun _ _ _ _ => opE_pick (v := .bool false) _ _ _ rfl rfl false rfl rfl
          case o14x4 => exact fun _ _ _ _ => opE_move (v := .bool false) _ rfl rfl rfl
          case o15x4 => exact fun _ _ _ _ => opE_move (v := .slice wo (want s (allC (fr.take 30) (l.take 40)) half).length wc) _ rfl rfl rfl
          case o16x4 => exact fun _ _ _ _ => opE_value (v := .pointer (some ⟨g2, 0, none⟩)) rfl (run_fld 33 _ 0 rfl g2 0 rfl 0 (by kernel_rfl))
          case o17x4 => exact fun _ _ hw _ => opE_value (v := .agg (idA ((askC s (fr.take 30) (l.take 40) half).getD j zC).id)) rfl (ldCi _ rfl g2 rfl (hw.has kg2))
          case o18x4 =>
            intro ptrs w' hw hE
            exact opE_call (.val (.bool true)) rfl _ 16 Try.call16 rfl rfl _ rfl [.slice wo (want s (allC (fr.take 30) (l.take 40)) half).length wc, .agg (idA ((askC s (fr.take 30) (l.take 40) half).getD j zC).id)] rfl ((Calls.bool (refhasK _ wo wc (want s (allC (fr.take 30) (l.take 40)) half) (HW.gro ((Gro.refl _).drew.trans hw)) (Nat.le_trans (want_len _ _ _) (by rw [hAL]; omega)) ((askC s (fr.take 30) (l.take 40) half).getD j zC).id (atC HA hjl).id) (decide_eq_true hm.2.2.2)).mono fun e w' ⟨he, hg⟩ => ⟨_, he, hg, rfl⟩)
          case o19x4 => exact fun _ _ _ _ => opE_value (v := .bool false) rfl (run_nt _ _ rfl true rfl)
          case o20x4 => exact fun _ _ _ _ => opE_pick (v := .bool false) _ _ _ rfl rfl false rfl rfl
          case o21x4 => exact fun _ _ _ _ => opE_move (v := .bool false) _ rfl rfl rfl
          case o22x4 => exact fun _ _ _ _ => opE_move (v := .int .i64 ((j : Nat) : Int)) _ rfl rfl rfl
          case o23x4 => exact fun _ _ _ _ => opE_value (v := .bool true) rfl (run_gtrT 3 _ _ _ rfl ((j : Nat) : Int) 0 rfl rfl true h0 _)
          case o24x4 => exact fun _ _ _ _ => opE_move (v := .bool true) _ rfl rfl rfl
          case o25x4 => exact fun _ _ _ _ => opE_move (v := .slice xo (askC s (fr.take 30) (l.take 40) half).length xc) _ rfl rfl rfl
          case o26x4 => exact fun _ _ _ _ => opE_move (v := .int .i64 ((j : Nat) : Int)) _ rfl rfl rfl
          case o27x4 => exact fun _ _ _ _ => opE_value (v := .int .i64 ((j - 1 : Nat) : Int)) rfl (run_subI 3 _ _ _ rfl ((j : Nat) : Int) 1 ((j - 1 : Nat) : Int) rfl rfl (by omega) (by omega) (by omega) _)
          case o28x4 => exact fun _ _ hw _ => opE_value (v := .pointer (pK kC xo (j - 1) 0)) rfl (run_ixK rC (HA.gro ((Gro.refl _).drew.trans hw)) _ _ rfl rfl (j - 1) rfl (by omega))
          case o29x4 => exact fun _ _ hw _ => opE_value (v := .pointer (pK kC xo (j - 1) 0)) rfl (run_fdK (HA.gro ((Gro.refl _).drew.trans hw)) 33 _ 0 0 (fdC_0 _) rfl (j - 1) rfl (by omega))
          case o30x4 => exact fun _ _ hw _ => opE_value (v := .agg (idA ((askC s (fr.take 30) (l.take 40) half).getD (j - 1) zC).id)) rfl (run_ldKCi (HA.gro ((Gro.refl _).drew.trans hw)) _ rfl (j - 1) rfl (by omega))
          case o31x4 => exact fun _ _ _ _ => opE_value (v := .pointer (some ⟨g2, 0, none⟩)) rfl (run_fld 33 _ 0 rfl g2 0 rfl 0 (by kernel_rfl))
          case o32x4 => exact fun _ _ hw _ => opE_value (v := .agg (idA ((askC s (fr.take 30) (l.take 40) half).getD j zC).id)) rfl (ldCi _ rfl g2 rfl (hw.has kg2))
          case o33x4 =>
            intro ptrs w' hw hE
            exact opE_call (.val (.bool true)) rfl _ 17 Try.call17 rfl rfl _ rfl [.agg (idA ((askC s (fr.take 30) (l.take 40) half).getD (j - 1) zC).id), .agg (idA ((askC s (fr.take 30) (l.take 40) half).getD j zC).id)] rfl ((Calls.bool (less_any ((askC s (fr.take 30) (l.take 40) half).getD (j - 1) zC).id ((askC s (fr.take 30) (l.take 40) half).getD j zC).id (atC HA (by omega)).id (atC HA hjl).id _) (decide_eq_true (askC_rise HF3.all HC4.all h0l hjl))).mono fun e w' ⟨he, hg⟩ => ⟨_, he, hg, rfl⟩)
          case o34x4 => exact fun _ _ _ _ => opE_value (v := .bool false) rfl (run_nt _ _ rfl true rfl)
          case o35x4 => exact fun _ _ _ _ => opE_pick (v := .bool false) _ _ _ rfl rfl true rfl rfl
          intro ptrs w8 GD hxE
          simp only [List.drop_succ_cons, List.drop_zero]
          replace kgS := GD.has kgS
          replace kg2 := GD.has kg2
          replace HW := HW.gro ((Gro.refl _).drew.trans GD)
          replace HA := HA.gro ((Gro.refl _).drew.trans GD)
          replace GG := GG.drew.trans GD
          clear GD
          refine s_val 106 rfl rfl (.bool false) (rfl) ?_
          refine nr ?_; intro U h; simp only [z0, z1] at h; subst h
          refine wpList_nil ?_
          refine then_n ?_
          refine wp_cond_false rfl ?_
          refine wp_skip ?_
          refine blk_n ?_
          refine then_n ?_
          refine wp_region_lit ?_
          refine s_val 107 rfl rfl (.int .i64 ((j + 1 : Nat) : Int)) (run_addI 3 _ _ _ rfl ((j : Nat) : Int) 1 ((j + 1 : Nat) : Int) rfl rfl (by omega) (by omega) (by omega) _) ?_
          refine nr ?_; intro U h; simp only [z0, z1] at h; subst h
          refine s_val 52 rfl rfl (.int .i64 ((j + 1 : Nat) : Int)) (rfl) ?_
          refine nr ?_; intro U h; simp only [z0, z1] at h; subst h
          refine wpList_nil ?_
          refine then_n ?_
          exact ⟨(askC s (fr.take 30) (l.take 40) half).length + 1 - (j + 1), by omega, j + 1, (fun kz => ([us2 0, .int .i64 ((j : Nat) : Int), .pointer (some ⟨g2, 0, none⟩), .bool true, us3 0, .bool true, .int .i64 ((j : Nat) : Int), .pointer (pK kC xo j 0), .agg (cdA ((askC s (fr.take 30) (l.take 40) half).getD j zC)), .slice ao (l.take 40).length (l.take 40).length, .int .i64 (((l.take 40).length : Nat) : Int), .int .i64 ((k : Nat) : Int), .bool false, us3 2, us3 3, us3 4, us3 5, us3 6, us3 7, us3 8, us3 9, us3 10, .bool true, .bool false, .bool false, .pointer (some ⟨g2, 0, none⟩), .agg (idA ((askC s (fr.take 30) (l.take 40) half).getD j zC).id), .agg (idA s), .bool false, .bool false, .bool false, .slice fo (fr.take 30).length (fr.take 30).length, .pointer (some ⟨g2, 0, none⟩), .agg (idA ((askC s (fr.take 30) (l.take 40) half).getD j zC).id), .bool false, .bool false, .bool false, .slice wo (want s (allC (fr.take 30) (l.take 40)) half).length wc, .pointer (some ⟨g2, 0, none⟩), .agg (idA ((askC s (fr.take 30) (l.take 40) half).getD j zC).id), .bool true, .bool false, .bool false, .bool false, .int .i64 ((j : Nat) : Int), .bool true, .bool true, .slice xo (askC s (fr.take 30) (l.take 40) half).length xc, .int .i64 ((j : Nat) : Int), .int .i64 ((j - 1 : Nat) : Int), .pointer (pK kC xo (j - 1) 0), .pointer (pK kC xo (j - 1) 0), .agg (idA ((askC s (fr.take 30) (l.take 40) half).getD (j - 1) zC).id), .pointer (some ⟨g2, 0, none⟩), .agg (idA ((askC s (fr.take 30) (l.take 40) half).getD j zC).id), .bool true, .bool false, .bool false, .bool false, .int .i64 ((j + 1 : Nat) : Int)] : List Value).getD kz undef), rfl, rfl, by omega, GG, kgS, HW, HA⟩
      · have hkl : k < (l.take 40).length := by have := of_decide_eq_true hk1; omega
        refine s_val 60 rfl rfl (.bool true) (run_lssT 3 _ _ _ rfl ((k : Nat) : Int) (((l.take 40).length : Nat) : Int) rfl rfl true hk1 _) ?_
        refine nr ?_; intro U h; simp only [z0, z1] at h; subst h
        refine wpList_nil ?_
        refine then_n ?_
        refine wp_seq ?_
        refine wp_cond_true rfl ?_
        refine wp_skip ?_
        refine then_n ?_
        refine wp_seq ?_
        refine wp_block ?_
        refine wp_seq ?_
        refine wp_region_lit ?_
        refine s_val 61 rfl rfl (.pointer (pK kC ao k 0)) (run_ixK rC (HC4.gro GG) _ _ rfl rfl k rfl hkl) ?_
        refine nr ?_; intro U h; simp only [z0, z1] at h; subst h
        refine s_val 62 rfl rfl (.agg (cdA ((l.take 40).getD k zC))) (run_ldKC (HC4.gro GG) _ rfl k rfl hkl) ?_
        refine nr ?_; intro U h; simp only [z0, z1] at h; subst h
        refine s_alloc 16 rfl rfl 33 rfl _ zeroC (cdA zC) rfl ?_
        intro w8 g3 G eg3 kg3
        have bg3 := size_base GG eg3
        have dgSg3 := lt_new kgS eg3
        have dg2g3 := lt_new kg2 eg3
        have dHWg3 := HW.ne eg3
        have dHAg3 := HA.ne eg3
        replace kgS := G.has kgS
        replace kg2 := G.has kg2
        replace HW := HW.gro G
        replace HA := HA.gro G
        replace GG := GG.trans G
        clear G
        clear eg3
        refine nr ?_; intro U h; simp only [z0, z1] at h; subst h
        refine s_store rfl rfl 33 _ _ rfl g3 0 rfl (.agg (cdA ((l.take 40).getD k zC))) rfl 33 _ kg3 (cdA ((l.take 40).getD k zC)) rfl (siC' _) (cdA_fit _ _) (cdA_one _) (cdA ((l.take 40).getD k zC)) (splice_whole _ _ (cdA_sz _ _)) ?_
        intro w9 St
        have kS := kg3
        replace kgS := St.has (by omega) kgS
        replace kg2 := St.has (by omega) kg2
        replace HW := HW.st St dHWg3
        replace HA := HA.st St dHAg3
        replace GG := GG.store St bg3
        replace kg3 := St.new
        clear St
        refine wpList_nil ?_
        refine then_n ?_
        cases ht : decide (tb = true)
        · have htb : tb = false := Bool.eq_false_iff.2 (of_decide_eq_false ht)
          subst htb
          cases he : decide (eqC ((l.take 40).getD k zC) ((askC s (fr.take 30) (l.take 40) half).getD j zC) = true)
          · refine wp_region_opq ?_
            intro OPS hY
            have y1 := hY 1 64 rfl
            clear hY
            refine s_val 63 rfl rfl (.bool false) (rfl) ?_
            refine nr ?_; intro U h; simp only [z0, z1] at h; subst h
            refine s_val 64 rfl rfl (.bool false) (rfl) ?_
            refine nr ?_; intro U h; simp only [z0, z1] at h; subst h
            refine s_gvalY 65 rfl rfl y1 rfl (.agg (cdA ((l.take 40).getD k zC))) (ldC0 _ rfl g3 rfl (kg3)) ?_
            refine nr ?_; intro U h; simp only [z0, z1] at h; subst h
            refine s_gvalY 66 rfl rfl y1 rfl (.agg (cdA ((askC s (fr.take 30) (l.take 40) half).getD j zC))) (ldC0 _ rfl g2 rfl (kg2)) ?_
            refine nr ?_; intro U h; simp only [z0, z1] at h; subst h
            refine s_gvalY 67 rfl rfl y1 rfl (.bool false) (run_eqC _ _ _ rfl ((l.take 40).getD k zC) ((askC s (fr.take 30) (l.take 40) half).getD j zC) rfl rfl (atC HC4 hkl) (atC HA hjl) false ((dec_b _).trans he)) ?_
            refine nr ?_; intro U h; simp only [z0, z1] at h; subst h
            refine s_val 68 rfl rfl (.bool false) (rfl) ?_
            refine nr ?_; intro U h; simp only [z0, z1] at h; subst h
            refine s_val 14 rfl rfl (.bool false) (rfl) ?_
            refine nr ?_; intro U h; simp only [z0, z1] at h; subst h
            refine wpList_nil ?_
            refine blk_n ?_
            refine then_n ?_
            refine wp_region_lit ?_
            refine s_val 69 rfl rfl (.int .i64 ((k + 1 : Nat) : Int)) (run_addI 3 _ _ _ rfl ((k : Nat) : Int) 1 ((k + 1 : Nat) : Int) rfl rfl (by omega) (by omega) (by omega) _) ?_
            refine nr ?_; intro U h; simp only [z0, z1] at h; subst h
            refine s_val 59 rfl rfl (.int .i64 ((k + 1 : Nat) : Int)) (rfl) ?_
            refine nr ?_; intro U h; simp only [z0, z1] at h; subst h
            refine wpList_nil ?_
            refine then_n ?_
            exact ⟨(l.take 40).length + 1 - (k + 1), by omega, k + 1, false, (fun kz => ([.pointer (some ⟨g3, 0, none⟩), .bool true, .pointer (pK kC ao k 0), .agg (cdA ((l.take 40).getD k zC)), .bool false, .bool false, .agg (cdA ((l.take 40).getD k zC)), .agg (cdA ((askC s (fr.take 30) (l.take 40) half).getD j zC)), .bool false, .bool false, .int .i64 ((k + 1 : Nat) : Int)] : List Value).getD kz undef), rfl, rfl, by omega, .inr (in_step hT rfl (eqC_ne he)), GG, kgS, HW, HA, kg2, bg2⟩
          · refine wp_region_opq ?_
            intro OPS hY
            have y1 := hY 1 64 rfl
            clear hY
            refine s_val 63 rfl rfl (.bool false) (rfl) ?_
            refine nr ?_; intro U h; simp only [z0, z1] at h; subst h
            refine s_val 64 rfl rfl (.bool false) (rfl) ?_
            refine nr ?_; intro U h; simp only [z0, z1] at h; subst h
            refine s_gvalY 65 rfl rfl y1 rfl (.agg (cdA ((l.take 40).getD k zC))) (ldC0 _ rfl g3 rfl (kg3)) ?_
            refine nr ?_; intro U h; simp only [z0, z1] at h; subst h
            refine s_gvalY 66 rfl rfl y1 rfl (.agg (cdA ((askC s (fr.take 30) (l.take 40) half).getD j zC))) (ldC0 _ rfl g2 rfl (kg2)) ?_
            refine nr ?_; intro U h; simp only [z0, z1] at h; subst h
            refine s_gvalY 67 rfl rfl y1 rfl (.bool true) (run_eqC _ _ _ rfl ((l.take 40).getD k zC) ((askC s (fr.take 30) (l.take 40) half).getD j zC) rfl rfl (atC HC4 hkl) (atC HA hjl) true ((dec_b _).trans he)) ?_
            refine nr ?_; intro U h; simp only [z0, z1] at h; subst h
            refine s_val 68 rfl rfl (.bool true) (rfl) ?_
            refine nr ?_; intro U h; simp only [z0, z1] at h; subst h
            refine s_val 14 rfl rfl (.bool true) (rfl) ?_
            refine nr ?_; intro U h; simp only [z0, z1] at h; subst h
            refine wpList_nil ?_
            refine blk_n ?_
            refine then_n ?_
            refine wp_region_lit ?_
            refine s_val 69 rfl rfl (.int .i64 ((k + 1 : Nat) : Int)) (run_addI 3 _ _ _ rfl ((k : Nat) : Int) 1 ((k + 1 : Nat) : Int) rfl rfl (by omega) (by omega) (by omega) _) ?_
            refine nr ?_; intro U h; simp only [z0, z1] at h; subst h
            refine s_val 59 rfl rfl (.int .i64 ((k + 1 : Nat) : Int)) (rfl) ?_
            refine nr ?_; intro U h; simp only [z0, z1] at h; subst h
            refine wpList_nil ?_
            refine then_n ?_
            exact ⟨(l.take 40).length + 1 - (k + 1), by omega, k + 1, true, (fun kz => ([.pointer (some ⟨g3, 0, none⟩), .bool true, .pointer (pK kC ao k 0), .agg (cdA ((l.take 40).getD k zC)), .bool false, .bool false, .agg (cdA ((l.take 40).getD k zC)), .agg (cdA ((askC s (fr.take 30) (l.take 40) half).getD j zC)), .bool true, .bool true, .int .i64 ((k + 1 : Nat) : Int)] : List Value).getD kz undef), rfl, rfl, by omega, .inl rfl, GG, kgS, HW, HA, kg2, bg2⟩
        · have htb : tb = true := of_decide_eq_true ht
          subst htb
          refine wp_region_opq ?_
          intro OPS hY
          have y1 := hY 1 64 rfl
          clear hY
          refine s_val 63 rfl rfl (.bool true) (rfl) ?_
          refine nr ?_; intro U h; simp only [z0, z1] at h; subst h
          refine s_val 64 rfl rfl (.bool true) (rfl) ?_
          refine nr ?_; intro U h; simp only [z0, z1] at h; subst h
          refine s_skipY 65 rfl rfl y1 rfl ?_
          refine nr ?_; intro U h; simp only [z0, z1] at h; subst h
          refine s_skipY 66 rfl rfl y1 rfl ?_
          refine nr ?_; intro U h; simp only [z0, z1] at h; subst h
          refine s_skipY 67 rfl rfl y1 rfl ?_
          refine nr ?_; intro U h; simp only [z0, z1] at h; subst h
          refine s_val 68 rfl rfl (.bool true) (rfl) ?_
          refine nr ?_; intro U h; simp only [z0, z1] at h; subst h
          refine s_val 14 rfl rfl (.bool true) (rfl) ?_
          refine nr ?_; intro U h; simp only [z0, z1] at h; subst h
          refine wpList_nil ?_
          refine blk_n ?_
          refine then_n ?_
          refine wp_region_lit ?_
          refine s_val 69 rfl rfl (.int .i64 ((k + 1 : Nat) : Int)) (run_addI 3 _ _ _ rfl ((k : Nat) : Int) 1 ((k + 1 : Nat) : Int) rfl rfl (by omega) (by omega) (by omega) _) ?_
          refine nr ?_; intro U h; simp only [z0, z1] at h; subst h
          refine s_val 59 rfl rfl (.int .i64 ((k + 1 : Nat) : Int)) (rfl) ?_
          refine nr ?_; intro U h; simp only [z0, z1] at h; subst h
          refine wpList_nil ?_
          refine then_n ?_
          exact ⟨(l.take 40).length + 1 - (k + 1), by omega, k + 1, true, (fun kz => ([.pointer (some ⟨g3, 0, none⟩), .bool true, .pointer (pK kC ao k 0), .agg (cdA ((l.take 40).getD k zC)), .bool true, .bool true, undef, undef, undef, .bool true, .int .i64 ((k + 1 : Nat) : Int)] : List Value).getD kz undef), rfl, rfl, by omega, .inl rfl, GG, kgS, HW, HA, kg2, bg2⟩
  · have hil : i < (l.take 40).length := by have := of_decide_eq_true hi1; omega
    refine s_val 32 rfl rfl (.bool true) (run_lssT 3 _ _ _ rfl ((i : Nat) : Int) (((l.take 40).length : Nat) : Int) rfl rfl true hi1 _) ?_
    refine nr ?_; intro U h; simp only [z0, z1] at h; subst h
    refine wpList_nil ?_
    refine then_n ?_
    refine wp_seq ?_
    refine wp_cond_true rfl ?_
    refine wp_skip ?_
    refine then_n ?_
    refine wp_seq ?_
    refine wp_block ?_
    refine wp_seq ?_
    refine wp_region_lit ?_
    refine s_val 33 rfl rfl (.pointer (pK kC ao i 0)) (run_ixK rC (HC4.gro GG) _ _ rfl rfl i rfl hil) ?_
    refine nr ?_; intro U h; simp only [z0, z1] at h; subst h
    refine s_val 34 rfl rfl (.agg (cdA ((l.take 40).getD i zC))) (run_ldKC (HC4.gro GG) _ rfl i rfl hil) ?_
    refine nr ?_; intro U h; simp only [z0, z1] at h; subst h
    refine s_alloc 9 rfl rfl 33 rfl _ zeroC (cdA zC) rfl ?_
    intro w4 g2 G eg2 kg2
    have bg2 := size_base GG eg2
    have dgSg2 := lt_new kgS eg2
    have dHOg2 := HO.ne eg2
    replace hBw := Nat.le_trans hBw G.size
    replace kgS := G.has kgS
    replace HO := HO.gro G
    replace GG := GG.trans G
    clear G
    clear eg2
    refine nr ?_; intro U h; simp only [z0, z1] at h; subst h
    refine s_store rfl rfl 33 _ _ rfl g2 0 rfl (.agg (cdA ((l.take 40).getD i zC))) rfl 33 _ kg2 (cdA ((l.take 40).getD i zC)) rfl (siC' _) (cdA_fit _ _) (cdA_one _) (cdA ((l.take 40).getD i zC)) (splice_whole _ _ (cdA_sz _ _)) ?_
    intro w5 St
    have kS := kg2
    replace kgS := St.has (by omega) kgS
    replace HO := HO.st St dHOg2
    replace GG := GG.store St bg2
    replace kg2 := St.new
    replace hBw := Nat.le_trans hBw (Nat.le_of_eq St.size.symm)
    clear St
    refine wpList_nil ?_
    refine then_n ?_
    refine wp_region_lit ?_
    refine s_val 35 rfl rfl (.slice no ((fr.take 30).length + i) noc) (rfl) ?_
    refine nr ?_; intro U h; simp only [z0, z1] at h; subst h
    refine s_val 36 rfl rfl (.pointer (some ⟨g2, 0, none⟩)) (run_fld 33 _ 0 rfl g2 0 rfl 0 (by kernel_rfl)) ?_
    refine nr ?_; intro U h; simp only [z0, z1] at h; subst h
    refine s_val 37 rfl rfl (.agg (idA ((l.take 40).getD i zC).id)) (ldCi _ rfl g2 rfl (kg2)) ?_
    refine nr ?_; intro U h; simp only [z0, z1] at h; subst h
    refine s_bsl 38 rfl rfl 24 1 _ rfl [(0, .agg (idA ((l.take 40).getD i zC).id))] rfl ([((l.take 40).getD i zC).id].flatMap kI.E).toArray 23 (bsI ((l.take 40).getD i zC).id _) ?_
    intro w6 q1 G eq1 kq1
    have bq1 := size_base GG eq1
    replace hBw := Nat.le_trans hBw G.size
    replace kgS := G.has kgS
    replace kg2 := G.has kg2
    replace HO := HO.gro G
    replace GG := GG.trans G
    clear G
    have HR1 : RK kI _ (some ⟨q1, 0, none⟩) 1 [((l.take 40).getD i zC).id] := RK.blk kq1 (one_all (atC HC4 hil).id) (Nat.le_refl _)
    clear eq1
    refine nr ?_; intro U h; simp only [z0, z1] at h; subst h
    have hAC : ((fr.take 30) ++ ids ((l.take 40).take i)).length = (fr.take 30).length + i := by have h9 : ((l.take 40).take i).length = i := (by rw [List.length_take]; omega); rw [List.length_append, ids, List.length_map, h9]
    have hAC2 : (((fr.take 30) ++ ids ((l.take 40).take i)) ++ [((l.take 40).getD i zC).id]).length = (fr.take 30).length + (i + 1) := by rw [List.length_append, hAC]; rfl
    refine s_appK rIk (by decide) 39 rfl rfl _ _ rfl (by rw [hAC]; rfl) HO rfl HR1 (by rw [hAC]; simp only [List.length_cons, List.length_nil]; omega) hBw ?_
    intro no2 noc2 w7 HO9 G2 _
    replace kgS := G2.has kgS (fun hm => by have := HO.own.base _ hm; omega)
    replace hBw := Nat.le_trans hBw G2.size
    replace GG := G2.gro GG (fun k hk => Nat.le_trans hB0 (HO.own.base k hk))
    clear G2 HO
    have HO := HO9
    clear HO9
    clear kg2
    refine nr ?_; intro U h; simp only [z0, z1] at h; subst h
    refine s_val 7 rfl rfl (.slice no2 (((fr.take 30) ++ ids ((l.take 40).take i)) ++ [((l.take 40).getD i zC).id]).length noc2) (rfl) ?_
    refine nr ?_; intro U h; simp only [z0, z1] at h; subst h
    refine wpList_nil ?_
    refine blk_n ?_
    refine then_n ?_
    refine wp_region_lit ?_
    refine s_val 40 rfl rfl (.int .i64 ((i + 1 : Nat) : Int)) (run_addI 3 _ _ _ rfl ((i : Nat) : Int) 1 ((i + 1 : Nat) : Int) rfl rfl (by omega) (by omega) (by omega) _) ?_
    refine nr ?_; intro U h; simp only [z0, z1] at h; subst h
    refine s_val 31 rfl rfl (.int .i64 ((i + 1 : Nat) : Int)) (rfl) ?_
    refine nr ?_; intro U h; simp only [z0, z1] at h; subst h
    refine wpList_nil ?_
    refine then_n ?_
    exact ⟨(l.take 40).length + 1 - (i + 1), by omega, i + 1, no2, noc2, (fun kz => ([.pointer (some ⟨g2, 0, none⟩), .bool true, .pointer (pK kC ao i 0), .agg (cdA ((l.take 40).getD i zC)), .slice no ((fr.take 30).length + i) noc, .pointer (some ⟨g2, 0, none⟩), .agg (idA ((l.take 40).getD i zC).id), .slice (some ⟨q1, 0, none⟩) 1 1, .slice no2 (((fr.take 30) ++ ids ((l.take 40).take i)) ++ [((l.take 40).getD i zC).id]).length noc2, .int .i64 ((i + 1 : Nat) : Int)] : List Value).getD kz undef), rfl, by rw [hAC2]; rfl, by omega, GG, hBw, kgS, by rw [← ids_step hil, ← List.append_assoc]; exact HO⟩
end Go.Proofs.Ytfabgonoonanfaa
