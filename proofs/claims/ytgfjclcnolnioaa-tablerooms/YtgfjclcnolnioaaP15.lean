/- No more entries than room, no two of one key: the law. -/
import Derived.Test.YtgfjclcnolnioaaP15a
namespace Go.Proofs.Ytgfjclcnolnioaa
open Classical
open Go.RowKit Go.Maps
theorem Calls.tabV {P : Program} {f : FuncId} {args : Array Value} {w : World} {R : World → Prop} {u v : Value} (h : Calls P f args w fun e w' => e = .returned u ∧ R w') (e : u = v) : Calls P f args w fun e w' => e = .returned v ∧ R w' := e ▸ h
set_option maxRecDepth 100000 in
set_option maxHeartbeats 4000000 in
theorem tableRooms_any (w : World) (most : Int) (ao0 : Option Addr) (cap0 : Nat) (l : List Oq) (H : RQ w ao0 cap0 l) (hl : l.length ≤ maxLen) : Calls Try.prog 5 #[.int .i64 most, .slice ao0 l.length cap0] w (fun e w' => e = .returned (.bool true) ∧ Gro w w') := by
  refine s_enter Try.func5 rfl Try.ntmps5 [.int .i64 most, .slice ao0 l.length cap0] [.int .i64 most, .slice ao0 l.length cap0, undef, undef, undef, undef, undef, undef, undef, undef, undef, undef, undef, undef, undef, undef, undef, undef, undef, undef, undef, undef, undef, undef, undef, undef, undef, undef, undef, undef, undef, undef, undef, undef, undef, undef, undef, undef, undef, undef, undef, undef, undef, undef, undef, undef, undef, undef, undef, undef, undef, undef, undef, undef, undef, undef, undef, undef, undef, undef, undef, undef, undef, undef, undef, undef, undef, undef, undef, undef, undef, undef, undef, undef, undef, undef, undef, undef, undef, undef, undef, undef, undef, undef, undef, undef, undef, undef, undef, undef, undef, undef, undef, undef, undef, undef, undef, undef, undef, undef, undef, undef, undef, undef, undef, undef, undef, undef, undef, undef, undef, undef, undef, undef, undef, undef, undef, undef, undef, undef, undef, undef, undef, undef, undef, undef, undef, undef, undef, undef, undef, undef, undef, undef, undef, undef, undef, undef, undef, undef] rfl ?_
  have GG := Gro.refl w
  rw [maxL] at hl
  refine wp_seq ?_
  refine wp_region_lit ?_
  refine s_val 4 rfl rfl (.bool false) (rfl) ?_
  refine nr ?_; intro U h; simp only [z0, z1] at h; subst h
  refine wpList_nil ?_
  refine then_n ?_
  refine wp_seq ?_
  refine wp_region_lit ?_
  refine s_val 17 rfl rfl (.int .i64 most) (rfl) ?_
  refine nr ?_; intro U h; simp only [z0, z1] at h; subst h
  refine s_callx 18 rfl rfl _ 9 Try.call9 rfl rfl _ rfl [.int .i64 most] rfl (new_any most _) (by rintro _ _ ⟨_, _, he, _⟩; exact ⟨_, he⟩) ?_
  rintro v w1 ⟨t, b, he, G, kt, HTt, h1t, h2t⟩
  cases he
  have bt := Nat.le_trans GG.size h1t
  have bb := Nat.le_trans GG.size h2t
  clear h1t h2t
  replace GG := GG.trans G
  clear G
  refine nr ?_; intro U h; simp only [z0, z1] at h; subst h
  refine s_val 5 rfl rfl (.pointer (some ⟨t, 0, none⟩)) (rfl) ?_
  refine nr ?_; intro U h; simp only [z0, z1] at h; subst h
  refine wpList_nil ?_
  refine then_n ?_
  refine wp_seq ?_
  refine wp_seq ?_
  refine wp_region_opq ?_
  intro OPS hY
  have y2 := hY 2 21 rfl
  clear hY
  refine s_val 19 rfl rfl (.pointer (some ⟨t, 0, none⟩)) (rfl) ?_
  refine nr ?_; intro U h; simp only [z0, z1] at h; subst h
  refine s_val 20 rfl rfl (.bool false) (run_eqnp 23 _ _ _ rfl _ rfl rfl Try.underlying23 _) ?_
  refine nr ?_; intro U h; simp only [z0, z1] at h; subst h
  refine s_val 21 rfl rfl (.bool false) (rfl) ?_
  refine nr ?_; intro U h; simp only [z0, z1] at h; subst h
  refine s_gcallvY 22 rfl rfl y2 rfl _ 11 Try.call11 rfl rfl _ rfl [] rfl (fixed_any _) ?_
  intro w2 G
  replace kt := G.has kt
  replace HTt := HTt.gro G
  replace GG := GG.trans G
  clear G
  refine nr ?_; intro U h; simp only [z0, z1] at h; subst h
  refine s_gvalY 23 rfl rfl y2 rfl (.bool false) (run_nt _ _ rfl true rfl) ?_
  refine nr ?_; intro U h; simp only [z0, z1] at h; subst h
  refine s_val 24 rfl rfl (.bool false) (rfl) ?_
  refine nr ?_; intro U h; simp only [z0, z1] at h; subst h
  refine wpList_nil ?_
  refine then_n ?_
  refine wp_cond_false rfl ?_
  refine wp_skip ?_
  refine then_n ?_
  refine wp_seq ?_
  refine wp_region_lit ?_
  refine s_val 25 rfl rfl (.int .i64 most) (rfl) ?_
  refine nr ?_; intro U h; simp only [z0, z1] at h; subst h
  refine s_val 26 rfl rfl (.int .i64 (max most 0)) (run_maxI _ _ _ rfl most 0 rfl rfl _) ?_
  refine nr ?_; intro U h; simp only [z0, z1] at h; subst h
  refine s_val 27 rfl rfl (.int .i64 ((rmF most : Nat) : Int)) (run_room _ _ _ rfl most rfl rfl _) ?_
  refine nr ?_; intro U h; simp only [z0, z1] at h; subst h
  refine s_val 6 rfl rfl (.int .i64 ((rmF most : Nat) : Int)) (rfl) ?_
  refine nr ?_; intro U h; simp only [z0, z1] at h; subst h
  refine wpList_nil ?_
  refine then_n ?_
  refine wp_seq ?_
  refine wp_region_lit ?_
  refine s_val 7 rfl rfl (.slice none 0 0) (rfl) ?_
  refine nr ?_; intro U h; simp only [z0, z1] at h; subst h
  refine wpList_nil ?_
  refine then_n ?_
  refine wp_seq ?_
  refine wp_seq ?_
  refine wp_region_lit ?_
  refine s_val 28 rfl rfl (.slice ao0 l.length cap0) (rfl) ?_
  refine nr ?_; intro U h; simp only [z0, z1] at h; subst h
  refine s_val 29 rfl rfl (.int .i64 ((l.length : Nat) : Int)) (run_len Try.underlying22 _ rfl _ _ _ rfl _) ?_
  refine nr ?_; intro U h; simp only [z0, z1] at h; subst h
  refine s_val 30 rfl rfl (.int .i64 0) (rfl) ?_
  refine nr ?_; intro U h; simp only [z0, z1] at h; subst h
  refine wpList_nil ?_
  refine then_n ?_
  refine wp_block ?_
  refine wp_loopN (fun mz az wv => ∃ (i : Nat) (L : List En) (I : List En) (ao : Option Addr) (cap : Nat) (us1 : Nat → Value), mz = l.length + 1 - i ∧ az = ⟨[.int .i64 most, .slice ao0 l.length cap0, undef, undef, us1 0, .pointer (some ⟨t, 0, none⟩), .int .i64 ((rmF most : Nat) : Int), .slice ao I.length cap, us1 1, us1 2, us1 3, us1 4, us1 5, undef, undef, undef, undef, .int .i64 most, .pointer (some ⟨t, 0, none⟩), .pointer (some ⟨t, 0, none⟩), .bool false, .bool false, .bool true, .bool false, .bool false, .int .i64 most, .int .i64 (max most 0), .int .i64 ((rmF most : Nat) : Int), .slice ao0 l.length cap0, .int .i64 ((l.length : Nat) : Int), .int .i64 ((i : Nat) : Int), us1 6, us1 7, us1 8, us1 9, us1 10, us1 11, us1 12, us1 13, us1 14, us1 15, us1 16, us1 17, us1 18, us1 19, us1 20, us1 21, us1 22, us1 23, us1 24, us1 25, us1 26, us1 27, us1 28, us1 29, us1 30, us1 31, us1 32, us1 33, us1 34, us1 35, us1 36, us1 37, us1 38, us1 39, us1 40, us1 41, us1 42, us1 43, us1 44, us1 45, us1 46, us1 47, us1 48, us1 49, us1 50, us1 51, us1 52, us1 53, us1 54, us1 55, us1 56, us1 57, us1 58, us1 59, us1 60, us1 61, us1 62, us1 63, us1 64, us1 65, us1 66, us1 67, us1 68, us1 69, undef, undef, undef, undef, undef, undef, undef, undef, undef, undef, undef, undef, undef, undef, undef, undef, undef, undef, undef, undef, undef, undef, undef, undef, undef, undef, undef, undef, undef, undef, undef, undef, undef, undef, undef, undef, undef, undef, undef, undef, undef, undef, undef, undef, undef].toArray, []⟩ ∧ i ≤ l.length ∧ Gro w wv ∧ wv.heap[t]? = some (.cells (tbA (rmF most) b) 59 (0, 0)) ∧ TM wv b L ∧ TI (rmF most) L ∧ I.Perm L ∧ OE wv w.heap.size ao cap I) ?_ _ ⟨0, [], [], none, 0, (fun kz => ([.bool false, undef, undef, undef, undef, undef, undef, undef, undef, undef, undef, undef, undef, undef, undef, undef, undef, undef, undef, undef, undef, undef, undef, undef, undef, undef, undef, undef, undef, undef, undef, undef, undef, undef, undef, undef, undef, undef, undef, undef, undef, undef, undef, undef, undef, undef, undef, undef, undef, undef, undef, undef, undef, undef, undef, undef, undef, undef, undef, undef, undef, undef, undef, undef, undef, undef, undef, undef, undef, undef] : List Value).getD kz undef), rfl, rfl, Nat.zero_le _, GG, kt, HTt, TI.nil _, List.Perm.refl _, OE.nil _ _⟩
  clear GG kt HTt
  rintro mz az wv ⟨i, L, I, ao, cap, us1, rfl, rfl, hi, GG, kt, HTt, hTI, hp, HO⟩
  have hLf := Nat.le_trans hTI.fit (rmF_le most)
  have hIl := hp.length_eq
  have hIb : I.length ≤ 1000000 := by omega
  have hkI : KN I := hTI.ris.kn.perm hp.symm
  refine wp_seq ?_
  refine wp_region_lit ?_
  cases hj1 : decide (((i : Nat) : Int) < ((l.length : Nat) : Int))
  · refine s_val 31 rfl rfl (.bool false) (run_lssT 3 _ _ _ rfl ((i : Nat) : Int) ((l.length : Nat) : Int) rfl rfl false hj1 _) ?_
    refine nr ?_; intro U h; simp only [z0, z1] at h; subst h
    refine wpList_nil ?_
    refine then_n ?_
    refine wp_seq ?_
    refine wp_cond_false rfl ?_
    refine wp_exit ?_
    refine then_x ?_
    refine then_x ?_
    refine blk_x ?_
    refine then_n ?_
    refine wp_seq ?_
    refine wp_region_lit ?_
    refine s_val 95 rfl rfl (.pointer (some ⟨t, 0, none⟩)) (rfl) ?_
    refine nr ?_; intro U h; simp only [z0, z1] at h; subst h
    refine s_callx 96 rfl rfl _ 26 Try.call26 rfl rfl _ rfl [.pointer (some ⟨t, 0, none⟩)] rfl (all_any _ t b (rmF most) L (kt) (HTt) hTI.ris (Nat.le_trans hTI.fit (Nat.le_trans (rmF_le most) (by decide)))) (by rintro _ _ ⟨_, _, he, _⟩; exact ⟨_, he⟩) ?_
    rintro v w3 ⟨ao12, cap12, he, G, HO12⟩
    cases he
    replace HO12 := HO12.mono GG.size
    replace kt := G.has kt
    replace HTt := HTt.gro G
    replace HO := HO.gro G
    replace GG := GG.trans G
    clear G
    have HR12 := HO12.re
    refine nr ?_; intro U h; simp only [z0, z1] at h; subst h
    refine s_val 13 rfl rfl (.slice ao12 L.length cap12) (rfl) ?_
    refine nr ?_; intro U h; simp only [z0, z1] at h; subst h
    refine wpList_nil ?_
    refine then_n ?_
    refine wp_seq ?_
    refine wp_seq ?_
    refine wp_region_lit ?_
    refine s_val 97 rfl rfl (.slice ao12 L.length cap12) (rfl) ?_
    refine nr ?_; intro U h; simp only [z0, z1] at h; subst h
    refine s_val 98 rfl rfl (.int .i64 ((L.length : Nat) : Int)) (run_len Try.underlying41 _ rfl _ _ _ rfl _) ?_
    refine nr ?_; intro U h; simp only [z0, z1] at h; subst h
    refine s_val 99 rfl rfl (.int .i64 0) (rfl) ?_
    refine nr ?_; intro U h; simp only [z0, z1] at h; subst h
    refine wpList_nil ?_
    refine then_n ?_
    refine wp_block ?_
    refine wp_loopN (fun mz az wx => ∃ (q : Nat) (us2 : Nat → Value), mz = L.length + 1 - q ∧ az = ⟨[.int .i64 most, .slice ao0 l.length cap0, undef, undef, us2 0, .pointer (some ⟨t, 0, none⟩), .int .i64 ((rmF most : Nat) : Int), .slice ao I.length cap, us1 1, us1 2, us1 3, us1 4, us1 5, .slice ao12 L.length cap12, us2 1, us2 2, us2 3, .int .i64 most, .pointer (some ⟨t, 0, none⟩), .pointer (some ⟨t, 0, none⟩), .bool false, .bool false, .bool true, .bool false, .bool false, .int .i64 most, .int .i64 (max most 0), .int .i64 ((rmF most : Nat) : Int), .slice ao0 l.length cap0, .int .i64 ((l.length : Nat) : Int), .int .i64 ((i : Nat) : Int), .bool false, us1 7, us1 8, us1 9, us1 10, us1 11, us1 12, us1 13, us1 14, us1 15, us1 16, us1 17, us1 18, us1 19, us1 20, us1 21, us1 22, us1 23, us1 24, us1 25, us1 26, us1 27, us1 28, us1 29, us1 30, us1 31, us1 32, us1 33, us1 34, us1 35, us1 36, us1 37, us1 38, us1 39, us1 40, us1 41, us1 42, us1 43, us1 44, us1 45, us1 46, us1 47, us1 48, us1 49, us1 50, us1 51, us1 52, us1 53, us1 54, us1 55, us1 56, us1 57, us1 58, us1 59, us1 60, us1 61, us1 62, us1 63, us1 64, us1 65, us1 66, us1 67, us1 68, us1 69, .pointer (some ⟨t, 0, none⟩), .slice ao12 L.length cap12, .slice ao12 L.length cap12, .int .i64 ((L.length : Nat) : Int), .int .i64 ((q : Nat) : Int), us2 4, us2 5, us2 6, us2 7, us2 8, us2 9, us2 10, us2 11, us2 12, us2 13, us2 14, us2 15, us2 16, us2 17, us2 18, us2 19, us2 20, us2 21, us2 22, us2 23, us2 24, us2 25, us2 26, us2 27, us2 28, us2 29, us2 30, us2 31, us2 32, us2 33, us2 34, us2 35, us2 36, us2 37, us2 38, undef, undef, undef, undef, undef].toArray, []⟩ ∧ q ≤ L.length ∧ Gro w wx ∧ wx.heap[t]? = some (.cells (tbA (rmF most) b) 59 (0, 0)) ∧ TM wx b L ∧ OE wx w.heap.size ao cap I ∧ RE wx ao12 cap12 L) ?_ _ ⟨0, (fun kz => ([us1 0, undef, undef, undef, undef, undef, undef, undef, undef, undef, undef, undef, undef, undef, undef, undef, undef, undef, undef, undef, undef, undef, undef, undef, undef, undef, undef, undef, undef, undef, undef, undef, undef, undef, undef, undef, undef, undef, undef] : List Value).getD kz undef), rfl, rfl, Nat.zero_le _, GG, kt, HTt, HO, HR12⟩
    clear GG kt HTt HO HR12
    rintro mz az wx ⟨q, us2, rfl, rfl, hq, GG, kt, HTt, HO, HR12⟩
    refine wp_seq ?_
    refine wp_region_lit ?_
    cases hs1 : decide (((q : Nat) : Int) < ((L.length : Nat) : Int))
    · have hse : q = L.length := by have := of_decide_eq_false hs1; omega
      refine s_val 100 rfl rfl (.bool false) (run_lssT 3 _ _ _ rfl ((q : Nat) : Int) ((L.length : Nat) : Int) rfl rfl false hs1 _) ?_
      refine nr ?_; intro U h; simp only [z0, z1] at h; subst h
      refine wpList_nil ?_
      refine then_n ?_
      refine wp_seq ?_
      refine wp_cond_false rfl ?_
      refine wp_exit ?_
      refine then_x ?_
      refine then_x ?_
      refine blk_x ?_
      refine then_n ?_
      refine wp_seq ?_
      refine wp_region_lit ?_
      refine s_val 135 rfl rfl (.slice ao12 L.length cap12) (rfl) ?_
      refine nr ?_; intro U h; simp only [z0, z1] at h; subst h
      refine s_val 136 rfl rfl (.int .i64 ((L.length : Nat) : Int)) (run_len Try.underlying41 _ rfl _ _ _ rfl _) ?_
      refine nr ?_; intro U h; simp only [z0, z1] at h; subst h
      refine s_val 137 rfl rfl (.slice ao I.length cap) (rfl) ?_
      refine nr ?_; intro U h; simp only [z0, z1] at h; subst h
      refine s_val 138 rfl rfl (.int .i64 ((I.length : Nat) : Int)) (run_len Try.underlying41 _ rfl _ _ _ rfl _) ?_
      refine nr ?_; intro U h; simp only [z0, z1] at h; subst h
      refine s_val 139 rfl rfl (.bool true) (run_eq_k 3 .i64 _ _ _ rfl Try.underlying3 ((L.length : Nat) : Int) ((I.length : Nat) : Int) rfl rfl true (decide_eq_true (by rw [hIl])) _) ?_
      refine nr ?_; intro U h; simp only [z0, z1] at h; subst h
      refine s_val 4 rfl rfl (.bool true) (rfl) ?_
      refine nr ?_; intro U h; simp only [z0, z1] at h; subst h
      refine wpList_nil ?_
      refine then_n ?_
      refine wp_ret ?_
      refine bodyPost_ret (results_tmp Try.results5 _ _ _) rfl ?_
      exact ⟨rfl, GG⟩
    · have hsl : q < L.length := by have := of_decide_eq_true hs1; omega
      refine s_val 100 rfl rfl (.bool true) (run_lssT 3 _ _ _ rfl ((q : Nat) : Int) ((L.length : Nat) : Int) rfl rfl true hs1 _) ?_
      refine nr ?_; intro U h; simp only [z0, z1] at h; subst h
      refine wpList_nil ?_
      refine then_n ?_
      refine wp_seq ?_
      refine wp_cond_true rfl ?_
      refine wp_skip ?_
      refine then_n ?_
      refine wp_seq ?_
      refine wp_block ?_
      refine wp_seq ?_
      refine wp_region_lit ?_
      refine s_val 101 rfl rfl (.int .i64 ((q : Nat) : Int)) (rfl) ?_
      refine nr ?_; intro U h; simp only [z0, z1] at h; subst h
      refine s_val 102 rfl rfl (.pointer (pE ao12 q 0)) (run_ixE (HR12) _ _ rfl rfl q rfl (by omega)) ?_
      refine nr ?_; intro U h; simp only [z0, z1] at h; subst h
      refine s_val 103 rfl rfl (.agg (enA (L.getD q zE))) (run_ldE (HR12) _ rfl q rfl (by omega)) ?_
      refine nr ?_; intro U h; simp only [z0, z1] at h; subst h
      refine s_alloc 15 rfl rfl 33 rfl _ zero33 (enA zE) rfl ?_
      intro w4 g1 G eg1 kg1
      have bg1 := size_base GG eg1
      have dtg1 := lt_new kt eg1
      have dHTtg1 := HTt.ne eg1
      have dHOg1 := HO.ne eg1
      have dHR12g1 := HR12.ne eg1
      replace kt := G.has kt
      replace HTt := HTt.gro G
      replace HO := HO.gro G
      replace HR12 := HR12.gro G
      replace GG := GG.trans G
      clear G
      clear eg1
      refine nr ?_; intro U h; simp only [z0, z1] at h; subst h
      refine s_val 14 rfl rfl (.int .i64 ((q : Nat) : Int)) (rfl) ?_
      refine nr ?_; intro U h; simp only [z0, z1] at h; subst h
      refine s_store rfl rfl 33 _ _ rfl g1 0 rfl (.agg (enA (L.getD q zE))) rfl 33 _ kg1 (enA (L.getD q zE)) rfl (si33' _) (enA_fit _ _) (enA_one _) (enA (L.getD q zE)) (splice_whole _ _ (enA_sz _ _)) ?_
      intro w5 St
      have kS := kg1
      replace kt := St.has (by omega) kt
      replace HTt := HTt.st St dHTtg1
      replace HO := HO.st St dHOg1
      replace HR12 := HR12.st St dHR12g1
      replace GG := GG.store St bg1
      replace kg1 := St.new
      clear St
      refine wpList_nil ?_
      refine then_n ?_
      refine wp_seq ?_
      have hhI : hasL I (L.getD q zE).p = true := (hasL_perm hkI hp _).trans (hasL_iff.2 ⟨_, getD_in hsl, rfl⟩)
      have hpl := plc_lt hhI
      have hpx := plc_in hp hTI.ris.kn (getD_in hsl)
      refine wp_region_lit ?_
      refine s_val 104 rfl rfl (.slice ao I.length cap) (rfl) ?_
      refine nr ?_; intro U h; simp only [z0, z1] at h; subst h
      refine s_val 105 rfl rfl (.pointer (some ⟨g1, 0, none⟩)) (run_fld 33 _ 0 rfl g1 0 rfl 0 (by kernel_rfl)) ?_
      refine nr ?_; intro U h; simp only [z0, z1] at h; subst h
      refine s_val 106 rfl rfl (.agg (paA ((L.getD q zE).p))) (ldEp _ rfl g1 rfl (kg1)) ?_
      refine nr ?_; intro U h; simp only [z0, z1] at h; subst h
      refine s_callv 107 rfl rfl _ 33 Try.call33 rfl rfl _ rfl [.slice ao I.length cap, .agg (paA ((L.getD q zE).p))] rfl (Calls.valV (place_any _ ao cap I (HO.re) hIb (L.getD q zE).p (HTt.all.at hsl).p) (by rw [plcV_y hhI])) ?_
      intro w6 G
      replace kt := G.has kt
      replace kg1 := G.has kg1
      replace HTt := HTt.gro G
      replace HO := HO.gro G
      replace HR12 := HR12.gro G
      replace GG := GG.trans G
      clear G
      refine nr ?_; intro U h; simp only [z0, z1] at h; subst h
      refine s_val 16 rfl rfl (.int .i64 ((plc I (L.getD q zE).p : Nat) : Int)) (rfl) ?_
      refine nr ?_; intro U h; simp only [z0, z1] at h; subst h
      refine wpList_nil ?_
      refine then_n ?_
      refine wp_seq ?_
      cases hq0 : decide ((0 : Int) < ((q : Nat) : Int))
      · refine wp_region_exA (A := ?Ax3) 25 [(0, 108), (1, 109), (2, 110), (3, 111), (4, 112), (5, 113), (6, 114), (7, 115), (8, 116), (9, 117), (10, 118), (11, 119), (12, 120), (13, 121), (14, 122), (15, 123), (16, 124), (17, 125), (18, 126), (19, 127), (20, 128), (21, 129), (22, 130), (23, 131), (24, 132)] [.val (.int .i64 ((plc I (L.getD q zE).p : Nat) : Int)), .val (.bool false), .val (.bool false), .val (.slice ao I.length cap), .val (.int .i64 ((plc I (L.getD q zE).p : Nat) : Int)), .val (.pointer (pE ao (plc I (L.getD q zE).p) 0)), .val (.agg (enA (I.getD (plc I (L.getD q zE).p) zE))), .val (.agg (enA (L.getD q zE))), .val (.bool false), .val (.bool false), .val (.bool false), .val (.int .i64 ((q : Nat) : Int)), .val (.bool false), .val (.bool false), .val undef, .val undef, .val undef, .val undef, .val undef, .val undef, .val undef, .val undef, .val undef, .val undef, .val (.bool false)] follows (by kernel_rfl) rfl ?hAx3 (opsA_cons ?o0x3 (opsA_cons ?o1x3 (opsA_cons ?o2x3 (opsA_cons ?o3x3 (opsA_cons ?o4x3 (opsA_cons ?o5x3 (opsA_cons ?o6x3 (opsA_cons ?o7x3 (opsA_cons ?o8x3 (opsA_cons ?o9x3 (opsA_cons ?o10x3 (opsA_cons ?o11x3 (opsA_cons ?o12x3 (opsA_cons ?o13x3 (opsA_cons ?o14x3 (opsA_cons ?o15x3 (opsA_cons ?o16x3 (opsA_cons ?o17x3 (opsA_cons ?o18x3 (opsA_cons ?o19x3 (opsA_cons ?o20x3 (opsA_cons ?o21x3 (opsA_cons ?o22x3 (opsA_cons ?o23x3 (opsA_cons ?o24x3 opsA_nil))))))))))))))))))))))))) ?restx3
        case hAx3 =>
          intro ptrs
          simp only [full, foldSlots, filledE, postE, List.foldl_cons, List.foldl_nil, List.getD_cons_zero, List.getD_cons_succ, fill_val, List.set_cons_zero, List.set_cons_succ]
          exact rfl
        case o0x3 => exact fun _ _ _ _ => opE_move (v := .int .i64 ((plc I (L.getD q zE).p : Nat) : Int)) _ rfl rfl rfl
        case o1x3 => exact fun _ _ _ _ => opE_value (v := .bool false) rfl (run_lssT 3 _ _ _ rfl ((plc I (L.getD q zE).p : Nat) : Int) 0 rfl rfl false (decide_eq_false (by omega)) _)
        case o2x3 => exact fun _ _ _ _ => opE_move (v := .bool false) _ rfl rfl rfl
        case o3x3 => exact fun _ _ _ _ => opE_move (v := .slice ao I.length cap) _ rfl rfl rfl
        case o4x3 => exact fun _ _ _ _ => opE_move (v := .int .i64 ((plc I (L.getD q zE).p : Nat) : Int)) _ rfl rfl rfl
        case o5x3 => exact fun _ _ hw _ => opE_value (v := .pointer (pE ao (plc I (L.getD q zE).p) 0)) rfl (run_ixE ((HO.gro ((Gro.refl _).drew.trans hw)).re) _ _ rfl rfl (plc I (L.getD q zE).p) rfl hpl)
        case o6x3 => exact fun _ _ hw _ => opE_value (v := .agg (enA (I.getD (plc I (L.getD q zE).p) zE))) rfl (run_ldE ((HO.gro ((Gro.refl _).drew.trans hw)).re) _ rfl (plc I (L.getD q zE).p) rfl hpl)
        case o7x3 => exact fun _ _ hw _ => opE_value (v := .agg (enA (L.getD q zE))) rfl (ldE0 _ rfl g1 rfl (hw.has kg1))
        case o8x3 => exact fun _ _ _ _ => opE_value (v := .bool false) rfl (run_neE _ _ _ rfl _ _ rfl rfl (HO.all.at hpl) (HTt.all.at hsl) false (decide_eq_true hpx))
        case o9x3 => exact fun _ _ _ _ => opE_pick (v := .bool false) _ _ _ rfl rfl false rfl rfl
        case o10x3 => exact fun _ _ _ _ => opE_move (v := .bool false) _ rfl rfl rfl
        case o11x3 => exact fun _ _ _ _ => opE_move (v := .int .i64 ((q : Nat) : Int)) _ rfl rfl rfl
        case o12x3 => exact fun _ _ _ _ => opE_value (v := .bool false) rfl (run_gtrT 3 _ _ _ rfl ((q : Nat) : Int) 0 rfl rfl false hq0 _)
        case o13x3 => exact fun _ _ _ _ => opE_move (v := .bool false) _ rfl rfl rfl
        case o14x3 => exact fun _ _ _ _ => opE_skip rfl
        case o15x3 => exact fun _ _ _ _ => opE_skip rfl
        case o16x3 => exact fun _ _ _ _ => opE_skip rfl
        case o17x3 => exact fun _ _ _ _ => opE_skip rfl
        case o18x3 => exact fun _ _ _ _ => opE_skip rfl
        case o19x3 => exact fun _ _ _ _ => opE_skip rfl
        case o20x3 => exact fun _ _ _ _ => opE_skip rfl
        case o21x3 => exact fun _ _ _ _ => opE_skip rfl
        case o22x3 => exact fun _ _ _ _ => opE_skip rfl
        case o23x3 => exact fun _ _ _ _ => opE_skip rfl
        case o24x3 => exact fun _ _ _ _ => opE_pick (v := .bool false) _ _ _ rfl rfl false rfl rfl
        intro ptrs w7 GD hxE
        simp only [List.drop_succ_cons, List.drop_zero]
        replace kt := GD.has kt
        replace kg1 := GD.has kg1
        replace HTt := HTt.gro ((Gro.refl _).drew.trans GD)
        replace HO := HO.gro ((Gro.refl _).drew.trans GD)
        replace HR12 := HR12.gro ((Gro.refl _).drew.trans GD)
        replace GG := GG.drew.trans GD
        clear GD
        refine s_val 133 rfl rfl (.bool false) (rfl) ?_
        refine nr ?_; intro U h; simp only [z0, z1] at h; subst h
        refine wpList_nil ?_
        refine then_n ?_
        refine wp_cond_false rfl ?_
        refine wp_skip ?_
        refine blk_n ?_
        refine then_n ?_
        refine wp_region_lit ?_
        refine s_val 134 rfl rfl (.int .i64 ((q + 1 : Nat) : Int)) (run_addI 3 _ _ _ rfl ((q : Nat) : Int) 1 ((q + 1 : Nat) : Int) rfl rfl (by omega) (by omega) (by omega) _) ?_
        refine nr ?_; intro U h; simp only [z0, z1] at h; subst h
        refine s_val 99 rfl rfl (.int .i64 ((q + 1 : Nat) : Int)) (rfl) ?_
        refine nr ?_; intro U h; simp only [z0, z1] at h; subst h
        refine wpList_nil ?_
        refine then_n ?_
        exact ⟨L.length + 1 - (q + 1), by omega, q + 1, (fun kz => ([us2 0, .int .i64 ((q : Nat) : Int), .pointer (some ⟨g1, 0, none⟩), .int .i64 ((plc I (L.getD q zE).p : Nat) : Int), .bool true, .int .i64 ((q : Nat) : Int), .pointer (pE ao12 q 0), .agg (enA (L.getD q zE)), .slice ao I.length cap, .pointer (some ⟨g1, 0, none⟩), .agg (paA ((L.getD q zE).p)), .int .i64 ((plc I (L.getD q zE).p : Nat) : Int), .int .i64 ((plc I (L.getD q zE).p : Nat) : Int), .bool false, .bool false, .slice ao I.length cap, .int .i64 ((plc I (L.getD q zE).p : Nat) : Int), .pointer (pE ao (plc I (L.getD q zE).p) 0), .agg (enA (I.getD (plc I (L.getD q zE).p) zE)), .agg (enA (L.getD q zE)), .bool false, .bool false, .bool false, .int .i64 ((q : Nat) : Int), .bool false, .bool false, undef, undef, undef, undef, undef, undef, undef, undef, undef, undef, .bool false, .bool false, .int .i64 ((q + 1 : Nat) : Int)] : List Value).getD kz undef), rfl, rfl, by omega, GG, kt, HTt, HO, HR12⟩
      · have hq1 : 0 < q := by have := of_decide_eq_true hq0; omega
        refine wp_region_exA (A := ?Ax4) 25 [(0, 108), (1, 109), (2, 110), (3, 111), (4, 112), (5, 113), (6, 114), (7, 115), (8, 116), (9, 117), (10, 118), (11, 119), (12, 120), (13, 121), (14, 122), (15, 123), (16, 124), (17, 125), (18, 126), (19, 127), (20, 128), (21, 129), (22, 130), (23, 131), (24, 132)] [.val (.int .i64 ((plc I (L.getD q zE).p : Nat) : Int)), .val (.bool false), .val (.bool false), .val (.slice ao I.length cap), .val (.int .i64 ((plc I (L.getD q zE).p : Nat) : Int)), .val (.pointer (pE ao (plc I (L.getD q zE).p) 0)), .val (.agg (enA (I.getD (plc I (L.getD q zE).p) zE))), .val (.agg (enA (L.getD q zE))), .val (.bool false), .val (.bool false), .val (.bool false), .val (.int .i64 ((q : Nat) : Int)), .val (.bool true), .val (.bool true), .val (.slice ao12 L.length cap12), .val (.int .i64 ((q : Nat) : Int)), .val (.int .i64 ((q - 1 : Nat) : Int)), .val (.pointer (pE ao12 (q - 1) 0)), .val (.pointer (pE ao12 (q - 1) 0)), .val (.agg (paA ((L.getD (q - 1) zE).p))), .val (.pointer (some ⟨g1, 0, none⟩)), .val (.agg (paA ((L.getD q zE).p))), .val (.bool true), .val (.bool false), .val (.bool false)] follows (by kernel_rfl) rfl ?hAx4 (opsA_cons ?o0x4 (opsA_cons ?o1x4 (opsA_cons ?o2x4 (opsA_cons ?o3x4 (opsA_cons ?o4x4 (opsA_cons ?o5x4 (opsA_cons ?o6x4 (opsA_cons ?o7x4 (opsA_cons ?o8x4 (opsA_cons ?o9x4 (opsA_cons ?o10x4 (opsA_cons ?o11x4 (opsA_cons ?o12x4 (opsA_cons ?o13x4 (opsA_cons ?o14x4 (opsA_cons ?o15x4 (opsA_cons ?o16x4 (opsA_cons ?o17x4 (opsA_cons ?o18x4 (opsA_cons ?o19x4 (opsA_cons ?o20x4 (opsA_cons ?o21x4 (opsA_cons ?o22x4 (opsA_cons ?o23x4 (opsA_cons ?o24x4 opsA_nil))))))))))))))))))))))))) ?restx4
        case hAx4 =>
          intro ptrs
          simp only [full, foldSlots, filledE, postE, List.foldl_cons, List.foldl_nil, List.getD_cons_zero, List.getD_cons_succ, fill_val, List.set_cons_zero, List.set_cons_succ]
          exact rfl
        case o0x4 => exact fun _ _ _ _ => opE_move (v := .int .i64 ((plc I (L.getD q zE).p : Nat) : Int)) _ rfl rfl rfl
        case o1x4 => exact fun _ _ _ _ => opE_value (v := .bool false) rfl (run_lssT 3 _ _ _ rfl ((plc I (L.getD q zE).p : Nat) : Int) 0 rfl rfl false (decide_eq_false (by omega)) _)
        case o2x4 => exact fun _ _ _ _ => opE_move (v := .bool false) _ rfl rfl rfl
        case o3x4 => exact fun _ _ _ _ => opE_move (v := .slice ao I.length cap) _ rfl rfl rfl
        case o4x4 => exact fun _ _ _ _ => opE_move (v := .int .i64 ((plc I (L.getD q zE).p : Nat) : Int)) _ rfl rfl rfl
        case o5x4 => exact fun _ _ hw _ => opE_value (v := .pointer (pE ao (plc I (L.getD q zE).p) 0)) rfl (run_ixE ((HO.gro ((Gro.refl _).drew.trans hw)).re) _ _ rfl rfl (plc I (L.getD q zE).p) rfl hpl)
        case o6x4 => exact fun _ _ hw _ => opE_value (v := .agg (enA (I.getD (plc I (L.getD q zE).p) zE))) rfl (run_ldE ((HO.gro ((Gro.refl _).drew.trans hw)).re) _ rfl (plc I (L.getD q zE).p) rfl hpl)
        case o7x4 => exact fun _ _ hw _ => opE_value (v := .agg (enA (L.getD q zE))) rfl (ldE0 _ rfl g1 rfl (hw.has kg1))
        case o8x4 => exact fun _ _ _ _ => opE_value (v := .bool false) rfl (run_neE _ _ _ rfl _ _ rfl rfl (HO.all.at hpl) (HTt.all.at hsl) false (decide_eq_true hpx))
        case o9x4 => exact fun _ _ _ _ => opE_pick (v := .bool false) _ _ _ rfl rfl false rfl rfl
        case o10x4 => exact fun _ _ _ _ => opE_move (v := .bool false) _ rfl rfl rfl
        case o11x4 => exact fun _ _ _ _ => opE_move (v := .int .i64 ((q : Nat) : Int)) _ rfl rfl rfl
        case o12x4 => exact fun _ _ _ _ => opE_value (v := .bool true) rfl (run_gtrT 3 _ _ _ rfl ((q : Nat) : Int) 0 rfl rfl true hq0 _)
        case o13x4 => exact fun _ _ _ _ => opE_move (v := .bool true) _ rfl rfl rfl
        case o14x4 => exact fun _ _ _ _ => opE_move (v := .slice ao12 L.length cap12) _ rfl rfl rfl
        case o15x4 => exact fun _ _ _ _ => opE_move (v := .int .i64 ((q : Nat) : Int)) _ rfl rfl rfl
        case o16x4 => exact fun _ _ _ _ => opE_value (v := .int .i64 ((q - 1 : Nat) : Int)) rfl (run_subI 3 _ _ _ rfl ((q : Nat) : Int) 1 ((q - 1 : Nat) : Int) rfl rfl (by omega) (by omega) (by omega) _)
        case o17x4 => exact fun _ _ hw _ => opE_value (v := .pointer (pE ao12 (q - 1) 0)) rfl (run_ixE (HR12.gro ((Gro.refl _).drew.trans hw)) _ _ rfl rfl (q - 1) rfl (by omega))
        case o18x4 => exact fun _ _ hw _ => opE_value (v := .pointer (pE ao12 (q - 1) 0)) rfl (run_fdE (HR12.gro ((Gro.refl _).drew.trans hw)) _ 0 0 (fd33_0 _) rfl (q - 1) rfl (by omega))
        case o19x4 => exact fun _ _ hw _ => opE_value (v := .agg (paA ((L.getD (q - 1) zE).p))) rfl (run_ldEp (HR12.gro ((Gro.refl _).drew.trans hw)) _ rfl (q - 1) rfl (by omega))
        case o20x4 => exact fun _ _ _ _ => opE_value (v := .pointer (some ⟨g1, 0, none⟩)) rfl (run_fld 33 _ 0 rfl g1 0 rfl 0 (by kernel_rfl))
        case o21x4 => exact fun _ _ hw _ => opE_value (v := .agg (paA ((L.getD q zE).p))) rfl (ldEp _ rfl g1 rfl (hw.has kg1))
        case o22x4 =>
          intro ptrs w' hw hE
          exact opE_call (.val (.bool true)) rfl _ 30 Try.call30 rfl rfl _ rfl [.agg (paA ((L.getD (q - 1) zE).p)), .agg (paA ((L.getD q zE).p))] rfl ((Calls.bool (rless_any ((L.getD (q - 1) zE).p) ((L.getD q zE).p) (HTt.all.at (by omega)).p (HTt.all.at hsl).p _) (ris_less hTI.ris (by have := of_decide_eq_true hq0; omega) hsl)).mono fun e w' ⟨he, hg⟩ => ⟨_, he, hg, rfl⟩)
        case o23x4 => exact fun _ _ _ _ => opE_value (v := .bool false) rfl (run_nt _ _ rfl true rfl)
        case o24x4 => exact fun _ _ _ _ => opE_pick (v := .bool false) _ _ _ rfl rfl true rfl rfl
        intro ptrs w7 GD hxE
        simp only [List.drop_succ_cons, List.drop_zero]
        replace kt := GD.has kt
        replace kg1 := GD.has kg1
        replace HTt := HTt.gro ((Gro.refl _).drew.trans GD)
        replace HO := HO.gro ((Gro.refl _).drew.trans GD)
        replace HR12 := HR12.gro ((Gro.refl _).drew.trans GD)
        replace GG := GG.drew.trans GD
        clear GD
        refine s_val 133 rfl rfl (.bool false) (rfl) ?_
        refine nr ?_; intro U h; simp only [z0, z1] at h; subst h
        refine wpList_nil ?_
        refine then_n ?_
        refine wp_cond_false rfl ?_
        refine wp_skip ?_
        refine blk_n ?_
        refine then_n ?_
        refine wp_region_lit ?_
        refine s_val 134 rfl rfl (.int .i64 ((q + 1 : Nat) : Int)) (run_addI 3 _ _ _ rfl ((q : Nat) : Int) 1 ((q + 1 : Nat) : Int) rfl rfl (by omega) (by omega) (by omega) _) ?_
        refine nr ?_; intro U h; simp only [z0, z1] at h; subst h
        refine s_val 99 rfl rfl (.int .i64 ((q + 1 : Nat) : Int)) (rfl) ?_
        refine nr ?_; intro U h; simp only [z0, z1] at h; subst h
        refine wpList_nil ?_
        refine then_n ?_
        exact ⟨L.length + 1 - (q + 1), by omega, q + 1, (fun kz => ([us2 0, .int .i64 ((q : Nat) : Int), .pointer (some ⟨g1, 0, none⟩), .int .i64 ((plc I (L.getD q zE).p : Nat) : Int), .bool true, .int .i64 ((q : Nat) : Int), .pointer (pE ao12 q 0), .agg (enA (L.getD q zE)), .slice ao I.length cap, .pointer (some ⟨g1, 0, none⟩), .agg (paA ((L.getD q zE).p)), .int .i64 ((plc I (L.getD q zE).p : Nat) : Int), .int .i64 ((plc I (L.getD q zE).p : Nat) : Int), .bool false, .bool false, .slice ao I.length cap, .int .i64 ((plc I (L.getD q zE).p : Nat) : Int), .pointer (pE ao (plc I (L.getD q zE).p) 0), .agg (enA (I.getD (plc I (L.getD q zE).p) zE)), .agg (enA (L.getD q zE)), .bool false, .bool false, .bool false, .int .i64 ((q : Nat) : Int), .bool true, .bool true, .slice ao12 L.length cap12, .int .i64 ((q : Nat) : Int), .int .i64 ((q - 1 : Nat) : Int), .pointer (pE ao12 (q - 1) 0), .pointer (pE ao12 (q - 1) 0), .agg (paA ((L.getD (q - 1) zE).p)), .pointer (some ⟨g1, 0, none⟩), .agg (paA ((L.getD q zE).p)), .bool true, .bool false, .bool false, .bool false, .int .i64 ((q + 1 : Nat) : Int)] : List Value).getD kz undef), rfl, rfl, by omega, GG, kt, HTt, HO, HR12⟩
  · have hjl : i < l.length := by have := of_decide_eq_true hj1; omega
    refine s_val 31 rfl rfl (.bool true) (run_lssT 3 _ _ _ rfl ((i : Nat) : Int) ((l.length : Nat) : Int) rfl rfl true hj1 _) ?_
    refine nr ?_; intro U h; simp only [z0, z1] at h; subst h
    refine wpList_nil ?_
    refine then_n ?_
    refine wp_seq ?_
    refine wp_cond_true rfl ?_
    refine wp_skip ?_
    refine then_n ?_
    refine wp_seq ?_
    refine wp_block ?_
    refine wp_seq ?_
    refine wp_region_lit ?_
    refine s_val 32 rfl rfl (.int .i64 ((i : Nat) : Int)) (rfl) ?_
    refine nr ?_; intro U h; simp only [z0, z1] at h; subst h
    refine s_val 33 rfl rfl (.pointer (pO ao0 i)) (run_ixO (H.gro GG) _ _ rfl rfl i rfl (by omega)) ?_
    refine nr ?_; intro U h; simp only [z0, z1] at h; subst h
    refine s_val 34 rfl rfl (.agg (opA (l.getD i zO))) (run_ldO (H.gro GG) _ rfl i rfl (by omega)) ?_
    refine nr ?_; intro U h; simp only [z0, z1] at h; subst h
    refine s_alloc 9 rfl rfl 35 rfl _ zero35 (opA zO) rfl ?_
    intro w3 g1 G eg1 kg1
    have bg1 := size_base GG eg1
    have dtg1 := lt_new kt eg1
    have dHTtg1 := HTt.ne eg1
    have dHOg1 := HO.ne eg1
    replace kt := G.has kt
    replace HTt := HTt.gro G
    replace HO := HO.gro G
    replace GG := GG.trans G
    clear G
    clear eg1
    refine nr ?_; intro U h; simp only [z0, z1] at h; subst h
    refine s_val 8 rfl rfl (.int .i64 ((i : Nat) : Int)) (rfl) ?_
    refine nr ?_; intro U h; simp only [z0, z1] at h; subst h
    refine s_store rfl rfl 35 _ _ rfl g1 0 rfl (.agg (opA (l.getD i zO))) rfl 35 _ kg1 (opA (l.getD i zO)) rfl (si35' _) (opA_fit _ _) (opA_one _) (opA (l.getD i zO)) (splice_whole _ _ (opA_sz _ _)) ?_
    intro w4 St
    have kS := kg1
    replace kt := St.has (by omega) kt
    replace HTt := HTt.st St dHTtg1
    replace HO := HO.st St dHOg1
    replace GG := GG.store St bg1
    replace kg1 := St.new
    clear St
    refine wpList_nil ?_
    refine then_n ?_
    refine wp_seq ?_
    refine wp_seq ?_
    refine wp_region_lit ?_
    refine s_val 35 rfl rfl (.int .i64 ((i : Nat) : Int)) (rfl) ?_
    refine nr ?_; intro U h; simp only [z0, z1] at h; subst h
    cases h300 : decide (300 < ((i : Nat) : Int))
    · refine s_val 36 rfl rfl (.bool false) (run_gtrT 3 _ _ _ rfl ((i : Nat) : Int) 300 rfl rfl false h300 _) ?_
      refine nr ?_; intro U h; simp only [z0, z1] at h; subst h
      refine wpList_nil ?_
      refine then_n ?_
      refine wp_cond_false rfl ?_
      refine wp_skip ?_
      refine then_n ?_
      refine wp_seq ?_
      refine wp_seq ?_
      refine wp_region_lit ?_
      refine s_val 37 rfl rfl (.pointer (some ⟨g1, 0, none⟩)) (run_fld 35 _ 0 rfl g1 0 rfl 0 (by kernel_rfl)) ?_
      refine nr ?_; intro U h; simp only [z0, z1] at h; subst h
      refine s_val 38 rfl rfl (.int .i64 ((l.getD i zO).k)) (ldOk _ rfl g1 rfl (kg1)) ?_
      refine nr ?_; intro U h; simp only [z0, z1] at h; subst h
      cases k1 : decide ((l.getD i zO).k = 1)
      · refine s_val 39 rfl rfl (.bool false) (run_eq_k 3 .i64 _ _ _ rfl Try.underlying3 ((l.getD i zO).k) 1 rfl rfl false k1 _) ?_
        refine nr ?_; intro U h; simp only [z0, z1] at h; subst h
        refine wpList_nil ?_
        refine then_n ?_
        refine wp_cond_false rfl ?_
        refine wp_skip ?_
        refine then_n ?_
        refine wp_seq ?_
        refine wp_seq ?_
        refine wp_region_lit ?_
        refine s_val 67 rfl rfl (.pointer (some ⟨t, 0, none⟩)) (rfl) ?_
        refine nr ?_; intro U h; simp only [z0, z1] at h; subst h
        refine s_val 68 rfl rfl (.pointer (some ⟨g1, 2, none⟩)) (run_fld 35 _ 2 rfl g1 0 rfl 2 (by kernel_rfl)) ?_
        refine nr ?_; intro U h; simp only [z0, z1] at h; subst h
        refine s_val 69 rfl rfl (.agg (enA ((l.getD i zO).x))) (ldOx _ rfl g1 rfl (kg1)) ?_
        refine nr ?_; intro U h; simp only [z0, z1] at h; subst h
        refine s_callx 70 rfl rfl _ 12 Try.call12 rfl rfl _ rfl [.pointer (some ⟨t, 0, none⟩), .agg (enA ((l.getD i zO).x))] rfl (add_any _ t b (rmF most) L (kt) (HTt) (l.getD i zO).x (H.at (by omega)).x) (by rintro _ _ ⟨he, _⟩; exact ⟨_, he⟩) ?_
        rintro v w5 ⟨he, HT2, G2⟩
        cases he
        replace kt := G2.has kt (by simpa using HTt.nec kt)
        replace kg1 := G2.has kg1 (by simpa using HTt.nec kg1)
        replace HO := HO.mapw HTt G2
        replace GG := G2.gro GG (by simpa using bb)
        clear HTt G2
        have HTt := HT2
        clear HT2
        refine nr ?_; intro U h; simp only [z0, z1] at h; subst h
        cases hc : decide (addC (rmF most) L (l.getD i zO).x = 0)
        · have hTI2 := hTI.add (H.at hjl).x
          have hp2 : I.Perm (addL (rmF most) L (l.getD i zO).x) := by unfold addL; rw [if_neg (of_decide_eq_false hc)]; exact hp
          have hL2 := hp2.length_eq
          have hf2 := hTI2.fit
          refine s_val 71 rfl rfl (.bool false) (run_eq_k 36 .i64 _ _ _ rfl Try.underlying36 (addC (rmF most) L (l.getD i zO).x) 0 rfl rfl false hc _) ?_
          refine nr ?_; intro U h; simp only [z0, z1] at h; subst h
          refine wpList_nil ?_
          refine then_n ?_
          refine wp_cond_false rfl ?_
          refine wp_skip ?_
          refine then_n ?_
          refine wp_seq ?_
          refine wp_region_opq ?_
          intro OPS hY
          have y5 := hY 5 88 rfl
          clear hY
          refine s_val 83 rfl rfl (.pointer (some ⟨t, 0, none⟩)) (rfl) ?_
          refine nr ?_; intro U h; simp only [z0, z1] at h; subst h
          refine s_callv 84 rfl rfl _ 25 Try.call25 rfl rfl _ rfl [.pointer (some ⟨t, 0, none⟩)] rfl (len_any _ t b (rmF most) (addL (rmF most) L (l.getD i zO).x) (kt) (HTt)) ?_
          intro w6 G
          replace kt := G.has kt
          replace kg1 := G.has kg1
          replace HTt := HTt.gro G
          replace HO := HO.gro G
          replace GG := GG.trans G
          clear G
          refine nr ?_; intro U h; simp only [z0, z1] at h; subst h
          refine s_val 85 rfl rfl (.slice ao I.length cap) (rfl) ?_
          refine nr ?_; intro U h; simp only [z0, z1] at h; subst h
          refine s_val 86 rfl rfl (.int .i64 ((I.length : Nat) : Int)) (run_len Try.underlying41 _ rfl _ _ _ rfl _) ?_
          refine nr ?_; intro U h; simp only [z0, z1] at h; subst h
          refine s_val 87 rfl rfl (.bool false) (run_neq_k 3 .i64 _ _ _ rfl Try.underlying3 (((addL (rmF most) L (l.getD i zO).x).length : Nat) : Int) ((I.length : Nat) : Int) rfl rfl false (decide_eq_true (by rw [hL2])) _) ?_
          refine nr ?_; intro U h; simp only [z0, z1] at h; subst h
          refine s_val 88 rfl rfl (.bool false) (rfl) ?_
          refine nr ?_; intro U h; simp only [z0, z1] at h; subst h
          refine s_gvalY 89 rfl rfl y5 rfl (.slice ao I.length cap) (rfl) ?_
          refine nr ?_; intro U h; simp only [z0, z1] at h; subst h
          refine s_gvalY 90 rfl rfl y5 rfl (.int .i64 ((I.length : Nat) : Int)) (run_len Try.underlying41 _ rfl _ _ _ rfl _) ?_
          refine nr ?_; intro U h; simp only [z0, z1] at h; subst h
          refine s_gvalY 91 rfl rfl y5 rfl (.int .i64 ((rmF most : Nat) : Int)) (rfl) ?_
          refine nr ?_; intro U h; simp only [z0, z1] at h; subst h
          refine s_gvalY 92 rfl rfl y5 rfl (.bool false) (run_gtrT 3 _ _ _ rfl ((I.length : Nat) : Int) ((rmF most : Nat) : Int) rfl rfl false (decide_eq_false (by rw [hL2]; omega)) _) ?_
          refine nr ?_; intro U h; simp only [z0, z1] at h; subst h
          refine s_val 93 rfl rfl (.bool false) (rfl) ?_
          refine nr ?_; intro U h; simp only [z0, z1] at h; subst h
          refine wpList_nil ?_
          refine then_n ?_
          refine wp_cond_false rfl ?_
          refine wp_skip ?_
          refine blk_n ?_
          refine then_n ?_
          refine wp_region_lit ?_
          refine s_val 94 rfl rfl (.int .i64 ((i + 1 : Nat) : Int)) (run_addI 3 _ _ _ rfl ((i : Nat) : Int) 1 ((i + 1 : Nat) : Int) rfl rfl (by omega) (by omega) (by omega) _) ?_
          refine nr ?_; intro U h; simp only [z0, z1] at h; subst h
          refine s_val 30 rfl rfl (.int .i64 ((i + 1 : Nat) : Int)) (rfl) ?_
          refine nr ?_; intro U h; simp only [z0, z1] at h; subst h
          refine wpList_nil ?_
          refine then_n ?_
          exact ⟨l.length + 1 - (i + 1), by omega, i + 1, (addL (rmF most) L (l.getD i zO).x), I, ao, cap, (fun kz => ([us1 0, .int .i64 ((i : Nat) : Int), .pointer (some ⟨g1, 0, none⟩), us1 3, us1 4, us1 5, .bool true, .int .i64 ((i : Nat) : Int), .pointer (pO ao0 i), .agg (opA (l.getD i zO)), .int .i64 ((i : Nat) : Int), .bool false, .pointer (some ⟨g1, 0, none⟩), .int .i64 ((l.getD i zO).k), .bool false, us1 15, us1 16, us1 17, us1 18, us1 19, us1 20, us1 21, us1 22, us1 23, us1 24, us1 25, us1 26, us1 27, us1 28, us1 29, us1 30, us1 31, us1 32, us1 33, us1 34, us1 35, us1 36, us1 37, us1 38, us1 39, us1 40, us1 41, .pointer (some ⟨t, 0, none⟩), .pointer (some ⟨g1, 2, none⟩), .agg (enA ((l.getD i zO).x)), .int .i64 (addC (rmF most) L (l.getD i zO).x), .bool false, us1 47, us1 48, us1 49, us1 50, us1 51, us1 52, us1 53, us1 54, us1 55, us1 56, us1 57, .pointer (some ⟨t, 0, none⟩), .int .i64 (((addL (rmF most) L (l.getD i zO).x).length : Nat) : Int), .slice ao I.length cap, .int .i64 ((I.length : Nat) : Int), .bool false, .bool false, .slice ao I.length cap, .int .i64 ((I.length : Nat) : Int), .int .i64 ((rmF most : Nat) : Int), .bool false, .bool false, .int .i64 ((i + 1 : Nat) : Int)] : List Value).getD kz undef), rfl, rfl, by omega, GG, kt, HTt, hTI2, hp2, HO⟩
        · obtain ⟨hr0, hh0, hr1⟩ := addC_0 (of_decide_eq_true hc)
          have hhI := (hasL_perm hkI hp _).trans hh0
          have hTI2 := hTI.add (H.at hjl).x
          have hp2 : (I ++ [(l.getD i zO).x]).Perm (addL (rmF most) L (l.getD i zO).x) := by rw [addL_yes (of_decide_eq_true hc)]; exact (List.perm_append_comm.trans (hp.cons _)).trans (insL_perm _ _).symm
          have hL2 := hp2.length_eq
          have hf2 := hTI2.fit
          refine s_val 71 rfl rfl (.bool true) (run_eq_k 36 .i64 _ _ _ rfl Try.underlying36 (addC (rmF most) L (l.getD i zO).x) 0 rfl rfl true hc _) ?_
          refine nr ?_; intro U h; simp only [z0, z1] at h; subst h
          refine wpList_nil ?_
          refine then_n ?_
          refine wp_cond_true rfl ?_
          refine wp_seq ?_
          refine wp_seq ?_
          refine wp_region_lit ?_
          refine s_val 72 rfl rfl (.slice ao I.length cap) (rfl) ?_
          refine nr ?_; intro U h; simp only [z0, z1] at h; subst h
          refine s_val 73 rfl rfl (.pointer (some ⟨g1, 2, none⟩)) (run_fld 35 _ 2 rfl g1 0 rfl 2 (by kernel_rfl)) ?_
          refine nr ?_; intro U h; simp only [z0, z1] at h; subst h
          refine s_val 74 rfl rfl (.pointer (some ⟨g1, 2, none⟩)) (run_fld 33 _ 0 rfl g1 2 rfl 2 (by kernel_rfl)) ?_
          refine nr ?_; intro U h; simp only [z0, z1] at h; subst h
          refine s_val 75 rfl rfl (.agg (paA ((l.getD i zO).x.p))) (ldOp _ rfl g1 rfl (kg1)) ?_
          refine nr ?_; intro U h; simp only [z0, z1] at h; subst h
          refine s_callv 76 rfl rfl _ 33 Try.call33 rfl rfl _ rfl [.slice ao I.length cap, .agg (paA ((l.getD i zO).x.p))] rfl (Calls.valV (place_any _ ao cap I (HO.re) hIb (l.getD i zO).x.p (H.at (by omega)).x.p) (by rw [plcV_n hhI])) ?_
          intro w6 G
          replace kt := G.has kt
          replace kg1 := G.has kg1
          replace HTt := HTt.gro G
          replace HO := HO.gro G
          replace GG := GG.trans G
          clear G
          refine nr ?_; intro U h; simp only [z0, z1] at h; subst h
          refine s_val 77 rfl rfl (.bool false) (run_geqT 3 _ _ _ rfl (-1) 0 rfl rfl false (by decide) _) ?_
          refine nr ?_; intro U h; simp only [z0, z1] at h; subst h
          refine wpList_nil ?_
          refine then_n ?_
          refine wp_cond_false rfl ?_
          refine wp_skip ?_
          refine then_n ?_
          refine wp_region_lit ?_
          refine s_val 78 rfl rfl (.slice ao I.length cap) (rfl) ?_
          refine nr ?_; intro U h; simp only [z0, z1] at h; subst h
          refine s_val 79 rfl rfl (.pointer (some ⟨g1, 2, none⟩)) (run_fld 35 _ 2 rfl g1 0 rfl 2 (by kernel_rfl)) ?_
          refine nr ?_; intro U h; simp only [z0, z1] at h; subst h
          refine s_val 80 rfl rfl (.agg (enA ((l.getD i zO).x))) (ldOx _ rfl g1 rfl (kg1)) ?_
          refine nr ?_; intro U h; simp only [z0, z1] at h; subst h
          refine s_bsl 81 rfl rfl 41 1 _ rfl [(0, .agg (enA ((l.getD i zO).x)))] rfl (flE ([(l.getD i zO).x] : List En)).toArray 33 (bs1 ((l.getD i zO).x) _) ?_
          intro w7 q13 G eq13 kq13
          have bq13 := size_base GG eq13
          replace kt := G.has kt
          replace kg1 := G.has kg1
          replace HTt := HTt.gro G
          replace HO := HO.gro G
          replace GG := GG.trans G
          clear G
          have HR13 : RE _ (some ⟨q13, 0, none⟩) ([(l.getD i zO).x] : List En).length ([(l.getD i zO).x] : List En) := RE.blk kq13 (AllE.one (H.at (by omega)).x) (Nat.le_refl _)
          clear eq13
          refine nr ?_; intro U h; simp only [z0, z1] at h; subst h
          refine s_appE 82 rfl rfl _ _ rfl rfl HO rfl HR13 (by simp only [List.length_cons, List.length_nil]; omega) GG.size ?_
          intro ao2 cap2 w8 HO2 G2 _
          replace kt := G2.has kt (HO.own.ne kt (by decide))
          replace HTt := HTt.ap HO.own G2
          replace GG := G2.gro GG (fun k hk => HO.own.base k hk)
          clear HO
          have HO := HO2
          clear HO2 G2
          refine nr ?_; intro U h; simp only [z0, z1] at h; subst h
          refine s_val 7 rfl rfl (.slice ao2 ((I ++ [(l.getD i zO).x]).length) cap2) (rfl) ?_
          refine nr ?_; intro U h; simp only [z0, z1] at h; subst h
          refine wpList_nil ?_
          refine then_n ?_
          refine wp_seq ?_
          refine wp_region_opq ?_
          intro OPS hY
          have y5 := hY 5 88 rfl
          clear hY
          refine s_val 83 rfl rfl (.pointer (some ⟨t, 0, none⟩)) (rfl) ?_
          refine nr ?_; intro U h; simp only [z0, z1] at h; subst h
          refine s_callv 84 rfl rfl _ 25 Try.call25 rfl rfl _ rfl [.pointer (some ⟨t, 0, none⟩)] rfl (len_any _ t b (rmF most) (addL (rmF most) L (l.getD i zO).x) (kt) (HTt)) ?_
          intro w9 G
          replace kt := G.has kt
          replace HTt := HTt.gro G
          replace HO := HO.gro G
          replace GG := GG.trans G
          clear G
          refine nr ?_; intro U h; simp only [z0, z1] at h; subst h
          refine s_val 85 rfl rfl (.slice ao2 ((I ++ [(l.getD i zO).x]).length) cap2) (rfl) ?_
          refine nr ?_; intro U h; simp only [z0, z1] at h; subst h
          refine s_val 86 rfl rfl (.int .i64 (((I ++ [(l.getD i zO).x]).length : Nat) : Int)) (run_len Try.underlying41 _ rfl _ _ _ rfl _) ?_
          refine nr ?_; intro U h; simp only [z0, z1] at h; subst h
          refine s_val 87 rfl rfl (.bool false) (run_neq_k 3 .i64 _ _ _ rfl Try.underlying3 (((addL (rmF most) L (l.getD i zO).x).length : Nat) : Int) (((I ++ [(l.getD i zO).x]).length : Nat) : Int) rfl rfl false (decide_eq_true (by rw [hL2])) _) ?_
          refine nr ?_; intro U h; simp only [z0, z1] at h; subst h
          refine s_val 88 rfl rfl (.bool false) (rfl) ?_
          refine nr ?_; intro U h; simp only [z0, z1] at h; subst h
          refine s_gvalY 89 rfl rfl y5 rfl (.slice ao2 ((I ++ [(l.getD i zO).x]).length) cap2) (rfl) ?_
          refine nr ?_; intro U h; simp only [z0, z1] at h; subst h
          refine s_gvalY 90 rfl rfl y5 rfl (.int .i64 (((I ++ [(l.getD i zO).x]).length : Nat) : Int)) (run_len Try.underlying41 _ rfl _ _ _ rfl _) ?_
          refine nr ?_; intro U h; simp only [z0, z1] at h; subst h
          refine s_gvalY 91 rfl rfl y5 rfl (.int .i64 ((rmF most : Nat) : Int)) (rfl) ?_
          refine nr ?_; intro U h; simp only [z0, z1] at h; subst h
          refine s_gvalY 92 rfl rfl y5 rfl (.bool false) (run_gtrT 3 _ _ _ rfl (((I ++ [(l.getD i zO).x]).length : Nat) : Int) ((rmF most : Nat) : Int) rfl rfl false (decide_eq_false (by rw [hL2]; omega)) _) ?_
          refine nr ?_; intro U h; simp only [z0, z1] at h; subst h
          refine s_val 93 rfl rfl (.bool false) (rfl) ?_
          refine nr ?_; intro U h; simp only [z0, z1] at h; subst h
          refine wpList_nil ?_
          refine then_n ?_
          refine wp_cond_false rfl ?_
          refine wp_skip ?_
          refine blk_n ?_
          refine then_n ?_
          refine wp_region_lit ?_
          refine s_val 94 rfl rfl (.int .i64 ((i + 1 : Nat) : Int)) (run_addI 3 _ _ _ rfl ((i : Nat) : Int) 1 ((i + 1 : Nat) : Int) rfl rfl (by omega) (by omega) (by omega) _) ?_
          refine nr ?_; intro U h; simp only [z0, z1] at h; subst h
          refine s_val 30 rfl rfl (.int .i64 ((i + 1 : Nat) : Int)) (rfl) ?_
          refine nr ?_; intro U h; simp only [z0, z1] at h; subst h
          refine wpList_nil ?_
          refine then_n ?_
          exact ⟨l.length + 1 - (i + 1), by omega, i + 1, (addL (rmF most) L (l.getD i zO).x), (I ++ [(l.getD i zO).x]), ao2, cap2, (fun kz => ([us1 0, .int .i64 ((i : Nat) : Int), .pointer (some ⟨g1, 0, none⟩), us1 3, us1 4, us1 5, .bool true, .int .i64 ((i : Nat) : Int), .pointer (pO ao0 i), .agg (opA (l.getD i zO)), .int .i64 ((i : Nat) : Int), .bool false, .pointer (some ⟨g1, 0, none⟩), .int .i64 ((l.getD i zO).k), .bool false, us1 15, us1 16, us1 17, us1 18, us1 19, us1 20, us1 21, us1 22, us1 23, us1 24, us1 25, us1 26, us1 27, us1 28, us1 29, us1 30, us1 31, us1 32, us1 33, us1 34, us1 35, us1 36, us1 37, us1 38, us1 39, us1 40, us1 41, .pointer (some ⟨t, 0, none⟩), .pointer (some ⟨g1, 2, none⟩), .agg (enA ((l.getD i zO).x)), .int .i64 (addC (rmF most) L (l.getD i zO).x), .bool true, .slice ao I.length cap, .pointer (some ⟨g1, 2, none⟩), .pointer (some ⟨g1, 2, none⟩), .agg (paA ((l.getD i zO).x.p)), .int .i64 (-1), .bool false, .slice ao I.length cap, .pointer (some ⟨g1, 2, none⟩), .agg (enA ((l.getD i zO).x)), .slice (some ⟨q13, 0, none⟩) (([(l.getD i zO).x] : List En).length) (([(l.getD i zO).x] : List En).length), .slice ao2 ((I ++ [(l.getD i zO).x]).length) cap2, .pointer (some ⟨t, 0, none⟩), .int .i64 (((addL (rmF most) L (l.getD i zO).x).length : Nat) : Int), .slice ao2 ((I ++ [(l.getD i zO).x]).length) cap2, .int .i64 (((I ++ [(l.getD i zO).x]).length : Nat) : Int), .bool false, .bool false, .slice ao2 ((I ++ [(l.getD i zO).x]).length) cap2, .int .i64 (((I ++ [(l.getD i zO).x]).length : Nat) : Int), .int .i64 ((rmF most : Nat) : Int), .bool false, .bool false, .int .i64 ((i + 1 : Nat) : Int)] : List Value).getD kz undef), rfl, rfl, by omega, GG, kt, HTt, hTI2, hp2, HO⟩
      · refine s_val 39 rfl rfl (.bool true) (run_eq_k 3 .i64 _ _ _ rfl Try.underlying3 ((l.getD i zO).k) 1 rfl rfl true k1 _) ?_
        refine nr ?_; intro U h; simp only [z0, z1] at h; subst h
        refine wpList_nil ?_
        refine then_n ?_
        refine wp_cond_true rfl ?_
        refine wp_seq ?_
        cases hh : decide (hasL L (l.getD i zO).x.p = true)
        · have hhI : hasL I (l.getD i zO).x.p = false := (hasL_perm hkI hp _).trans (Bool.eq_false_iff.2 (of_decide_eq_false hh))
          refine wp_region_lit ?_
          refine s_val 41 rfl rfl (.pointer (some ⟨t, 0, none⟩)) (rfl) ?_
          refine nr ?_; intro U h; simp only [z0, z1] at h; subst h
          refine s_val 42 rfl rfl (.pointer (some ⟨g1, 2, none⟩)) (run_fld 35 _ 2 rfl g1 0 rfl 2 (by kernel_rfl)) ?_
          refine nr ?_; intro U h; simp only [z0, z1] at h; subst h
          refine s_val 43 rfl rfl (.pointer (some ⟨g1, 2, none⟩)) (run_fld 33 _ 0 rfl g1 2 rfl 2 (by kernel_rfl)) ?_
          refine nr ?_; intro U h; simp only [z0, z1] at h; subst h
          refine s_val 44 rfl rfl (.agg (paA ((l.getD i zO).x.p))) (ldOp _ rfl g1 rfl (kg1)) ?_
          refine nr ?_; intro U h; simp only [z0, z1] at h; subst h
          refine s_callx 45 rfl rfl _ 14 Try.call14 rfl rfl _ rfl [.pointer (some ⟨t, 0, none⟩), .agg (paA ((l.getD i zO).x.p))] rfl (Calls.tabV (rem_any _ t b (rmF most) L (kt) (HTt) (l.getD i zO).x.p (H.at (by omega)).x.p) (by rw [(Bool.eq_false_iff.2 (of_decide_eq_false hh))])) (by rintro _ _ ⟨he, _⟩; exact ⟨_, he⟩) ?_
          rintro v w5 ⟨he, HT2, G2⟩
          cases he
          replace kt := G2.has kt (by simpa using HTt.nec kt)
          replace kg1 := G2.has kg1 (by simpa using HTt.nec kg1)
          replace HO := HO.mapw HTt G2
          replace GG := G2.gro GG (by simpa using bb)
          clear HTt G2
          have HTt := HT2
          clear HT2
          refine nr ?_; intro U h; simp only [z0, z1] at h; subst h
          refine s_val 40 rfl rfl (.tuple #[.agg (enA (getV L (l.getD i zO).x.p)), .bool false]) (rfl) ?_
          refine nr ?_; intro U h; simp only [z0, z1] at h; subst h
          refine s_val 46 rfl rfl (.agg (enA (getV L (l.getD i zO).x.p))) (rfl) ?_
          refine nr ?_; intro U h; simp only [z0, z1] at h; subst h
          refine s_val 47 rfl rfl (.bool false) (rfl) ?_
          refine nr ?_; intro U h; simp only [z0, z1] at h; subst h
          refine s_alloc 10 rfl rfl 33 rfl _ zero33 (enA zE) rfl ?_
          intro w6 g2 G eg2 kg2
          have bg2 := size_base GG eg2
          have dtg2 := lt_new kt eg2
          have dg1g2 := lt_new kg1 eg2
          have dHTtg2 := HTt.ne eg2
          have dHOg2 := HO.ne eg2
          replace kt := G.has kt
          replace kg1 := G.has kg1
          replace HTt := HTt.gro G
          replace HO := HO.gro G
          replace GG := GG.trans G
          clear G
          clear eg2
          refine nr ?_; intro U h; simp only [z0, z1] at h; subst h
          refine s_store rfl rfl 33 _ _ rfl g2 0 rfl (.agg (enA (getV L (l.getD i zO).x.p))) rfl 33 _ kg2 (enA (getV L (l.getD i zO).x.p)) rfl (si33' _) (enA_fit _ _) (enA_one _) (enA (getV L (l.getD i zO).x.p)) (splice_whole _ _ (enA_sz _ _)) ?_
          intro w7 St
          have kS := kg2
          replace kt := St.has (by omega) kt
          replace kg1 := St.has (by omega) kg1
          replace HTt := HTt.st St dHTtg2
          replace HO := HO.st St dHOg2
          replace GG := GG.store St bg2
          replace kg2 := St.new
          clear St
          refine s_val 11 rfl rfl (.bool false) (rfl) ?_
          refine nr ?_; intro U h; simp only [z0, z1] at h; subst h
          refine wpList_nil ?_
          refine then_n ?_
          refine wp_seq ?_
          refine wp_region_lit ?_
          refine s_val 48 rfl rfl (.slice ao I.length cap) (rfl) ?_
          refine nr ?_; intro U h; simp only [z0, z1] at h; subst h
          refine s_val 49 rfl rfl (.pointer (some ⟨g1, 2, none⟩)) (run_fld 35 _ 2 rfl g1 0 rfl 2 (by kernel_rfl)) ?_
          refine nr ?_; intro U h; simp only [z0, z1] at h; subst h
          refine s_val 50 rfl rfl (.pointer (some ⟨g1, 2, none⟩)) (run_fld 33 _ 0 rfl g1 2 rfl 2 (by kernel_rfl)) ?_
          refine nr ?_; intro U h; simp only [z0, z1] at h; subst h
          refine s_val 51 rfl rfl (.agg (paA ((l.getD i zO).x.p))) (ldOp _ rfl g1 rfl (kg1)) ?_
          refine nr ?_; intro U h; simp only [z0, z1] at h; subst h
          refine s_callv 52 rfl rfl _ 33 Try.call33 rfl rfl _ rfl [.slice ao I.length cap, .agg (paA ((l.getD i zO).x.p))] rfl (Calls.valV (place_any _ ao cap I (HO.re) hIb (l.getD i zO).x.p (H.at (by omega)).x.p) (by rw [plcV_n hhI])) ?_
          intro w8 G
          replace kt := G.has kt
          replace kg1 := G.has kg1
          replace kg2 := G.has kg2
          replace HTt := HTt.gro G
          replace HO := HO.gro G
          replace GG := GG.trans G
          clear G
          refine nr ?_; intro U h; simp only [z0, z1] at h; subst h
          refine s_val 12 rfl rfl (.int .i64 (-1)) (rfl) ?_
          refine nr ?_; intro U h; simp only [z0, z1] at h; subst h
          refine wpList_nil ?_
          refine then_n ?_
          refine wp_seq ?_
          refine wp_seq ?_
          refine wp_region_lit ?_
          refine s_val 53 rfl rfl (.bool false) (rfl) ?_
          refine nr ?_; intro U h; simp only [z0, z1] at h; subst h
          refine s_val 54 rfl rfl (.int .i64 (-1)) (rfl) ?_
          refine nr ?_; intro U h; simp only [z0, z1] at h; subst h
          refine s_val 55 rfl rfl (.bool false) (run_geqT 3 _ _ _ rfl (-1) 0 rfl rfl false (by decide) _) ?_
          refine nr ?_; intro U h; simp only [z0, z1] at h; subst h
          refine s_val 56 rfl rfl (.bool false) (run_neB 4 _ _ _ rfl false false rfl rfl Try.underlying4 false (decide_eq_true rfl) _) ?_
          refine nr ?_; intro U h; simp only [z0, z1] at h; subst h
          refine wpList_nil ?_
          refine then_n ?_
          refine wp_cond_false rfl ?_
          refine wp_skip ?_
          refine then_n ?_
          refine wp_seq ?_
          refine wp_seq ?_
          refine wp_region_lit ?_
          refine s_val 57 rfl rfl (.bool false) (rfl) ?_
          refine nr ?_; intro U h; simp only [z0, z1] at h; subst h
          refine wpList_nil ?_
          refine then_n ?_
          refine wp_cond_false rfl ?_
          refine wp_skip ?_
          refine then_n ?_
          refine wp_exit ?_
          refine then_x ?_
          refine blk_x ?_
          refine then_n ?_
          refine wp_region_lit ?_
          refine s_val 94 rfl rfl (.int .i64 ((i + 1 : Nat) : Int)) (run_addI 3 _ _ _ rfl ((i : Nat) : Int) 1 ((i + 1 : Nat) : Int) rfl rfl (by omega) (by omega) (by omega) _) ?_
          refine nr ?_; intro U h; simp only [z0, z1] at h; subst h
          refine s_val 30 rfl rfl (.int .i64 ((i + 1 : Nat) : Int)) (rfl) ?_
          refine nr ?_; intro U h; simp only [z0, z1] at h; subst h
          refine wpList_nil ?_
          refine then_n ?_
          exact ⟨l.length + 1 - (i + 1), by omega, i + 1, (delL (l.getD i zO).x.p L), I, ao, cap, (fun kz => ([us1 0, .int .i64 ((i : Nat) : Int), .pointer (some ⟨g1, 0, none⟩), .pointer (some ⟨g2, 0, none⟩), .bool false, .int .i64 (-1), .bool true, .int .i64 ((i : Nat) : Int), .pointer (pO ao0 i), .agg (opA (l.getD i zO)), .int .i64 ((i : Nat) : Int), .bool false, .pointer (some ⟨g1, 0, none⟩), .int .i64 ((l.getD i zO).k), .bool true, .tuple #[.agg (enA (getV L (l.getD i zO).x.p)), .bool false], .pointer (some ⟨t, 0, none⟩), .pointer (some ⟨g1, 2, none⟩), .pointer (some ⟨g1, 2, none⟩), .agg (paA ((l.getD i zO).x.p)), .tuple #[.agg (enA (getV L (l.getD i zO).x.p)), .bool false], .agg (enA (getV L (l.getD i zO).x.p)), .bool false, .slice ao I.length cap, .pointer (some ⟨g1, 2, none⟩), .pointer (some ⟨g1, 2, none⟩), .agg (paA ((l.getD i zO).x.p)), .int .i64 (-1), .bool false, .int .i64 (-1), .bool false, .bool false, .bool false, us1 33, us1 34, us1 35, us1 36, us1 37, us1 38, us1 39, us1 40, us1 41, us1 42, us1 43, us1 44, us1 45, us1 46, us1 47, us1 48, us1 49, us1 50, us1 51, us1 52, us1 53, us1 54, us1 55, us1 56, us1 57, us1 58, us1 59, us1 60, us1 61, us1 62, us1 63, us1 64, us1 65, us1 66, us1 67, us1 68, .int .i64 ((i + 1 : Nat) : Int)] : List Value).getD kz undef), rfl, rfl, by omega, GG, kt, HTt, hTI.del _, by rw [delL_no (hasL_no (Bool.eq_false_iff.2 (of_decide_eq_false hh)))]; exact hp, HO⟩
        · have hhI : hasL I (l.getD i zO).x.p = true := (hasL_perm hkI hp _).trans (of_decide_eq_true hh)
          have hpl := plc_lt hhI
          refine wp_region_lit ?_
          refine s_val 41 rfl rfl (.pointer (some ⟨t, 0, none⟩)) (rfl) ?_
          refine nr ?_; intro U h; simp only [z0, z1] at h; subst h
          refine s_val 42 rfl rfl (.pointer (some ⟨g1, 2, none⟩)) (run_fld 35 _ 2 rfl g1 0 rfl 2 (by kernel_rfl)) ?_
          refine nr ?_; intro U h; simp only [z0, z1] at h; subst h
          refine s_val 43 rfl rfl (.pointer (some ⟨g1, 2, none⟩)) (run_fld 33 _ 0 rfl g1 2 rfl 2 (by kernel_rfl)) ?_
          refine nr ?_; intro U h; simp only [z0, z1] at h; subst h
          refine s_val 44 rfl rfl (.agg (paA ((l.getD i zO).x.p))) (ldOp _ rfl g1 rfl (kg1)) ?_
          refine nr ?_; intro U h; simp only [z0, z1] at h; subst h
          refine s_callx 45 rfl rfl _ 14 Try.call14 rfl rfl _ rfl [.pointer (some ⟨t, 0, none⟩), .agg (paA ((l.getD i zO).x.p))] rfl (Calls.tabV (rem_any _ t b (rmF most) L (kt) (HTt) (l.getD i zO).x.p (H.at (by omega)).x.p) (by rw [(of_decide_eq_true hh)])) (by rintro _ _ ⟨he, _⟩; exact ⟨_, he⟩) ?_
          rintro v w5 ⟨he, HT2, G2⟩
          cases he
          replace kt := G2.has kt (by simpa using HTt.nec kt)
          replace kg1 := G2.has kg1 (by simpa using HTt.nec kg1)
          replace HO := HO.mapw HTt G2
          replace GG := G2.gro GG (by simpa using bb)
          clear HTt G2
          have HTt := HT2
          clear HT2
          refine nr ?_; intro U h; simp only [z0, z1] at h; subst h
          refine s_val 40 rfl rfl (.tuple #[.agg (enA (getV L (l.getD i zO).x.p)), .bool true]) (rfl) ?_
          refine nr ?_; intro U h; simp only [z0, z1] at h; subst h
          refine s_val 46 rfl rfl (.agg (enA (getV L (l.getD i zO).x.p))) (rfl) ?_
          refine nr ?_; intro U h; simp only [z0, z1] at h; subst h
          refine s_val 47 rfl rfl (.bool true) (rfl) ?_
          refine nr ?_; intro U h; simp only [z0, z1] at h; subst h
          refine s_alloc 10 rfl rfl 33 rfl _ zero33 (enA zE) rfl ?_
          intro w6 g2 G eg2 kg2
          have bg2 := size_base GG eg2
          have dtg2 := lt_new kt eg2
          have dg1g2 := lt_new kg1 eg2
          have dHTtg2 := HTt.ne eg2
          have dHOg2 := HO.ne eg2
          replace kt := G.has kt
          replace kg1 := G.has kg1
          replace HTt := HTt.gro G
          replace HO := HO.gro G
          replace GG := GG.trans G
          clear G
          clear eg2
          refine nr ?_; intro U h; simp only [z0, z1] at h; subst h
          refine s_store rfl rfl 33 _ _ rfl g2 0 rfl (.agg (enA (getV L (l.getD i zO).x.p))) rfl 33 _ kg2 (enA (getV L (l.getD i zO).x.p)) rfl (si33' _) (enA_fit _ _) (enA_one _) (enA (getV L (l.getD i zO).x.p)) (splice_whole _ _ (enA_sz _ _)) ?_
          intro w7 St
          have kS := kg2
          replace kt := St.has (by omega) kt
          replace kg1 := St.has (by omega) kg1
          replace HTt := HTt.st St dHTtg2
          replace HO := HO.st St dHOg2
          replace GG := GG.store St bg2
          replace kg2 := St.new
          clear St
          refine s_val 11 rfl rfl (.bool true) (rfl) ?_
          refine nr ?_; intro U h; simp only [z0, z1] at h; subst h
          refine wpList_nil ?_
          refine then_n ?_
          refine wp_seq ?_
          refine wp_region_lit ?_
          refine s_val 48 rfl rfl (.slice ao I.length cap) (rfl) ?_
          refine nr ?_; intro U h; simp only [z0, z1] at h; subst h
          refine s_val 49 rfl rfl (.pointer (some ⟨g1, 2, none⟩)) (run_fld 35 _ 2 rfl g1 0 rfl 2 (by kernel_rfl)) ?_
          refine nr ?_; intro U h; simp only [z0, z1] at h; subst h
          refine s_val 50 rfl rfl (.pointer (some ⟨g1, 2, none⟩)) (run_fld 33 _ 0 rfl g1 2 rfl 2 (by kernel_rfl)) ?_
          refine nr ?_; intro U h; simp only [z0, z1] at h; subst h
          refine s_val 51 rfl rfl (.agg (paA ((l.getD i zO).x.p))) (ldOp _ rfl g1 rfl (kg1)) ?_
          refine nr ?_; intro U h; simp only [z0, z1] at h; subst h
          refine s_callv 52 rfl rfl _ 33 Try.call33 rfl rfl _ rfl [.slice ao I.length cap, .agg (paA ((l.getD i zO).x.p))] rfl (Calls.valV (place_any _ ao cap I (HO.re) hIb (l.getD i zO).x.p (H.at (by omega)).x.p) (by rw [plcV_y hhI])) ?_
          intro w8 G
          replace kt := G.has kt
          replace kg1 := G.has kg1
          replace kg2 := G.has kg2
          replace HTt := HTt.gro G
          replace HO := HO.gro G
          replace GG := GG.trans G
          clear G
          refine nr ?_; intro U h; simp only [z0, z1] at h; subst h
          refine s_val 12 rfl rfl (.int .i64 ((plc I (l.getD i zO).x.p : Nat) : Int)) (rfl) ?_
          refine nr ?_; intro U h; simp only [z0, z1] at h; subst h
          refine wpList_nil ?_
          refine then_n ?_
          refine wp_seq ?_
          refine wp_seq ?_
          refine wp_region_lit ?_
          refine s_val 53 rfl rfl (.bool true) (rfl) ?_
          refine nr ?_; intro U h; simp only [z0, z1] at h; subst h
          refine s_val 54 rfl rfl (.int .i64 ((plc I (l.getD i zO).x.p : Nat) : Int)) (rfl) ?_
          refine nr ?_; intro U h; simp only [z0, z1] at h; subst h
          refine s_val 55 rfl rfl (.bool true) (run_geqT 3 _ _ _ rfl ((plc I (l.getD i zO).x.p : Nat) : Int) 0 rfl rfl true (decide_eq_true (by omega)) _) ?_
          refine nr ?_; intro U h; simp only [z0, z1] at h; subst h
          refine s_val 56 rfl rfl (.bool false) (run_neB 4 _ _ _ rfl true true rfl rfl Try.underlying4 false (decide_eq_true rfl) _) ?_
          refine nr ?_; intro U h; simp only [z0, z1] at h; subst h
          refine wpList_nil ?_
          refine then_n ?_
          refine wp_cond_false rfl ?_
          refine wp_skip ?_
          refine then_n ?_
          refine wp_seq ?_
          refine wp_seq ?_
          refine wp_region_lit ?_
          refine s_val 57 rfl rfl (.bool true) (rfl) ?_
          refine nr ?_; intro U h; simp only [z0, z1] at h; subst h
          refine wpList_nil ?_
          refine then_n ?_
          refine wp_cond_true rfl ?_
          refine wp_region_exA (A := ?Ax5) 8 [(0, 58), (1, 59), (2, 60), (3, 61), (4, 62), (5, 63), (6, 64), (7, 65)] [.val (.slice ao I.length cap), .val (.int .i64 ((plc I (l.getD i zO).x.p : Nat) : Int)), .val (.int .i64 ((plc I (l.getD i zO).x.p : Nat) : Int)), .val (.slice ao (plc I (l.getD i zO).x.p) (plc I (l.getD i zO).x.p)), .val (.slice ao I.length cap), .val (.int .i64 ((plc I (l.getD i zO).x.p : Nat) : Int)), .val (.int .i64 ((plc I (l.getD i zO).x.p + 1 : Nat) : Int)), .val (.slice (if cap = plc I (l.getD i zO).x.p + 1 then ao else ao.map (·.add ((plc I (l.getD i zO).x.p + 1) * 51))) (I.length - (plc I (l.getD i zO).x.p + 1)) (cap - (plc I (l.getD i zO).x.p + 1)))] follows (by kernel_rfl) rfl ?hAx5 (opsA_cons ?o0x5 (opsA_cons ?o1x5 (opsA_cons ?o2x5 (opsA_cons ?o3x5 (opsA_cons ?o4x5 (opsA_cons ?o5x5 (opsA_cons ?o6x5 (opsA_cons ?o7x5 opsA_nil)))))))) ?restx5
          case hAx5 =>
            intro ptrs
            simp only [full, foldSlots, filledE, postE, List.foldl_cons, List.foldl_nil, List.getD_cons_zero, List.getD_cons_succ, fill_val, List.set_cons_zero, List.set_cons_succ]
            exact rfl
          case o0x5 => exact fun _ _ _ _ => opE_move (v := .slice ao I.length cap) _ rfl rfl rfl
          case o1x5 => exact fun _ _ _ _ => opE_move (v := .int .i64 ((plc I (l.getD i zO).x.p : Nat) : Int)) _ rfl rfl rfl
          case o2x5 => exact fun _ _ _ _ => opE_move (v := .int .i64 ((plc I (l.getD i zO).x.p : Nat) : Int)) _ rfl rfl rfl
          case o3x5 => exact fun _ _ _ _ => opE_value (v := .slice ao (plc I (l.getD i zO).x.p) (plc I (l.getD i zO).x.p)) rfl (run_cut3X rE _ _ _ rfl ao I.length cap (plc I (l.getD i zO).x.p) rfl rfl rfl (Nat.le_trans (Nat.le_of_lt hpl) HO.re.fit) _)
          case o4x5 => exact fun _ _ _ _ => opE_move (v := .slice ao I.length cap) _ rfl rfl rfl
          case o5x5 => exact fun _ _ _ _ => opE_move (v := .int .i64 ((plc I (l.getD i zO).x.p : Nat) : Int)) _ rfl rfl rfl
          case o6x5 => exact fun _ _ _ _ => opE_value (v := .int .i64 ((plc I (l.getD i zO).x.p + 1 : Nat) : Int)) rfl (run_addI 3 _ _ _ rfl ((plc I (l.getD i zO).x.p : Nat) : Int) 1 ((plc I (l.getD i zO).x.p + 1 : Nat) : Int) rfl rfl (by omega) (by omega) (by omega) _)
          case o7x5 => exact fun _ _ _ _ => opE_value (v := .slice (if cap = plc I (l.getD i zO).x.p + 1 then ao else ao.map (·.add ((plc I (l.getD i zO).x.p + 1) * 51))) (I.length - (plc I (l.getD i zO).x.p + 1)) (cap - (plc I (l.getD i zO).x.p + 1))) rfl (run_cutX rE _ _ rfl ao I.length cap (plc I (l.getD i zO).x.p + 1) rfl rfl (by omega) _)
          intro ptrs w9 GD hxE
          simp only [List.drop_succ_cons, List.drop_zero]
          replace kt := GD.has kt
          replace kg1 := GD.has kg1
          replace kg2 := GD.has kg2
          replace HTt := HTt.gro ((Gro.refl _).drew.trans GD)
          replace HO := HO.gro ((Gro.refl _).drew.trans GD)
          replace GG := GG.drew.trans GD
          clear GD
          have HC := HO.cut3 (plc I (l.getD i zO).x.p) (by omega)
          have hct : (I.take (plc I (l.getD i zO).x.p)).length = plc I (l.getD i zO).x.p := by rw [List.length_take]; omega
          have hcd : (I.drop (plc I (l.getD i zO).x.p + 1)).length = I.length - (plc I (l.getD i zO).x.p + 1) := List.length_drop ..
          refine s_appE 66 rfl rfl _ _ rfl (by rw [hct]; rfl) HC (by rw [hcd]; rfl) (HO.re.drop (plc I (l.getD i zO).x.p + 1) (by omega)) (by omega) GG.size ?_
          intro ao2 cap2 w10 HO2 G2 _
          replace kt := G2.has kt (HO.own.ne kt (by decide))
          replace HTt := HTt.ap HO.own G2
          replace GG := G2.gro GG (fun k hk => HO.own.base k hk)
          clear HO
          have HO := HO2
          clear HO2 G2 HC
          refine nr ?_; intro U h; simp only [z0, z1] at h; subst h
          refine s_val 7 rfl rfl (.slice ao2 ((I.take (plc I (l.getD i zO).x.p) ++ I.drop (plc I (l.getD i zO).x.p + 1)).length) cap2) (rfl) ?_
          refine nr ?_; intro U h; simp only [z0, z1] at h; subst h
          refine wpList_nil ?_
          refine then_n ?_
          refine wp_exit ?_
          refine then_x ?_
          refine blk_x ?_
          refine then_n ?_
          refine wp_region_lit ?_
          refine s_val 94 rfl rfl (.int .i64 ((i + 1 : Nat) : Int)) (run_addI 3 _ _ _ rfl ((i : Nat) : Int) 1 ((i + 1 : Nat) : Int) rfl rfl (by omega) (by omega) (by omega) _) ?_
          refine nr ?_; intro U h; simp only [z0, z1] at h; subst h
          refine s_val 30 rfl rfl (.int .i64 ((i + 1 : Nat) : Int)) (rfl) ?_
          refine nr ?_; intro U h; simp only [z0, z1] at h; subst h
          refine wpList_nil ?_
          refine then_n ?_
          exact ⟨l.length + 1 - (i + 1), by omega, i + 1, (delL (l.getD i zO).x.p L), (I.take (plc I (l.getD i zO).x.p) ++ I.drop (plc I (l.getD i zO).x.p + 1)), ao2, cap2, (fun kz => ([us1 0, .int .i64 ((i : Nat) : Int), .pointer (some ⟨g1, 0, none⟩), .pointer (some ⟨g2, 0, none⟩), .bool true, .int .i64 ((plc I (l.getD i zO).x.p : Nat) : Int), .bool true, .int .i64 ((i : Nat) : Int), .pointer (pO ao0 i), .agg (opA (l.getD i zO)), .int .i64 ((i : Nat) : Int), .bool false, .pointer (some ⟨g1, 0, none⟩), .int .i64 ((l.getD i zO).k), .bool true, .tuple #[.agg (enA (getV L (l.getD i zO).x.p)), .bool true], .pointer (some ⟨t, 0, none⟩), .pointer (some ⟨g1, 2, none⟩), .pointer (some ⟨g1, 2, none⟩), .agg (paA ((l.getD i zO).x.p)), .tuple #[.agg (enA (getV L (l.getD i zO).x.p)), .bool true], .agg (enA (getV L (l.getD i zO).x.p)), .bool true, .slice ao I.length cap, .pointer (some ⟨g1, 2, none⟩), .pointer (some ⟨g1, 2, none⟩), .agg (paA ((l.getD i zO).x.p)), .int .i64 ((plc I (l.getD i zO).x.p : Nat) : Int), .bool true, .int .i64 ((plc I (l.getD i zO).x.p : Nat) : Int), .bool true, .bool false, .bool true, .slice ao I.length cap, .int .i64 ((plc I (l.getD i zO).x.p : Nat) : Int), .int .i64 ((plc I (l.getD i zO).x.p : Nat) : Int), .slice ao (plc I (l.getD i zO).x.p) (plc I (l.getD i zO).x.p), .slice ao I.length cap, .int .i64 ((plc I (l.getD i zO).x.p : Nat) : Int), .int .i64 ((plc I (l.getD i zO).x.p + 1 : Nat) : Int), .slice (if cap = plc I (l.getD i zO).x.p + 1 then ao else ao.map (·.add ((plc I (l.getD i zO).x.p + 1) * 51))) (I.length - (plc I (l.getD i zO).x.p + 1)) (cap - (plc I (l.getD i zO).x.p + 1)), .slice ao2 ((I.take (plc I (l.getD i zO).x.p) ++ I.drop (plc I (l.getD i zO).x.p + 1)).length) cap2, us1 42, us1 43, us1 44, us1 45, us1 46, us1 47, us1 48, us1 49, us1 50, us1 51, us1 52, us1 53, us1 54, us1 55, us1 56, us1 57, us1 58, us1 59, us1 60, us1 61, us1 62, us1 63, us1 64, us1 65, us1 66, us1 67, us1 68, .int .i64 ((i + 1 : Nat) : Int)] : List Value).getD kz undef), rfl, rfl, by omega, GG, kt, HTt, hTI.del _, cut_perm hp hTI.ris.kn (of_decide_eq_true hh), HO⟩
    · refine s_val 36 rfl rfl (.bool true) (run_gtrT 3 _ _ _ rfl ((i : Nat) : Int) 300 rfl rfl true h300 _) ?_
      refine nr ?_; intro U h; simp only [z0, z1] at h; subst h
      refine wpList_nil ?_
      refine then_n ?_
      refine wp_cond_true rfl ?_
      refine wp_exit ?_
      refine then_x ?_
      refine blk_xn (by decide) ?_
      refine then_x ?_
      refine then_x ?_
      refine blk_x ?_
      refine then_n ?_
      refine wp_seq ?_
      refine wp_region_lit ?_
      refine s_val 95 rfl rfl (.pointer (some ⟨t, 0, none⟩)) (rfl) ?_
      refine nr ?_; intro U h; simp only [z0, z1] at h; subst h
      refine s_callx 96 rfl rfl _ 26 Try.call26 rfl rfl _ rfl [.pointer (some ⟨t, 0, none⟩)] rfl (all_any _ t b (rmF most) L (kt) (HTt) hTI.ris (Nat.le_trans hTI.fit (Nat.le_trans (rmF_le most) (by decide)))) (by rintro _ _ ⟨_, _, he, _⟩; exact ⟨_, he⟩) ?_
      rintro v w5 ⟨ao12, cap12, he, G, HO12⟩
      cases he
      replace HO12 := HO12.mono GG.size
      replace kt := G.has kt
      replace kg1 := G.has kg1
      replace HTt := HTt.gro G
      replace HO := HO.gro G
      replace GG := GG.trans G
      clear G
      have HR12 := HO12.re
      refine nr ?_; intro U h; simp only [z0, z1] at h; subst h
      refine s_val 13 rfl rfl (.slice ao12 L.length cap12) (rfl) ?_
      refine nr ?_; intro U h; simp only [z0, z1] at h; subst h
      refine wpList_nil ?_
      refine then_n ?_
      refine wp_seq ?_
      refine wp_seq ?_
      refine wp_region_lit ?_
      refine s_val 97 rfl rfl (.slice ao12 L.length cap12) (rfl) ?_
      refine nr ?_; intro U h; simp only [z0, z1] at h; subst h
      refine s_val 98 rfl rfl (.int .i64 ((L.length : Nat) : Int)) (run_len Try.underlying41 _ rfl _ _ _ rfl _) ?_
      refine nr ?_; intro U h; simp only [z0, z1] at h; subst h
      refine s_val 99 rfl rfl (.int .i64 0) (rfl) ?_
      refine nr ?_; intro U h; simp only [z0, z1] at h; subst h
      refine wpList_nil ?_
      refine then_n ?_
      refine wp_block ?_
      refine wp_loopN (fun mz az wx => ∃ (q : Nat) (us2 : Nat → Value), mz = L.length + 1 - q ∧ az = ⟨[.int .i64 most, .slice ao0 l.length cap0, undef, undef, us2 0, .pointer (some ⟨t, 0, none⟩), .int .i64 ((rmF most : Nat) : Int), .slice ao I.length cap, .int .i64 ((i : Nat) : Int), .pointer (some ⟨g1, 0, none⟩), us1 3, us1 4, us1 5, .slice ao12 L.length cap12, us2 1, us2 2, us2 3, .int .i64 most, .pointer (some ⟨t, 0, none⟩), .pointer (some ⟨t, 0, none⟩), .bool false, .bool false, .bool true, .bool false, .bool false, .int .i64 most, .int .i64 (max most 0), .int .i64 ((rmF most : Nat) : Int), .slice ao0 l.length cap0, .int .i64 ((l.length : Nat) : Int), .int .i64 ((i : Nat) : Int), .bool true, .int .i64 ((i : Nat) : Int), .pointer (pO ao0 i), .agg (opA (l.getD i zO)), .int .i64 ((i : Nat) : Int), .bool true, us1 12, us1 13, us1 14, us1 15, us1 16, us1 17, us1 18, us1 19, us1 20, us1 21, us1 22, us1 23, us1 24, us1 25, us1 26, us1 27, us1 28, us1 29, us1 30, us1 31, us1 32, us1 33, us1 34, us1 35, us1 36, us1 37, us1 38, us1 39, us1 40, us1 41, us1 42, us1 43, us1 44, us1 45, us1 46, us1 47, us1 48, us1 49, us1 50, us1 51, us1 52, us1 53, us1 54, us1 55, us1 56, us1 57, us1 58, us1 59, us1 60, us1 61, us1 62, us1 63, us1 64, us1 65, us1 66, us1 67, us1 68, us1 69, .pointer (some ⟨t, 0, none⟩), .slice ao12 L.length cap12, .slice ao12 L.length cap12, .int .i64 ((L.length : Nat) : Int), .int .i64 ((q : Nat) : Int), us2 4, us2 5, us2 6, us2 7, us2 8, us2 9, us2 10, us2 11, us2 12, us2 13, us2 14, us2 15, us2 16, us2 17, us2 18, us2 19, us2 20, us2 21, us2 22, us2 23, us2 24, us2 25, us2 26, us2 27, us2 28, us2 29, us2 30, us2 31, us2 32, us2 33, us2 34, us2 35, us2 36, us2 37, us2 38, undef, undef, undef, undef, undef].toArray, []⟩ ∧ q ≤ L.length ∧ Gro w wx ∧ wx.heap[t]? = some (.cells (tbA (rmF most) b) 59 (0, 0)) ∧ TM wx b L ∧ OE wx w.heap.size ao cap I ∧ RE wx ao12 cap12 L) ?_ _ ⟨0, (fun kz => ([us1 0, undef, undef, undef, undef, undef, undef, undef, undef, undef, undef, undef, undef, undef, undef, undef, undef, undef, undef, undef, undef, undef, undef, undef, undef, undef, undef, undef, undef, undef, undef, undef, undef, undef, undef, undef, undef, undef, undef] : List Value).getD kz undef), rfl, rfl, Nat.zero_le _, GG, kt, HTt, HO, HR12⟩
      clear GG kt HTt HO HR12
      rintro mz az wx ⟨q, us2, rfl, rfl, hq, GG, kt, HTt, HO, HR12⟩
      refine wp_seq ?_
      refine wp_region_lit ?_
      cases hs1 : decide (((q : Nat) : Int) < ((L.length : Nat) : Int))
      · have hse : q = L.length := by have := of_decide_eq_false hs1; omega
        refine s_val 100 rfl rfl (.bool false) (run_lssT 3 _ _ _ rfl ((q : Nat) : Int) ((L.length : Nat) : Int) rfl rfl false hs1 _) ?_
        refine nr ?_; intro U h; simp only [z0, z1] at h; subst h
        refine wpList_nil ?_
        refine then_n ?_
        refine wp_seq ?_
        refine wp_cond_false rfl ?_
        refine wp_exit ?_
        refine then_x ?_
        refine then_x ?_
        refine blk_x ?_
        refine then_n ?_
        refine wp_seq ?_
        refine wp_region_lit ?_
        refine s_val 135 rfl rfl (.slice ao12 L.length cap12) (rfl) ?_
        refine nr ?_; intro U h; simp only [z0, z1] at h; subst h
        refine s_val 136 rfl rfl (.int .i64 ((L.length : Nat) : Int)) (run_len Try.underlying41 _ rfl _ _ _ rfl _) ?_
        refine nr ?_; intro U h; simp only [z0, z1] at h; subst h
        refine s_val 137 rfl rfl (.slice ao I.length cap) (rfl) ?_
        refine nr ?_; intro U h; simp only [z0, z1] at h; subst h
        refine s_val 138 rfl rfl (.int .i64 ((I.length : Nat) : Int)) (run_len Try.underlying41 _ rfl _ _ _ rfl _) ?_
        refine nr ?_; intro U h; simp only [z0, z1] at h; subst h
        refine s_val 139 rfl rfl (.bool true) (run_eq_k 3 .i64 _ _ _ rfl Try.underlying3 ((L.length : Nat) : Int) ((I.length : Nat) : Int) rfl rfl true (decide_eq_true (by rw [hIl])) _) ?_
        refine nr ?_; intro U h; simp only [z0, z1] at h; subst h
        refine s_val 4 rfl rfl (.bool true) (rfl) ?_
        refine nr ?_; intro U h; simp only [z0, z1] at h; subst h
        refine wpList_nil ?_
        refine then_n ?_
        refine wp_ret ?_
        refine bodyPost_ret (results_tmp Try.results5 _ _ _) rfl ?_
        exact ⟨rfl, GG⟩
      · have hsl : q < L.length := by have := of_decide_eq_true hs1; omega
        refine s_val 100 rfl rfl (.bool true) (run_lssT 3 _ _ _ rfl ((q : Nat) : Int) ((L.length : Nat) : Int) rfl rfl true hs1 _) ?_
        refine nr ?_; intro U h; simp only [z0, z1] at h; subst h
        refine wpList_nil ?_
        refine then_n ?_
        refine wp_seq ?_
        refine wp_cond_true rfl ?_
        refine wp_skip ?_
        refine then_n ?_
        refine wp_seq ?_
        refine wp_block ?_
        refine wp_seq ?_
        refine wp_region_lit ?_
        refine s_val 101 rfl rfl (.int .i64 ((q : Nat) : Int)) (rfl) ?_
        refine nr ?_; intro U h; simp only [z0, z1] at h; subst h
        refine s_val 102 rfl rfl (.pointer (pE ao12 q 0)) (run_ixE (HR12) _ _ rfl rfl q rfl (by omega)) ?_
        refine nr ?_; intro U h; simp only [z0, z1] at h; subst h
        refine s_val 103 rfl rfl (.agg (enA (L.getD q zE))) (run_ldE (HR12) _ rfl q rfl (by omega)) ?_
        refine nr ?_; intro U h; simp only [z0, z1] at h; subst h
        refine s_alloc 15 rfl rfl 33 rfl _ zero33 (enA zE) rfl ?_
        intro w6 g2 G eg2 kg2
        have bg2 := size_base GG eg2
        have dtg2 := lt_new kt eg2
        have dHTtg2 := HTt.ne eg2
        have dHOg2 := HO.ne eg2
        have dHR12g2 := HR12.ne eg2
        replace kt := G.has kt
        replace HTt := HTt.gro G
        replace HO := HO.gro G
        replace HR12 := HR12.gro G
        replace GG := GG.trans G
        clear G
        clear eg2
        refine nr ?_; intro U h; simp only [z0, z1] at h; subst h
        refine s_val 14 rfl rfl (.int .i64 ((q : Nat) : Int)) (rfl) ?_
        refine nr ?_; intro U h; simp only [z0, z1] at h; subst h
        refine s_store rfl rfl 33 _ _ rfl g2 0 rfl (.agg (enA (L.getD q zE))) rfl 33 _ kg2 (enA (L.getD q zE)) rfl (si33' _) (enA_fit _ _) (enA_one _) (enA (L.getD q zE)) (splice_whole _ _ (enA_sz _ _)) ?_
        intro w7 St
        have kS := kg2
        replace kt := St.has (by omega) kt
        replace HTt := HTt.st St dHTtg2
        replace HO := HO.st St dHOg2
        replace HR12 := HR12.st St dHR12g2
        replace GG := GG.store St bg2
        replace kg2 := St.new
        clear St
        refine wpList_nil ?_
        refine then_n ?_
        refine wp_seq ?_
        have hhI : hasL I (L.getD q zE).p = true := (hasL_perm hkI hp _).trans (hasL_iff.2 ⟨_, getD_in hsl, rfl⟩)
        have hpl := plc_lt hhI
        have hpx := plc_in hp hTI.ris.kn (getD_in hsl)
        refine wp_region_lit ?_
        refine s_val 104 rfl rfl (.slice ao I.length cap) (rfl) ?_
        refine nr ?_; intro U h; simp only [z0, z1] at h; subst h
        refine s_val 105 rfl rfl (.pointer (some ⟨g2, 0, none⟩)) (run_fld 33 _ 0 rfl g2 0 rfl 0 (by kernel_rfl)) ?_
        refine nr ?_; intro U h; simp only [z0, z1] at h; subst h
        refine s_val 106 rfl rfl (.agg (paA ((L.getD q zE).p))) (ldEp _ rfl g2 rfl (kg2)) ?_
        refine nr ?_; intro U h; simp only [z0, z1] at h; subst h
        refine s_callv 107 rfl rfl _ 33 Try.call33 rfl rfl _ rfl [.slice ao I.length cap, .agg (paA ((L.getD q zE).p))] rfl (Calls.valV (place_any _ ao cap I (HO.re) hIb (L.getD q zE).p (HTt.all.at hsl).p) (by rw [plcV_y hhI])) ?_
        intro w8 G
        replace kt := G.has kt
        replace kg2 := G.has kg2
        replace HTt := HTt.gro G
        replace HO := HO.gro G
        replace HR12 := HR12.gro G
        replace GG := GG.trans G
        clear G
        refine nr ?_; intro U h; simp only [z0, z1] at h; subst h
        refine s_val 16 rfl rfl (.int .i64 ((plc I (L.getD q zE).p : Nat) : Int)) (rfl) ?_
        refine nr ?_; intro U h; simp only [z0, z1] at h; subst h
        refine wpList_nil ?_
        refine then_n ?_
        refine wp_seq ?_
        cases hq0 : decide ((0 : Int) < ((q : Nat) : Int))
        · refine wp_region_exA (A := ?Ax6) 25 [(0, 108), (1, 109), (2, 110), (3, 111), (4, 112), (5, 113), (6, 114), (7, 115), (8, 116), (9, 117), (10, 118), (11, 119), (12, 120), (13, 121), (14, 122), (15, 123), (16, 124), (17, 125), (18, 126), (19, 127), (20, 128), (21, 129), (22, 130), (23, 131), (24, 132)] [.val (.int .i64 ((plc I (L.getD q zE).p : Nat) : Int)), .val (.bool false), .val (.bool false), .val (.slice ao I.length cap), .val (.int .i64 ((plc I (L.getD q zE).p : Nat) : Int)), .val (.pointer (pE ao (plc I (L.getD q zE).p) 0)), .val (.agg (enA (I.getD (plc I (L.getD q zE).p) zE))), .val (.agg (enA (L.getD q zE))), .val (.bool false), .val (.bool false), .val (.bool false), .val (.int .i64 ((q : Nat) : Int)), .val (.bool false), .val (.bool false), .val undef, .val undef, .val undef, .val undef, .val undef, .val undef, .val undef, .val undef, .val undef, .val undef, .val (.bool false)] follows (by kernel_rfl) rfl ?hAx6 (opsA_cons ?o0x6 (opsA_cons ?o1x6 (opsA_cons ?o2x6 (opsA_cons ?o3x6 (opsA_cons ?o4x6 (opsA_cons ?o5x6 (opsA_cons ?o6x6 (opsA_cons ?o7x6 (opsA_cons ?o8x6 (opsA_cons ?o9x6 (opsA_cons ?o10x6 (opsA_cons ?o11x6 (opsA_cons ?o12x6 (opsA_cons ?o13x6 (opsA_cons ?o14x6 (opsA_cons ?o15x6 (opsA_cons ?o16x6 (opsA_cons ?o17x6 (opsA_cons ?o18x6 (opsA_cons ?o19x6 (opsA_cons ?o20x6 (opsA_cons ?o21x6 (opsA_cons ?o22x6 (opsA_cons ?o23x6 (opsA_cons ?o24x6 opsA_nil))))))))))))))))))))))))) ?restx6
          case hAx6 =>
            intro ptrs
            simp only [full, foldSlots, filledE, postE, List.foldl_cons, List.foldl_nil, List.getD_cons_zero, List.getD_cons_succ, fill_val, List.set_cons_zero, List.set_cons_succ]
            exact rfl
          case o0x6 => exact fun _ _ _ _ => opE_move (v := .int .i64 ((plc I (L.getD q zE).p : Nat) : Int)) _ rfl rfl rfl
          case o1x6 => exact fun _ _ _ _ => opE_value (v := .bool false) rfl (run_lssT 3 _ _ _ rfl ((plc I (L.getD q zE).p : Nat) : Int) 0 rfl rfl false (decide_eq_false (by omega)) _)
          case o2x6 => exact fun _ _ _ _ => opE_move (v := .bool false) _ rfl rfl rfl
          case o3x6 => exact fun _ _ _ _ => opE_move (v := .slice ao I.length cap) _ rfl rfl rfl
          case o4x6 => exact fun _ _ _ _ => opE_move (v := .int .i64 ((plc I (L.getD q zE).p : Nat) : Int)) _ rfl rfl rfl
          case o5x6 => exact fun _ _ hw _ => opE_value (v := .pointer (pE ao (plc I (L.getD q zE).p) 0)) rfl (run_ixE ((HO.gro ((Gro.refl _).drew.trans hw)).re) _ _ rfl rfl (plc I (L.getD q zE).p) rfl hpl)
          case o6x6 => exact fun _ _ hw _ => opE_value (v := .agg (enA (I.getD (plc I (L.getD q zE).p) zE))) rfl (run_ldE ((HO.gro ((Gro.refl _).drew.trans hw)).re) _ rfl (plc I (L.getD q zE).p) rfl hpl)
          case o7x6 => exact fun _ _ hw _ => opE_value (v := .agg (enA (L.getD q zE))) rfl (ldE0 _ rfl g2 rfl (hw.has kg2))
          case o8x6 => exact fun _ _ _ _ => opE_value (v := .bool false) rfl (run_neE _ _ _ rfl _ _ rfl rfl (HO.all.at hpl) (HTt.all.at hsl) false (decide_eq_true hpx))
          case o9x6 => exact fun _ _ _ _ => opE_pick (v := .bool false) _ _ _ rfl rfl false rfl rfl
          case o10x6 => exact fun _ _ _ _ => opE_move (v := .bool false) _ rfl rfl rfl
          case o11x6 => exact fun _ _ _ _ => opE_move (v := .int .i64 ((q : Nat) : Int)) _ rfl rfl rfl
          case o12x6 => exact fun _ _ _ _ => opE_value (v := .bool false) rfl (run_gtrT 3 _ _ _ rfl ((q : Nat) : Int) 0 rfl rfl false hq0 _)
          case o13x6 => exact fun _ _ _ _ => opE_move (v := .bool false) _ rfl rfl rfl
          case o14x6 => exact fun _ _ _ _ => opE_skip rfl
          case o15x6 => exact fun _ _ _ _ => opE_skip rfl
          case o16x6 => exact fun _ _ _ _ => opE_skip rfl
          case o17x6 => exact fun _ _ _ _ => opE_skip rfl
          case o18x6 => exact fun _ _ _ _ => opE_skip rfl
          case o19x6 => exact fun _ _ _ _ => opE_skip rfl
          case o20x6 => exact fun _ _ _ _ => opE_skip rfl
          case o21x6 => exact fun _ _ _ _ => opE_skip rfl
          case o22x6 => exact fun _ _ _ _ => opE_skip rfl
          case o23x6 => exact fun _ _ _ _ => opE_skip rfl
          case o24x6 => exact fun _ _ _ _ => opE_pick (v := .bool false) _ _ _ rfl rfl false rfl rfl
          intro ptrs w9 GD hxE
          simp only [List.drop_succ_cons, List.drop_zero]
          replace kt := GD.has kt
          replace kg2 := GD.has kg2
          replace HTt := HTt.gro ((Gro.refl _).drew.trans GD)
          replace HO := HO.gro ((Gro.refl _).drew.trans GD)
          replace HR12 := HR12.gro ((Gro.refl _).drew.trans GD)
          replace GG := GG.drew.trans GD
          clear GD
          refine s_val 133 rfl rfl (.bool false) (rfl) ?_
          refine nr ?_; intro U h; simp only [z0, z1] at h; subst h
          refine wpList_nil ?_
          refine then_n ?_
          refine wp_cond_false rfl ?_
          refine wp_skip ?_
          refine blk_n ?_
          refine then_n ?_
          refine wp_region_lit ?_
          refine s_val 134 rfl rfl (.int .i64 ((q + 1 : Nat) : Int)) (run_addI 3 _ _ _ rfl ((q : Nat) : Int) 1 ((q + 1 : Nat) : Int) rfl rfl (by omega) (by omega) (by omega) _) ?_
          refine nr ?_; intro U h; simp only [z0, z1] at h; subst h
          refine s_val 99 rfl rfl (.int .i64 ((q + 1 : Nat) : Int)) (rfl) ?_
          refine nr ?_; intro U h; simp only [z0, z1] at h; subst h
          refine wpList_nil ?_
          refine then_n ?_
          exact ⟨L.length + 1 - (q + 1), by omega, q + 1, (fun kz => ([us2 0, .int .i64 ((q : Nat) : Int), .pointer (some ⟨g2, 0, none⟩), .int .i64 ((plc I (L.getD q zE).p : Nat) : Int), .bool true, .int .i64 ((q : Nat) : Int), .pointer (pE ao12 q 0), .agg (enA (L.getD q zE)), .slice ao I.length cap, .pointer (some ⟨g2, 0, none⟩), .agg (paA ((L.getD q zE).p)), .int .i64 ((plc I (L.getD q zE).p : Nat) : Int), .int .i64 ((plc I (L.getD q zE).p : Nat) : Int), .bool false, .bool false, .slice ao I.length cap, .int .i64 ((plc I (L.getD q zE).p : Nat) : Int), .pointer (pE ao (plc I (L.getD q zE).p) 0), .agg (enA (I.getD (plc I (L.getD q zE).p) zE)), .agg (enA (L.getD q zE)), .bool false, .bool false, .bool false, .int .i64 ((q : Nat) : Int), .bool false, .bool false, undef, undef, undef, undef, undef, undef, undef, undef, undef, undef, .bool false, .bool false, .int .i64 ((q + 1 : Nat) : Int)] : List Value).getD kz undef), rfl, rfl, by omega, GG, kt, HTt, HO, HR12⟩
        · have hq1 : 0 < q := by have := of_decide_eq_true hq0; omega
          refine wp_region_exA (A := ?Ax7) 25 [(0, 108), (1, 109), (2, 110), (3, 111), (4, 112), (5, 113), (6, 114), (7, 115), (8, 116), (9, 117), (10, 118), (11, 119), (12, 120), (13, 121), (14, 122), (15, 123), (16, 124), (17, 125), (18, 126), (19, 127), (20, 128), (21, 129), (22, 130), (23, 131), (24, 132)] [.val (.int .i64 ((plc I (L.getD q zE).p : Nat) : Int)), .val (.bool false), .val (.bool false), .val (.slice ao I.length cap), .val (.int .i64 ((plc I (L.getD q zE).p : Nat) : Int)), .val (.pointer (pE ao (plc I (L.getD q zE).p) 0)), .val (.agg (enA (I.getD (plc I (L.getD q zE).p) zE))), .val (.agg (enA (L.getD q zE))), .val (.bool false), .val (.bool false), .val (.bool false), .val (.int .i64 ((q : Nat) : Int)), .val (.bool true), .val (.bool true), .val (.slice ao12 L.length cap12), .val (.int .i64 ((q : Nat) : Int)), .val (.int .i64 ((q - 1 : Nat) : Int)), .val (.pointer (pE ao12 (q - 1) 0)), .val (.pointer (pE ao12 (q - 1) 0)), .val (.agg (paA ((L.getD (q - 1) zE).p))), .val (.pointer (some ⟨g2, 0, none⟩)), .val (.agg (paA ((L.getD q zE).p))), .val (.bool true), .val (.bool false), .val (.bool false)] follows (by kernel_rfl) rfl ?hAx7 (opsA_cons ?o0x7 (opsA_cons ?o1x7 (opsA_cons ?o2x7 (opsA_cons ?o3x7 (opsA_cons ?o4x7 (opsA_cons ?o5x7 (opsA_cons ?o6x7 (opsA_cons ?o7x7 (opsA_cons ?o8x7 (opsA_cons ?o9x7 (opsA_cons ?o10x7 (opsA_cons ?o11x7 (opsA_cons ?o12x7 (opsA_cons ?o13x7 (opsA_cons ?o14x7 (opsA_cons ?o15x7 (opsA_cons ?o16x7 (opsA_cons ?o17x7 (opsA_cons ?o18x7 (opsA_cons ?o19x7 (opsA_cons ?o20x7 (opsA_cons ?o21x7 (opsA_cons ?o22x7 (opsA_cons ?o23x7 (opsA_cons ?o24x7 opsA_nil))))))))))))))))))))))))) ?restx7
          case hAx7 =>
            intro ptrs
            simp only [full, foldSlots, filledE, postE, List.foldl_cons, List.foldl_nil, List.getD_cons_zero, List.getD_cons_succ, fill_val, List.set_cons_zero, List.set_cons_succ]
            exact rfl
          case o0x7 => exact fun _ _ _ _ => opE_move (v := .int .i64 ((plc I (L.getD q zE).p : Nat) : Int)) _ rfl rfl rfl
          case o1x7 => exact fun _ _ _ _ => opE_value (v := .bool false) rfl (run_lssT 3 _ _ _ rfl ((plc I (L.getD q zE).p : Nat) : Int) 0 rfl rfl false (decide_eq_false (by omega)) _)
          case o2x7 => exact fun _ _ _ _ => opE_move (v := .bool false) _ rfl rfl rfl
          case o3x7 => exact fun _ _ _ _ => opE_move (v := .slice ao I.length cap) _ rfl rfl rfl
          case o4x7 => exact fun _ _ _ _ => opE_move (v := .int .i64 ((plc I (L.getD q zE).p : Nat) : Int)) _ rfl rfl rfl
          case o5x7 => exact fun _ _ hw _ => opE_value (v := .pointer (pE ao (plc I (L.getD q zE).p) 0)) rfl (run_ixE ((HO.gro ((Gro.refl _).drew.trans hw)).re) _ _ rfl rfl (plc I (L.getD q zE).p) rfl hpl)
          case o6x7 => exact fun _ _ hw _ => opE_value (v := .agg (enA (I.getD (plc I (L.getD q zE).p) zE))) rfl (run_ldE ((HO.gro ((Gro.refl _).drew.trans hw)).re) _ rfl (plc I (L.getD q zE).p) rfl hpl)
          case o7x7 => exact fun _ _ hw _ => opE_value (v := .agg (enA (L.getD q zE))) rfl (ldE0 _ rfl g2 rfl (hw.has kg2))
          case o8x7 => exact fun _ _ _ _ => opE_value (v := .bool false) rfl (run_neE _ _ _ rfl _ _ rfl rfl (HO.all.at hpl) (HTt.all.at hsl) false (decide_eq_true hpx))
          case o9x7 => exact fun _ _ _ _ => opE_pick (v := .bool false) _ _ _ rfl rfl false rfl rfl
          case o10x7 => exact fun _ _ _ _ => opE_move (v := .bool false) _ rfl rfl rfl
          case o11x7 => exact fun _ _ _ _ => opE_move (v := .int .i64 ((q : Nat) : Int)) _ rfl rfl rfl
          case o12x7 => exact fun _ _ _ _ => opE_value (v := .bool true) rfl (run_gtrT 3 _ _ _ rfl ((q : Nat) : Int) 0 rfl rfl true hq0 _)
          case o13x7 => exact fun _ _ _ _ => opE_move (v := .bool true) _ rfl rfl rfl
          case o14x7 => exact fun _ _ _ _ => opE_move (v := .slice ao12 L.length cap12) _ rfl rfl rfl
          case o15x7 => exact fun _ _ _ _ => opE_move (v := .int .i64 ((q : Nat) : Int)) _ rfl rfl rfl
          case o16x7 => exact fun _ _ _ _ => opE_value (v := .int .i64 ((q - 1 : Nat) : Int)) rfl (run_subI 3 _ _ _ rfl ((q : Nat) : Int) 1 ((q - 1 : Nat) : Int) rfl rfl (by omega) (by omega) (by omega) _)
          case o17x7 => exact fun _ _ hw _ => opE_value (v := .pointer (pE ao12 (q - 1) 0)) rfl (run_ixE (HR12.gro ((Gro.refl _).drew.trans hw)) _ _ rfl rfl (q - 1) rfl (by omega))
          case o18x7 => exact fun _ _ hw _ => opE_value (v := .pointer (pE ao12 (q - 1) 0)) rfl (run_fdE (HR12.gro ((Gro.refl _).drew.trans hw)) _ 0 0 (fd33_0 _) rfl (q - 1) rfl (by omega))
          case o19x7 => exact fun _ _ hw _ => opE_value (v := .agg (paA ((L.getD (q - 1) zE).p))) rfl (run_ldEp (HR12.gro ((Gro.refl _).drew.trans hw)) _ rfl (q - 1) rfl (by omega))
          case o20x7 => exact fun _ _ _ _ => opE_value (v := .pointer (some ⟨g2, 0, none⟩)) rfl (run_fld 33 _ 0 rfl g2 0 rfl 0 (by kernel_rfl))
          case o21x7 => exact fun _ _ hw _ => opE_value (v := .agg (paA ((L.getD q zE).p))) rfl (ldEp _ rfl g2 rfl (hw.has kg2))
          case o22x7 =>
            intro ptrs w' hw hE
            exact opE_call (.val (.bool true)) rfl _ 30 Try.call30 rfl rfl _ rfl [.agg (paA ((L.getD (q - 1) zE).p)), .agg (paA ((L.getD q zE).p))] rfl ((Calls.bool (rless_any ((L.getD (q - 1) zE).p) ((L.getD q zE).p) (HTt.all.at (by omega)).p (HTt.all.at hsl).p _) (ris_less hTI.ris (by have := of_decide_eq_true hq0; omega) hsl)).mono fun e w' ⟨he, hg⟩ => ⟨_, he, hg, rfl⟩)
          case o23x7 => exact fun _ _ _ _ => opE_value (v := .bool false) rfl (run_nt _ _ rfl true rfl)
          case o24x7 => exact fun _ _ _ _ => opE_pick (v := .bool false) _ _ _ rfl rfl true rfl rfl
          intro ptrs w9 GD hxE
          simp only [List.drop_succ_cons, List.drop_zero]
          replace kt := GD.has kt
          replace kg2 := GD.has kg2
          replace HTt := HTt.gro ((Gro.refl _).drew.trans GD)
          replace HO := HO.gro ((Gro.refl _).drew.trans GD)
          replace HR12 := HR12.gro ((Gro.refl _).drew.trans GD)
          replace GG := GG.drew.trans GD
          clear GD
          refine s_val 133 rfl rfl (.bool false) (rfl) ?_
          refine nr ?_; intro U h; simp only [z0, z1] at h; subst h
          refine wpList_nil ?_
          refine then_n ?_
          refine wp_cond_false rfl ?_
          refine wp_skip ?_
          refine blk_n ?_
          refine then_n ?_
          refine wp_region_lit ?_
          refine s_val 134 rfl rfl (.int .i64 ((q + 1 : Nat) : Int)) (run_addI 3 _ _ _ rfl ((q : Nat) : Int) 1 ((q + 1 : Nat) : Int) rfl rfl (by omega) (by omega) (by omega) _) ?_
          refine nr ?_; intro U h; simp only [z0, z1] at h; subst h
          refine s_val 99 rfl rfl (.int .i64 ((q + 1 : Nat) : Int)) (rfl) ?_
          refine nr ?_; intro U h; simp only [z0, z1] at h; subst h
          refine wpList_nil ?_
          refine then_n ?_
          exact ⟨L.length + 1 - (q + 1), by omega, q + 1, (fun kz => ([us2 0, .int .i64 ((q : Nat) : Int), .pointer (some ⟨g2, 0, none⟩), .int .i64 ((plc I (L.getD q zE).p : Nat) : Int), .bool true, .int .i64 ((q : Nat) : Int), .pointer (pE ao12 q 0), .agg (enA (L.getD q zE)), .slice ao I.length cap, .pointer (some ⟨g2, 0, none⟩), .agg (paA ((L.getD q zE).p)), .int .i64 ((plc I (L.getD q zE).p : Nat) : Int), .int .i64 ((plc I (L.getD q zE).p : Nat) : Int), .bool false, .bool false, .slice ao I.length cap, .int .i64 ((plc I (L.getD q zE).p : Nat) : Int), .pointer (pE ao (plc I (L.getD q zE).p) 0), .agg (enA (I.getD (plc I (L.getD q zE).p) zE)), .agg (enA (L.getD q zE)), .bool false, .bool false, .bool false, .int .i64 ((q : Nat) : Int), .bool true, .bool true, .slice ao12 L.length cap12, .int .i64 ((q : Nat) : Int), .int .i64 ((q - 1 : Nat) : Int), .pointer (pE ao12 (q - 1) 0), .pointer (pE ao12 (q - 1) 0), .agg (paA ((L.getD (q - 1) zE).p)), .pointer (some ⟨g2, 0, none⟩), .agg (paA ((L.getD q zE).p)), .bool true, .bool false, .bool false, .bool false, .int .i64 ((q + 1 : Nat) : Int)] : List Value).getD kz undef), rfl, rfl, by omega, GG, kt, HTt, HO, HR12⟩
end Go.Proofs.Ytgfjclcnolnioaa
