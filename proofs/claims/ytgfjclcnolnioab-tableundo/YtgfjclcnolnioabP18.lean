/- An entry that is added and removed, or removed and added again. -/
import Derived.Test.YtgfjclcnolnioabP13
namespace Go.Proofs.Ytgfjclcnolnioab
open Classical
open Go.RowKit Go.Maps

theorem Calls.tabV {P : Program} {f : FuncId} {args : Array Value} {w : World} {R : World → Prop} {u v : Value} (h : Calls P f args w fun e w' => e = .returned u ∧ R w') (e : u = v) : Calls P f args w fun e w' => e = .returned v ∧ R w' := e ▸ h
theorem undo_add {room : Nat} {L : List En} (hTI : TI room L) {x : En} (hx : x.ok) (h : addC room L x = 0) : getV (addL room L x) x.p = x ∧ hasL (addL room L x) x.p = true ∧ delL x.p (addL room L x) = L := by
  obtain ⟨_, h2, _⟩ := addC_0 h
  have hn := hasL_no h2
  have hr := insL_ris hx hTI.all hTI.ris hn
  rw [addL_yes h]
  have hg := getL_mem hr.kn (x := x) (insL_mem.2 (.inl rfl))
  refine ⟨by unfold getV; rw [hg]; rfl, by unfold hasL; rw [hg]; rfl, del_ins hx hTI.all hTI.ris hn⟩
theorem undo_rem {room : Nat} {L : List En} (hTI : TI room L) {p : Pa} (h : hasL L p = true) : addC room (delL p L) (getV L p) = 0 ∧ addL room (delL p L) (getV L p) = L := by
  obtain ⟨y, hy⟩ : ∃ y, getL L p = some y := by
    unfold hasL at h
    exact Option.isSome_iff_exists.1 h
  have hv : getV L p = y := by unfold getV; rw [hy]; rfl
  obtain ⟨hm, hp⟩ := getL_some hy
  subst hp
  rw [hv]
  have hl := delL_len hTI.ris.kn hm
  have hf := hTI.fit
  have hno : hasL (delL y.p L) y.p = false := by
    rw [Bool.eq_false_iff]
    intro h3
    obtain ⟨z, hz, e⟩ := hasL_iff.1 h3
    exact (delL_mem.1 hz).2 e
  have hc := addC_ok (room := room) (hTI.rgt y hm) hno (by omega)
  exact ⟨hc, by rw [addL_yes hc]; exact ins_del hTI.all hTI.ris hm⟩
set_option maxRecDepth 100000 in
set_option maxHeartbeats 4000000 in
theorem tableUndo_any (w : World) (ao : Option Addr) (cap : Nat) (l : List En) (H : RE w ao cap l) (hl : l.length ≤ maxLen) (x : En) (hx : x.ok) : Calls Try.prog 3 #[.slice ao l.length cap, .agg (enA x)] w (fun e w' => e = .returned (.bool true) ∧ Gro w w') := by
  refine s_enter Try.func3 rfl Try.ntmps3 [.slice ao l.length cap, .agg (enA x)] [.slice ao l.length cap, .agg (enA x), undef, undef, undef, undef, undef, undef, undef, undef, undef, undef, undef, undef, undef, undef, undef, undef, undef, undef, undef, undef, undef, undef, undef, undef, undef, undef, undef, undef, undef, undef, undef, undef, undef, undef, undef, undef, undef, undef, undef, undef, undef, undef, undef, undef, undef, undef, undef, undef, undef, undef, undef, undef, undef, undef, undef, undef, undef, undef, undef, undef, undef, undef, undef, undef, undef, undef, undef, undef, undef, undef, undef] rfl ?_
  have GG := Gro.refl w
  rw [maxL] at hl
  refine wp_seq ?_
  refine wp_region_lit ?_
  refine s_box 3 rfl rfl 28 _ rfl _ rfl (enA x) rfl ?_
  intro w1 g1 G eg1 kg1
  have bg1 := size_base GG eg1
  replace GG := GG.trans G
  clear G
  clear eg1
  refine nr ?_; intro U h; simp only [z0, z1] at h; subst h
  refine s_val 4 rfl rfl (.bool false) (rfl) ?_
  refine nr ?_; intro U h; simp only [z0, z1] at h; subst h
  refine wpList_nil ?_
  refine then_n ?_
  refine wp_seq ?_
  refine wp_region_lit ?_
  refine s_callx 13 rfl rfl _ 4 Try.call4 rfl rfl _ rfl [.int .i64 128] rfl (new_any 128 _) (by rintro _ _ ⟨_, _, he, _⟩; exact ⟨_, he⟩) ?_
  rintro v w2 ⟨t, b, he, G, kt, HTt, h1t, h2t⟩
  cases he
  have bt := Nat.le_trans GG.size h1t
  have bb := Nat.le_trans GG.size h2t
  clear h1t h2t
  replace kg1 := G.has kg1
  replace GG := GG.trans G
  clear G
  refine nr ?_; intro U h; simp only [z0, z1] at h; subst h
  refine s_val 5 rfl rfl (.pointer (some ⟨t, 0, none⟩)) (rfl) ?_
  refine nr ?_; intro U h; simp only [z0, z1] at h; subst h
  refine wpList_nil ?_
  refine then_n ?_
  refine wp_seq ?_
  refine wp_seq ?_
  refine wp_region_opq ?_
  intro OPS hY
  have y2 := hY 2 16 rfl
  clear hY
  refine s_val 14 rfl rfl (.pointer (some ⟨t, 0, none⟩)) (rfl) ?_
  refine nr ?_; intro U h; simp only [z0, z1] at h; subst h
  refine s_val 15 rfl rfl (.bool false) (run_eqnp 29 _ _ _ rfl _ rfl rfl Try.underlying29 _) ?_
  refine nr ?_; intro U h; simp only [z0, z1] at h; subst h
  refine s_val 16 rfl rfl (.bool false) (rfl) ?_
  refine nr ?_; intro U h; simp only [z0, z1] at h; subst h
  refine s_gcallvY 17 rfl rfl y2 rfl _ 5 Try.call5 rfl rfl _ rfl [] rfl (fixed_any _) ?_
  intro w3 G
  replace kg1 := G.has kg1
  replace kt := G.has kt
  replace HTt := HTt.gro G
  replace GG := GG.trans G
  clear G
  refine nr ?_; intro U h; simp only [z0, z1] at h; subst h
  refine s_gvalY 18 rfl rfl y2 rfl (.bool false) (run_nt _ _ rfl true rfl) ?_
  refine nr ?_; intro U h; simp only [z0, z1] at h; subst h
  refine s_val 19 rfl rfl (.bool false) (rfl) ?_
  refine nr ?_; intro U h; simp only [z0, z1] at h; subst h
  refine wpList_nil ?_
  refine then_n ?_
  refine wp_cond_false rfl ?_
  refine wp_skip ?_
  refine then_n ?_
  refine wp_seq ?_
  refine wp_seq ?_
  refine wp_region_lit ?_
  refine s_val 20 rfl rfl (.slice ao l.length cap) (rfl) ?_
  refine nr ?_; intro U h; simp only [z0, z1] at h; subst h
  refine s_val 21 rfl rfl (.int .i64 ((l.length : Nat) : Int)) (run_len Try.underlying22 _ rfl _ _ _ rfl _) ?_
  refine nr ?_; intro U h; simp only [z0, z1] at h; subst h
  refine s_val 22 rfl rfl (.int .i64 0) (rfl) ?_
  refine nr ?_; intro U h; simp only [z0, z1] at h; subst h
  refine wpList_nil ?_
  refine then_n ?_
  refine wp_block ?_
  refine wp_loopN (fun mz az wv => ∃ (i : Nat) (L : List En) (us1 : Nat → Value), mz = l.length + 1 - i ∧ az = ⟨[.slice ao l.length cap, .agg (enA x), undef, .pointer (some ⟨g1, 0, none⟩), .bool false, .pointer (some ⟨t, 0, none⟩), undef, us1 0, undef, undef, undef, undef, undef, .pointer (some ⟨t, 0, none⟩), .pointer (some ⟨t, 0, none⟩), .bool false, .bool false, .bool true, .bool false, .bool false, .slice ao l.length cap, .int .i64 ((l.length : Nat) : Int), .int .i64 ((i : Nat) : Int), us1 1, us1 2, us1 3, us1 4, us1 5, us1 6, us1 7, undef, undef, undef, undef, undef, undef, undef, undef, undef, undef, undef, undef, undef, undef, undef, undef, undef, undef, undef, undef, undef, undef, undef, undef, undef, undef, undef, undef, undef, undef, undef, undef, undef, undef, undef, undef, undef, undef, undef, undef, undef, undef, undef].toArray, []⟩ ∧ i ≤ l.length ∧ Gro w wv ∧ wv.heap[t]? = some (.cells (tbA 128 b) 41 (0, 0)) ∧ TM wv b L ∧ wv.heap[g1]? = some (.cells (enA x) 28 (0, 0)) ∧ TI 128 L) ?_ _ ⟨0, [], (fun kz => ([undef, undef, undef, undef, undef, undef, undef, undef] : List Value).getD kz undef), rfl, rfl, Nat.zero_le _, GG, kt, HTt, kg1, TI.nil 128⟩
  clear GG kg1 kt HTt
  rintro mz az wv ⟨i, L, us1, rfl, rfl, hi, GG, kt, HTt, kg1, hTI⟩
  have hLf := hTI.fit
  have hLb : L.length ≤ 1000 := by omega
  refine wp_seq ?_
  refine wp_region_lit ?_
  cases hj1 : decide (((i : Nat) : Int) < ((l.length : Nat) : Int))
  · have hje : i = l.length := by have := of_decide_eq_false hj1; omega
    refine s_val 23 rfl rfl (.bool false) (run_lssT 3 _ _ _ rfl ((i : Nat) : Int) ((l.length : Nat) : Int) rfl rfl false hj1 _) ?_
    refine nr ?_; intro U h; simp only [z0, z1] at h; subst h
    refine wpList_nil ?_
    refine then_n ?_
    refine wp_seq ?_
    refine wp_cond_false rfl ?_
    refine wp_exit ?_
    refine then_x ?_
    refine then_x ?_
    refine blk_x ?_
    refine then_n ?_
    refine wp_seq ?_
    refine wp_region_lit ?_
    refine s_val 30 rfl rfl (.pointer (some ⟨t, 0, none⟩)) (rfl) ?_
    refine nr ?_; intro U h; simp only [z0, z1] at h; subst h
    refine s_callx 31 rfl rfl _ 7 Try.call7 rfl rfl _ rfl [.pointer (some ⟨t, 0, none⟩)] rfl (all_any _ t b 128 L (kt) (HTt) hTI.ris hLb) (by rintro _ _ ⟨_, _, he, _⟩; exact ⟨_, he⟩) ?_
    rintro v w4 ⟨ao12, cap12, he, G, HO12⟩
    cases he
    replace HO12 := HO12.mono GG.size
    replace kt := G.has kt
    replace kg1 := G.has kg1
    replace HTt := HTt.gro G
    replace GG := GG.trans G
    clear G
    have HR12 := HO12.re
    refine nr ?_; intro U h; simp only [z0, z1] at h; subst h
    refine s_val 8 rfl rfl (.slice ao12 L.length cap12) (rfl) ?_
    refine nr ?_; intro U h; simp only [z0, z1] at h; subst h
    refine wpList_nil ?_
    refine then_n ?_
    refine wp_seq ?_
    refine wp_seq ?_
    refine wp_region_lit ?_
    refine s_val 32 rfl rfl (.pointer (some ⟨t, 0, none⟩)) (rfl) ?_
    refine nr ?_; intro U h; simp only [z0, z1] at h; subst h
    refine s_val 33 rfl rfl (.agg (enA x)) (ldE0 _ rfl g1 rfl (kg1)) ?_
    refine nr ?_; intro U h; simp only [z0, z1] at h; subst h
    refine s_callx 34 rfl rfl _ 6 Try.call6 rfl rfl _ rfl [.pointer (some ⟨t, 0, none⟩), .agg (enA x)] rfl (add_any _ t b 128 L (kt) (HTt) x hx) (by rintro _ _ ⟨he, _⟩; exact ⟨_, he⟩) ?_
    rintro v w5 ⟨he, HT2, G2⟩
    cases he
    replace kt := G2.has kt (by simpa using HTt.nec kt)
    replace kg1 := G2.has kg1 (by simpa using HTt.nec kg1)
    replace HR12 := HR12.mapw HTt G2
    replace HO12 := HO12.mapw HTt G2
    replace GG := G2.gro GG (by simpa using bb)
    clear HTt G2
    have HTt := HT2
    clear HT2
    refine nr ?_; intro U h; simp only [z0, z1] at h; subst h
    cases hc : decide (addC 128 L x = 0)
    · have haL : addL 128 L x = L := addL_no rfl (of_decide_eq_false hc)
      rw [haL] at HTt
      refine s_val 35 rfl rfl (.bool false) (run_eq_k 32 .i64 _ _ _ rfl Try.underlying32 (addC 128 L x) 0 rfl rfl false hc _) ?_
      refine nr ?_; intro U h; simp only [z0, z1] at h; subst h
      refine wpList_nil ?_
      refine then_n ?_
      refine wp_cond_false rfl ?_
      refine wp_skip ?_
      refine then_n ?_
      refine wp_seq ?_
      cases hh : decide (hasL L x.p = true)
      · refine wp_region_lit ?_
        refine s_val 56 rfl rfl (.pointer (some ⟨t, 0, none⟩)) (rfl) ?_
        refine nr ?_; intro U h; simp only [z0, z1] at h; subst h
        refine s_val 57 rfl rfl (.pointer (some ⟨g1, 0, none⟩)) (run_fld 28 _ 0 rfl g1 0 rfl 0 (by kernel_rfl)) ?_
        refine nr ?_; intro U h; simp only [z0, z1] at h; subst h
        refine s_val 58 rfl rfl (.agg (paA x.p)) (ldEp _ rfl g1 rfl (kg1)) ?_
        refine nr ?_; intro U h; simp only [z0, z1] at h; subst h
        refine s_callx 59 rfl rfl _ 8 Try.call8 rfl rfl _ rfl [.pointer (some ⟨t, 0, none⟩), .agg (paA x.p)] rfl (Calls.tabV (rem_any _ t b 128 L (kt) (HTt) x.p hx.p) (by rw [(Bool.eq_false_iff.2 (of_decide_eq_false hh))])) (by rintro _ _ ⟨he, _⟩; exact ⟨_, he⟩) ?_
        rintro v w6 ⟨he, HT2, G2⟩
        cases he
        replace kt := G2.has kt (by simpa using HTt.nec kt)
        replace kg1 := G2.has kg1 (by simpa using HTt.nec kg1)
        replace HR12 := HR12.mapw HTt G2
        replace HO12 := HO12.mapw HTt G2
        replace GG := G2.gro GG (by simpa using bb)
        clear HTt G2
        have HTt := HT2
        clear HT2
        rw [delL_no (hasL_no (Bool.eq_false_iff.2 (of_decide_eq_false hh)))] at HTt
        refine nr ?_; intro U h; simp only [z0, z1] at h; subst h
        refine s_val 55 rfl rfl (.tuple #[.agg (enA (getV L x.p)), .bool false]) (rfl) ?_
        refine nr ?_; intro U h; simp only [z0, z1] at h; subst h
        refine s_val 60 rfl rfl (.agg (enA (getV L x.p))) (rfl) ?_
        refine nr ?_; intro U h; simp only [z0, z1] at h; subst h
        refine s_val 61 rfl rfl (.bool false) (rfl) ?_
        refine nr ?_; intro U h; simp only [z0, z1] at h; subst h
        refine s_alloc 11 rfl rfl 28 rfl _ zero33 (enA zE) rfl ?_
        intro w7 g2 G eg2 kg2
        have bg2 := size_base GG eg2
        have dtg2 := lt_new kt eg2
        have dg1g2 := lt_new kg1 eg2
        have dHTtg2 := HTt.ne eg2
        have dHR12g2 := HR12.ne eg2
        have dHO12g2 := HO12.ne eg2
        replace kt := G.has kt
        replace kg1 := G.has kg1
        replace HTt := HTt.gro G
        replace HR12 := HR12.gro G
        replace HO12 := HO12.gro G
        replace GG := GG.trans G
        clear G
        clear eg2
        refine nr ?_; intro U h; simp only [z0, z1] at h; subst h
        refine s_store rfl rfl 28 _ _ rfl g2 0 rfl (.agg (enA (getV L x.p))) rfl 28 _ kg2 (enA (getV L x.p)) rfl (si33' _) (enA_fit _ _) (enA_one _) (enA (getV L x.p)) (splice_whole _ _ (enA_sz _ _)) ?_
        intro w8 St
        have kS := kg2
        replace kt := St.has (by omega) kt
        replace kg1 := St.has (by omega) kg1
        replace HTt := HTt.st St dHTtg2
        replace HR12 := HR12.st St dHR12g2
        replace HO12 := HO12.st St dHO12g2
        replace GG := GG.store St bg2
        replace kg2 := St.new
        clear St
        refine s_val 12 rfl rfl (.bool false) (rfl) ?_
        refine nr ?_; intro U h; simp only [z0, z1] at h; subst h
        refine wpList_nil ?_
        refine then_n ?_
        refine wp_seq ?_
        refine wp_seq ?_
        refine wp_region_opq ?_
        intro OPS hY
        have y1 := hY 1 63 rfl
        clear hY
        refine s_val 62 rfl rfl (.bool false) (rfl) ?_
        refine nr ?_; intro U h; simp only [z0, z1] at h; subst h
        refine s_val 63 rfl rfl (.bool false) (rfl) ?_
        refine nr ?_; intro U h; simp only [z0, z1] at h; subst h
        refine s_skipY 64 rfl rfl y1 rfl ?_
        refine nr ?_; intro U h; simp only [z0, z1] at h; subst h
        refine s_skipY 65 rfl rfl y1 rfl ?_
        refine nr ?_; intro U h; simp only [z0, z1] at h; subst h
        refine s_skipY 66 rfl rfl y1 rfl ?_
        refine nr ?_; intro U h; simp only [z0, z1] at h; subst h
        refine s_skipY 67 rfl rfl y1 rfl ?_
        refine nr ?_; intro U h; simp only [z0, z1] at h; subst h
        refine s_val 68 rfl rfl (.bool false) (rfl) ?_
        refine nr ?_; intro U h; simp only [z0, z1] at h; subst h
        refine wpList_nil ?_
        refine then_n ?_
        refine wp_cond_false rfl ?_
        refine wp_skip ?_
        refine then_n ?_
        refine wp_seq ?_
        refine wp_region_lit ?_
        refine s_val 69 rfl rfl (.pointer (some ⟨t, 0, none⟩)) (rfl) ?_
        refine nr ?_; intro U h; simp only [z0, z1] at h; subst h
        refine s_callx 70 rfl rfl _ 7 Try.call7 rfl rfl _ rfl [.pointer (some ⟨t, 0, none⟩)] rfl (all_any _ t b 128 L (kt) (HTt) hTI.ris hLb) (by rintro _ _ ⟨_, _, he, _⟩; exact ⟨_, he⟩) ?_
        rintro v w9 ⟨ao15, cap15, he, G, HO15⟩
        cases he
        replace HO15 := HO15.mono GG.size
        replace kt := G.has kt
        replace kg1 := G.has kg1
        replace kg2 := G.has kg2
        replace HTt := HTt.gro G
        replace HR12 := HR12.gro G
        replace HO12 := HO12.gro G
        replace GG := GG.trans G
        clear G
        have HR15 := HO15.re
        refine nr ?_; intro U h; simp only [z0, z1] at h; subst h
        refine s_val 71 rfl rfl (.slice ao12 L.length cap12) (rfl) ?_
        refine nr ?_; intro U h; simp only [z0, z1] at h; subst h
        refine s_callv 72 rfl rfl _ 9 Try.call9 rfl rfl _ rfl [.slice ao15 L.length cap15, .slice ao12 L.length cap12] rfl (Calls.bool (same_any _ ao15 cap15 L (HR15) (le_maxL hTI.fit) ao12 cap12 L (HR12)) (decide_eq_true rfl)) ?_
        intro w10 G
        replace kt := G.has kt
        replace kg1 := G.has kg1
        replace kg2 := G.has kg2
        replace HTt := HTt.gro G
        replace HR12 := HR12.gro G
        replace HO12 := HO12.gro G
        replace HR15 := HR15.gro G
        replace HO15 := HO15.gro G
        replace GG := GG.trans G
        clear G
        refine nr ?_; intro U h; simp only [z0, z1] at h; subst h
        refine s_val 4 rfl rfl (.bool true) (rfl) ?_
        refine nr ?_; intro U h; simp only [z0, z1] at h; subst h
        refine wpList_nil ?_
        refine then_n ?_
        refine wp_ret ?_
        refine bodyPost_ret (results_tmp Try.results3 _ _ _) rfl ?_
        exact ⟨rfl, GG⟩
      · obtain ⟨hu1, hu2⟩ := undo_rem hTI (of_decide_eq_true hh)
        refine wp_region_lit ?_
        refine s_val 56 rfl rfl (.pointer (some ⟨t, 0, none⟩)) (rfl) ?_
        refine nr ?_; intro U h; simp only [z0, z1] at h; subst h
        refine s_val 57 rfl rfl (.pointer (some ⟨g1, 0, none⟩)) (run_fld 28 _ 0 rfl g1 0 rfl 0 (by kernel_rfl)) ?_
        refine nr ?_; intro U h; simp only [z0, z1] at h; subst h
        refine s_val 58 rfl rfl (.agg (paA x.p)) (ldEp _ rfl g1 rfl (kg1)) ?_
        refine nr ?_; intro U h; simp only [z0, z1] at h; subst h
        refine s_callx 59 rfl rfl _ 8 Try.call8 rfl rfl _ rfl [.pointer (some ⟨t, 0, none⟩), .agg (paA x.p)] rfl (Calls.tabV (rem_any _ t b 128 L (kt) (HTt) x.p hx.p) (by rw [(of_decide_eq_true hh)])) (by rintro _ _ ⟨he, _⟩; exact ⟨_, he⟩) ?_
        rintro v w6 ⟨he, HT2, G2⟩
        cases he
        replace kt := G2.has kt (by simpa using HTt.nec kt)
        replace kg1 := G2.has kg1 (by simpa using HTt.nec kg1)
        replace HR12 := HR12.mapw HTt G2
        replace HO12 := HO12.mapw HTt G2
        replace GG := G2.gro GG (by simpa using bb)
        clear HTt G2
        have HTt := HT2
        clear HT2
        refine nr ?_; intro U h; simp only [z0, z1] at h; subst h
        refine s_val 55 rfl rfl (.tuple #[.agg (enA (getV L x.p)), .bool true]) (rfl) ?_
        refine nr ?_; intro U h; simp only [z0, z1] at h; subst h
        refine s_val 60 rfl rfl (.agg (enA (getV L x.p))) (rfl) ?_
        refine nr ?_; intro U h; simp only [z0, z1] at h; subst h
        refine s_val 61 rfl rfl (.bool true) (rfl) ?_
        refine nr ?_; intro U h; simp only [z0, z1] at h; subst h
        refine s_alloc 11 rfl rfl 28 rfl _ zero33 (enA zE) rfl ?_
        intro w7 g2 G eg2 kg2
        have bg2 := size_base GG eg2
        have dtg2 := lt_new kt eg2
        have dg1g2 := lt_new kg1 eg2
        have dHTtg2 := HTt.ne eg2
        have dHR12g2 := HR12.ne eg2
        have dHO12g2 := HO12.ne eg2
        replace kt := G.has kt
        replace kg1 := G.has kg1
        replace HTt := HTt.gro G
        replace HR12 := HR12.gro G
        replace HO12 := HO12.gro G
        replace GG := GG.trans G
        clear G
        clear eg2
        refine nr ?_; intro U h; simp only [z0, z1] at h; subst h
        refine s_store rfl rfl 28 _ _ rfl g2 0 rfl (.agg (enA (getV L x.p))) rfl 28 _ kg2 (enA (getV L x.p)) rfl (si33' _) (enA_fit _ _) (enA_one _) (enA (getV L x.p)) (splice_whole _ _ (enA_sz _ _)) ?_
        intro w8 St
        have kS := kg2
        replace kt := St.has (by omega) kt
        replace kg1 := St.has (by omega) kg1
        replace HTt := HTt.st St dHTtg2
        replace HR12 := HR12.st St dHR12g2
        replace HO12 := HO12.st St dHO12g2
        replace GG := GG.store St bg2
        replace kg2 := St.new
        clear St
        refine s_val 12 rfl rfl (.bool true) (rfl) ?_
        refine nr ?_; intro U h; simp only [z0, z1] at h; subst h
        refine wpList_nil ?_
        refine then_n ?_
        refine wp_seq ?_
        refine wp_seq ?_
        refine wp_region_opq ?_
        intro OPS hY
        have y1 := hY 1 63 rfl
        clear hY
        refine s_val 62 rfl rfl (.bool true) (rfl) ?_
        refine nr ?_; intro U h; simp only [z0, z1] at h; subst h
        refine s_val 63 rfl rfl (.bool true) (rfl) ?_
        refine nr ?_; intro U h; simp only [z0, z1] at h; subst h
        refine s_gvalY 64 rfl rfl y1 rfl (.pointer (some ⟨t, 0, none⟩)) (rfl) ?_
        refine nr ?_; intro U h; simp only [z0, z1] at h; subst h
        refine s_gvalY 65 rfl rfl y1 rfl (.agg (enA (getV L x.p))) (ldE0 _ rfl g2 rfl (kg2)) ?_
        refine nr ?_; intro U h; simp only [z0, z1] at h; subst h
        refine s_gcallxY 66 rfl rfl y1 rfl _ 6 Try.call6 rfl rfl _ rfl [.pointer (some ⟨t, 0, none⟩), .agg (enA (getV L x.p))] rfl (Calls.tabV (add_any _ t b 128 (delL x.p L) (kt) (HTt) (getV L x.p) (getV_ok hTI.all _)) (by rw [hu1])) (by rintro _ _ ⟨he, _⟩; exact ⟨_, he⟩) ?_
        rintro v w9 ⟨he, HT2, G2⟩
        cases he
        replace kt := G2.has kt (by simpa using HTt.nec kt)
        replace kg1 := G2.has kg1 (by simpa using HTt.nec kg1)
        replace kg2 := G2.has kg2 (by simpa using HTt.nec kg2)
        replace HR12 := HR12.mapw HTt G2
        replace HO12 := HO12.mapw HTt G2
        replace GG := G2.gro GG (by simpa using bb)
        clear HTt G2
        have HTt := HT2
        clear HT2
        rw [hu2] at HTt
        refine nr ?_; intro U h; simp only [z0, z1] at h; subst h
        refine s_gvalY 67 rfl rfl y1 rfl (.bool false) (run_neq_k 32 .i64 _ _ _ rfl Try.underlying32 0 0 rfl rfl false (decide_eq_true rfl) _) ?_
        refine nr ?_; intro U h; simp only [z0, z1] at h; subst h
        refine s_val 68 rfl rfl (.bool false) (rfl) ?_
        refine nr ?_; intro U h; simp only [z0, z1] at h; subst h
        refine wpList_nil ?_
        refine then_n ?_
        refine wp_cond_false rfl ?_
        refine wp_skip ?_
        refine then_n ?_
        refine wp_seq ?_
        refine wp_region_lit ?_
        refine s_val 69 rfl rfl (.pointer (some ⟨t, 0, none⟩)) (rfl) ?_
        refine nr ?_; intro U h; simp only [z0, z1] at h; subst h
        refine s_callx 70 rfl rfl _ 7 Try.call7 rfl rfl _ rfl [.pointer (some ⟨t, 0, none⟩)] rfl (all_any _ t b 128 L (kt) (HTt) hTI.ris hLb) (by rintro _ _ ⟨_, _, he, _⟩; exact ⟨_, he⟩) ?_
        rintro v w10 ⟨ao16, cap16, he, G, HO16⟩
        cases he
        replace HO16 := HO16.mono GG.size
        replace kt := G.has kt
        replace kg1 := G.has kg1
        replace kg2 := G.has kg2
        replace HTt := HTt.gro G
        replace HR12 := HR12.gro G
        replace HO12 := HO12.gro G
        replace GG := GG.trans G
        clear G
        have HR16 := HO16.re
        refine nr ?_; intro U h; simp only [z0, z1] at h; subst h
        refine s_val 71 rfl rfl (.slice ao12 L.length cap12) (rfl) ?_
        refine nr ?_; intro U h; simp only [z0, z1] at h; subst h
        refine s_callv 72 rfl rfl _ 9 Try.call9 rfl rfl _ rfl [.slice ao16 L.length cap16, .slice ao12 L.length cap12] rfl (Calls.bool (same_any _ ao16 cap16 L (HR16) (le_maxL hTI.fit) ao12 cap12 L (HR12)) (decide_eq_true rfl)) ?_
        intro w11 G
        replace kt := G.has kt
        replace kg1 := G.has kg1
        replace kg2 := G.has kg2
        replace HTt := HTt.gro G
        replace HR12 := HR12.gro G
        replace HO12 := HO12.gro G
        replace HR16 := HR16.gro G
        replace HO16 := HO16.gro G
        replace GG := GG.trans G
        clear G
        refine nr ?_; intro U h; simp only [z0, z1] at h; subst h
        refine s_val 4 rfl rfl (.bool true) (rfl) ?_
        refine nr ?_; intro U h; simp only [z0, z1] at h; subst h
        refine wpList_nil ?_
        refine then_n ?_
        refine wp_ret ?_
        refine bodyPost_ret (results_tmp Try.results3 _ _ _) rfl ?_
        exact ⟨rfl, GG⟩
    · obtain ⟨hu1, hu2, hu3⟩ := undo_add hTI hx (of_decide_eq_true hc)
      refine s_val 35 rfl rfl (.bool true) (run_eq_k 32 .i64 _ _ _ rfl Try.underlying32 (addC 128 L x) 0 rfl rfl true hc _) ?_
      refine nr ?_; intro U h; simp only [z0, z1] at h; subst h
      refine wpList_nil ?_
      refine then_n ?_
      refine wp_cond_true rfl ?_
      refine wp_seq ?_
      refine wp_region_lit ?_
      refine s_val 37 rfl rfl (.pointer (some ⟨t, 0, none⟩)) (rfl) ?_
      refine nr ?_; intro U h; simp only [z0, z1] at h; subst h
      refine s_val 38 rfl rfl (.pointer (some ⟨g1, 0, none⟩)) (run_fld 28 _ 0 rfl g1 0 rfl 0 (by kernel_rfl)) ?_
      refine nr ?_; intro U h; simp only [z0, z1] at h; subst h
      refine s_val 39 rfl rfl (.agg (paA x.p)) (ldEp _ rfl g1 rfl (kg1)) ?_
      refine nr ?_; intro U h; simp only [z0, z1] at h; subst h
      refine s_callx 40 rfl rfl _ 8 Try.call8 rfl rfl _ rfl [.pointer (some ⟨t, 0, none⟩), .agg (paA x.p)] rfl (Calls.tabV (rem_any _ t b 128 (addL 128 L x) (kt) (HTt) x.p hx.p) (by rw [hu1, hu2])) (by rintro _ _ ⟨he, _⟩; exact ⟨_, he⟩) ?_
      rintro v w6 ⟨he, HT2, G2⟩
      cases he
      replace kt := G2.has kt (by simpa using HTt.nec kt)
      replace kg1 := G2.has kg1 (by simpa using HTt.nec kg1)
      replace HR12 := HR12.mapw HTt G2
      replace HO12 := HO12.mapw HTt G2
      replace GG := G2.gro GG (by simpa using bb)
      clear HTt G2
      have HTt := HT2
      clear HT2
      rw [hu3] at HTt
      refine nr ?_; intro U h; simp only [z0, z1] at h; subst h
      refine s_val 36 rfl rfl (.tuple #[.agg (enA x), .bool true]) (rfl) ?_
      refine nr ?_; intro U h; simp only [z0, z1] at h; subst h
      refine s_val 41 rfl rfl (.agg (enA x)) (rfl) ?_
      refine nr ?_; intro U h; simp only [z0, z1] at h; subst h
      refine s_val 42 rfl rfl (.bool true) (rfl) ?_
      refine nr ?_; intro U h; simp only [z0, z1] at h; subst h
      refine s_alloc 9 rfl rfl 28 rfl _ zero33 (enA zE) rfl ?_
      intro w7 g2 G eg2 kg2
      have bg2 := size_base GG eg2
      have dtg2 := lt_new kt eg2
      have dg1g2 := lt_new kg1 eg2
      have dHTtg2 := HTt.ne eg2
      have dHR12g2 := HR12.ne eg2
      have dHO12g2 := HO12.ne eg2
      replace kt := G.has kt
      replace kg1 := G.has kg1
      replace HTt := HTt.gro G
      replace HR12 := HR12.gro G
      replace HO12 := HO12.gro G
      replace GG := GG.trans G
      clear G
      clear eg2
      refine nr ?_; intro U h; simp only [z0, z1] at h; subst h
      refine s_store rfl rfl 28 _ _ rfl g2 0 rfl (.agg (enA x)) rfl 28 _ kg2 (enA x) rfl (si33' _) (enA_fit _ _) (enA_one _) (enA x) (splice_whole _ _ (enA_sz _ _)) ?_
      intro w8 St
      have kS := kg2
      replace kt := St.has (by omega) kt
      replace kg1 := St.has (by omega) kg1
      replace HTt := HTt.st St dHTtg2
      replace HR12 := HR12.st St dHR12g2
      replace HO12 := HO12.st St dHO12g2
      replace GG := GG.store St bg2
      replace kg2 := St.new
      clear St
      refine s_val 10 rfl rfl (.bool true) (rfl) ?_
      refine nr ?_; intro U h; simp only [z0, z1] at h; subst h
      refine wpList_nil ?_
      refine then_n ?_
      refine wp_seq ?_
      refine wp_region_opq ?_
      intro OPS hY
      have y1 := hY 1 44 rfl
      have y6 := hY 6 49 rfl
      clear hY
      refine s_val 43 rfl rfl (.bool true) (rfl) ?_
      refine nr ?_; intro U h; simp only [z0, z1] at h; subst h
      refine s_val 44 rfl rfl (.bool true) (rfl) ?_
      refine nr ?_; intro U h; simp only [z0, z1] at h; subst h
      refine s_gvalY 45 rfl rfl y1 rfl (.agg (enA x)) (ldE0 _ rfl g2 rfl (kg2)) ?_
      refine nr ?_; intro U h; simp only [z0, z1] at h; subst h
      refine s_gvalY 46 rfl rfl y1 rfl (.agg (enA x)) (ldE0 _ rfl g1 rfl (kg1)) ?_
      refine nr ?_; intro U h; simp only [z0, z1] at h; subst h
      refine s_gvalY 47 rfl rfl y1 rfl (.bool true) (run_eqE _ _ _ rfl _ _ rfl rfl hx hx true (decide_eq_true rfl)) ?_
      refine nr ?_; intro U h; simp only [z0, z1] at h; subst h
      refine s_val 48 rfl rfl (.bool true) (rfl) ?_
      refine nr ?_; intro U h; simp only [z0, z1] at h; subst h
      refine s_val 49 rfl rfl (.bool true) (rfl) ?_
      refine nr ?_; intro U h; simp only [z0, z1] at h; subst h
      refine s_gvalY 50 rfl rfl y6 rfl (.pointer (some ⟨t, 0, none⟩)) (rfl) ?_
      refine nr ?_; intro U h; simp only [z0, z1] at h; subst h
      refine s_gcallxY 51 rfl rfl y6 rfl _ 7 Try.call7 rfl rfl _ rfl [.pointer (some ⟨t, 0, none⟩)] rfl (all_any _ t b 128 L (kt) (HTt) hTI.ris hLb) (by rintro _ _ ⟨_, _, he, _⟩; exact ⟨_, he⟩) ?_
      rintro v w9 ⟨ao15, cap15, he, G, HO15⟩
      cases he
      replace HO15 := HO15.mono GG.size
      replace kt := G.has kt
      replace kg1 := G.has kg1
      replace kg2 := G.has kg2
      replace HTt := HTt.gro G
      replace HR12 := HR12.gro G
      replace HO12 := HO12.gro G
      replace GG := GG.trans G
      clear G
      have HR15 := HO15.re
      refine nr ?_; intro U h; simp only [z0, z1] at h; subst h
      refine s_gvalY 52 rfl rfl y6 rfl (.slice ao12 L.length cap12) (rfl) ?_
      refine nr ?_; intro U h; simp only [z0, z1] at h; subst h
      refine s_gcallvY 53 rfl rfl y6 rfl _ 9 Try.call9 rfl rfl _ rfl [.slice ao15 L.length cap15, .slice ao12 L.length cap12] rfl (Calls.bool (same_any _ ao15 cap15 L (HR15) (le_maxL hTI.fit) ao12 cap12 L (HR12)) (decide_eq_true rfl)) ?_
      intro w10 G
      replace kt := G.has kt
      replace kg1 := G.has kg1
      replace kg2 := G.has kg2
      replace HTt := HTt.gro G
      replace HR12 := HR12.gro G
      replace HO12 := HO12.gro G
      replace HR15 := HR15.gro G
      replace HO15 := HO15.gro G
      replace GG := GG.trans G
      clear G
      refine nr ?_; intro U h; simp only [z0, z1] at h; subst h
      refine s_val 54 rfl rfl (.bool true) (rfl) ?_
      refine nr ?_; intro U h; simp only [z0, z1] at h; subst h
      refine s_val 4 rfl rfl (.bool true) (rfl) ?_
      refine nr ?_; intro U h; simp only [z0, z1] at h; subst h
      refine wpList_nil ?_
      refine then_n ?_
      refine wp_ret ?_
      refine then_r ?_
      refine bodyPost_ret (results_tmp Try.results3 _ _ _) rfl ?_
      exact ⟨rfl, GG⟩
  · have hjl : i < l.length := by have := of_decide_eq_true hj1; omega
    refine s_val 23 rfl rfl (.bool true) (run_lssT 3 _ _ _ rfl ((i : Nat) : Int) ((l.length : Nat) : Int) rfl rfl true hj1 _) ?_
    refine nr ?_; intro U h; simp only [z0, z1] at h; subst h
    refine wpList_nil ?_
    refine then_n ?_
    refine wp_seq ?_
    refine wp_cond_true rfl ?_
    refine wp_skip ?_
    refine then_n ?_
    refine wp_seq ?_
    refine wp_block ?_
    refine wp_seq ?_
    refine wp_region_lit ?_
    refine s_val 24 rfl rfl (.pointer (pE ao i 0)) (run_ixE (H.gro GG) _ _ rfl rfl i rfl (by omega)) ?_
    refine nr ?_; intro U h; simp only [z0, z1] at h; subst h
    refine s_val 25 rfl rfl (.agg (enA (l.getD i zE))) (run_ldE (H.gro GG) _ rfl i rfl (by omega)) ?_
    refine nr ?_; intro U h; simp only [z0, z1] at h; subst h
    refine s_alloc 7 rfl rfl 28 rfl _ zero33 (enA zE) rfl ?_
    intro w4 g2 G eg2 kg2
    have bg2 := size_base GG eg2
    have dtg2 := lt_new kt eg2
    have dg1g2 := lt_new kg1 eg2
    have dHTtg2 := HTt.ne eg2
    replace kt := G.has kt
    replace kg1 := G.has kg1
    replace HTt := HTt.gro G
    replace GG := GG.trans G
    clear G
    clear eg2
    refine nr ?_; intro U h; simp only [z0, z1] at h; subst h
    refine s_store rfl rfl 28 _ _ rfl g2 0 rfl (.agg (enA (l.getD i zE))) rfl 28 _ kg2 (enA (l.getD i zE)) rfl (si33' _) (enA_fit _ _) (enA_one _) (enA (l.getD i zE)) (splice_whole _ _ (enA_sz _ _)) ?_
    intro w5 St
    have kS := kg2
    replace kt := St.has (by omega) kt
    replace kg1 := St.has (by omega) kg1
    replace HTt := HTt.st St dHTtg2
    replace GG := GG.store St bg2
    replace kg2 := St.new
    clear St
    refine wpList_nil ?_
    refine then_n ?_
    refine wp_region_lit ?_
    refine s_val 26 rfl rfl (.pointer (some ⟨t, 0, none⟩)) (rfl) ?_
    refine nr ?_; intro U h; simp only [z0, z1] at h; subst h
    refine s_val 27 rfl rfl (.agg (enA (l.getD i zE))) (ldE0 _ rfl g2 rfl (kg2)) ?_
    refine nr ?_; intro U h; simp only [z0, z1] at h; subst h
    refine s_callx 28 rfl rfl _ 6 Try.call6 rfl rfl _ rfl [.pointer (some ⟨t, 0, none⟩), .agg (enA (l.getD i zE))] rfl (add_any _ t b 128 L (kt) (HTt) (l.getD i zE) (H.all.at (by omega))) (by rintro _ _ ⟨he, _⟩; exact ⟨_, he⟩) ?_
    rintro v w6 ⟨he, HT2, G2⟩
    cases he
    replace kt := G2.has kt (by simpa using HTt.nec kt)
    replace kg1 := G2.has kg1 (by simpa using HTt.nec kg1)
    replace kg2 := G2.has kg2 (by simpa using HTt.nec kg2)
    replace GG := G2.gro GG (by simpa using bb)
    clear HTt G2
    have HTt := HT2
    clear HT2
    refine nr ?_; intro U h; simp only [z0, z1] at h; subst h
    refine wpList_nil ?_
    refine blk_n ?_
    refine then_n ?_
    refine wp_region_lit ?_
    refine s_val 29 rfl rfl (.int .i64 ((i + 1 : Nat) : Int)) (run_addI 3 _ _ _ rfl ((i : Nat) : Int) 1 ((i + 1 : Nat) : Int) rfl rfl (by omega) (by omega) (by omega) _) ?_
    refine nr ?_; intro U h; simp only [z0, z1] at h; subst h
    refine s_val 22 rfl rfl (.int .i64 ((i + 1 : Nat) : Int)) (rfl) ?_
    refine nr ?_; intro U h; simp only [z0, z1] at h; subst h
    refine wpList_nil ?_
    refine then_n ?_
    exact ⟨l.length + 1 - (i + 1), by omega, i + 1, addL 128 L (l.getD i zE), (fun kz => ([.pointer (some ⟨g2, 0, none⟩), .bool true, .pointer (pE ao i 0), .agg (enA (l.getD i zE)), .pointer (some ⟨t, 0, none⟩), .agg (enA (l.getD i zE)), .int .i64 (addC 128 L (l.getD i zE)), .int .i64 ((i + 1 : Nat) : Int)] : List Value).getD kz undef), rfl, rfl, by omega, GG, kt, HTt, kg1, hTI.add (H.all.at hjl)⟩
end Go.Proofs.Ytgfjclcnolnioab
