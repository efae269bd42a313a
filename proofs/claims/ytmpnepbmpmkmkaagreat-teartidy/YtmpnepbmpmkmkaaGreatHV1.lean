/- Friends, spare paths, twins and first paths: the program's and the document's. -/
import Derived.Test.YtmpnepbmpmkmkaaGreatHFr5
import Derived.Test.YtmpnepbmpmkmkaaGreatHY0
import Derived.Test.YtmpnepbmpmkmkaaGreatHI13
import Derived.Test.YtmpnepbmpmkmkaaGreatHP16
namespace Go.Proofs.YtmpnepbmpmkmkaaGreat
open Go.RowKit Go.Maps
def kI : Kd Nat := ⟨fun n => (idA n).toList, 16, (· < top), 0, fun n => idA_leni n, fun n v hv => fl_one (l := [n]) v (by rw [fl_1]; exact hv)⟩
section
variable {w : World} {ao : Option Addr} {cap : Nat} {l : List Nat}
theorem RK.rc (h : RK kI w ao cap l) : RC w ao cap l := ⟨h.xc, h.all⟩
theorem RC.rk (h : RC w ao cap l) : RK kI w ao cap l := ⟨h.xc, h.all⟩
end
theorem mapo_step {l : List En} {i : Nat} (hi : i < l.length) : (l.take (i + 1)).map othI = (l.take i).map othI ++ [othI (l.getD i zE)] := by
  rw [tk_step l i hi, List.map_append]
  rfl
/-- What is spare among the first ones. -/
def spF (W : List Nat) (l : List En) (i : Nat) : List Pa := ((l.take i).filter fun x => !decide (othI x ∈ W)).map (·.p)
theorem spF_y {W : List Nat} {l : List En} {i : Nat} (hi : i < l.length) (h : decide (othI (l.getD i zE) ∈ W) = true) : spF W l (i + 1) = spF W l i := by
  unfold spF
  rw [tfil_step _ l i hi, if_neg (by rw [h]; decide), List.append_nil]
theorem spF_n {W : List Nat} {l : List En} {i : Nat} (hi : i < l.length) (h : decide (othI (l.getD i zE) ∈ W) = false) : spF W l (i + 1) = spF W l i ++ [(l.getD i zE).p] := by
  unfold spF
  rw [tfil_step _ l i hi, if_pos (by rw [h]; rfl), List.map_append]
  rfl
theorem spF_len (W : List Nat) (l : List En) (i : Nat) : (spF W l i).length ≤ l.length := by
  unfold spF
  rw [List.length_map]
  have h1 := List.length_filter_le (fun x => !decide (othI x ∈ W)) (l.take i)
  have h2 : (l.take i).length ≤ l.length := by rw [List.length_take]; omega
  omega
theorem spF_all (L : List En) (s : Nat) (half : Int) : spF (want s (frdL L s) half) (ownL L) (ownL L).length = sprL L s half := by
  unfold spF sprL
  rw [List.take_length]
theorem twT_y {l : List En} {i : Nat} (h : decide (othI (l.getD i zE) ∈ (l.take i).map othI) = true) : twT l (i + 1) = twT l i ++ [(l.getD i zE).p] := by
  show twT l i ++ _ = _
  rw [if_pos h]
theorem twT_n {l : List En} {i : Nat} (h : decide (othI (l.getD i zE) ∈ (l.take i).map othI) = false) : twT l (i + 1) = twT l i := by
  show twT l i ++ _ = _
  rw [if_neg (by rw [h]; decide), List.append_nil]
theorem twT_len (l : List En) : ∀ i, (twT l i).length ≤ i
  | 0 => Nat.le_refl _
  | i + 1 => by
    show (twT l i ++ _).length ≤ _
    have := twT_len l i
    rw [List.length_append]
    split
    · simp only [List.length_cons, List.length_nil]; omega
    · simp only [List.length_nil]; omega
theorem own_e (w : World) (t b room : Nat) (L : List En) (kt : w.heap[t]? = some (.cells (tbA room b) 92 (0, 0))) (HT : TM w b L) (hris : Ris L) (hlen : L.length ≤ 1000) : Calls Tryz.prog 20 #[.pointer (some ⟨t, 0, none⟩)] w (RowP w (ownL L)) := own_any w t b room L kt HT hris hlen
theorem own_len (L : List En) : (ownL L).length ≤ L.length := List.length_filter_le _ _
theorem want_le (s : Nat) (l : List Nat) (half : Int) {m : Nat} (h : l.length ≤ m) : (want s l half).length ≤ m := Nat.le_trans (want_len s l half) h
theorem frd_len (L : List En) (s : Nat) : (frdL L s).length ≤ L.length := Nat.le_trans (lin_len _ _ _) (by rw [List.length_map]; exact own_len L)
def rowC (L : List Nat) : PostE := PostE.ex (fun v x => ∃ ao cap, v = .slice ao L.length cap ∧ RK kI x ao cap L) (fun _ _ _ G ⟨a, c, h1, h2⟩ => ⟨a, c, h1, h2.gro G⟩)
theorem fill_rowC (L : List Nat) (v : Value) : (rowC L).fill v = v := rfl
set_option maxRecDepth 100000 in
set_option maxHeartbeats 4000000 in
theorem oend_any (w : World) (x : En) (hx : x.ok) : Calls Tryz.prog 27 #[.agg (enA x)] w (fun e w' => e = .returned (.agg (idA (othI x))) ∧ Gro w w') := by
  refine s_enter Tryz.func27 rfl Tryz.ntmps27 [.agg (enA x)] [.agg (enA x), undef, undef, undef, undef, undef, undef, undef, undef, undef, undef, undef, undef] rfl ?_
  have GG := Gro.refl w
  refine wp_seq ?_
  refine wp_region_lit ?_
  refine s_box 1 rfl rfl 33 _ rfl _ rfl (enA x) rfl ?_
  intro w1 g1 G eg1 kg1
  have bg1 := size_base GG eg1
  replace GG := GG.trans G
  clear G
  clear eg1
  refine nr ?_; intro U h; simp only [z0, z1] at h; subst h
  refine s_alloc 2 rfl rfl 24 rfl _ zero23 (idA 0) rfl ?_
  intro w2 g2 G eg2 kg2
  have bg2 := size_base GG eg2
  have dg1g2 := lt_new kg1 eg2
  replace kg1 := G.has kg1
  replace GG := GG.trans G
  clear G
  clear eg2
  refine nr ?_; intro U h; simp only [z0, z1] at h; subst h
  refine wpList_nil ?_
  refine then_n ?_
  refine wp_seq ?_
  refine wp_region_lit ?_
  refine s_val 7 rfl rfl (.agg (enA x)) (ldE0 _ rfl g1 rfl (kg1)) ?_
  refine nr ?_; intro U h; simp only [z0, z1] at h; subst h
  refine s_callv 8 rfl rfl _ 21 Tryz.call21 rfl rfl _ rfl [.agg (enA x)] rfl (other_any x hx _) ?_
  intro w3 G
  replace kg1 := G.has kg1
  replace kg2 := G.has kg2
  replace GG := GG.trans G
  clear G
  refine nr ?_; intro U h; simp only [z0, z1] at h; subst h
  refine s_val 6 rfl rfl (.tuple #[.agg (idA (othI x)), .int .i64 (othN x), .bool (othB x)]) (rfl) ?_
  refine nr ?_; intro U h; simp only [z0, z1] at h; subst h
  refine s_val 9 rfl rfl (.agg (idA (othI x))) (rfl) ?_
  refine nr ?_; intro U h; simp only [z0, z1] at h; subst h
  refine s_val 10 rfl rfl (.int .i64 (othN x)) (rfl) ?_
  refine nr ?_; intro U h; simp only [z0, z1] at h; subst h
  refine s_val 11 rfl rfl (.bool (othB x)) (rfl) ?_
  refine nr ?_; intro U h; simp only [z0, z1] at h; subst h
  refine s_alloc 3 rfl rfl 24 rfl _ zero23 (idA 0) rfl ?_
  intro w4 g3 G eg3 kg3
  have bg3 := size_base GG eg3
  have dg1g3 := lt_new kg1 eg3
  have dg2g3 := lt_new kg2 eg3
  replace kg1 := G.has kg1
  replace kg2 := G.has kg2
  replace GG := GG.trans G
  clear G
  clear eg3
  refine nr ?_; intro U h; simp only [z0, z1] at h; subst h
  refine s_store rfl rfl 24 _ _ rfl g3 0 rfl (.agg (idA (othI x))) rfl 24 _ kg3 (idA (othI x)) rfl (size23' _) (idA_fit _ _) (idA_one _) (idA (othI x)) (splice_whole _ _ (idA_sz _ _)) ?_
  intro w5 St
  have kS := kg3
  replace kg1 := St.has (by omega) kg1
  replace kg2 := St.has (by omega) kg2
  replace GG := GG.store St bg3
  replace kg3 := St.new
  clear St
  refine s_val 4 rfl rfl (.int .i64 (othN x)) (rfl) ?_
  refine nr ?_; intro U h; simp only [z0, z1] at h; subst h
  refine s_val 5 rfl rfl (.bool (othB x)) (rfl) ?_
  refine nr ?_; intro U h; simp only [z0, z1] at h; subst h
  refine wpList_nil ?_
  refine then_n ?_
  refine wp_seq ?_
  refine wp_region_lit ?_
  refine s_val 12 rfl rfl (.agg (idA (othI x))) (ldI0 _ rfl g3 rfl (kg3)) ?_
  refine nr ?_; intro U h; simp only [z0, z1] at h; subst h
  refine s_store rfl rfl 24 _ _ rfl g2 0 rfl (.agg (idA (othI x))) rfl 24 _ kg2 (idA (othI x)) rfl (size23' _) (idA_fit _ _) (idA_one _) (idA (othI x)) (splice_whole _ _ (idA_sz _ _)) ?_
  intro w6 St
  have kS := kg2
  replace kg1 := St.has (by omega) kg1
  replace kg3 := St.has (by omega) kg3
  replace GG := GG.store St bg2
  replace kg2 := St.new
  clear St
  refine wpList_nil ?_
  refine then_n ?_
  refine wp_ret ?_
  refine bodyPost_ret (results_cell_row Tryz.results27 _ _ g2 24 _ (0, 0) _ rfl kg2 Tryz.underlying24 rfl (size23' _)) rfl ?_
  exact ⟨rfl, GG⟩
def FrP (w : World) (l : List Nat) (e : Ending) (w' : World) : Prop := ∃ ao cap, e = .returned (.slice ao l.length cap) ∧ Gro w w' ∧ RK kI w' ao cap l
set_option maxRecDepth 100000 in
set_option maxHeartbeats 4000000 in
theorem fri_any (w : World) (t b room : Nat) (L : List En) (kt : w.heap[t]? = some (.cells (tbA room b) 92 (0, 0))) (HT : TM w b L) (hris : Ris L) (hlen : L.length ≤ 1000) (s : Nat) (hs : s < top) : Calls Tryz.prog 10 #[.pointer (some ⟨t, 0, none⟩), .agg (idA s)] w (FrP w (frdL L s)) := by
  refine s_enter Tryz.func10 rfl Tryz.ntmps10 [.pointer (some ⟨t, 0, none⟩), .agg (idA s)] [.pointer (some ⟨t, 0, none⟩), .agg (idA s), undef, undef, undef, undef, undef, undef, undef, undef, undef, undef, undef, undef, undef, undef, undef, undef, undef, undef, undef, undef, undef, undef] rfl ?_
  have GG := Gro.refl w
  have hol := own_len L
  refine wp_seq ?_
  refine wp_region_lit ?_
  refine s_box 3 rfl rfl 24 _ rfl _ rfl (idA s) rfl ?_
  intro w1 g1 G eg1 kg1
  have bg1 := size_base GG eg1
  have dtg1 := lt_new kt eg1
  have dHTg1 := HT.ne eg1
  replace kt := G.has kt
  replace HT := HT.gro G
  replace GG := GG.trans G
  clear G
  clear eg1
  refine nr ?_; intro U h; simp only [z0, z1] at h; subst h
  refine s_val 4 rfl rfl (.slice none 0 0) (rfl) ?_
  refine nr ?_; intro U h; simp only [z0, z1] at h; subst h
  refine wpList_nil ?_
  refine then_n ?_
  refine wp_seq ?_
  refine wp_region_lit ?_
  refine s_val 5 rfl rfl (.slice none 0 0) (rfl) ?_
  refine nr ?_; intro U h; simp only [z0, z1] at h; subst h
  refine wpList_nil ?_
  refine then_n ?_
  refine wp_seq ?_
  refine wp_seq ?_
  refine wp_region_lit ?_
  refine s_val 8 rfl rfl (.pointer (some ⟨t, 0, none⟩)) (rfl) ?_
  refine nr ?_; intro U h; simp only [z0, z1] at h; subst h
  refine s_callx 9 rfl rfl _ 20 Tryz.call20 rfl rfl _ rfl [.pointer (some ⟨t, 0, none⟩)] rfl (own_e _ t b room L (kt) (HT) hris hlen) (by rintro _ _ ⟨_, _, he, _⟩; exact ⟨_, he⟩) ?_
  rintro v w2 ⟨ao1, cap1, he, G, HO1⟩
  cases he
  replace HO1 := HO1.mono GG.size
  replace kt := G.has kt
  replace kg1 := G.has kg1
  replace HT := HT.gro G
  replace GG := GG.trans G
  clear G
  have HR1 := HO1.re
  refine nr ?_; intro U h; simp only [z0, z1] at h; subst h
  refine s_val 10 rfl rfl (.int .i64 (((ownL L).length : Nat) : Int)) (run_len Tryz.underlying22 _ rfl _ _ _ rfl _) ?_
  refine nr ?_; intro U h; simp only [z0, z1] at h; subst h
  refine s_val 11 rfl rfl (.int .i64 0) (rfl) ?_
  refine nr ?_; intro U h; simp only [z0, z1] at h; subst h
  refine wpList_nil ?_
  refine then_n ?_
  refine wp_block ?_
  obtain ⟨B, hB⟩ : ∃ m, w2.heap.size = m := ⟨_, rfl⟩
  have hwB : w.heap.size ≤ B := hB ▸ GG.size
  have HZ : SZ B w2 := Nat.le_of_eq hB.symm
  have zt : t < B := hB ▸ lt_of_heap kt
  have dHZt : True := trivial
  have zg1 : g1 < B := hB ▸ lt_of_heap kg1
  have dHZg1 : True := trivial
  have zb : b < B := hB ▸ HT.lt
  have zHR1 := HR1.lt
  rw [hB] at zHR1
  refine wp_loopN (fun mz az wv => ∃ (i : Nat) (ao : Option Addr) (cap : Nat) (us1 : Nat → Value), mz = (ownL L).length + 1 - i ∧ az = ⟨[.pointer (some ⟨t, 0, none⟩), .agg (idA s), undef, .pointer (some ⟨g1, 0, none⟩), .slice none 0 0, .slice ao (((ownL L).take i).map othI).length cap, undef, us1 0, .pointer (some ⟨t, 0, none⟩), .slice ao1 (ownL L).length cap1, .int .i64 (((ownL L).length : Nat) : Int), .int .i64 ((i : Nat) : Int), us1 1, us1 2, us1 3, us1 4, us1 5, us1 6, us1 7, us1 8, us1 9, undef, undef, undef].toArray, []⟩ ∧ i ≤ (ownL L).length ∧ Gro w wv ∧ SZ B wv ∧ wv.heap[t]? = some (.cells (tbA room b) 92 (0, 0)) ∧ TM wv b L ∧ wv.heap[g1]? = some (.cells (idA s) 24 (0, 0)) ∧ RE wv ao1 cap1 (ownL L) ∧ OW kI 24 wv B ao cap (((ownL L).take i).map othI)) ?_ _ ⟨0, none, 0, (fun kz => ([undef, undef, undef, undef, undef, undef, undef, undef, undef, undef] : List Value).getD kz undef), rfl, rfl, Nat.zero_le _, GG, HZ, kt, HT, kg1, HR1, OW.nil _ _⟩
  clear GG kt kg1 HT HR1
  rintro mz az wv ⟨i, ao, cap, us1, rfl, rfl, hi, GG, HZ, kt, HT, kg1, HR1, HM⟩
  have hml : (((ownL L).take i).map othI).length ≤ 1000 := by rw [List.length_map, List.length_take]; omega
  refine wp_seq ?_
  refine wp_region_lit ?_
  cases hi1 : decide (((i : Nat) : Int) < (((ownL L).length : Nat) : Int))
  · have hie : i = (ownL L).length := by have := of_decide_eq_false hi1; omega
    refine s_val 12 rfl rfl (.bool false) (run_lssT 3 _ _ _ rfl ((i : Nat) : Int) (((ownL L).length : Nat) : Int) rfl rfl false hi1 _) ?_
    refine nr ?_; intro U h; simp only [z0, z1] at h; subst h
    refine wpList_nil ?_
    refine then_n ?_
    refine wp_seq ?_
    refine wp_cond_false rfl ?_
    refine wp_exit ?_
    refine then_x ?_
    refine then_x ?_
    refine blk_x ?_
    refine then_n ?_
    refine wp_seq ?_
    subst hie
    rw [List.take_length] at HM
    simp only [List.take_length]
    refine wp_region_lit ?_
    refine s_val 21 rfl rfl (.agg (idA s)) (ldI0 _ rfl g1 rfl (kg1)) ?_
    refine nr ?_; intro U h; simp only [z0, z1] at h; subst h
    refine s_val 22 rfl rfl (.slice ao ((ownL L).map othI).length cap) (rfl) ?_
    refine nr ?_; intro U h; simp only [z0, z1] at h; subst h
    refine s_callx 23 rfl rfl _ 33 Tryz.call33 rfl rfl _ rfl [.agg (idA s), .slice ao ((ownL L).map othI).length cap] rfl (sorted_any _ ao cap ((ownL L).map othI) HM.re.rc (by rw [List.length_map]; omega) s hs) (by rintro _ _ ⟨_, _, he, _⟩; exact ⟨_, he⟩) ?_
    rintro v w3 ⟨ao2, cap2, he, G, HC2⟩
    cases he
    replace HC2 := HC2.rk
    replace kt := G.has kt
    replace kg1 := G.has kg1
    replace HT := HT.gro G
    replace HR1 := HR1.gro G
    replace HZ := HZ.gro G
    replace HM := HM.gro G
    replace GG := GG.trans G
    clear G
    refine nr ?_; intro U h; simp only [z0, z1] at h; subst h
    refine s_val 4 rfl rfl (.slice ao2 (frdL L s).length cap2) (rfl) ?_
    refine nr ?_; intro U h; simp only [z0, z1] at h; subst h
    refine wpList_nil ?_
    refine then_n ?_
    refine wp_ret ?_
    refine bodyPost_ret (results_tmp Tryz.results10 _ _ _) rfl ?_
    exact ⟨ao2, cap2, rfl, GG, HC2⟩
  · have hil : i < (ownL L).length := by have := of_decide_eq_true hi1; omega
    refine s_val 12 rfl rfl (.bool true) (run_lssT 3 _ _ _ rfl ((i : Nat) : Int) (((ownL L).length : Nat) : Int) rfl rfl true hi1 _) ?_
    refine nr ?_; intro U h; simp only [z0, z1] at h; subst h
    refine wpList_nil ?_
    refine then_n ?_
    refine wp_seq ?_
    refine wp_cond_true rfl ?_
    refine wp_skip ?_
    refine then_n ?_
    refine wp_seq ?_
    refine wp_block ?_
    refine wp_seq ?_
    refine wp_region_lit ?_
    refine s_val 13 rfl rfl (.pointer (pE ao1 i 0)) (run_ixE (HR1) _ _ rfl rfl i rfl (by omega)) ?_
    refine nr ?_; intro U h; simp only [z0, z1] at h; subst h
    refine s_val 14 rfl rfl (.agg (enA ((ownL L).getD i zE))) (run_ldE (HR1) _ rfl i rfl (by omega)) ?_
    refine nr ?_; intro U h; simp only [z0, z1] at h; subst h
    refine s_alloc 7 rfl rfl 33 rfl _ zero33 (enA zE) rfl ?_
    intro w3 g2 G eg2 kg2
    have bg2 := size_base GG eg2
    have dtg2 := lt_new kt eg2
    have dg1g2 := lt_new kg1 eg2
    have dHTg2 := HT.ne eg2
    have dHR1g2 := HR1.ne eg2
    have dHZg2 := HZ.ne eg2
    have dHMg2 := HM.ne eg2
    replace kt := G.has kt
    replace kg1 := G.has kg1
    replace HT := HT.gro G
    replace HR1 := HR1.gro G
    replace HZ := HZ.gro G
    replace HM := HM.gro G
    replace GG := GG.trans G
    clear G
    clear eg2
    refine nr ?_; intro U h; simp only [z0, z1] at h; subst h
    refine s_store rfl rfl 33 _ _ rfl g2 0 rfl (.agg (enA ((ownL L).getD i zE))) rfl 33 _ kg2 (enA ((ownL L).getD i zE)) rfl (si33' _) (enA_fit _ _) (enA_one _) (enA ((ownL L).getD i zE)) (splice_whole _ _ (enA_sz _ _)) ?_
    intro w4 St
    have kS := kg2
    replace kt := St.has (by omega) kt
    replace kg1 := St.has (by omega) kg1
    replace HT := HT.st St dHTg2
    replace HR1 := HR1.st St dHR1g2
    replace HZ := HZ.st St dHZg2
    replace HM := HM.st St dHMg2
    replace GG := GG.store St bg2
    replace kg2 := St.new
    clear St
    refine wpList_nil ?_
    refine then_n ?_
    refine wp_region_lit ?_
    refine s_val 15 rfl rfl (.slice ao (((ownL L).take i).map othI).length cap) (rfl) ?_
    refine nr ?_; intro U h; simp only [z0, z1] at h; subst h
    refine s_val 16 rfl rfl (.agg (enA ((ownL L).getD i zE))) (ldE0 _ rfl g2 rfl (kg2)) ?_
    refine nr ?_; intro U h; simp only [z0, z1] at h; subst h
    refine s_callv 17 rfl rfl _ 27 Tryz.call27 rfl rfl _ rfl [.agg (enA ((ownL L).getD i zE))] rfl (oend_any _ ((ownL L).getD i zE) (HR1.all.at (by omega))) ?_
    intro w5 G
    replace kt := G.has kt
    replace kg1 := G.has kg1
    replace kg2 := G.has kg2
    replace HT := HT.gro G
    replace HR1 := HR1.gro G
    replace HZ := HZ.gro G
    replace HM := HM.gro G
    replace GG := GG.trans G
    clear G
    refine nr ?_; intro U h; simp only [z0, z1] at h; subst h
    refine s_bsl 18 rfl rfl 39 1 _ rfl [(0, .agg (idA (othI ((ownL L).getD i zE))))] rfl (([(othI ((ownL L).getD i zE))] : List Nat).flatMap kI.E).toArray 24 (by kernel_rfl) ?_
    intro w6 q2 G eq2 kq2
    have bq2 := size_base GG eq2
    have dtq2 := lt_new kt eq2
    have dg1q2 := lt_new kg1 eq2
    have dg2q2 := lt_new kg2 eq2
    have dHTq2 := HT.ne eq2
    have dHR1q2 := HR1.ne eq2
    have dHZq2 := HZ.ne eq2
    have dHMq2 := HM.ne eq2
    replace kt := G.has kt
    replace kg1 := G.has kg1
    replace kg2 := G.has kg2
    replace HT := HT.gro G
    replace HR1 := HR1.gro G
    replace HZ := HZ.gro G
    replace HM := HM.gro G
    replace GG := GG.trans G
    clear G
    clear eq2
    refine nr ?_; intro U h; simp only [z0, z1] at h; subst h
    refine s_appK rI (by decide) (by decide) 19 rfl rfl _ _ rfl rfl HM (l' := ([(othI ((ownL L).getD i zE))] : List Nat)) rfl (RK.blk (K := kI) kq2 (one_all (othI_ok (HR1.all.at hil))) (Nat.le_refl _)) (by show _ + 1 ≤ _; omega) HZ ?_
    intro nma nmc w7 HO2 G2 _
    replace kt := G2.has kt (fun hm9 => by have := HM.own.base t hm9; omega)
    replace kg1 := G2.has kg1 (fun hm9 => by have := HM.own.base g1 hm9; omega)
    replace HT := HT.gros G2 (fun hm9 => by have := HM.own.base _ hm9; omega)
    replace HR1 := HR1.gros G2 (fun ad ha h0 hm9 => by have h1 := zHR1 ad ha h0; have := HM.own.base _ hm9; omega)
    replace HZ := HZ.le G2.size
    replace GG := G2.gro GG (fun k hk => by have := HM.own.base k hk; omega)
    clear G2 HM kq2
    have HM := HO2
    clear HO2
    refine nr ?_; intro U h; simp only [z0, z1] at h; subst h
    refine s_val 5 rfl rfl (.slice nma ((((ownL L).take i).map othI) ++ [othI ((ownL L).getD i zE)]).length nmc) (rfl) ?_
    refine nr ?_; intro U h; simp only [z0, z1] at h; subst h
    refine wpList_nil ?_
    refine blk_n ?_
    refine then_n ?_
    refine wp_region_lit ?_
    refine s_val 20 rfl rfl (.int .i64 ((i + 1 : Nat) : Int)) (run_addI 3 _ _ _ rfl ((i : Nat) : Int) 1 ((i + 1 : Nat) : Int) rfl rfl (by omega) (by omega) (by omega) _) ?_
    refine nr ?_; intro U h; simp only [z0, z1] at h; subst h
    refine s_val 11 rfl rfl (.int .i64 ((i + 1 : Nat) : Int)) (rfl) ?_
    refine nr ?_; intro U h; simp only [z0, z1] at h; subst h
    refine wpList_nil ?_
    refine then_n ?_
    exact ⟨(ownL L).length + 1 - (i + 1), by omega, i + 1, nma, nmc, (fun kz => ([.pointer (some ⟨g2, 0, none⟩), .bool true, .pointer (pE ao1 i 0), .agg (enA ((ownL L).getD i zE)), .slice ao (((ownL L).take i).map othI).length cap, .agg (enA ((ownL L).getD i zE)), .agg (idA (othI ((ownL L).getD i zE))), .slice (some ⟨q2, 0, none⟩) 1 1, .slice nma ((((ownL L).take i).map othI) ++ [othI ((ownL L).getD i zE)]).length nmc, .int .i64 ((i + 1 : Nat) : Int)] : List Value).getD kz undef), rfl, by rw [mapo_step hil]; rfl, by omega, GG, HZ, kt, HT, kg1, HR1, by rw [mapo_step hil]; exact HM⟩
end Go.Proofs.YtmpnepbmpmkmkaaGreat
