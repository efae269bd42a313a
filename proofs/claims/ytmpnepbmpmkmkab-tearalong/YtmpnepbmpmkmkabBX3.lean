/- The program's calls: a Drop that comes, a session that died, an end. -/
import Derived.Test.YtmpnepbmpmkmkabBX2
import Derived.Test.YtmpnepbmpmkmkabBY2
namespace Go.Proofs.Ytmpnepbmpmkmkab
open Go.RowKit Go.Maps
/-- What a call told, and the table behind it. -/
def TornT (w : World) (b : Nat) (T : Tn) (L2 : List En) (e : Ending) (w' : World) : Prop := ∃ ao c H bo d, e = .returned (.agg (tnA ao H.length c bo T.lost.length d)) ∧ TnP w' w.heap.size T ao c H bo d ∧ TM w' b L2 ∧ GroS [b] w w'
theorem get_b (w : World) (t b room : Nat) (L : List En) (kt : w.heap[t]? = some (.cells (tbA room b) 69 (0, 0))) (HT : TM w b L) (p : Pa) (hp : p.ok) (bb : Bool) (hb : hasL L p = bb) : Calls Try.prog 7 #[.pointer (some ⟨t, 0, none⟩), .agg (paA p)] w (fun e w' => e = .returned (.tuple #[.agg (enA (getV L p)), .bool bb]) ∧ Gro w w') := by
  subst hb
  exact get_any w t b room L kt HT p hp
theorem take_new (w : World) (t b room : Nat) (L : List En) (kt : w.heap[t]? = some (.cells (tbA room b) 69 (0, 0))) (HT : TM w b L) (p : Pa) (hp : p.ok) (q : Nat) (sides : List Int) (kq : w.heap[q]? = some (.cells (sides.flatMap kZ.E).toArray 3 (0, 0))) (hsI : ∀ x ∈ sides, I64 x) (hsG : ∀ x ∈ sides, -1 ≤ x) (hlo : sides.length ≤ 100000) (T : Tn) (hT : sidesZ sides p = T) : Calls Try.prog 14 #[.agg (tnA none 0 0 none 0 0), .pointer (some ⟨t, 0, none⟩), .agg (paA p), .slice (some ⟨q, 0, none⟩) sides.length sides.length] w (TornT w b T (delL p L)) := by
  subst hT
  have h := take_any w t b room L kt HT p hp tn0 w.heap.size (Nat.le_refl _) none 0 [] none 0 (TnP.nil _ _) q sides kq hsI hsG (by show 0 + _ ≤ _; omega) (by show 0 + _ ≤ _; omega)
  rw [appT_nil] at h
  exact Calls.mono h fun e w' ⟨ao, c, H, bo, d, he, h1, h2, h3⟩ => ⟨ao, c, H, bo, d, he, h1, h2, h3.gros⟩
theorem hits_neg {L : List En} {fr : Int} {p : Pa} (h : decide (fr < 0) = true) : hits L fr p = false := by
  have := of_decide_eq_true h
  unfold hits
  rw [decide_eq_false (by omega)]
  rfl
theorem hits_not {L : List En} {fr : Int} {p : Pa} (h : hasL L p = false) : hits L fr p = false := by
  unfold hits
  rw [h]
  simp
theorem hits_no {L : List En} {fr : Int} {p : Pa} (h1 : ¬ (getV L p).na = fr) (h2 : ¬ (getV L p).nb = fr) : hits L fr p = false := by
  unfold hits
  rw [decide_eq_false h1, decide_eq_false h2]
  simp
theorem hits_yes {L : List En} {fr : Int} {p : Pa} (h0 : ¬ fr < 0) (h : hasL L p = true) (h1 : (getV L p).na = fr ∨ (getV L p).nb = fr) : hits L fr p = true := by
  unfold hits
  rw [h, decide_eq_true (show 0 ≤ fr by omega)]
  simp only [Bool.true_and, Bool.or_eq_true, decide_eq_true_eq]
  exact h1
theorem drp_no {L : List En} {fr : Int} {p : Pa} (h : hits L fr p = false) : drpT L fr p = tn0 ∧ drpL L fr p = L := by
  unfold drpT drpL
  rw [h]
  exact ⟨rfl, rfl⟩
theorem drp_yes {L : List En} {fr : Int} {p : Pa} (h : hits L fr p = true) : drpT L fr p = sideT (othS (getV L p) fr) p ∧ drpL L fr p = delL p L := by
  unfold drpT drpL
  rw [h]
  exact ⟨rfl, rfl⟩
theorem getV_mem {L : List En} {p : Pa} (h : hasL L p = true) : getV L p ∈ L ∧ (getV L p).p = p := by
  unfold hasL at h
  obtain ⟨x, hx⟩ := Option.isSome_iff_exists.1 h
  unfold getV
  rw [hx]
  exact getL_some hx
/-- Both sides of what a table has. -/
def Rg (L : List En) : Prop := ∀ x ∈ L, rgt x = true
theorem Rg.na {L : List En} (h : Rg L) {x : En} (hx : x ∈ L) : -1 ≤ x.na ∧ -1 ≤ x.nb := by
  obtain ⟨_, h1, h2, _⟩ := rgt_iff.1 (h x hx)
  exact ⟨h1.1, h2.1⟩
theorem Rg.oth {L : List En} (h : Rg L) {x : En} (hx : x ∈ L) (n : Int) : -1 ≤ othS x n := by
  have := h.na hx
  unfold othS
  split <;> omega
theorem oth_i64 {x : En} (hx : x.ok) (n : Int) : I64 (othS x n) := by
  unfold othS
  split
  · exact hx.nb
  · exact hx.na
theorem sidesT_le (n : Int) (l : List En) : (sidesT n l).out.length ≤ l.length ∧ (sidesT n l).lost.length ≤ l.length := by
  unfold sidesT
  rw [sides_from]
  simp only [tn0, List.nil_append, List.length_map]
  exact ⟨List.length_filter_le _ _, List.length_filter_le _ _⟩
theorem tkf_le {L : List En} {f : En → Bool} {i m : Nat} (h : L.length ≤ m) : ((L.filter f).take i).length ≤ m := by
  have h1 := List.length_filter_le f L
  rw [List.length_take]
  omega
theorem RE.bb {w w' : World} {ao : Option Addr} {cap B b : Nat} {l L : List En} (h : RE w ao cap l) (HT : TM w b L) (G : BelB B b w w') (hb : ∀ ad, ao = some ad → 0 < (flE l).length → ad.block < B) : RE w' ao cap l :=
  h.gros (S := ((List.range w.heap.size).filter fun k => decide (B ≤ k)) ++ [b]) ⟨G.os, G.tape, G.output, G.size, fun k hk hn => G.old k (by
    apply Nat.lt_of_not_le
    intro hle
    exact hn (List.mem_append_left _ (List.mem_filter.2 ⟨List.mem_range.2 hk, by simpa using hle⟩))) (fun e => hn (List.mem_append_right _ (by simp [e])))⟩ fun ad ha h0 hm => by
    have h1 := hb ad ha h0
    rcases List.mem_append.1 hm with h2 | h2
    · have := (List.mem_filter.1 h2).2
      simp only [decide_eq_true_eq] at this
      omega
    · rw [List.mem_singleton] at h2
      have hc := h.xc.cell ad ha 0 (flE l)[0] (List.getElem?_eq_getElem h0)
      have h3 := HT.cell hc
      rw [add_block] at h3
      exact h3 h2
set_option maxRecDepth 100000 in
set_option maxHeartbeats 4000000 in
theorem drop_any (w : World) (t b room : Nat) (L : List En) (kt : w.heap[t]? = some (.cells (tbA room b) 69 (0, 0))) (HT : TM w b L) (hr : Rg L) (fr : Int) (p : Pa) (hp : p.ok) : Calls Try.prog 8 #[.pointer (some ⟨t, 0, none⟩), .int .i64 fr, .agg (paA p)] w (TornT w b (drpT L fr p) (drpL L fr p)) := by
  refine s_enter Try.func8 rfl Try.ntmps8 [.pointer (some ⟨t, 0, none⟩), .int .i64 fr, .agg (paA p)] [.pointer (some ⟨t, 0, none⟩), .int .i64 fr, .agg (paA p), undef, undef, undef, undef, undef, undef, undef, undef, undef, undef, undef, undef, undef, undef, undef, undef, undef, undef, undef, undef, undef, undef, undef, undef, undef, undef, undef, undef, undef, undef, undef, undef, undef, undef, undef, undef, undef, undef, undef] rfl ?_
  have GG := GroS.refl [b] w
  refine wp_seq ?_
  refine wp_region_lit ?_
  refine s_box 5 rfl rfl 26 _ rfl _ rfl (paA p) rfl ?_
  intro w1 g1 G eg1 kg1
  have bg1 := size_basS GG eg1
  have dtg1 := lt_new kt eg1
  have dHTg1 := HT.ne eg1
  replace kt := G.has kt
  replace HT := HT.gro G
  replace GG := GG.tg G
  clear G
  clear eg1
  refine nr ?_; intro U h; simp only [z0, z1] at h; subst h
  refine s_alloc 6 rfl rfl 35 rfl _ zvT (tnA none 0 0 none 0 0) rfl ?_
  intro w2 g2 G eg2 kg2
  have bg2 := size_basS GG eg2
  have dtg2 := lt_new kt eg2
  have dg1g2 := lt_new kg1 eg2
  have dHTg2 := HT.ne eg2
  replace kt := G.has kt
  replace kg1 := G.has kg1
  replace HT := HT.gro G
  replace GG := GG.tg G
  clear G
  clear eg2
  refine nr ?_; intro U h; simp only [z0, z1] at h; subst h
  refine wpList_nil ?_
  refine then_n ?_
  refine wp_seq ?_
  cases hh : decide (hasL L p = true)
  · refine wp_region_lit ?_
    refine s_val 10 rfl rfl (.pointer (some ⟨t, 0, none⟩)) (rfl) ?_
    refine nr ?_; intro U h; simp only [z0, z1] at h; subst h
    refine s_val 11 rfl rfl (.agg (paA p)) (ldP0 _ rfl g1 rfl (kg1)) ?_
    refine nr ?_; intro U h; simp only [z0, z1] at h; subst h
    refine s_callv 12 rfl rfl _ 7 Try.call7 rfl rfl _ rfl [.pointer (some ⟨t, 0, none⟩), .agg (paA p)] rfl (get_b _ t b room L (kt) (HT) p hp false (Bool.eq_false_iff.2 (of_decide_eq_false hh))) ?_
    intro w3 G
    replace kt := G.has kt
    replace kg1 := G.has kg1
    replace kg2 := G.has kg2
    replace HT := HT.gro G
    replace GG := GG.tg G
    clear G
    refine nr ?_; intro U h; simp only [z0, z1] at h; subst h
    refine s_val 9 rfl rfl (.tuple #[.agg (enA (getV L p)), .bool false]) (rfl) ?_
    refine nr ?_; intro U h; simp only [z0, z1] at h; subst h
    refine s_val 13 rfl rfl (.agg (enA (getV L p))) (rfl) ?_
    refine nr ?_; intro U h; simp only [z0, z1] at h; subst h
    refine s_val 14 rfl rfl (.bool false) (rfl) ?_
    refine nr ?_; intro U h; simp only [z0, z1] at h; subst h
    refine s_alloc 7 rfl rfl 39 rfl _ zero33 (enA zE) rfl ?_
    intro w4 g3 G eg3 kg3
    have bg3 := size_basS GG eg3
    have dtg3 := lt_new kt eg3
    have dg1g3 := lt_new kg1 eg3
    have dg2g3 := lt_new kg2 eg3
    have dHTg3 := HT.ne eg3
    replace kt := G.has kt
    replace kg1 := G.has kg1
    replace kg2 := G.has kg2
    replace HT := HT.gro G
    replace GG := GG.tg G
    clear G
    clear eg3
    refine nr ?_; intro U h; simp only [z0, z1] at h; subst h
    refine s_store rfl rfl 39 _ _ rfl g3 0 rfl (.agg (enA (getV L p))) rfl 39 _ kg3 (enA (getV L p)) rfl (si33' _) (enA_fit _ _) (enA_one _) (enA (getV L p)) (splice_whole _ _ (enA_sz _ _)) ?_
    intro w5 St
    have kS := kg3
    replace kt := St.has (by omega) kt
    replace kg1 := St.has (by omega) kg1
    replace kg2 := St.has (by omega) kg2
    replace HT := HT.st St dHTg3
    replace GG := GG.st St (.inl bg3)
    replace kg3 := St.new
    clear St
    refine s_val 8 rfl rfl (.bool false) (rfl) ?_
    refine nr ?_; intro U h; simp only [z0, z1] at h; subst h
    refine wpList_nil ?_
    refine then_n ?_
    refine wp_seq ?_
    refine wp_seq ?_
    refine wp_region_opq ?_
    intro OPS hY
    have y2 := hY 2 17 rfl
    have y6 := hY 6 21 rfl
    have y11 := hY 11 26 rfl
    clear hY
    refine s_val 15 rfl rfl (.int .i64 fr) (rfl) ?_
    refine nr ?_; intro U h; simp only [z0, z1] at h; subst h
    cases hf : decide (fr < 0)
    · refine s_val 16 rfl rfl (.bool false) (run_lssT 3 _ _ _ rfl fr 0 rfl rfl false hf _) ?_
      refine nr ?_; intro U h; simp only [z0, z1] at h; subst h
      refine s_val 17 rfl rfl (.bool false) (rfl) ?_
      refine nr ?_; intro U h; simp only [z0, z1] at h; subst h
      refine s_gvalY 18 rfl rfl y2 rfl (.bool false) (rfl) ?_
      refine nr ?_; intro U h; simp only [z0, z1] at h; subst h
      refine s_gvalY 19 rfl rfl y2 rfl (.bool true) (run_nt _ _ rfl false rfl) ?_
      refine nr ?_; intro U h; simp only [z0, z1] at h; subst h
      refine s_val 20 rfl rfl (.bool true) (rfl) ?_
      refine nr ?_; intro U h; simp only [z0, z1] at h; subst h
      refine s_val 21 rfl rfl (.bool true) (rfl) ?_
      refine nr ?_; intro U h; simp only [z0, z1] at h; subst h
      refine s_skipY 22 rfl rfl y6 rfl ?_
      refine nr ?_; intro U h; simp only [z0, z1] at h; subst h
      refine s_skipY 23 rfl rfl y6 rfl ?_
      refine nr ?_; intro U h; simp only [z0, z1] at h; subst h
      refine s_skipY 24 rfl rfl y6 rfl ?_
      refine nr ?_; intro U h; simp only [z0, z1] at h; subst h
      refine s_skipY 25 rfl rfl y6 rfl ?_
      refine nr ?_; intro U h; simp only [z0, z1] at h; subst h
      refine s_skipY 26 rfl rfl y6 rfl ?_
      refine nr ?_; intro U h; simp only [z0, z1] at h; subst h
      refine s_skipY 27 rfl rfl y11 rfl ?_
      refine nr ?_; intro U h; simp only [z0, z1] at h; subst h
      refine s_skipY 28 rfl rfl y11 rfl ?_
      refine nr ?_; intro U h; simp only [z0, z1] at h; subst h
      refine s_skipY 29 rfl rfl y11 rfl ?_
      refine nr ?_; intro U h; simp only [z0, z1] at h; subst h
      refine s_skipY 30 rfl rfl y11 rfl ?_
      refine nr ?_; intro U h; simp only [z0, z1] at h; subst h
      refine s_skipY 31 rfl rfl y6 rfl ?_
      refine nr ?_; intro U h; simp only [z0, z1] at h; subst h
      refine s_val 32 rfl rfl (.bool true) (rfl) ?_
      refine nr ?_; intro U h; simp only [z0, z1] at h; subst h
      refine wpList_nil ?_
      refine then_n ?_
      refine wp_cond_true rfl ?_
      refine wp_seq ?_
      refine wp_region_lit ?_
      refine s_val 33 rfl rfl (.agg (tnA none 0 0 none 0 0)) (run_bd 35 _ rfl [] rfl _ (bdT_ _)) ?_
      refine nr ?_; intro U h; simp only [z0, z1] at h; subst h
      refine s_store rfl rfl 35 _ _ rfl g2 0 rfl (.agg (tnA none 0 0 none 0 0)) rfl 35 _ kg2 (tnA none 0 0 none 0 0) rfl (siT) (Nat.le_refl _) (oneT _ _ _ _ _ _) (tnA none 0 0 none 0 0) (splice_whole _ _ (rfl)) ?_
      intro w6 St
      have kS := kg2
      replace kt := St.has (by omega) kt
      replace kg1 := St.has (by omega) kg1
      replace kg3 := St.has (by omega) kg3
      replace HT := HT.st St dHTg2
      replace GG := GG.st St (.inl bg2)
      replace kg2 := St.new
      clear St
      refine wpList_nil ?_
      refine then_n ?_
      refine wp_ret ?_
      refine then_r ?_
      refine bodyPost_ret (results_cell_row Try.results8 _ _ g2 35 _ (0, 0) _ rfl kg2 Try.underlying35 rfl (siT)) rfl ?_
      have hz := hits_not (fr := fr) (Bool.eq_false_iff.2 (of_decide_eq_false hh))
      rw [(drp_no hz).1, (drp_no hz).2]
      exact ⟨none, 0, [], none, 0, rfl, TnP.nil _ _, HT, GG⟩
    · have hz := hits_neg (L := L) (p := p) hf
      refine s_val 16 rfl rfl (.bool true) (run_lssT 3 _ _ _ rfl fr 0 rfl rfl true hf _) ?_
      refine nr ?_; intro U h; simp only [z0, z1] at h; subst h
      refine s_val 17 rfl rfl (.bool true) (rfl) ?_
      refine nr ?_; intro U h; simp only [z0, z1] at h; subst h
      refine s_skipY 18 rfl rfl y2 rfl ?_
      refine nr ?_; intro U h; simp only [z0, z1] at h; subst h
      refine s_skipY 19 rfl rfl y2 rfl ?_
      refine nr ?_; intro U h; simp only [z0, z1] at h; subst h
      refine s_val 20 rfl rfl (.bool true) (rfl) ?_
      refine nr ?_; intro U h; simp only [z0, z1] at h; subst h
      refine s_val 21 rfl rfl (.bool true) (rfl) ?_
      refine nr ?_; intro U h; simp only [z0, z1] at h; subst h
      refine s_skipY 22 rfl rfl y6 rfl ?_
      refine nr ?_; intro U h; simp only [z0, z1] at h; subst h
      refine s_skipY 23 rfl rfl y6 rfl ?_
      refine nr ?_; intro U h; simp only [z0, z1] at h; subst h
      refine s_skipY 24 rfl rfl y6 rfl ?_
      refine nr ?_; intro U h; simp only [z0, z1] at h; subst h
      refine s_skipY 25 rfl rfl y6 rfl ?_
      refine nr ?_; intro U h; simp only [z0, z1] at h; subst h
      refine s_skipY 26 rfl rfl y6 rfl ?_
      refine nr ?_; intro U h; simp only [z0, z1] at h; subst h
      refine s_skipY 27 rfl rfl y11 rfl ?_
      refine nr ?_; intro U h; simp only [z0, z1] at h; subst h
      refine s_skipY 28 rfl rfl y11 rfl ?_
      refine nr ?_; intro U h; simp only [z0, z1] at h; subst h
      refine s_skipY 29 rfl rfl y11 rfl ?_
      refine nr ?_; intro U h; simp only [z0, z1] at h; subst h
      refine s_skipY 30 rfl rfl y11 rfl ?_
      refine nr ?_; intro U h; simp only [z0, z1] at h; subst h
      refine s_skipY 31 rfl rfl y6 rfl ?_
      refine nr ?_; intro U h; simp only [z0, z1] at h; subst h
      refine s_val 32 rfl rfl (.bool true) (rfl) ?_
      refine nr ?_; intro U h; simp only [z0, z1] at h; subst h
      refine wpList_nil ?_
      refine then_n ?_
      refine wp_cond_true rfl ?_
      refine wp_seq ?_
      refine wp_region_lit ?_
      refine s_val 33 rfl rfl (.agg (tnA none 0 0 none 0 0)) (run_bd 35 _ rfl [] rfl _ (bdT_ _)) ?_
      refine nr ?_; intro U h; simp only [z0, z1] at h; subst h
      refine s_store rfl rfl 35 _ _ rfl g2 0 rfl (.agg (tnA none 0 0 none 0 0)) rfl 35 _ kg2 (tnA none 0 0 none 0 0) rfl (siT) (Nat.le_refl _) (oneT _ _ _ _ _ _) (tnA none 0 0 none 0 0) (splice_whole _ _ (rfl)) ?_
      intro w6 St
      have kS := kg2
      replace kt := St.has (by omega) kt
      replace kg1 := St.has (by omega) kg1
      replace kg3 := St.has (by omega) kg3
      replace HT := HT.st St dHTg2
      replace GG := GG.st St (.inl bg2)
      replace kg2 := St.new
      clear St
      refine wpList_nil ?_
      refine then_n ?_
      refine wp_ret ?_
      refine then_r ?_
      refine bodyPost_ret (results_cell_row Try.results8 _ _ g2 35 _ (0, 0) _ rfl kg2 Try.underlying35 rfl (siT)) rfl ?_
      rw [(drp_no hz).1, (drp_no hz).2]
      exact ⟨none, 0, [], none, 0, rfl, TnP.nil _ _, HT, GG⟩
  · refine wp_region_lit ?_
    refine s_val 10 rfl rfl (.pointer (some ⟨t, 0, none⟩)) (rfl) ?_
    refine nr ?_; intro U h; simp only [z0, z1] at h; subst h
    refine s_val 11 rfl rfl (.agg (paA p)) (ldP0 _ rfl g1 rfl (kg1)) ?_
    refine nr ?_; intro U h; simp only [z0, z1] at h; subst h
    refine s_callv 12 rfl rfl _ 7 Try.call7 rfl rfl _ rfl [.pointer (some ⟨t, 0, none⟩), .agg (paA p)] rfl (get_b _ t b room L (kt) (HT) p hp true (of_decide_eq_true hh)) ?_
    intro w3 G
    replace kt := G.has kt
    replace kg1 := G.has kg1
    replace kg2 := G.has kg2
    replace HT := HT.gro G
    replace GG := GG.tg G
    clear G
    refine nr ?_; intro U h; simp only [z0, z1] at h; subst h
    refine s_val 9 rfl rfl (.tuple #[.agg (enA (getV L p)), .bool true]) (rfl) ?_
    refine nr ?_; intro U h; simp only [z0, z1] at h; subst h
    refine s_val 13 rfl rfl (.agg (enA (getV L p))) (rfl) ?_
    refine nr ?_; intro U h; simp only [z0, z1] at h; subst h
    refine s_val 14 rfl rfl (.bool true) (rfl) ?_
    refine nr ?_; intro U h; simp only [z0, z1] at h; subst h
    refine s_alloc 7 rfl rfl 39 rfl _ zero33 (enA zE) rfl ?_
    intro w4 g3 G eg3 kg3
    have bg3 := size_basS GG eg3
    have dtg3 := lt_new kt eg3
    have dg1g3 := lt_new kg1 eg3
    have dg2g3 := lt_new kg2 eg3
    have dHTg3 := HT.ne eg3
    replace kt := G.has kt
    replace kg1 := G.has kg1
    replace kg2 := G.has kg2
    replace HT := HT.gro G
    replace GG := GG.tg G
    clear G
    clear eg3
    refine nr ?_; intro U h; simp only [z0, z1] at h; subst h
    refine s_store rfl rfl 39 _ _ rfl g3 0 rfl (.agg (enA (getV L p))) rfl 39 _ kg3 (enA (getV L p)) rfl (si33' _) (enA_fit _ _) (enA_one _) (enA (getV L p)) (splice_whole _ _ (enA_sz _ _)) ?_
    intro w5 St
    have kS := kg3
    replace kt := St.has (by omega) kt
    replace kg1 := St.has (by omega) kg1
    replace kg2 := St.has (by omega) kg2
    replace HT := HT.st St dHTg3
    replace GG := GG.st St (.inl bg3)
    replace kg3 := St.new
    clear St
    refine s_val 8 rfl rfl (.bool true) (rfl) ?_
    refine nr ?_; intro U h; simp only [z0, z1] at h; subst h
    refine wpList_nil ?_
    refine then_n ?_
    refine wp_seq ?_
    refine wp_seq ?_
    refine wp_region_opq ?_
    intro OPS hY
    have y2 := hY 2 17 rfl
    have y6 := hY 6 21 rfl
    have y11 := hY 11 26 rfl
    clear hY
    refine s_val 15 rfl rfl (.int .i64 fr) (rfl) ?_
    refine nr ?_; intro U h; simp only [z0, z1] at h; subst h
    cases hf : decide (fr < 0)
    · refine s_val 16 rfl rfl (.bool false) (run_lssT 3 _ _ _ rfl fr 0 rfl rfl false hf _) ?_
      refine nr ?_; intro U h; simp only [z0, z1] at h; subst h
      refine s_val 17 rfl rfl (.bool false) (rfl) ?_
      refine nr ?_; intro U h; simp only [z0, z1] at h; subst h
      refine s_gvalY 18 rfl rfl y2 rfl (.bool true) (rfl) ?_
      refine nr ?_; intro U h; simp only [z0, z1] at h; subst h
      refine s_gvalY 19 rfl rfl y2 rfl (.bool false) (run_nt _ _ rfl true rfl) ?_
      refine nr ?_; intro U h; simp only [z0, z1] at h; subst h
      refine s_val 20 rfl rfl (.bool false) (rfl) ?_
      refine nr ?_; intro U h; simp only [z0, z1] at h; subst h
      refine s_val 21 rfl rfl (.bool false) (rfl) ?_
      refine nr ?_; intro U h; simp only [z0, z1] at h; subst h
      refine s_gvalY 22 rfl rfl y6 rfl (.int .i64 fr) (rfl) ?_
      refine nr ?_; intro U h; simp only [z0, z1] at h; subst h
      refine s_gvalY 23 rfl rfl y6 rfl (.pointer (some ⟨g3, 49, none⟩)) (run_fld 39 _ 3 rfl g3 0 rfl 49 (by kernel_rfl)) ?_
      refine nr ?_; intro U h; simp only [z0, z1] at h; subst h
      refine s_gvalY 24 rfl rfl y6 rfl (.int .i64 (getV L p).na) (ldEna _ rfl g3 rfl (kg3)) ?_
      refine nr ?_; intro U h; simp only [z0, z1] at h; subst h
      cases h1 : decide (fr = (getV L p).na)
      · refine s_gvalY 25 rfl rfl y6 rfl (.bool true) (run_neq_k 3 .i64 _ _ _ rfl Try.underlying3 fr (getV L p).na rfl rfl true h1 _) ?_
        refine nr ?_; intro U h; simp only [z0, z1] at h; subst h
        refine s_gvalY 26 rfl rfl y6 rfl (.bool true) (rfl) ?_
        refine nr ?_; intro U h; simp only [z0, z1] at h; subst h
        refine s_gvalY 27 rfl rfl y11 rfl (.int .i64 fr) (rfl) ?_
        refine nr ?_; intro U h; simp only [z0, z1] at h; subst h
        refine s_gvalY 28 rfl rfl y11 rfl (.pointer (some ⟨g3, 50, none⟩)) (run_fld 39 _ 4 rfl g3 0 rfl 50 (by kernel_rfl)) ?_
        refine nr ?_; intro U h; simp only [z0, z1] at h; subst h
        refine s_gvalY 29 rfl rfl y11 rfl (.int .i64 (getV L p).nb) (ldEnb _ rfl g3 rfl (kg3)) ?_
        refine nr ?_; intro U h; simp only [z0, z1] at h; subst h
        cases h2 : decide (fr = (getV L p).nb)
        · refine s_gvalY 30 rfl rfl y11 rfl (.bool true) (run_neq_k 3 .i64 _ _ _ rfl Try.underlying3 fr (getV L p).nb rfl rfl true h2 _) ?_
          refine nr ?_; intro U h; simp only [z0, z1] at h; subst h
          refine s_gvalY 31 rfl rfl y6 rfl (.bool true) (rfl) ?_
          refine nr ?_; intro U h; simp only [z0, z1] at h; subst h
          refine s_val 32 rfl rfl (.bool true) (rfl) ?_
          refine nr ?_; intro U h; simp only [z0, z1] at h; subst h
          refine wpList_nil ?_
          refine then_n ?_
          refine wp_cond_true rfl ?_
          refine wp_seq ?_
          refine wp_region_lit ?_
          refine s_val 33 rfl rfl (.agg (tnA none 0 0 none 0 0)) (run_bd 35 _ rfl [] rfl _ (bdT_ _)) ?_
          refine nr ?_; intro U h; simp only [z0, z1] at h; subst h
          refine s_store rfl rfl 35 _ _ rfl g2 0 rfl (.agg (tnA none 0 0 none 0 0)) rfl 35 _ kg2 (tnA none 0 0 none 0 0) rfl (siT) (Nat.le_refl _) (oneT _ _ _ _ _ _) (tnA none 0 0 none 0 0) (splice_whole _ _ (rfl)) ?_
          intro w6 St
          have kS := kg2
          replace kt := St.has (by omega) kt
          replace kg1 := St.has (by omega) kg1
          replace kg3 := St.has (by omega) kg3
          replace HT := HT.st St dHTg2
          replace GG := GG.st St (.inl bg2)
          replace kg2 := St.new
          clear St
          refine wpList_nil ?_
          refine then_n ?_
          refine wp_ret ?_
          refine then_r ?_
          refine bodyPost_ret (results_cell_row Try.results8 _ _ g2 35 _ (0, 0) _ rfl kg2 Try.underlying35 rfl (siT)) rfl ?_
          have hz := hits_no (L := L) (p := p) (fr := fr) (fun e => of_decide_eq_false h1 e.symm) (fun e => of_decide_eq_false h2 e.symm)
          rw [(drp_no hz).1, (drp_no hz).2]
          exact ⟨none, 0, [], none, 0, rfl, TnP.nil _ _, HT, GG⟩
        · refine s_gvalY 30 rfl rfl y11 rfl (.bool false) (run_neq_k 3 .i64 _ _ _ rfl Try.underlying3 fr (getV L p).nb rfl rfl false h2 _) ?_
          refine nr ?_; intro U h; simp only [z0, z1] at h; subst h
          refine s_gvalY 31 rfl rfl y6 rfl (.bool false) (rfl) ?_
          refine nr ?_; intro U h; simp only [z0, z1] at h; subst h
          refine s_val 32 rfl rfl (.bool false) (rfl) ?_
          refine nr ?_; intro U h; simp only [z0, z1] at h; subst h
          refine wpList_nil ?_
          refine then_n ?_
          refine wp_cond_false rfl ?_
          refine wp_skip ?_
          refine then_n ?_
          refine wp_seq ?_
          obtain ⟨SZ, hSZ⟩ : ∃ m, w5.heap.size = m := ⟨_, rfl⟩
          have st : t < SZ := hSZ ▸ lt_of_heap kt
          have sg1 : g1 < SZ := hSZ ▸ lt_of_heap kg1
          have sg2 : g2 < SZ := hSZ ▸ lt_of_heap kg2
          have sg3 : g3 < SZ := hSZ ▸ lt_of_heap kg3
          refine wp_region_exA (A := ?Ax2) 7 [(0, 34), (1, 35), (2, 36), (3, 37), (4, 38), (5, 39), (6, 40)] [.val (.agg (tnA none 0 0 none 0 0)), .val (.pointer (some ⟨t, 0, none⟩)), .val (.agg (paA p)), .val (.agg (enA (getV L p))), .val (.int .i64 fr), .val (.int .i64 (othS (getV L p) fr)), blkE SZ (([othS (getV L p) fr] : List Int).flatMap kZ.E).toArray 3 1] follows (by kernel_rfl) rfl ?hAx2 (opsA_cons ?o0x2 (opsA_cons ?o1x2 (opsA_cons ?o2x2 (opsA_cons ?o3x2 (opsA_cons ?o4x2 (opsA_cons ?o5x2 (opsA_cons ?o6x2 opsA_nil))))))) ?restx2
          case hAx2 =>
            intro ptrs
            simp only [full, foldSlots, filledE, postE, List.foldl_cons, List.foldl_nil, List.getD_cons_zero, List.getD_cons_succ, fill_val, fill_blkE, List.set_cons_zero, List.set_cons_succ]
            exact rfl
          case o0x2 => exact fun _ _ _ _ => opE_value (v := .agg (tnA none 0 0 none 0 0)) rfl (run_bd 35 _ rfl [] rfl _ (bdT_ _))
          case o1x2 => exact fun _ _ _ _ => opE_move (v := .pointer (some ⟨t, 0, none⟩)) _ rfl rfl rfl
          case o2x2 => exact fun _ _ hw _ => opE_value (v := .agg (paA p)) rfl (ldP0 _ rfl g1 rfl (hw.has kg1))
          case o3x2 => exact fun _ _ hw _ => opE_value (v := .agg (enA (getV L p))) rfl (ldE0 _ rfl g3 rfl (hw.has kg3))
          case o4x2 => exact fun _ _ _ _ => opE_move (v := .int .i64 fr) _ rfl rfl rfl
          case o5x2 => exact fun _ _ _ _ => opE_call (.val (.int .i64 (othS (getV L p) fr))) rfl _ 15 Try.call15 rfl rfl _ rfl [.agg (enA (getV L p)), .int .i64 fr] rfl ((othS_any _ (getV L p) fr).mono fun e w' ⟨he, hg⟩ => ⟨_, he, hg, rfl⟩)
          case o6x2 => exact fun _ _ hw _ => opE_new (blkE SZ (([othS (getV L p) fr] : List Int).flatMap kZ.E).toArray 3 1) rfl (run_bsl 22 1 _ rfl [(0, .int .i64 (othS (getV L p) fr))] rfl (bsZ1 _ _)) (gro_alloc _ _) ⟨_, rfl, Nat.le_trans (Nat.le_of_eq hSZ.symm) hw.size, heap_alloc_new _ _⟩
          intro ptrs w6 GD hxE
          simp only [List.drop_succ_cons, List.drop_zero]
          replace kt := GD.has kt
          replace kg1 := GD.has kg1
          replace kg2 := GD.has kg2
          replace kg3 := GD.has kg3
          replace HT := HT.gro ((Gro.refl _).drew.trans GD)
          replace GG := GG.drew.tg GD
          obtain ⟨⟨q4, hxq4, hsq4, kq4⟩, _⟩ := hxE
          simp only [hxq4]
          clear hxq4
          have dtq4 : t < q4 := Nat.lt_of_lt_of_le st hsq4
          have dg1q4 : g1 < q4 := Nat.lt_of_lt_of_le sg1 hsq4
          have dg2q4 : g2 < q4 := Nat.lt_of_lt_of_le sg2 hsq4
          have dg3q4 : g3 < q4 := Nat.lt_of_lt_of_le sg3 hsq4
          clear GD
          refine s_callx 41 rfl rfl _ 14 Try.call14 rfl rfl _ rfl [.agg (tnA none 0 0 none 0 0), .pointer (some ⟨t, 0, none⟩), .agg (paA p), .slice (some ⟨q4, 0, none⟩) 1 1] rfl (take_new _ t b room L (kt) (HT) p hp q4 [othS (getV L p) fr] kq4 (one_all (oth_i64 (getV_ok HT.all p) fr)) (one_all (hr.oth (getV_mem (of_decide_eq_true hh)).1 fr)) (Nat.le_of_ble_eq_true rfl) _ (sidesZ_1 _ _)) (by rintro _ _ ⟨_, _, _, _, _, he, _⟩; exact ⟨_, he⟩) ?_
          rintro v w7 ⟨ao1, c1, H1, bo1, d1, he, HN1, HT2, G2⟩
          cases he
          replace HN1 := HN1.mono GG.size
          replace kt := G2.has kt (by simpa using HT.nec kt)
          replace kg1 := G2.has kg1 (by simpa using HT.nec kg1)
          replace kg2 := G2.has kg2 (by simpa using HT.nec kg2)
          replace kg3 := G2.has kg3 (by simpa using HT.nec kg3)
          replace kq4 := G2.has kq4 (by simpa using HT.nec kq4)
          replace GG := GG.trans G2
          clear HT G2
          have HT := HT2
          clear HT2
          refine nr ?_; intro U h; simp only [z0, z1] at h; subst h
          refine s_store rfl rfl 35 _ _ rfl g2 0 rfl (.agg (tnA ao1 H1.length c1 bo1 (sideT (othS (getV L p) fr) p).lost.length d1)) rfl 35 _ kg2 (tnA ao1 H1.length c1 bo1 (sideT (othS (getV L p) fr) p).lost.length d1) rfl (siT) (Nat.le_refl _) (oneT _ _ _ _ _ _) (tnA ao1 H1.length c1 bo1 (sideT (othS (getV L p) fr) p).lost.length d1) (splice_whole _ _ (rfl)) ?_
          intro w8 St
          have kS := kg2
          replace kt := St.has (by omega) kt
          replace kg1 := St.has (by omega) kg1
          replace kg3 := St.has (by omega) kg3
          replace kq4 := St.has (by omega) kq4
          replace HT := HT.st St dHTg2
          replace HN1 := HN1.st St kS (by decide) (by decide)
          replace GG := GG.st St (.inl bg2)
          replace kg2 := St.new
          clear St
          refine wpList_nil ?_
          refine then_n ?_
          refine wp_ret ?_
          refine bodyPost_ret (results_cell_row Try.results8 _ _ g2 35 _ (0, 0) _ rfl kg2 Try.underlying35 rfl (siT)) rfl ?_
          have hz := hits_yes (of_decide_eq_false hf) (of_decide_eq_true hh) (.inr (of_decide_eq_true h2).symm)
          rw [(drp_yes hz).1, (drp_yes hz).2]
          exact ⟨ao1, c1, H1, bo1, d1, rfl, HN1, HT, GG⟩
      · refine s_gvalY 25 rfl rfl y6 rfl (.bool false) (run_neq_k 3 .i64 _ _ _ rfl Try.underlying3 fr (getV L p).na rfl rfl false h1 _) ?_
        refine nr ?_; intro U h; simp only [z0, z1] at h; subst h
        refine s_gvalY 26 rfl rfl y6 rfl (.bool false) (rfl) ?_
        refine nr ?_; intro U h; simp only [z0, z1] at h; subst h
        refine s_skipY 27 rfl rfl y11 rfl ?_
        refine nr ?_; intro U h; simp only [z0, z1] at h; subst h
        refine s_skipY 28 rfl rfl y11 rfl ?_
        refine nr ?_; intro U h; simp only [z0, z1] at h; subst h
        refine s_skipY 29 rfl rfl y11 rfl ?_
        refine nr ?_; intro U h; simp only [z0, z1] at h; subst h
        refine s_skipY 30 rfl rfl y11 rfl ?_
        refine nr ?_; intro U h; simp only [z0, z1] at h; subst h
        refine s_gvalY 31 rfl rfl y6 rfl (.bool false) (rfl) ?_
        refine nr ?_; intro U h; simp only [z0, z1] at h; subst h
        refine s_val 32 rfl rfl (.bool false) (rfl) ?_
        refine nr ?_; intro U h; simp only [z0, z1] at h; subst h
        refine wpList_nil ?_
        refine then_n ?_
        refine wp_cond_false rfl ?_
        refine wp_skip ?_
        refine then_n ?_
        refine wp_seq ?_
        obtain ⟨SZ, hSZ⟩ : ∃ m, w5.heap.size = m := ⟨_, rfl⟩
        have st : t < SZ := hSZ ▸ lt_of_heap kt
        have sg1 : g1 < SZ := hSZ ▸ lt_of_heap kg1
        have sg2 : g2 < SZ := hSZ ▸ lt_of_heap kg2
        have sg3 : g3 < SZ := hSZ ▸ lt_of_heap kg3
        refine wp_region_exA (A := ?Ax3) 7 [(0, 34), (1, 35), (2, 36), (3, 37), (4, 38), (5, 39), (6, 40)] [.val (.agg (tnA none 0 0 none 0 0)), .val (.pointer (some ⟨t, 0, none⟩)), .val (.agg (paA p)), .val (.agg (enA (getV L p))), .val (.int .i64 fr), .val (.int .i64 (othS (getV L p) fr)), blkE SZ (([othS (getV L p) fr] : List Int).flatMap kZ.E).toArray 3 1] follows (by kernel_rfl) rfl ?hAx3 (opsA_cons ?o0x3 (opsA_cons ?o1x3 (opsA_cons ?o2x3 (opsA_cons ?o3x3 (opsA_cons ?o4x3 (opsA_cons ?o5x3 (opsA_cons ?o6x3 opsA_nil))))))) ?restx3
        case hAx3 =>
          intro ptrs
          simp only [full, foldSlots, filledE, postE, List.foldl_cons, List.foldl_nil, List.getD_cons_zero, List.getD_cons_succ, fill_val, fill_blkE, List.set_cons_zero, List.set_cons_succ]
          exact rfl
        case o0x3 => exact fun _ _ _ _ => opE_value (v := .agg (tnA none 0 0 none 0 0)) rfl (run_bd 35 _ rfl [] rfl _ (bdT_ _))
        case o1x3 => exact fun _ _ _ _ => opE_move (v := .pointer (some ⟨t, 0, none⟩)) _ rfl rfl rfl
        case o2x3 => exact fun _ _ hw _ => opE_value (v := .agg (paA p)) rfl (ldP0 _ rfl g1 rfl (hw.has kg1))
        case o3x3 => exact fun _ _ hw _ => opE_value (v := .agg (enA (getV L p))) rfl (ldE0 _ rfl g3 rfl (hw.has kg3))
        case o4x3 => exact fun _ _ _ _ => opE_move (v := .int .i64 fr) _ rfl rfl rfl
        case o5x3 => exact fun _ _ _ _ => opE_call (.val (.int .i64 (othS (getV L p) fr))) rfl _ 15 Try.call15 rfl rfl _ rfl [.agg (enA (getV L p)), .int .i64 fr] rfl ((othS_any _ (getV L p) fr).mono fun e w' ⟨he, hg⟩ => ⟨_, he, hg, rfl⟩)
        case o6x3 => exact fun _ _ hw _ => opE_new (blkE SZ (([othS (getV L p) fr] : List Int).flatMap kZ.E).toArray 3 1) rfl (run_bsl 22 1 _ rfl [(0, .int .i64 (othS (getV L p) fr))] rfl (bsZ1 _ _)) (gro_alloc _ _) ⟨_, rfl, Nat.le_trans (Nat.le_of_eq hSZ.symm) hw.size, heap_alloc_new _ _⟩
        intro ptrs w6 GD hxE
        simp only [List.drop_succ_cons, List.drop_zero]
        replace kt := GD.has kt
        replace kg1 := GD.has kg1
        replace kg2 := GD.has kg2
        replace kg3 := GD.has kg3
        replace HT := HT.gro ((Gro.refl _).drew.trans GD)
        replace GG := GG.drew.tg GD
        obtain ⟨⟨q4, hxq4, hsq4, kq4⟩, _⟩ := hxE
        simp only [hxq4]
        clear hxq4
        have dtq4 : t < q4 := Nat.lt_of_lt_of_le st hsq4
        have dg1q4 : g1 < q4 := Nat.lt_of_lt_of_le sg1 hsq4
        have dg2q4 : g2 < q4 := Nat.lt_of_lt_of_le sg2 hsq4
        have dg3q4 : g3 < q4 := Nat.lt_of_lt_of_le sg3 hsq4
        clear GD
        refine s_callx 41 rfl rfl _ 14 Try.call14 rfl rfl _ rfl [.agg (tnA none 0 0 none 0 0), .pointer (some ⟨t, 0, none⟩), .agg (paA p), .slice (some ⟨q4, 0, none⟩) 1 1] rfl (take_new _ t b room L (kt) (HT) p hp q4 [othS (getV L p) fr] kq4 (one_all (oth_i64 (getV_ok HT.all p) fr)) (one_all (hr.oth (getV_mem (of_decide_eq_true hh)).1 fr)) (Nat.le_of_ble_eq_true rfl) _ (sidesZ_1 _ _)) (by rintro _ _ ⟨_, _, _, _, _, he, _⟩; exact ⟨_, he⟩) ?_
        rintro v w7 ⟨ao1, c1, H1, bo1, d1, he, HN1, HT2, G2⟩
        cases he
        replace HN1 := HN1.mono GG.size
        replace kt := G2.has kt (by simpa using HT.nec kt)
        replace kg1 := G2.has kg1 (by simpa using HT.nec kg1)
        replace kg2 := G2.has kg2 (by simpa using HT.nec kg2)
        replace kg3 := G2.has kg3 (by simpa using HT.nec kg3)
        replace kq4 := G2.has kq4 (by simpa using HT.nec kq4)
        replace GG := GG.trans G2
        clear HT G2
        have HT := HT2
        clear HT2
        refine nr ?_; intro U h; simp only [z0, z1] at h; subst h
        refine s_store rfl rfl 35 _ _ rfl g2 0 rfl (.agg (tnA ao1 H1.length c1 bo1 (sideT (othS (getV L p) fr) p).lost.length d1)) rfl 35 _ kg2 (tnA ao1 H1.length c1 bo1 (sideT (othS (getV L p) fr) p).lost.length d1) rfl (siT) (Nat.le_refl _) (oneT _ _ _ _ _ _) (tnA ao1 H1.length c1 bo1 (sideT (othS (getV L p) fr) p).lost.length d1) (splice_whole _ _ (rfl)) ?_
        intro w8 St
        have kS := kg2
        replace kt := St.has (by omega) kt
        replace kg1 := St.has (by omega) kg1
        replace kg3 := St.has (by omega) kg3
        replace kq4 := St.has (by omega) kq4
        replace HT := HT.st St dHTg2
        replace HN1 := HN1.st St kS (by decide) (by decide)
        replace GG := GG.st St (.inl bg2)
        replace kg2 := St.new
        clear St
        refine wpList_nil ?_
        refine then_n ?_
        refine wp_ret ?_
        refine bodyPost_ret (results_cell_row Try.results8 _ _ g2 35 _ (0, 0) _ rfl kg2 Try.underlying35 rfl (siT)) rfl ?_
        have hz := hits_yes (of_decide_eq_false hf) (of_decide_eq_true hh) (.inl (of_decide_eq_true h1).symm)
        rw [(drp_yes hz).1, (drp_yes hz).2]
        exact ⟨ao1, c1, H1, bo1, d1, rfl, HN1, HT, GG⟩
    · have hz := hits_neg (L := L) (p := p) hf
      refine s_val 16 rfl rfl (.bool true) (run_lssT 3 _ _ _ rfl fr 0 rfl rfl true hf _) ?_
      refine nr ?_; intro U h; simp only [z0, z1] at h; subst h
      refine s_val 17 rfl rfl (.bool true) (rfl) ?_
      refine nr ?_; intro U h; simp only [z0, z1] at h; subst h
      refine s_skipY 18 rfl rfl y2 rfl ?_
      refine nr ?_; intro U h; simp only [z0, z1] at h; subst h
      refine s_skipY 19 rfl rfl y2 rfl ?_
      refine nr ?_; intro U h; simp only [z0, z1] at h; subst h
      refine s_val 20 rfl rfl (.bool true) (rfl) ?_
      refine nr ?_; intro U h; simp only [z0, z1] at h; subst h
      refine s_val 21 rfl rfl (.bool true) (rfl) ?_
      refine nr ?_; intro U h; simp only [z0, z1] at h; subst h
      refine s_skipY 22 rfl rfl y6 rfl ?_
      refine nr ?_; intro U h; simp only [z0, z1] at h; subst h
      refine s_skipY 23 rfl rfl y6 rfl ?_
      refine nr ?_; intro U h; simp only [z0, z1] at h; subst h
      refine s_skipY 24 rfl rfl y6 rfl ?_
      refine nr ?_; intro U h; simp only [z0, z1] at h; subst h
      refine s_skipY 25 rfl rfl y6 rfl ?_
      refine nr ?_; intro U h; simp only [z0, z1] at h; subst h
      refine s_skipY 26 rfl rfl y6 rfl ?_
      refine nr ?_; intro U h; simp only [z0, z1] at h; subst h
      refine s_skipY 27 rfl rfl y11 rfl ?_
      refine nr ?_; intro U h; simp only [z0, z1] at h; subst h
      refine s_skipY 28 rfl rfl y11 rfl ?_
      refine nr ?_; intro U h; simp only [z0, z1] at h; subst h
      refine s_skipY 29 rfl rfl y11 rfl ?_
      refine nr ?_; intro U h; simp only [z0, z1] at h; subst h
      refine s_skipY 30 rfl rfl y11 rfl ?_
      refine nr ?_; intro U h; simp only [z0, z1] at h; subst h
      refine s_skipY 31 rfl rfl y6 rfl ?_
      refine nr ?_; intro U h; simp only [z0, z1] at h; subst h
      refine s_val 32 rfl rfl (.bool true) (rfl) ?_
      refine nr ?_; intro U h; simp only [z0, z1] at h; subst h
      refine wpList_nil ?_
      refine then_n ?_
      refine wp_cond_true rfl ?_
      refine wp_seq ?_
      refine wp_region_lit ?_
      refine s_val 33 rfl rfl (.agg (tnA none 0 0 none 0 0)) (run_bd 35 _ rfl [] rfl _ (bdT_ _)) ?_
      refine nr ?_; intro U h; simp only [z0, z1] at h; subst h
      refine s_store rfl rfl 35 _ _ rfl g2 0 rfl (.agg (tnA none 0 0 none 0 0)) rfl 35 _ kg2 (tnA none 0 0 none 0 0) rfl (siT) (Nat.le_refl _) (oneT _ _ _ _ _ _) (tnA none 0 0 none 0 0) (splice_whole _ _ (rfl)) ?_
      intro w6 St
      have kS := kg2
      replace kt := St.has (by omega) kt
      replace kg1 := St.has (by omega) kg1
      replace kg3 := St.has (by omega) kg3
      replace HT := HT.st St dHTg2
      replace GG := GG.st St (.inl bg2)
      replace kg2 := St.new
      clear St
      refine wpList_nil ?_
      refine then_n ?_
      refine wp_ret ?_
      refine then_r ?_
      refine bodyPost_ret (results_cell_row Try.results8 _ _ g2 35 _ (0, 0) _ rfl kg2 Try.underlying35 rfl (siT)) rfl ?_
      rw [(drp_no hz).1, (drp_no hz).2]
      exact ⟨none, 0, [], none, 0, rfl, TnP.nil _ _, HT, GG⟩
theorem getD_inL {L : List En} {j : Nat} (hj : j < L.length) : L.getD j zE ∈ L := by
  have : L.getD j zE = L[j] := by simp [List.getD_eq_getElem?_getD, hj]
  rw [this]
  exact List.getElem_mem hj
set_option maxRecDepth 100000 in
set_option maxHeartbeats 4000000 in
theorem dead_any (w : World) (t b room : Nat) (L : List En) (kt : w.heap[t]? = some (.cells (tbA room b) 69 (0, 0))) (HT : TM w b L) (hr : Rg L) (hris : Ris L) (hlen : L.length ≤ 1000) (n : Int) : Calls Try.prog 6 #[.pointer (some ⟨t, 0, none⟩), .int .i64 n] w (TornT w b (deadT L n) (deadL L n)) := by
  refine s_enter Try.func6 rfl Try.ntmps6 [.pointer (some ⟨t, 0, none⟩), .int .i64 n] [.pointer (some ⟨t, 0, none⟩), .int .i64 n, undef, undef, undef, undef, undef, undef, undef, undef, undef, undef, undef, undef, undef, undef, undef, undef, undef, undef, undef, undef, undef, undef, undef, undef, undef] rfl ?_
  have GG := GroS.refl [b] w
  have hall := HT.all
  have hfl := List.length_filter_le (viaF n) L
  refine wp_seq ?_
  refine wp_region_lit ?_
  refine s_alloc 4 rfl rfl 35 rfl _ zvT (tnA none 0 0 none 0 0) rfl ?_
  intro w1 g1 G eg1 kg1
  have bg1 := size_basS GG eg1
  have dtg1 := lt_new kt eg1
  have dHTg1 := HT.ne eg1
  replace kt := G.has kt
  replace HT := HT.gro G
  replace GG := GG.tg G
  clear G
  clear eg1
  refine nr ?_; intro U h; simp only [z0, z1] at h; subst h
  refine wpList_nil ?_
  refine then_n ?_
  refine wp_seq ?_
  refine wp_region_lit ?_
  refine s_alloc 5 rfl rfl 35 rfl _ zvT (tnA none 0 0 none 0 0) rfl ?_
  intro w2 g2 G eg2 kg2
  have bg2 := size_basS GG eg2
  have dtg2 := lt_new kt eg2
  have dg1g2 := lt_new kg1 eg2
  have dHTg2 := HT.ne eg2
  replace kt := G.has kt
  replace kg1 := G.has kg1
  replace HT := HT.gro G
  replace GG := GG.tg G
  clear G
  clear eg2
  refine nr ?_; intro U h; simp only [z0, z1] at h; subst h
  refine wpList_nil ?_
  refine then_n ?_
  refine wp_seq ?_
  refine wp_seq ?_
  refine wp_region_lit ?_
  refine s_val 8 rfl rfl (.pointer (some ⟨t, 0, none⟩)) (rfl) ?_
  refine nr ?_; intro U h; simp only [z0, z1] at h; subst h
  refine s_val 9 rfl rfl (.int .i64 n) (rfl) ?_
  refine nr ?_; intro U h; simp only [z0, z1] at h; subst h
  refine s_callx 10 rfl rfl _ 13 Try.call13 rfl rfl _ rfl [.pointer (some ⟨t, 0, none⟩), .int .i64 n] rfl (via_any _ t b room L (kt) (HT) n hris hlen) (by rintro _ _ ⟨_, _, he, _⟩; exact ⟨_, he⟩) ?_
  rintro v w3 ⟨ao1, cap1, he, G, HO1⟩
  cases he
  replace HO1 := HO1.mono GG.size
  replace kt := G.has kt
  replace kg1 := G.has kg1
  replace kg2 := G.has kg2
  replace HT := HT.gro G
  replace GG := GG.tg G
  clear G
  have HR1 := HO1.re
  refine nr ?_; intro U h; simp only [z0, z1] at h; subst h
  refine s_val 11 rfl rfl (.int .i64 (((L.filter (viaF n)).length : Nat) : Int)) (run_len Try.underlying63 _ rfl _ _ _ rfl _) ?_
  refine nr ?_; intro U h; simp only [z0, z1] at h; subst h
  refine s_val 12 rfl rfl (.int .i64 0) (rfl) ?_
  refine nr ?_; intro U h; simp only [z0, z1] at h; subst h
  refine wpList_nil ?_
  refine then_n ?_
  refine wp_block ?_
  obtain ⟨B, hB⟩ : ∃ m, w3.heap.size = m := ⟨_, rfl⟩
  have zt : t < B := hB ▸ lt_of_heap kt
  have zg1 : g1 < B := hB ▸ lt_of_heap kg1
  have zg2 : g2 < B := hB ▸ lt_of_heap kg2
  have hzr : ∀ ad, ao1 = some ad → 0 < (flE (L.filter (viaF n))).length → ad.block < B := fun ad ha h0 => hB ▸ HR1.lt ad ha h0
  have hwB : w.heap.size ≤ B := hB ▸ GG.size
  have HZ : SZ B w3 := Nat.le_of_eq hB.symm
  have dHR1g1 : NE ao1 (flE (L.filter (viaF n))).length g1 := fun ad ha _ e => HO1.own.ne kg1 (by decide) (mem_blk.2 ⟨ad, ha, e⟩)
  have dHR1g2 : NE ao1 (flE (L.filter (viaF n))).length g2 := fun ad ha _ e => HO1.own.ne kg2 (by decide) (mem_blk.2 ⟨ad, ha, e⟩)
  have dHZg1 : True := trivial
  have dHZg2 : True := trivial
  refine wp_loopN (fun mz az wv => ∃ (i : Nat) (ao : Option Addr) (c : Nat) (H : List Hp) (bo : Option Addr) (d : Nat) (us1 : Nat → Value), mz = (L.filter (viaF n)).length + 1 - i ∧ az = ⟨[.pointer (some ⟨t, 0, none⟩), .int .i64 n, undef, undef, .pointer (some ⟨g1, 0, none⟩), .pointer (some ⟨g2, 0, none⟩), undef, us1 0, .pointer (some ⟨t, 0, none⟩), .int .i64 n, .slice ao1 (L.filter (viaF n)).length cap1, .int .i64 (((L.filter (viaF n)).length : Nat) : Int), .int .i64 ((i : Nat) : Int), us1 1, us1 2, us1 3, us1 4, us1 5, us1 6, us1 7, us1 8, us1 9, us1 10, us1 11, us1 12, us1 13, undef].toArray, []⟩ ∧ i ≤ (L.filter (viaF n)).length ∧ GroS [b] w wv ∧ SZ B wv ∧ wv.heap[t]? = some (.cells (tbA room b) 69 (0, 0)) ∧ wv.heap[g1]? = some (.cells (tnA none 0 0 none 0 0) 35 (0, 0)) ∧ wv.heap[g2]? = some (.cells (tnA ao H.length c bo (sidesT n ((L.filter (viaF n)).take i)).lost.length d) 35 (0, 0)) ∧ TM wv b (deadK ((L.filter (viaF n)).take i) L) ∧ RE wv ao1 cap1 (L.filter (viaF n)) ∧ TnP wv B (sidesT n ((L.filter (viaF n)).take i)) ao c H bo d) ?_ _ ⟨0, none, 0, [], none, 0, (fun kz => ([undef, undef, undef, undef, undef, undef, undef, undef, undef, undef, undef, undef, undef, undef] : List Value).getD kz undef), rfl, rfl, Nat.zero_le _, GG, HZ, kt, kg1, kg2, HT, HR1, TnP.nil _ _⟩
  clear GG kt kg1 kg2 HT HR1
  rintro mz az wv ⟨i, ao, c, H, bo, d, us1, rfl, rfl, hi, GG, HZ, kt, kg1, kg2, HT, HR1, HN⟩
  have hsl := sidesT_le n ((L.filter (viaF n)).take i)
  have htk : ((L.filter (viaF n)).take i).length ≤ 1000 := tkf_le hlen
  refine wp_seq ?_
  refine wp_region_lit ?_
  cases hi1 : decide (((i : Nat) : Int) < (((L.filter (viaF n)).length : Nat) : Int))
  · have hie : i = (L.filter (viaF n)).length := by have := of_decide_eq_false hi1; omega
    refine s_val 13 rfl rfl (.bool false) (run_lssT 3 _ _ _ rfl ((i : Nat) : Int) (((L.filter (viaF n)).length : Nat) : Int) rfl rfl false hi1 _) ?_
    refine nr ?_; intro U h; simp only [z0, z1] at h; subst h
    refine wpList_nil ?_
    refine then_n ?_
    refine wp_seq ?_
    refine wp_cond_false rfl ?_
    refine wp_exit ?_
    refine then_x ?_
    refine then_x ?_
    refine blk_x ?_
    refine then_n ?_
    refine wp_seq ?_
    refine wp_region_lit ?_
    refine s_val 26 rfl rfl (.agg (tnA ao H.length c bo (sidesT n ((L.filter (viaF n)).take i)).lost.length d)) (ldT_0 _ rfl g2 rfl (kg2)) ?_
    refine nr ?_; intro U h; simp only [z0, z1] at h; subst h
    refine s_store rfl rfl 35 _ _ rfl g1 0 rfl (.agg (tnA ao H.length c bo (sidesT n ((L.filter (viaF n)).take i)).lost.length d)) rfl 35 _ kg1 (tnA ao H.length c bo (sidesT n ((L.filter (viaF n)).take i)).lost.length d) rfl (siT) (Nat.le_refl _) (oneT _ _ _ _ _ _) (tnA ao H.length c bo (sidesT n ((L.filter (viaF n)).take i)).lost.length d) (splice_whole _ _ (rfl)) ?_
    intro w4 St
    have kS := kg1
    replace kt := St.has (by omega) kt
    replace kg2 := St.has (by omega) kg2
    replace HT := HT.st St dHTg1
    replace HR1 := HR1.st St dHR1g1
    replace HN := HN.st St kS (by decide) (by decide)
    replace HZ := HZ.st St dHZg1
    replace GG := GG.st St (.inl bg1)
    replace kg1 := St.new
    clear St
    refine wpList_nil ?_
    refine then_n ?_
    refine wp_ret ?_
    refine bodyPost_ret (results_cell_row Try.results6 _ _ g1 35 _ (0, 0) _ rfl kg1 Try.underlying35 rfl (siT)) rfl ?_
    subst hie
    rw [List.take_length, deadK_all hris.kn] at HT
    rw [List.take_length] at *
    exact ⟨ao, c, H, bo, d, rfl, HN.mono hwB, HT, GG⟩
  · have hil : i < (L.filter (viaF n)).length := by have := of_decide_eq_true hi1; omega
    refine s_val 13 rfl rfl (.bool true) (run_lssT 3 _ _ _ rfl ((i : Nat) : Int) (((L.filter (viaF n)).length : Nat) : Int) rfl rfl true hi1 _) ?_
    refine nr ?_; intro U h; simp only [z0, z1] at h; subst h
    refine wpList_nil ?_
    refine then_n ?_
    refine wp_seq ?_
    refine wp_cond_true rfl ?_
    refine wp_skip ?_
    refine then_n ?_
    refine wp_seq ?_
    refine wp_block ?_
    refine wp_seq ?_
    refine wp_region_lit ?_
    refine s_val 14 rfl rfl (.pointer (pE ao1 i 0)) (run_ixE (HR1) _ _ rfl rfl i rfl (by omega)) ?_
    refine nr ?_; intro U h; simp only [z0, z1] at h; subst h
    refine s_val 15 rfl rfl (.agg (enA ((L.filter (viaF n)).getD i zE))) (run_ldE (HR1) _ rfl i rfl (by omega)) ?_
    refine nr ?_; intro U h; simp only [z0, z1] at h; subst h
    refine s_alloc 7 rfl rfl 39 rfl _ zero33 (enA zE) rfl ?_
    intro w4 g3 G eg3 kg3
    have bg3 := size_basS GG eg3
    have dtg3 := lt_new kt eg3
    have dg1g3 := lt_new kg1 eg3
    have dg2g3 := lt_new kg2 eg3
    have dHTg3 := HT.ne eg3
    have dHR1g3 := HR1.ne eg3
    have dHZg3 := HZ.ne eg3
    replace kt := G.has kt
    replace kg1 := G.has kg1
    replace kg2 := G.has kg2
    replace HT := HT.gro G
    replace HR1 := HR1.gro G
    replace HN := HN.gro G
    replace HZ := HZ.gro G
    replace GG := GG.tg G
    clear G
    clear eg3
    refine nr ?_; intro U h; simp only [z0, z1] at h; subst h
    refine s_store rfl rfl 39 _ _ rfl g3 0 rfl (.agg (enA ((L.filter (viaF n)).getD i zE))) rfl 39 _ kg3 (enA ((L.filter (viaF n)).getD i zE)) rfl (si33' _) (enA_fit _ _) (enA_one _) (enA ((L.filter (viaF n)).getD i zE)) (splice_whole _ _ (enA_sz _ _)) ?_
    intro w5 St
    have kS := kg3
    replace kt := St.has (by omega) kt
    replace kg1 := St.has (by omega) kg1
    replace kg2 := St.has (by omega) kg2
    replace HT := HT.st St dHTg3
    replace HR1 := HR1.st St dHR1g3
    replace HN := HN.st St kS (by decide) (by decide)
    replace HZ := HZ.st St dHZg3
    replace GG := GG.st St (.inl bg3)
    replace kg3 := St.new
    clear St
    refine wpList_nil ?_
    refine then_n ?_
    obtain ⟨SZ, hSZ⟩ : ∃ m, w5.heap.size = m := ⟨_, rfl⟩
    have st : t < SZ := hSZ ▸ lt_of_heap kt
    have sg1 : g1 < SZ := hSZ ▸ lt_of_heap kg1
    have sg2 : g2 < SZ := hSZ ▸ lt_of_heap kg2
    have sg3 : g3 < SZ := hSZ ▸ lt_of_heap kg3
    have hxm : ((L.filter (viaF n)).getD i zE) ∈ L := (List.mem_filter.1 (getD_inL hil)).1
    have hxo : ((L.filter (viaF n)).getD i zE).ok := HR1.all.at hil
    refine wp_region_exA (A := ?Ax4) 8 [(0, 16), (1, 17), (2, 18), (3, 19), (4, 20), (5, 21), (6, 22), (7, 23)] [.val (.agg (tnA ao H.length c bo (sidesT n ((L.filter (viaF n)).take i)).lost.length d)), .val (.pointer (some ⟨t, 0, none⟩)), .val (.pointer (some ⟨g3, 0, none⟩)), .val (.agg (paA ((L.filter (viaF n)).getD i zE).p)), .val (.agg (enA ((L.filter (viaF n)).getD i zE))), .val (.int .i64 n), .val (.int .i64 (othS ((L.filter (viaF n)).getD i zE) n)), blkE SZ (([othS ((L.filter (viaF n)).getD i zE) n] : List Int).flatMap kZ.E).toArray 3 1] follows (by kernel_rfl) rfl ?hAx4 (opsA_cons ?o0x4 (opsA_cons ?o1x4 (opsA_cons ?o2x4 (opsA_cons ?o3x4 (opsA_cons ?o4x4 (opsA_cons ?o5x4 (opsA_cons ?o6x4 (opsA_cons ?o7x4 opsA_nil)))))))) ?restx4
    case hAx4 =>
      intro ptrs
      simp only [full, foldSlots, filledE, postE, List.foldl_cons, List.foldl_nil, List.getD_cons_zero, List.getD_cons_succ, fill_val, fill_blkE, List.set_cons_zero, List.set_cons_succ]
      exact rfl
    case o0x4 => exact fun _ _ hw _ => opE_value (v := .agg (tnA ao H.length c bo (sidesT n ((L.filter (viaF n)).take i)).lost.length d)) rfl (ldT_0 _ rfl g2 rfl (hw.has kg2))
    case o1x4 => exact fun _ _ _ _ => opE_move (v := .pointer (some ⟨t, 0, none⟩)) _ rfl rfl rfl
    case o2x4 => exact fun _ _ _ _ => opE_value (v := .pointer (some ⟨g3, 0, none⟩)) rfl (run_fld 39 _ 0 rfl g3 0 rfl 0 (by kernel_rfl))
    case o3x4 => exact fun _ _ hw _ => opE_value (v := .agg (paA ((L.filter (viaF n)).getD i zE).p)) rfl (ldEp _ rfl g3 rfl (hw.has kg3))
    case o4x4 => exact fun _ _ hw _ => opE_value (v := .agg (enA ((L.filter (viaF n)).getD i zE))) rfl (ldE0 _ rfl g3 rfl (hw.has kg3))
    case o5x4 => exact fun _ _ _ _ => opE_move (v := .int .i64 n) _ rfl rfl rfl
    case o6x4 => exact fun _ _ _ _ => opE_call (.val (.int .i64 (othS ((L.filter (viaF n)).getD i zE) n))) rfl _ 15 Try.call15 rfl rfl _ rfl [.agg (enA ((L.filter (viaF n)).getD i zE)), .int .i64 n] rfl ((othS_any _ ((L.filter (viaF n)).getD i zE) n).mono fun e w' ⟨he, hg⟩ => ⟨_, he, hg, rfl⟩)
    case o7x4 => exact fun _ _ hw _ => opE_new (blkE SZ (([othS ((L.filter (viaF n)).getD i zE) n] : List Int).flatMap kZ.E).toArray 3 1) rfl (run_bsl 22 1 _ rfl [(0, .int .i64 (othS ((L.filter (viaF n)).getD i zE) n))] rfl (bsZ1 _ _)) (gro_alloc _ _) ⟨_, rfl, Nat.le_trans (Nat.le_of_eq hSZ.symm) hw.size, heap_alloc_new _ _⟩
    intro ptrs w6 GD hxE
    simp only [List.drop_succ_cons, List.drop_zero]
    replace kt := GD.has kt
    replace kg1 := GD.has kg1
    replace kg2 := GD.has kg2
    replace kg3 := GD.has kg3
    replace HT := HT.gro ((Gro.refl _).drew.trans GD)
    replace HR1 := HR1.gro ((Gro.refl _).drew.trans GD)
    replace HN := HN.gro ((Gro.refl _).drew.trans GD)
    replace HZ := HZ.gro ((Gro.refl _).drew.trans GD)
    replace GG := GG.drew.tg GD
    obtain ⟨⟨q4, hxq4, hsq4, kq4⟩, _⟩ := hxE
    simp only [hxq4]
    clear hxq4
    have dtq4 : t < q4 := Nat.lt_of_lt_of_le st hsq4
    have dg1q4 : g1 < q4 := Nat.lt_of_lt_of_le sg1 hsq4
    have dg2q4 : g2 < q4 := Nat.lt_of_lt_of_le sg2 hsq4
    have dg3q4 : g3 < q4 := Nat.lt_of_lt_of_le sg3 hsq4
    clear GD
    refine s_callx 24 rfl rfl _ 14 Try.call14 rfl rfl _ rfl [.agg (tnA ao H.length c bo (sidesT n ((L.filter (viaF n)).take i)).lost.length d), .pointer (some ⟨t, 0, none⟩), .agg (paA ((L.filter (viaF n)).getD i zE).p), .slice (some ⟨q4, 0, none⟩) 1 1] rfl (take_any _ t b room (deadK ((L.filter (viaF n)).take i) L) (kt) (HT) ((L.filter (viaF n)).getD i zE).p hxo.p (sidesT n ((L.filter (viaF n)).take i)) B HZ ao c H bo d HN q4 [othS ((L.filter (viaF n)).getD i zE) n] kq4 (one_all (oth_i64 hxo n)) (one_all (hr.oth hxm n)) (by show _ + 1 ≤ _; omega) (by show _ + 1 ≤ _; omega)) (by rintro _ _ ⟨_, _, _, _, _, he, _⟩; exact ⟨_, he⟩) ?_
    rintro v w7 ⟨ao5, c5, H5, bo5, d5, he, HN2, HT2, GB⟩
    rw [sidesZ_1] at he HN2
    cases he
    replace kt := GB.has kt zt (HT.nec kt)
    replace kg1 := GB.has kg1 zg1 (HT.nec kg1)
    replace kg2 := GB.has kg2 zg2 (HT.nec kg2)
    replace HR1 := HR1.bb HT GB hzr
    replace GG := GB.after GG hwB
    replace HZ := HZ.le GB.size
    clear HT HN GB kg3 kq4
    have HT := HT2
    have HN := HN2
    clear HT2 HN2
    refine nr ?_; intro U h; simp only [z0, z1] at h; subst h
    have dHTg2 := (HT.nec kg2).symm
    have dg1g2x : g1 ≠ g2 := fun e => by omega
    refine s_store rfl rfl 35 _ _ rfl g2 0 rfl (.agg (tnA ao5 H5.length c5 bo5 (appT (sidesT n ((L.filter (viaF n)).take i)) (sideT (othS ((L.filter (viaF n)).getD i zE) n) ((L.filter (viaF n)).getD i zE).p)).lost.length d5)) rfl 35 _ kg2 (tnA ao5 H5.length c5 bo5 (appT (sidesT n ((L.filter (viaF n)).take i)) (sideT (othS ((L.filter (viaF n)).getD i zE) n) ((L.filter (viaF n)).getD i zE).p)).lost.length d5) rfl (siT) (Nat.le_refl _) (oneT _ _ _ _ _ _) (tnA ao5 H5.length c5 bo5 (appT (sidesT n ((L.filter (viaF n)).take i)) (sideT (othS ((L.filter (viaF n)).getD i zE) n) ((L.filter (viaF n)).getD i zE).p)).lost.length d5) (splice_whole _ _ (rfl)) ?_
    intro w8 St
    have kS := kg2
    replace kt := St.has (by omega) kt
    replace kg1 := St.has (by omega) kg1
    replace HT := HT.st St dHTg2
    replace HR1 := HR1.st St dHR1g2
    replace HN := HN.st St kS (by decide) (by decide)
    replace HZ := HZ.st St dHZg2
    replace GG := GG.st St (.inl bg2)
    replace kg2 := St.new
    clear St
    refine wpList_nil ?_
    refine blk_n ?_
    refine then_n ?_
    refine wp_region_lit ?_
    refine s_val 25 rfl rfl (.int .i64 ((i + 1 : Nat) : Int)) (run_addI 3 _ _ _ rfl ((i : Nat) : Int) 1 ((i + 1 : Nat) : Int) rfl rfl (by omega) (by omega) (by omega) _) ?_
    refine nr ?_; intro U h; simp only [z0, z1] at h; subst h
    refine s_val 12 rfl rfl (.int .i64 ((i + 1 : Nat) : Int)) (rfl) ?_
    refine nr ?_; intro U h; simp only [z0, z1] at h; subst h
    refine wpList_nil ?_
    refine then_n ?_
    exact ⟨(L.filter (viaF n)).length + 1 - (i + 1), by omega, i + 1, ao5, c5, H5, bo5, d5, (fun kz => ([.pointer (some ⟨g3, 0, none⟩), .bool true, .pointer (pE ao1 i 0), .agg (enA ((L.filter (viaF n)).getD i zE)), .agg (tnA ao H.length c bo (sidesT n ((L.filter (viaF n)).take i)).lost.length d), .pointer (some ⟨t, 0, none⟩), .pointer (some ⟨g3, 0, none⟩), .agg (paA ((L.filter (viaF n)).getD i zE).p), .agg (enA ((L.filter (viaF n)).getD i zE)), .int .i64 n, .int .i64 (othS ((L.filter (viaF n)).getD i zE) n), .slice (some ⟨q4, 0, none⟩) 1 1, .agg (tnA ao5 H5.length c5 bo5 (appT (sidesT n ((L.filter (viaF n)).take i)) (sideT (othS ((L.filter (viaF n)).getD i zE) n) ((L.filter (viaF n)).getD i zE).p)).lost.length d5), .int .i64 ((i + 1 : Nat) : Int)] : List Value).getD kz undef), rfl, rfl, by omega, GG, HZ, kt, kg1, by rw [sidesT_take hil]; exact kg2, by rw [deadK_take hil]; exact HT, HR1, by rw [sidesT_take hil]; exact HN⟩
end Go.Proofs.Ytmpnepbmpmkmkab
