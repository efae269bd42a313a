/- Without twins and without what is spare all friends are wanted, with one path to each. -/
import Derived.Test.YtmpnepbmpmkmkaaGreatHFr17
namespace Go.Proofs.YtmpnepbmpmkmkaaGreat
open Go.RowKit Go.Maps
section
variable {L M M2 : List En} {s i : Nat} {p : Pa} {half : Int}
theorem drop_at {α : Type} (z : α) {l : List α} {i : Nat} (hi : i < l.length) : l.drop i = l.getD i z :: l.drop (i + 1) := by
  have e : l.getD i z = l[i] := by simp [List.getD_eq_getElem?_getD, hi]
  rw [e]
  exact List.drop_eq_getElem_cons hi
/-- One twin more is ended. -/
theorem tw_next (hk : KN L) (hkM : KN M) (hs : Sub M L) (hi : i < (twnL L).length) (h : ∀ x ∈ M, x.p ∈ twnL L → x.p ∈ (twnL L).drop i) : ∀ x ∈ endL M ((twnL L).getD i zP), x.p ∈ twnL L → x.p ∈ (twnL L).drop (i + 1) := by
  intro x hx ht
  have hpm : (twnL L).getD i zP ∈ twnL L := by
    have e : (twnL L).getD i zP = (twnL L)[i] := by simp [List.getD_eq_getElem?_getD, hi]
    rw [e]
    exact List.getElem_mem hi
  obtain ⟨z, hz, hzo, hzp⟩ := twn_own hpm
  obtain ⟨h1, h2⟩ := endL_gone hkM (fun y hy e => by rw [KN.eq hk (hs y hy) hz (e.trans hzp.symm)]; exact hzo) hx
  have h3 := h x h1 ht
  rw [drop_at zP hi] at h3
  rcases List.mem_cons.1 h3 with h4 | h4
  · exact absurd h4 h2
  · exact h4
theorem tw_end (hs : Sub M L) (h : ∀ x ∈ M, x.p ∈ twnL L → x.p ∈ (twnL L).drop (twnL L).length) : Dst M := twn_dst hs fun x hx ht => by
  have := h x hx ht
  rw [List.drop_length] at this
  cases this
/-- One that leads home more is ended, or it doesn't lead home. -/
theorem no_keep (hi : i < (ownL M).length) (hq : decide (othI ((ownL M).getD i zE) = s) = false) (h : ∀ x ∈ M2, ownF x = true → othI x = s → x ∈ (ownL M).drop i) : ∀ x ∈ M2, ownF x = true → othI x = s → x ∈ (ownL M).drop (i + 1) := fun x hx ho e => by
  have h3 := h x hx ho e
  rw [drop_at zE hi] at h3
  rcases List.mem_cons.1 h3 with h4 | h4
  · exact absurd (h4 ▸ e) (of_decide_eq_false hq)
  · exact h4
theorem no_next (hkM : KN M) (hk2 : KN M2) (hs : Sub M2 M) (hi : i < (ownL M).length) (h : ∀ x ∈ M2, ownF x = true → othI x = s → x ∈ (ownL M).drop i) : ∀ x ∈ endL M2 ((ownL M).getD i zE).p, ownF x = true → othI x = s → x ∈ (ownL M).drop (i + 1) := fun x hx ho e => by
  have hm : (ownL M).getD i zE ∈ ownL M := getD_inL hi
  obtain ⟨m1, m2⟩ := ownL_mem.1 hm
  obtain ⟨h1, h2⟩ := endL_gone hk2 (fun y hy e2 => by rw [KN.eq hkM (hs y hy) m1 e2]; exact m2) hx
  have h3 := h x h1 ho e
  rw [drop_at zE hi] at h3
  rcases List.mem_cons.1 h3 with h4 | h4
  · exact absurd (by rw [h4]) h2
  · exact h4
theorem no_end (h : ∀ x ∈ M2, ownF x = true → othI x = s → x ∈ (ownL M).drop (ownL M).length) : NoS s M2 := fun x hx ho e => by
  have := h x hx ho e
  rw [List.drop_length] at this
  cases this
theorem spr_first (hk : KN M) (h : (sprL M s half).length ≠ 0) : (ownL (endL M ((sprL M s half).getD 0 zP))).length + 1 = (ownL M).length := by
  have hl : 0 < (sprL M s half).length := by omega
  have e : (sprL M s half).getD 0 zP = (sprL M s half)[0] := by simp [List.getD_eq_getElem?_getD, hl]
  obtain ⟨x, hx, ho, hp⟩ := spr_own (e ▸ List.getElem_mem hl : (sprL M s half).getD 0 zP ∈ sprL M s half)
  rw [← hp]
  exact endL_len hk hx ho
end
theorem spa_eq (w : World) (t b room : Nat) (L : List En) (kt : w.heap[t]? = some (.cells (tbA room b) 92 (0, 0))) (HT : TM w b L) (hris : Ris L) (hlen : L.length ≤ 1000) (s : Nat) (hs : s < top) (half : Int) (l : List Pa) (hl : sprL L s half = l) : Calls Tryz.prog 13 #[.pointer (some ⟨t, 0, none⟩), .agg (idA s), .int .i64 half] w (RowK kP 31 w l) := by
  subst hl
  exact spa_any w t b room L kt HT hris hlen s hs half
theorem twi_eq (w : World) (t b room : Nat) (L : List En) (kt : w.heap[t]? = some (.cells (tbA room b) 92 (0, 0))) (HT : TM w b L) (hris : Ris L) (hlen : L.length ≤ 1000) (l : List Pa) (hl : twnL L = l) : Calls Tryz.prog 15 #[.pointer (some ⟨t, 0, none⟩)] w (RowK kP 31 w l) := by
  subst hl
  exact twi_any w t b room L kt HT hris hlen
set_option maxRecDepth 100000 in
set_option maxHeartbeats 4000000 in
theorem tearTidy_any (w : World) (ae : Option Addr) (ce : Nat) (E : List En) (HE : RE w ae ce E) (hEl : E.length ≤ maxLen) (s : Nat) (hs : s < top) (half : Int) : Calls Tryz.prog 4 #[.slice ae E.length ce, .agg (idA s), .int .i64 half] w (fun e w' => e = .returned (.bool true) ∧ Gro w w') := by
  refine s_enter Tryz.func4 rfl Tryz.ntmps4 [.slice ae E.length ce, .agg (idA s), .int .i64 half] [.slice ae E.length ce, .agg (idA s), .int .i64 half, undef, undef, undef, undef, undef, undef, undef, undef, undef, undef, undef, undef, undef, undef, undef, undef, undef, undef, undef, undef, undef, undef, undef, undef, undef, undef, undef, undef, undef, undef, undef, undef, undef, undef, undef, undef, undef, undef, undef, undef, undef, undef, undef, undef, undef, undef, undef, undef, undef, undef, undef, undef, undef, undef, undef, undef, undef, undef, undef, undef, undef, undef, undef, undef, undef, undef, undef, undef, undef, undef, undef, undef, undef, undef, undef, undef, undef, undef, undef, undef, undef, undef, undef, undef, undef, undef, undef, undef, undef, undef, undef, undef, undef, undef, undef, undef, undef, undef, undef, undef, undef, undef, undef, undef] rfl ?_
  have GG := Gro.refl w
  obtain ⟨L, hL⟩ : ∃ L, layR 128 E = L := ⟨_, rfl⟩
  have hTI : TI 128 L := hL ▸ layR_ti HE.all
  have hRg : Rg L := hTI.rgt
  have hLb : L.length ≤ 1000 := Nat.le_trans hTI.fit (by decide)
  have hL8 := hTI.fit
  have htwl := twn_len L
  refine wp_seq ?_
  refine wp_region_lit ?_
  refine s_box 4 rfl rfl 24 _ rfl _ rfl (idA s) rfl ?_
  intro w1 g1 G eg1 kg1
  have bg1 := size_base GG eg1
  have dHEg1 := HE.ne eg1
  replace HE := HE.gro G
  replace GG := GG.trans G
  clear G
  clear eg1
  refine nr ?_; intro U h; simp only [z0, z1] at h; subst h
  refine s_val 6 rfl rfl (.bool false) (rfl) ?_
  refine nr ?_; intro U h; simp only [z0, z1] at h; subst h
  refine wpList_nil ?_
  refine then_n ?_
  refine wp_seq ?_
  refine wp_region_lit ?_
  refine s_val 19 rfl rfl (.slice ae E.length ce) (rfl) ?_
  refine nr ?_; intro U h; simp only [z0, z1] at h; subst h
  refine s_callx 20 rfl rfl _ 5 Tryz.call5 rfl rfl _ rfl [.slice ae E.length ce] rfl (laid_eq _ ae ce E L HE hEl hL) (by rintro _ _ ⟨_, _, _, _, _, he, _⟩; exact ⟨_, he⟩) ?_
  rintro v w2 ⟨t, b, r, ra, rc, he, G, kt, HTt, kr, HL, h1t, h1b, h1r⟩
  cases he
  have dg1t : g1 < t := Nat.lt_of_lt_of_le (lt_of_heap kg1) h1t
  have dg1r : g1 < r := Nat.lt_of_lt_of_le (lt_of_heap kg1) h1r
  have bt := Nat.le_trans GG.size h1t
  have bb := Nat.le_trans GG.size h1b
  have br := Nat.le_trans GG.size h1r
  clear h1t h1b h1r
  replace kg1 := G.has kg1
  replace GG := GG.trans G
  clear G
  refine nr ?_; intro U h; simp only [z0, z1] at h; subst h
  have ntr : t ≠ r := fun e => ne_cells kt kr (by decide) (by simp [e])
  have dHTtg1 := (HTt.nec kg1).symm
  have dHLg1 := HL.own.ne kg1 (by decide)
  clear kr HL
  refine s_val 18 rfl rfl (.tuple #[.pointer (some ⟨t, 0, none⟩), .pointer (some ⟨r, 0, none⟩)]) (rfl) ?_
  refine nr ?_; intro U h; simp only [z0, z1] at h; subst h
  refine s_val 21 rfl rfl (.pointer (some ⟨t, 0, none⟩)) (rfl) ?_
  refine nr ?_; intro U h; simp only [z0, z1] at h; subst h
  refine s_val 22 rfl rfl (.pointer (some ⟨r, 0, none⟩)) (rfl) ?_
  refine nr ?_; intro U h; simp only [z0, z1] at h; subst h
  refine s_val 7 rfl rfl (.pointer (some ⟨t, 0, none⟩)) (rfl) ?_
  refine nr ?_; intro U h; simp only [z0, z1] at h; subst h
  refine s_val 8 rfl rfl (.pointer (some ⟨r, 0, none⟩)) (rfl) ?_
  refine nr ?_; intro U h; simp only [z0, z1] at h; subst h
  refine wpList_nil ?_
  refine then_n ?_
  refine wp_seq ?_
  refine wp_seq ?_
  refine wp_region_opq ?_
  intro OPS hY
  have y2 := hY 2 25 rfl
  clear hY
  refine s_val 23 rfl rfl (.pointer (some ⟨t, 0, none⟩)) (rfl) ?_
  refine nr ?_; intro U h; simp only [z0, z1] at h; subst h
  refine s_val 24 rfl rfl (.bool false) (run_eqnp 26 _ _ _ rfl _ rfl rfl Tryz.underlying26 _) ?_
  refine nr ?_; intro U h; simp only [z0, z1] at h; subst h
  refine s_val 25 rfl rfl (.bool false) (rfl) ?_
  refine nr ?_; intro U h; simp only [z0, z1] at h; subst h
  refine s_gcallvY 26 rfl rfl y2 rfl _ 8 Tryz.call8 rfl rfl _ rfl [] rfl (fixed_any _) ?_
  intro w3 G
  replace kg1 := G.has kg1
  replace kt := G.has kt
  replace HTt := HTt.gro G
  replace GG := GG.trans G
  clear G
  refine nr ?_; intro U h; simp only [z0, z1] at h; subst h
  refine s_gvalY 27 rfl rfl y2 rfl (.bool false) (run_nt _ _ rfl true rfl) ?_
  refine nr ?_; intro U h; simp only [z0, z1] at h; subst h
  refine s_val 28 rfl rfl (.bool false) (rfl) ?_
  refine nr ?_; intro U h; simp only [z0, z1] at h; subst h
  refine wpList_nil ?_
  refine then_n ?_
  refine wp_cond_false rfl ?_
  refine wp_skip ?_
  refine then_n ?_
  refine wp_seq ?_
  refine wp_seq ?_
  refine wp_region_lit ?_
  refine s_val 29 rfl rfl (.pointer (some ⟨t, 0, none⟩)) (rfl) ?_
  refine nr ?_; intro U h; simp only [z0, z1] at h; subst h
  refine s_callx 30 rfl rfl _ 15 Tryz.call15 rfl rfl _ rfl [.pointer (some ⟨t, 0, none⟩)] rfl (twi_any _ t b 128 L (kt) (HTt) hTI.ris hLb) (by rintro _ _ ⟨_, _, he, _⟩; exact ⟨_, he⟩) ?_
  rintro v w4 ⟨ao1, cap1, he, G, HQ1⟩
  cases he
  replace HQ1 := HQ1.re
  replace kg1 := G.has kg1
  replace kt := G.has kt
  replace HTt := HTt.gro G
  replace GG := GG.trans G
  clear G
  refine nr ?_; intro U h; simp only [z0, z1] at h; subst h
  refine s_val 31 rfl rfl (.int .i64 (((twnL L).length : Nat) : Int)) (run_len Tryz.underlying43 _ rfl _ _ _ rfl _) ?_
  refine nr ?_; intro U h; simp only [z0, z1] at h; subst h
  refine s_val 32 rfl rfl (.int .i64 0) (rfl) ?_
  refine nr ?_; intro U h; simp only [z0, z1] at h; subst h
  refine wpList_nil ?_
  refine then_n ?_
  refine wp_block ?_
  refine wp_loopN (fun mz az wv => ∃ (i : Nat) (M : List En) (us1 : Nat → Value), mz = (twnL L).length + 1 - i ∧ az = ⟨[.slice ae E.length ce, .agg (idA s), .int .i64 half, undef, .pointer (some ⟨g1, 0, none⟩), undef, .bool false, .pointer (some ⟨t, 0, none⟩), .pointer (some ⟨r, 0, none⟩), undef, us1 0, undef, undef, undef, undef, undef, undef, undef, .tuple #[.pointer (some ⟨t, 0, none⟩), .pointer (some ⟨r, 0, none⟩)], .slice ae E.length ce, .tuple #[.pointer (some ⟨t, 0, none⟩), .pointer (some ⟨r, 0, none⟩)], .pointer (some ⟨t, 0, none⟩), .pointer (some ⟨r, 0, none⟩), .pointer (some ⟨t, 0, none⟩), .bool false, .bool false, .bool true, .bool false, .bool false, .pointer (some ⟨t, 0, none⟩), .slice ao1 (twnL L).length cap1, .int .i64 (((twnL L).length : Nat) : Int), .int .i64 ((i : Nat) : Int), us1 1, us1 2, us1 3, us1 4, us1 5, us1 6, us1 7, undef, undef, undef, undef, undef, undef, undef, undef, undef, undef, undef, undef, undef, undef, undef, undef, undef, undef, undef, undef, undef, undef, undef, undef, undef, undef, undef, undef, undef, undef, undef, undef, undef, undef, undef, undef, undef, undef, undef, undef, undef, undef, undef, undef, undef, undef, undef, undef, undef, undef, undef, undef, undef, undef, undef, undef, undef, undef, undef, undef, undef, undef, undef, undef, undef, undef, undef].toArray, []⟩ ∧ i ≤ (twnL L).length ∧ TI 128 M ∧ Sub M L ∧ (∀ x ∈ M, x.p ∈ (twnL L) → x.p ∈ (twnL L).drop i) ∧ Gro w wv ∧ wv.heap[t]? = some (.cells (tbA 128 b) 92 (0, 0)) ∧ TM wv b M ∧ wv.heap[g1]? = some (.cells (idA s) 24 (0, 0)) ∧ RK kP wv ao1 cap1 (twnL L)) ?_ _ ⟨0, L, (fun kz => ([undef, undef, undef, undef, undef, undef, undef, undef] : List Value).getD kz undef), rfl, rfl, Nat.zero_le _, hTI, Sub.refl L, (fun _ _ h => h), GG, kt, HTt, kg1, HQ1⟩
  clear GG kg1 kt HTt HQ1
  rintro mz az wv ⟨i, M, us1, rfl, rfl, hi, hMT, hMs, hMx, GG, kt, HTt, kg1, HQ1⟩
  have hM8 := hMT.fit
  refine wp_seq ?_
  refine wp_region_lit ?_
  cases hi1 : decide (((i : Nat) : Int) < (((twnL L).length : Nat) : Int))
  · have hie : i = (twnL L).length := by have := of_decide_eq_false hi1; omega
    rw [hie] at hMx
    have hDM := tw_end hMs hMx
    refine s_val 33 rfl rfl (.bool false) (run_lssT 3 _ _ _ rfl ((i : Nat) : Int) (((twnL L).length : Nat) : Int) rfl rfl false hi1 _) ?_
    refine nr ?_; intro U h; simp only [z0, z1] at h; subst h
    refine wpList_nil ?_
    refine then_n ?_
    refine wp_seq ?_
    refine wp_cond_false rfl ?_
    refine wp_exit ?_
    refine then_x ?_
    refine then_x ?_
    refine blk_x ?_
    refine then_n ?_
    refine wp_seq ?_
    refine wp_seq ?_
    refine wp_region_lit ?_
    refine s_val 40 rfl rfl (.pointer (some ⟨t, 0, none⟩)) (rfl) ?_
    refine nr ?_; intro U h; simp only [z0, z1] at h; subst h
    refine s_callx 41 rfl rfl _ 20 Tryz.call20 rfl rfl _ rfl [.pointer (some ⟨t, 0, none⟩)] rfl (own_e _ t b 128 M (kt) (HTt) hMT.ris (by omega)) (by rintro _ _ ⟨_, _, he, _⟩; exact ⟨_, he⟩) ?_
    rintro v w5 ⟨ao2, cap2, he, G, HO2⟩
    cases he
    replace HO2 := HO2.mono GG.size
    replace kt := G.has kt
    replace kg1 := G.has kg1
    replace HTt := HTt.gro G
    replace HQ1 := HQ1.gro G
    replace GG := GG.trans G
    clear G
    have HR2 := HO2.re
    refine nr ?_; intro U h; simp only [z0, z1] at h; subst h
    refine s_val 42 rfl rfl (.int .i64 (((ownL M).length : Nat) : Int)) (run_len Tryz.underlying22 _ rfl _ _ _ rfl _) ?_
    refine nr ?_; intro U h; simp only [z0, z1] at h; subst h
    refine s_val 43 rfl rfl (.int .i64 0) (rfl) ?_
    refine nr ?_; intro U h; simp only [z0, z1] at h; subst h
    refine wpList_nil ?_
    refine then_n ?_
    refine wp_block ?_
    refine wp_loopN (fun mz az wv => ∃ (i2 : Nat) (M2 : List En) (us2 : Nat → Value), mz = (ownL M).length + 1 - i2 ∧ az = ⟨[.slice ae E.length ce, .agg (idA s), .int .i64 half, undef, .pointer (some ⟨g1, 0, none⟩), undef, .bool false, .pointer (some ⟨t, 0, none⟩), .pointer (some ⟨r, 0, none⟩), undef, us1 0, undef, us2 0, us2 1, us2 2, us2 3, undef, undef, .tuple #[.pointer (some ⟨t, 0, none⟩), .pointer (some ⟨r, 0, none⟩)], .slice ae E.length ce, .tuple #[.pointer (some ⟨t, 0, none⟩), .pointer (some ⟨r, 0, none⟩)], .pointer (some ⟨t, 0, none⟩), .pointer (some ⟨r, 0, none⟩), .pointer (some ⟨t, 0, none⟩), .bool false, .bool false, .bool true, .bool false, .bool false, .pointer (some ⟨t, 0, none⟩), .slice ao1 (twnL L).length cap1, .int .i64 (((twnL L).length : Nat) : Int), .int .i64 ((i : Nat) : Int), .bool false, us1 2, us1 3, us1 4, us1 5, us1 6, us1 7, .pointer (some ⟨t, 0, none⟩), .slice ao2 (ownL M).length cap2, .int .i64 (((ownL M).length : Nat) : Int), .int .i64 ((i2 : Nat) : Int), us2 4, us2 5, us2 6, us2 7, us2 8, us2 9, us2 10, us2 11, us2 12, us2 13, us2 14, us2 15, us2 16, us2 17, us2 18, us2 19, us2 20, undef, undef, undef, undef, undef, undef, undef, undef, undef, undef, undef, undef, undef, undef, undef, undef, undef, undef, undef, undef, undef, undef, undef, undef, undef, undef, undef, undef, undef, undef, undef, undef, undef, undef, undef, undef, undef, undef, undef, undef, undef, undef, undef, undef, undef, undef].toArray, []⟩ ∧ i2 ≤ (ownL M).length ∧ TI 128 M2 ∧ Sub M2 M ∧ (∀ x ∈ M2, ownF x = true → othI x = s → x ∈ (ownL M).drop i2) ∧ Gro w wv ∧ wv.heap[t]? = some (.cells (tbA 128 b) 92 (0, 0)) ∧ TM wv b M2 ∧ wv.heap[g1]? = some (.cells (idA s) 24 (0, 0)) ∧ RE wv ao2 cap2 (ownL M)) ?_ _ ⟨0, M, (fun kz => ([undef, undef, undef, undef, undef, undef, undef, undef, undef, undef, undef, undef, undef, undef, undef, undef, undef, undef, undef, undef, undef] : List Value).getD kz undef), rfl, rfl, Nat.zero_le _, hMT, Sub.refl M, (fun x hx ho _ => ownL_mem.2 ⟨hx, ho⟩), GG, kt, HTt, kg1, HR2⟩
    clear GG kt kg1 HTt HR2
    rintro mz az wv ⟨i2, M2, us2, rfl, rfl, hi2, hM2, hS2, hX2, GG, kt, HTt, kg1, HR2⟩
    have hM28 := hM2.fit
    have holM := own_len M
    refine wp_seq ?_
    refine wp_region_lit ?_
    cases hi21 : decide (((i2 : Nat) : Int) < (((ownL M).length : Nat) : Int))
    · have hi2e : i2 = (ownL M).length := by have := of_decide_eq_false hi21; omega
      rw [hi2e] at hX2
      have hNS := no_end hX2
      have hD2 := hDM.sub hS2
      refine s_val 44 rfl rfl (.bool false) (run_lssT 3 _ _ _ rfl ((i2 : Nat) : Int) (((ownL M).length : Nat) : Int) rfl rfl false hi21 _) ?_
      refine nr ?_; intro U h; simp only [z0, z1] at h; subst h
      refine wpList_nil ?_
      refine then_n ?_
      refine wp_seq ?_
      refine wp_cond_false rfl ?_
      refine wp_exit ?_
      refine then_x ?_
      refine then_x ?_
      refine blk_x ?_
      refine then_n ?_
      refine wp_seq ?_
      refine wp_seq ?_
      refine wp_region_lit ?_
      refine s_val 61 rfl rfl (.int .i64 0) (rfl) ?_
      refine nr ?_; intro U h; simp only [z0, z1] at h; subst h
      refine wpList_nil ?_
      refine then_n ?_
      refine wp_block ?_
      refine wp_loopN (fun mz az wv => ∃ (i3 : Nat) (M3 : List En) (us3 : Nat → Value), mz = 131 - i3 ∧ az = ⟨[.slice ae E.length ce, .agg (idA s), .int .i64 half, undef, .pointer (some ⟨g1, 0, none⟩), undef, .bool false, .pointer (some ⟨t, 0, none⟩), .pointer (some ⟨r, 0, none⟩), undef, us1 0, undef, us2 0, us2 1, us2 2, us2 3, us3 0, undef, .tuple #[.pointer (some ⟨t, 0, none⟩), .pointer (some ⟨r, 0, none⟩)], .slice ae E.length ce, .tuple #[.pointer (some ⟨t, 0, none⟩), .pointer (some ⟨r, 0, none⟩)], .pointer (some ⟨t, 0, none⟩), .pointer (some ⟨r, 0, none⟩), .pointer (some ⟨t, 0, none⟩), .bool false, .bool false, .bool true, .bool false, .bool false, .pointer (some ⟨t, 0, none⟩), .slice ao1 (twnL L).length cap1, .int .i64 (((twnL L).length : Nat) : Int), .int .i64 ((i : Nat) : Int), .bool false, us1 2, us1 3, us1 4, us1 5, us1 6, us1 7, .pointer (some ⟨t, 0, none⟩), .slice ao2 (ownL M).length cap2, .int .i64 (((ownL M).length : Nat) : Int), .int .i64 ((i2 : Nat) : Int), .bool false, us2 5, us2 6, us2 7, us2 8, us2 9, us2 10, us2 11, us2 12, us2 13, us2 14, us2 15, us2 16, us2 17, us2 18, us2 19, us2 20, .int .i64 ((i3 : Nat) : Int), us3 1, us3 2, us3 3, us3 4, us3 5, us3 6, us3 7, us3 8, us3 9, us3 10, us3 11, us3 12, us3 13, us3 14, undef, undef, undef, undef, undef, undef, undef, undef, undef, undef, undef, undef, undef, undef, undef, undef, undef, undef, undef, undef, undef, undef, undef, undef, undef, undef, undef, undef, undef, undef, undef].toArray, []⟩ ∧ i3 ≤ 130 ∧ TI 128 M3 ∧ Sub M3 M2 ∧ (ownL M3).length + i3 ≤ 128 ∧ Gro w wv ∧ wv.heap[t]? = some (.cells (tbA 128 b) 92 (0, 0)) ∧ TM wv b M3 ∧ wv.heap[g1]? = some (.cells (idA s) 24 (0, 0))) ?_ _ ⟨0, M2, (fun kz => ([undef, undef, undef, undef, undef, undef, undef, undef, undef, undef, undef, undef, undef, undef, undef] : List Value).getD kz undef), rfl, rfl, Nat.zero_le _, hM2, Sub.refl M2, (by have h1 := own_len M2; have h2 := hM2.fit; omega), GG, kt, HTt, kg1⟩
      clear GG kt kg1 HTt
      rintro mz az wv ⟨i3, M3, us3, rfl, rfl, hi3, hM3, hS3, hc3, GG, kt, HTt, kg1⟩
      have hM38 := hM3.fit
      have holM3 := own_len M3
      refine wp_seq ?_
      refine wp_region_lit ?_
      cases hi31 : decide (((i3 : Nat) : Int) < 130)
      · have hsp : (sprL M3 s half) = [] := by exfalso; have := of_decide_eq_false hi31; omega
        refine s_val 62 rfl rfl (.bool false) (run_lssT 3 _ _ _ rfl ((i3 : Nat) : Int) 130 rfl rfl false hi31 _) ?_
        refine nr ?_; intro U h; simp only [z0, z1] at h; subst h
        refine wpList_nil ?_
        refine then_n ?_
        refine wp_seq ?_
        refine wp_cond_false rfl ?_
        refine wp_exit ?_
        refine then_x ?_
        refine then_x ?_
        refine blk_x ?_
        refine then_n ?_
        refine wp_seq ?_
        have hfl := frd_len M3 s
        have hwl := want_le s (frdL M3 s) half hfl
        refine wp_region_lit ?_
        refine s_val 76 rfl rfl (.pointer (some ⟨t, 0, none⟩)) (rfl) ?_
        refine nr ?_; intro U h; simp only [z0, z1] at h; subst h
        refine s_val 77 rfl rfl (.agg (idA s)) (ldI0 _ rfl g1 rfl (kg1)) ?_
        refine nr ?_; intro U h; simp only [z0, z1] at h; subst h
        refine s_callx 78 rfl rfl _ 10 Tryz.call10 rfl rfl _ rfl [.pointer (some ⟨t, 0, none⟩), .agg (idA s)] rfl (fri_any _ t b 128 M3 (kt) (HTt) hM3.ris (by omega) s hs) (by rintro _ _ ⟨_, _, he, _⟩; exact ⟨_, he⟩) ?_
        rintro v w6 ⟨ao3, cap3, he, G, HC3⟩
        cases he
        replace kt := G.has kt
        replace kg1 := G.has kg1
        replace HTt := HTt.gro G
        replace GG := GG.trans G
        clear G
        refine nr ?_; intro U h; simp only [z0, z1] at h; subst h
        refine s_val 17 rfl rfl (.slice ao3 (frdL M3 s).length cap3) (rfl) ?_
        refine nr ?_; intro U h; simp only [z0, z1] at h; subst h
        refine wpList_nil ?_
        refine then_n ?_
        refine wp_seq ?_
        refine wp_region_opq ?_
        intro OPS hY
        have y6 := hY 6 85 rfl
        have y12 := hY 12 91 rfl
        have y20 := hY 20 99 rfl
        clear hY
        refine s_val 79 rfl rfl (.pointer (some ⟨t, 0, none⟩)) (rfl) ?_
        refine nr ?_; intro U h; simp only [z0, z1] at h; subst h
        refine s_val 80 rfl rfl (.agg (idA s)) (ldI0 _ rfl g1 rfl (kg1)) ?_
        refine nr ?_; intro U h; simp only [z0, z1] at h; subst h
        refine s_val 81 rfl rfl (.int .i64 half) (rfl) ?_
        refine nr ?_; intro U h; simp only [z0, z1] at h; subst h
        refine s_callx 82 rfl rfl _ 13 Tryz.call13 rfl rfl _ rfl [.pointer (some ⟨t, 0, none⟩), .agg (idA s), .int .i64 half] rfl (spa_eq _ t b 128 M3 (kt) (HTt) hM3.ris (by omega) s hs half [] hsp) (by rintro _ _ ⟨_, _, he, _⟩; exact ⟨_, he⟩) ?_
        rintro v w7 ⟨ao4, cap4, he, G, HQ4⟩
        cases he
        replace HQ4 := HQ4.re
        replace kt := G.has kt
        replace kg1 := G.has kg1
        replace HTt := HTt.gro G
        replace HC3 := HC3.gro G
        replace GG := GG.trans G
        clear G
        refine nr ?_; intro U h; simp only [z0, z1] at h; subst h
        refine s_val 83 rfl rfl (.int .i64 0) (run_len Tryz.underlying43 _ rfl _ _ _ rfl _) ?_
        refine nr ?_; intro U h; simp only [z0, z1] at h; subst h
        refine s_val 84 rfl rfl (.bool true) (run_eq_k 3 .i64 _ _ _ rfl Tryz.underlying3 0 0 rfl rfl true (by decide) _) ?_
        refine nr ?_; intro U h; simp only [z0, z1] at h; subst h
        refine s_val 85 rfl rfl (.bool true) (rfl) ?_
        refine nr ?_; intro U h; simp only [z0, z1] at h; subst h
        refine s_gvalY 86 rfl rfl y6 rfl (.pointer (some ⟨t, 0, none⟩)) (rfl) ?_
        refine nr ?_; intro U h; simp only [z0, z1] at h; subst h
        refine s_gcallxY 87 rfl rfl y6 rfl _ 15 Tryz.call15 rfl rfl _ rfl [.pointer (some ⟨t, 0, none⟩)] rfl (twi_eq _ t b 128 M3 (kt) (HTt) hM3.ris (by omega) [] (dst_twn hM3.ris.kn (hD2.sub hS3))) (by rintro _ _ ⟨_, _, he, _⟩; exact ⟨_, he⟩) ?_
        rintro v w8 ⟨ao5, cap5, he, G, HQ5⟩
        cases he
        replace HQ5 := HQ5.re
        replace kt := G.has kt
        replace kg1 := G.has kg1
        replace HTt := HTt.gro G
        replace HC3 := HC3.gro G
        replace HQ4 := HQ4.gro G
        replace GG := GG.trans G
        clear G
        refine nr ?_; intro U h; simp only [z0, z1] at h; subst h
        refine s_gvalY 88 rfl rfl y6 rfl (.int .i64 0) (run_len Tryz.underlying43 _ rfl _ _ _ rfl _) ?_
        refine nr ?_; intro U h; simp only [z0, z1] at h; subst h
        refine s_gvalY 89 rfl rfl y6 rfl (.bool true) (run_eq_k 3 .i64 _ _ _ rfl Tryz.underlying3 0 0 rfl rfl true (by decide) _) ?_
        refine nr ?_; intro U h; simp only [z0, z1] at h; subst h
        refine s_val 90 rfl rfl (.bool true) (rfl) ?_
        refine nr ?_; intro U h; simp only [z0, z1] at h; subst h
        refine s_val 91 rfl rfl (.bool true) (rfl) ?_
        refine nr ?_; intro U h; simp only [z0, z1] at h; subst h
        refine s_gvalY 92 rfl rfl y12 rfl (.pointer (some ⟨t, 0, none⟩)) (rfl) ?_
        refine nr ?_; intro U h; simp only [z0, z1] at h; subst h
        refine s_gcallxY 93 rfl rfl y12 rfl _ 20 Tryz.call20 rfl rfl _ rfl [.pointer (some ⟨t, 0, none⟩)] rfl (own_e _ t b 128 M3 (kt) (HTt) hM3.ris (by omega)) (by rintro _ _ ⟨_, _, he, _⟩; exact ⟨_, he⟩) ?_
        rintro v w9 ⟨ao6, cap6, he, G, HO6⟩
        cases he
        replace HO6 := HO6.mono GG.size
        replace kt := G.has kt
        replace kg1 := G.has kg1
        replace HTt := HTt.gro G
        replace HC3 := HC3.gro G
        replace HQ4 := HQ4.gro G
        replace HQ5 := HQ5.gro G
        replace GG := GG.trans G
        clear G
        have HR6 := HO6.re
        refine nr ?_; intro U h; simp only [z0, z1] at h; subst h
        refine s_gvalY 94 rfl rfl y12 rfl (.int .i64 (((ownL M3).length : Nat) : Int)) (run_len Tryz.underlying22 _ rfl _ _ _ rfl _) ?_
        refine nr ?_; intro U h; simp only [z0, z1] at h; subst h
        refine s_gvalY 95 rfl rfl y12 rfl (.slice ao3 (frdL M3 s).length cap3) (rfl) ?_
        refine nr ?_; intro U h; simp only [z0, z1] at h; subst h
        refine s_gvalY 96 rfl rfl y12 rfl (.int .i64 (((frdL M3 s).length : Nat) : Int)) (run_len Tryz.underlying39 _ rfl _ _ _ rfl _) ?_
        refine nr ?_; intro U h; simp only [z0, z1] at h; subst h
        refine s_gvalY 97 rfl rfl y12 rfl (.bool true) (run_eq_k 3 .i64 _ _ _ rfl Tryz.underlying3 (((ownL M3).length : Nat) : Int) (((frdL M3 s).length : Nat) : Int) rfl rfl true (decide_eq_true (by rw [dst_len hM3.all hM3.ris.kn (hD2.sub hS3) (hNS.sub hS3)])) _) ?_
        refine nr ?_; intro U h; simp only [z0, z1] at h; subst h
        refine s_val 98 rfl rfl (.bool true) (rfl) ?_
        refine nr ?_; intro U h; simp only [z0, z1] at h; subst h
        refine s_val 99 rfl rfl (.bool true) (rfl) ?_
        refine nr ?_; intro U h; simp only [z0, z1] at h; subst h
        refine s_gvalY 100 rfl rfl y20 rfl (.agg (idA s)) (ldI0 _ rfl g1 rfl (kg1)) ?_
        refine nr ?_; intro U h; simp only [z0, z1] at h; subst h
        refine s_gvalY 101 rfl rfl y20 rfl (.slice ao3 (frdL M3 s).length cap3) (rfl) ?_
        refine nr ?_; intro U h; simp only [z0, z1] at h; subst h
        refine s_gvalY 102 rfl rfl y20 rfl (.int .i64 half) (rfl) ?_
        refine nr ?_; intro U h; simp only [z0, z1] at h; subst h
        refine s_gcallxY 103 rfl rfl y20 rfl _ 22 Tryz.call22 rfl rfl _ rfl [.agg (idA s), .slice ao3 (frdL M3 s).length cap3, .int .i64 half] rfl (refwant_any _ ao3 cap3 (frdL M3 s) HC3.rc (by omega) s hs half) (by rintro _ _ ⟨_, _, he, _⟩; exact ⟨_, he⟩) ?_
        rintro v w10 ⟨ao7, cap7, he, G, HC7⟩
        cases he
        replace HC7 := HC7.rk
        replace kt := G.has kt
        replace kg1 := G.has kg1
        replace HTt := HTt.gro G
        replace HC3 := HC3.gro G
        replace HQ4 := HQ4.gro G
        replace HQ5 := HQ5.gro G
        replace HR6 := HR6.gro G
        replace HO6 := HO6.gro G
        replace GG := GG.trans G
        clear G
        refine nr ?_; intro U h; simp only [z0, z1] at h; subst h
        refine s_gvalY 104 rfl rfl y20 rfl (.slice ao3 (frdL M3 s).length cap3) (rfl) ?_
        refine nr ?_; intro U h; simp only [z0, z1] at h; subst h
        refine s_gcallvY 105 rfl rfl y20 rfl _ 9 Tryz.call9 rfl rfl _ rfl [.slice ao7 (want s (frdL M3 s) half).length cap7, .slice ao3 (frdL M3 s).length cap3] rfl (Calls.bool (same_ids _ ao7 cap7 (want s (frdL M3 s) half) HC7.rc (by omega) ao3 cap3 (frdL M3 s) HC3.rc (by omega)) (decide_eq_true (spr_want hM3.all hsp))) ?_
        intro w11 G
        replace kt := G.has kt
        replace kg1 := G.has kg1
        replace HTt := HTt.gro G
        replace HC3 := HC3.gro G
        replace HQ4 := HQ4.gro G
        replace HQ5 := HQ5.gro G
        replace HR6 := HR6.gro G
        replace HO6 := HO6.gro G
        replace HC7 := HC7.gro G
        replace GG := GG.trans G
        clear G
        refine nr ?_; intro U h; simp only [z0, z1] at h; subst h
        refine s_val 106 rfl rfl (.bool true) (rfl) ?_
        refine nr ?_; intro U h; simp only [z0, z1] at h; subst h
        refine s_val 6 rfl rfl (.bool true) (rfl) ?_
        refine nr ?_; intro U h; simp only [z0, z1] at h; subst h
        refine wpList_nil ?_
        refine then_n ?_
        refine wp_ret ?_
        refine bodyPost_ret (results_tmp Tryz.results4 _ _ _) rfl ?_
        exact ⟨rfl, GG⟩
      · have hi3l : i3 < 130 := by have := of_decide_eq_true hi31; omega
        refine s_val 62 rfl rfl (.bool true) (run_lssT 3 _ _ _ rfl ((i3 : Nat) : Int) 130 rfl rfl true hi31 _) ?_
        refine nr ?_; intro U h; simp only [z0, z1] at h; subst h
        refine wpList_nil ?_
        refine then_n ?_
        refine wp_seq ?_
        refine wp_cond_true rfl ?_
        refine wp_skip ?_
        refine then_n ?_
        refine wp_seq ?_
        refine wp_block ?_
        refine wp_seq ?_
        refine wp_region_lit ?_
        refine s_val 63 rfl rfl (.pointer (some ⟨t, 0, none⟩)) (rfl) ?_
        refine nr ?_; intro U h; simp only [z0, z1] at h; subst h
        refine s_val 64 rfl rfl (.agg (idA s)) (ldI0 _ rfl g1 rfl (kg1)) ?_
        refine nr ?_; intro U h; simp only [z0, z1] at h; subst h
        refine s_val 65 rfl rfl (.int .i64 half) (rfl) ?_
        refine nr ?_; intro U h; simp only [z0, z1] at h; subst h
        refine s_callx 66 rfl rfl _ 13 Tryz.call13 rfl rfl _ rfl [.pointer (some ⟨t, 0, none⟩), .agg (idA s), .int .i64 half] rfl (spa_any _ t b 128 M3 (kt) (HTt) hM3.ris (by omega) s hs half) (by rintro _ _ ⟨_, _, he, _⟩; exact ⟨_, he⟩) ?_
        rintro v w6 ⟨ao3, cap3, he, G, HQ3⟩
        cases he
        replace HQ3 := HQ3.re
        replace kt := G.has kt
        replace kg1 := G.has kg1
        replace HTt := HTt.gro G
        replace GG := GG.trans G
        clear G
        refine nr ?_; intro U h; simp only [z0, z1] at h; subst h
        refine s_val 16 rfl rfl (.slice ao3 (sprL M3 s half).length cap3) (rfl) ?_
        refine nr ?_; intro U h; simp only [z0, z1] at h; subst h
        refine wpList_nil ?_
        refine then_n ?_
        refine wp_seq ?_
        refine wp_seq ?_
        refine wp_region_lit ?_
        refine s_val 67 rfl rfl (.slice ao3 (sprL M3 s half).length cap3) (rfl) ?_
        refine nr ?_; intro U h; simp only [z0, z1] at h; subst h
        refine s_val 68 rfl rfl (.int .i64 (((sprL M3 s half).length : Nat) : Int)) (run_len Tryz.underlying43 _ rfl _ _ _ rfl _) ?_
        refine nr ?_; intro U h; simp only [z0, z1] at h; subst h
        cases hz : decide ((((sprL M3 s half).length : Nat) : Int) = 0)
        · have hzn : (sprL M3 s half).length ≠ 0 := by have := of_decide_eq_false hz; omega
          refine s_val 69 rfl rfl (.bool false) (run_eq_k 3 .i64 _ _ _ rfl Tryz.underlying3 (((sprL M3 s half).length : Nat) : Int) 0 rfl rfl false hz _) ?_
          refine nr ?_; intro U h; simp only [z0, z1] at h; subst h
          refine wpList_nil ?_
          refine then_n ?_
          refine wp_cond_false rfl ?_
          refine wp_skip ?_
          refine then_n ?_
          refine wp_region_lit ?_
          refine s_val 70 rfl rfl (.pointer (some ⟨t, 0, none⟩)) (rfl) ?_
          refine nr ?_; intro U h; simp only [z0, z1] at h; subst h
          refine s_val 71 rfl rfl (.slice ao3 (sprL M3 s half).length cap3) (rfl) ?_
          refine nr ?_; intro U h; simp only [z0, z1] at h; subst h
          refine s_val 72 rfl rfl (.pointer (pK kP ao3 0 0)) (run_ixK rP (HQ3) _ _ rfl rfl 0 rfl (by omega)) ?_
          refine nr ?_; intro U h; simp only [z0, z1] at h; subst h
          refine s_val 73 rfl rfl (.agg (paA ((sprL M3 s half).getD 0 zP))) (run_ldPp (HQ3) _ rfl 0 rfl (by omega)) ?_
          refine nr ?_; intro U h; simp only [z0, z1] at h; subst h
          refine s_callx 74 rfl rfl _ 19 Tryz.call19 rfl rfl _ rfl [.pointer (some ⟨t, 0, none⟩), .agg (paA ((sprL M3 s half).getD 0 zP))] rfl (end_any _ t b 128 M3 (kt) (HTt) hM3.rgt ((sprL M3 s half).getD 0 zP) (HQ3.at (by omega))) (by rintro _ _ ⟨_, _, _, _, _, he, _⟩; exact ⟨_, he⟩) ?_
          rintro v w7 ⟨ao4, c4, H4, bo4, d4, he, HN4, HT2, G2⟩
          cases he
          replace HN4 := HN4.mono GG.size
          replace kt := G2.has kt (by simpa using HTt.nec kt)
          replace kg1 := G2.has kg1 (by simpa using HTt.nec kg1)
          replace HQ3 := HQ3.mapw HTt G2
          replace GG := G2.gro GG (by simpa using bb)
          clear HTt G2
          have HTt := HT2
          clear HT2
          refine nr ?_; intro U h; simp only [z0, z1] at h; subst h
          refine wpList_nil ?_
          refine blk_n ?_
          refine then_n ?_
          refine wp_region_lit ?_
          refine s_val 75 rfl rfl (.int .i64 ((i3 + 1 : Nat) : Int)) (run_addI 3 _ _ _ rfl ((i3 : Nat) : Int) 1 ((i3 + 1 : Nat) : Int) rfl rfl (by omega) (by omega) (by omega) _) ?_
          refine nr ?_; intro U h; simp only [z0, z1] at h; subst h
          refine s_val 61 rfl rfl (.int .i64 ((i3 + 1 : Nat) : Int)) (rfl) ?_
          refine nr ?_; intro U h; simp only [z0, z1] at h; subst h
          refine wpList_nil ?_
          refine then_n ?_
          have hsf := spr_first (s := s) (half := half) hM3.ris.kn (by omega)
          exact ⟨131 - (i3 + 1), by omega, i3 + 1, endL M3 ((sprL M3 s half).getD 0 zP), (fun kz => ([.slice ao3 (sprL M3 s half).length cap3, .bool true, .pointer (some ⟨t, 0, none⟩), .agg (idA s), .int .i64 half, .slice ao3 (sprL M3 s half).length cap3, .slice ao3 (sprL M3 s half).length cap3, .int .i64 (((sprL M3 s half).length : Nat) : Int), .bool false, .pointer (some ⟨t, 0, none⟩), .slice ao3 (sprL M3 s half).length cap3, .pointer (pK kP ao3 0 0), .agg (paA ((sprL M3 s half).getD 0 zP)), .agg (tnA ao4 H4.length c4 bo4 (endT M3 ((sprL M3 s half).getD 0 zP)).lost.length d4), .int .i64 ((i3 + 1 : Nat) : Int)] : List Value).getD kz undef), rfl, rfl, by omega, hM3.endp _, hS3.trans (endL_sub _ _), by omega, GG, kt, HTt, kg1⟩
        · have hsp : (sprL M3 s half) = [] := List.eq_nil_of_length_eq_zero (by have := of_decide_eq_true hz; omega)
          refine s_val 69 rfl rfl (.bool true) (run_eq_k 3 .i64 _ _ _ rfl Tryz.underlying3 (((sprL M3 s half).length : Nat) : Int) 0 rfl rfl true hz _) ?_
          refine nr ?_; intro U h; simp only [z0, z1] at h; subst h
          refine wpList_nil ?_
          refine then_n ?_
          refine wp_cond_true rfl ?_
          refine wp_exit ?_
          refine then_x ?_
          refine blk_xn (by decide) ?_
          refine then_x ?_
          refine then_x ?_
          refine blk_x ?_
          refine then_n ?_
          refine wp_seq ?_
          have hfl := frd_len M3 s
          have hwl := want_le s (frdL M3 s) half hfl
          refine wp_region_lit ?_
          refine s_val 76 rfl rfl (.pointer (some ⟨t, 0, none⟩)) (rfl) ?_
          refine nr ?_; intro U h; simp only [z0, z1] at h; subst h
          refine s_val 77 rfl rfl (.agg (idA s)) (ldI0 _ rfl g1 rfl (kg1)) ?_
          refine nr ?_; intro U h; simp only [z0, z1] at h; subst h
          refine s_callx 78 rfl rfl _ 10 Tryz.call10 rfl rfl _ rfl [.pointer (some ⟨t, 0, none⟩), .agg (idA s)] rfl (fri_any _ t b 128 M3 (kt) (HTt) hM3.ris (by omega) s hs) (by rintro _ _ ⟨_, _, he, _⟩; exact ⟨_, he⟩) ?_
          rintro v w7 ⟨ao4, cap4, he, G, HC4⟩
          cases he
          replace kt := G.has kt
          replace kg1 := G.has kg1
          replace HTt := HTt.gro G
          replace HQ3 := HQ3.gro G
          replace GG := GG.trans G
          clear G
          refine nr ?_; intro U h; simp only [z0, z1] at h; subst h
          refine s_val 17 rfl rfl (.slice ao4 (frdL M3 s).length cap4) (rfl) ?_
          refine nr ?_; intro U h; simp only [z0, z1] at h; subst h
          refine wpList_nil ?_
          refine then_n ?_
          refine wp_seq ?_
          refine wp_region_opq ?_
          intro OPS hY
          have y6 := hY 6 85 rfl
          have y12 := hY 12 91 rfl
          have y20 := hY 20 99 rfl
          clear hY
          refine s_val 79 rfl rfl (.pointer (some ⟨t, 0, none⟩)) (rfl) ?_
          refine nr ?_; intro U h; simp only [z0, z1] at h; subst h
          refine s_val 80 rfl rfl (.agg (idA s)) (ldI0 _ rfl g1 rfl (kg1)) ?_
          refine nr ?_; intro U h; simp only [z0, z1] at h; subst h
          refine s_val 81 rfl rfl (.int .i64 half) (rfl) ?_
          refine nr ?_; intro U h; simp only [z0, z1] at h; subst h
          refine s_callx 82 rfl rfl _ 13 Tryz.call13 rfl rfl _ rfl [.pointer (some ⟨t, 0, none⟩), .agg (idA s), .int .i64 half] rfl (spa_eq _ t b 128 M3 (kt) (HTt) hM3.ris (by omega) s hs half [] hsp) (by rintro _ _ ⟨_, _, he, _⟩; exact ⟨_, he⟩) ?_
          rintro v w8 ⟨ao5, cap5, he, G, HQ5⟩
          cases he
          replace HQ5 := HQ5.re
          replace kt := G.has kt
          replace kg1 := G.has kg1
          replace HTt := HTt.gro G
          replace HQ3 := HQ3.gro G
          replace HC4 := HC4.gro G
          replace GG := GG.trans G
          clear G
          refine nr ?_; intro U h; simp only [z0, z1] at h; subst h
          refine s_val 83 rfl rfl (.int .i64 0) (run_len Tryz.underlying43 _ rfl _ _ _ rfl _) ?_
          refine nr ?_; intro U h; simp only [z0, z1] at h; subst h
          refine s_val 84 rfl rfl (.bool true) (run_eq_k 3 .i64 _ _ _ rfl Tryz.underlying3 0 0 rfl rfl true (by decide) _) ?_
          refine nr ?_; intro U h; simp only [z0, z1] at h; subst h
          refine s_val 85 rfl rfl (.bool true) (rfl) ?_
          refine nr ?_; intro U h; simp only [z0, z1] at h; subst h
          refine s_gvalY 86 rfl rfl y6 rfl (.pointer (some ⟨t, 0, none⟩)) (rfl) ?_
          refine nr ?_; intro U h; simp only [z0, z1] at h; subst h
          refine s_gcallxY 87 rfl rfl y6 rfl _ 15 Tryz.call15 rfl rfl _ rfl [.pointer (some ⟨t, 0, none⟩)] rfl (twi_eq _ t b 128 M3 (kt) (HTt) hM3.ris (by omega) [] (dst_twn hM3.ris.kn (hD2.sub hS3))) (by rintro _ _ ⟨_, _, he, _⟩; exact ⟨_, he⟩) ?_
          rintro v w9 ⟨ao6, cap6, he, G, HQ6⟩
          cases he
          replace HQ6 := HQ6.re
          replace kt := G.has kt
          replace kg1 := G.has kg1
          replace HTt := HTt.gro G
          replace HQ3 := HQ3.gro G
          replace HC4 := HC4.gro G
          replace HQ5 := HQ5.gro G
          replace GG := GG.trans G
          clear G
          refine nr ?_; intro U h; simp only [z0, z1] at h; subst h
          refine s_gvalY 88 rfl rfl y6 rfl (.int .i64 0) (run_len Tryz.underlying43 _ rfl _ _ _ rfl _) ?_
          refine nr ?_; intro U h; simp only [z0, z1] at h; subst h
          refine s_gvalY 89 rfl rfl y6 rfl (.bool true) (run_eq_k 3 .i64 _ _ _ rfl Tryz.underlying3 0 0 rfl rfl true (by decide) _) ?_
          refine nr ?_; intro U h; simp only [z0, z1] at h; subst h
          refine s_val 90 rfl rfl (.bool true) (rfl) ?_
          refine nr ?_; intro U h; simp only [z0, z1] at h; subst h
          refine s_val 91 rfl rfl (.bool true) (rfl) ?_
          refine nr ?_; intro U h; simp only [z0, z1] at h; subst h
          refine s_gvalY 92 rfl rfl y12 rfl (.pointer (some ⟨t, 0, none⟩)) (rfl) ?_
          refine nr ?_; intro U h; simp only [z0, z1] at h; subst h
          refine s_gcallxY 93 rfl rfl y12 rfl _ 20 Tryz.call20 rfl rfl _ rfl [.pointer (some ⟨t, 0, none⟩)] rfl (own_e _ t b 128 M3 (kt) (HTt) hM3.ris (by omega)) (by rintro _ _ ⟨_, _, he, _⟩; exact ⟨_, he⟩) ?_
          rintro v w10 ⟨ao7, cap7, he, G, HO7⟩
          cases he
          replace HO7 := HO7.mono GG.size
          replace kt := G.has kt
          replace kg1 := G.has kg1
          replace HTt := HTt.gro G
          replace HQ3 := HQ3.gro G
          replace HC4 := HC4.gro G
          replace HQ5 := HQ5.gro G
          replace HQ6 := HQ6.gro G
          replace GG := GG.trans G
          clear G
          have HR7 := HO7.re
          refine nr ?_; intro U h; simp only [z0, z1] at h; subst h
          refine s_gvalY 94 rfl rfl y12 rfl (.int .i64 (((ownL M3).length : Nat) : Int)) (run_len Tryz.underlying22 _ rfl _ _ _ rfl _) ?_
          refine nr ?_; intro U h; simp only [z0, z1] at h; subst h
          refine s_gvalY 95 rfl rfl y12 rfl (.slice ao4 (frdL M3 s).length cap4) (rfl) ?_
          refine nr ?_; intro U h; simp only [z0, z1] at h; subst h
          refine s_gvalY 96 rfl rfl y12 rfl (.int .i64 (((frdL M3 s).length : Nat) : Int)) (run_len Tryz.underlying39 _ rfl _ _ _ rfl _) ?_
          refine nr ?_; intro U h; simp only [z0, z1] at h; subst h
          refine s_gvalY 97 rfl rfl y12 rfl (.bool true) (run_eq_k 3 .i64 _ _ _ rfl Tryz.underlying3 (((ownL M3).length : Nat) : Int) (((frdL M3 s).length : Nat) : Int) rfl rfl true (decide_eq_true (by rw [dst_len hM3.all hM3.ris.kn (hD2.sub hS3) (hNS.sub hS3)])) _) ?_
          refine nr ?_; intro U h; simp only [z0, z1] at h; subst h
          refine s_val 98 rfl rfl (.bool true) (rfl) ?_
          refine nr ?_; intro U h; simp only [z0, z1] at h; subst h
          refine s_val 99 rfl rfl (.bool true) (rfl) ?_
          refine nr ?_; intro U h; simp only [z0, z1] at h; subst h
          refine s_gvalY 100 rfl rfl y20 rfl (.agg (idA s)) (ldI0 _ rfl g1 rfl (kg1)) ?_
          refine nr ?_; intro U h; simp only [z0, z1] at h; subst h
          refine s_gvalY 101 rfl rfl y20 rfl (.slice ao4 (frdL M3 s).length cap4) (rfl) ?_
          refine nr ?_; intro U h; simp only [z0, z1] at h; subst h
          refine s_gvalY 102 rfl rfl y20 rfl (.int .i64 half) (rfl) ?_
          refine nr ?_; intro U h; simp only [z0, z1] at h; subst h
          refine s_gcallxY 103 rfl rfl y20 rfl _ 22 Tryz.call22 rfl rfl _ rfl [.agg (idA s), .slice ao4 (frdL M3 s).length cap4, .int .i64 half] rfl (refwant_any _ ao4 cap4 (frdL M3 s) HC4.rc (by omega) s hs half) (by rintro _ _ ⟨_, _, he, _⟩; exact ⟨_, he⟩) ?_
          rintro v w11 ⟨ao8, cap8, he, G, HC8⟩
          cases he
          replace HC8 := HC8.rk
          replace kt := G.has kt
          replace kg1 := G.has kg1
          replace HTt := HTt.gro G
          replace HQ3 := HQ3.gro G
          replace HC4 := HC4.gro G
          replace HQ5 := HQ5.gro G
          replace HQ6 := HQ6.gro G
          replace HR7 := HR7.gro G
          replace HO7 := HO7.gro G
          replace GG := GG.trans G
          clear G
          refine nr ?_; intro U h; simp only [z0, z1] at h; subst h
          refine s_gvalY 104 rfl rfl y20 rfl (.slice ao4 (frdL M3 s).length cap4) (rfl) ?_
          refine nr ?_; intro U h; simp only [z0, z1] at h; subst h
          refine s_gcallvY 105 rfl rfl y20 rfl _ 9 Tryz.call9 rfl rfl _ rfl [.slice ao8 (want s (frdL M3 s) half).length cap8, .slice ao4 (frdL M3 s).length cap4] rfl (Calls.bool (same_ids _ ao8 cap8 (want s (frdL M3 s) half) HC8.rc (by omega) ao4 cap4 (frdL M3 s) HC4.rc (by omega)) (decide_eq_true (spr_want hM3.all hsp))) ?_
          intro w12 G
          replace kt := G.has kt
          replace kg1 := G.has kg1
          replace HTt := HTt.gro G
          replace HQ3 := HQ3.gro G
          replace HC4 := HC4.gro G
          replace HQ5 := HQ5.gro G
          replace HQ6 := HQ6.gro G
          replace HR7 := HR7.gro G
          replace HO7 := HO7.gro G
          replace HC8 := HC8.gro G
          replace GG := GG.trans G
          clear G
          refine nr ?_; intro U h; simp only [z0, z1] at h; subst h
          refine s_val 106 rfl rfl (.bool true) (rfl) ?_
          refine nr ?_; intro U h; simp only [z0, z1] at h; subst h
          refine s_val 6 rfl rfl (.bool true) (rfl) ?_
          refine nr ?_; intro U h; simp only [z0, z1] at h; subst h
          refine wpList_nil ?_
          refine then_n ?_
          refine wp_ret ?_
          refine bodyPost_ret (results_tmp Tryz.results4 _ _ _) rfl ?_
          exact ⟨rfl, GG⟩
    · have hi2l : i2 < (ownL M).length := by have := of_decide_eq_true hi21; omega
      refine s_val 44 rfl rfl (.bool true) (run_lssT 3 _ _ _ rfl ((i2 : Nat) : Int) (((ownL M).length : Nat) : Int) rfl rfl true hi21 _) ?_
      refine nr ?_; intro U h; simp only [z0, z1] at h; subst h
      refine wpList_nil ?_
      refine then_n ?_
      refine wp_seq ?_
      refine wp_cond_true rfl ?_
      refine wp_skip ?_
      refine then_n ?_
      refine wp_seq ?_
      refine wp_block ?_
      refine wp_seq ?_
      refine wp_region_lit ?_
      refine s_val 45 rfl rfl (.pointer (pE ao2 i2 0)) (run_ixE (HR2) _ _ rfl rfl i2 rfl (by omega)) ?_
      refine nr ?_; intro U h; simp only [z0, z1] at h; subst h
      refine s_val 46 rfl rfl (.agg (enA ((ownL M).getD i2 zE))) (run_ldE (HR2) _ rfl i2 rfl (by omega)) ?_
      refine nr ?_; intro U h; simp only [z0, z1] at h; subst h
      refine s_alloc 12 rfl rfl 33 rfl _ zero33 (enA zE) rfl ?_
      intro w6 g2 G eg2 kg2
      have bg2 := size_base GG eg2
      have dtg2 := lt_new kt eg2
      have dg1g2 := lt_new kg1 eg2
      have dHTtg2 := HTt.ne eg2
      have dHR2g2 := HR2.ne eg2
      replace kt := G.has kt
      replace kg1 := G.has kg1
      replace HTt := HTt.gro G
      replace HR2 := HR2.gro G
      replace GG := GG.trans G
      clear G
      clear eg2
      refine nr ?_; intro U h; simp only [z0, z1] at h; subst h
      refine s_store rfl rfl 33 _ _ rfl g2 0 rfl (.agg (enA ((ownL M).getD i2 zE))) rfl 33 _ kg2 (enA ((ownL M).getD i2 zE)) rfl (si33' _) (enA_fit _ _) (enA_one _) (enA ((ownL M).getD i2 zE)) (splice_whole _ _ (enA_sz _ _)) ?_
      intro w7 St
      have kS := kg2
      replace kt := St.has (by omega) kt
      replace kg1 := St.has (by omega) kg1
      replace HTt := HTt.st St dHTtg2
      replace HR2 := HR2.st St dHR2g2
      replace GG := GG.store St bg2
      replace kg2 := St.new
      clear St
      refine wpList_nil ?_
      refine then_n ?_
      refine wp_seq ?_
      refine wp_region_lit ?_
      refine s_val 48 rfl rfl (.agg (enA ((ownL M).getD i2 zE))) (ldE0 _ rfl g2 rfl (kg2)) ?_
      refine nr ?_; intro U h; simp only [z0, z1] at h; subst h
      refine s_callv 49 rfl rfl _ 21 Tryz.call21 rfl rfl _ rfl [.agg (enA ((ownL M).getD i2 zE))] rfl (other_any ((ownL M).getD i2 zE) (HR2.all.at hi2l) _) ?_
      intro w8 G
      replace kt := G.has kt
      replace kg1 := G.has kg1
      replace kg2 := G.has kg2
      replace HTt := HTt.gro G
      replace HR2 := HR2.gro G
      replace GG := GG.trans G
      clear G
      refine nr ?_; intro U h; simp only [z0, z1] at h; subst h
      refine s_val 47 rfl rfl (.tuple #[.agg (idA (othI ((ownL M).getD i2 zE))), .int .i64 (othN ((ownL M).getD i2 zE)), .bool (othB ((ownL M).getD i2 zE))]) (rfl) ?_
      refine nr ?_; intro U h; simp only [z0, z1] at h; subst h
      refine s_val 50 rfl rfl (.agg (idA (othI ((ownL M).getD i2 zE)))) (rfl) ?_
      refine nr ?_; intro U h; simp only [z0, z1] at h; subst h
      refine s_val 51 rfl rfl (.int .i64 (othN ((ownL M).getD i2 zE))) (rfl) ?_
      refine nr ?_; intro U h; simp only [z0, z1] at h; subst h
      refine s_val 52 rfl rfl (.bool (othB ((ownL M).getD i2 zE))) (rfl) ?_
      refine nr ?_; intro U h; simp only [z0, z1] at h; subst h
      refine s_alloc 13 rfl rfl 24 rfl _ zero23 (idA 0) rfl ?_
      intro w9 g3 G eg3 kg3
      have bg3 := size_base GG eg3
      have dtg3 := lt_new kt eg3
      have dg1g3 := lt_new kg1 eg3
      have dg2g3 := lt_new kg2 eg3
      have dHTtg3 := HTt.ne eg3
      have dHR2g3 := HR2.ne eg3
      replace kt := G.has kt
      replace kg1 := G.has kg1
      replace kg2 := G.has kg2
      replace HTt := HTt.gro G
      replace HR2 := HR2.gro G
      replace GG := GG.trans G
      clear G
      clear eg3
      refine nr ?_; intro U h; simp only [z0, z1] at h; subst h
      refine s_store rfl rfl 24 _ _ rfl g3 0 rfl (.agg (idA (othI ((ownL M).getD i2 zE)))) rfl 24 _ kg3 (idA (othI ((ownL M).getD i2 zE))) rfl (size23' _) (idA_fit _ _) (idA_one _) (idA (othI ((ownL M).getD i2 zE))) (splice_whole _ _ (idA_sz _ _)) ?_
      intro w10 St
      have kS := kg3
      replace kt := St.has (by omega) kt
      replace kg1 := St.has (by omega) kg1
      replace kg2 := St.has (by omega) kg2
      replace HTt := HTt.st St dHTtg3
      replace HR2 := HR2.st St dHR2g3
      replace GG := GG.store St bg3
      replace kg3 := St.new
      clear St
      refine s_val 14 rfl rfl (.int .i64 (othN ((ownL M).getD i2 zE))) (rfl) ?_
      refine nr ?_; intro U h; simp only [z0, z1] at h; subst h
      refine s_val 15 rfl rfl (.bool (othB ((ownL M).getD i2 zE))) (rfl) ?_
      refine nr ?_; intro U h; simp only [z0, z1] at h; subst h
      refine wpList_nil ?_
      refine then_n ?_
      refine wp_seq ?_
      refine wp_region_lit ?_
      refine s_val 53 rfl rfl (.agg (idA (othI ((ownL M).getD i2 zE)))) (ldI0 _ rfl g3 rfl (kg3)) ?_
      refine nr ?_; intro U h; simp only [z0, z1] at h; subst h
      refine s_val 54 rfl rfl (.agg (idA s)) (ldI0 _ rfl g1 rfl (kg1)) ?_
      refine nr ?_; intro U h; simp only [z0, z1] at h; subst h
      cases hq : decide ((othI ((ownL M).getD i2 zE)) = s)
      · refine s_val 55 rfl rfl (.bool false) (run_eqI _ _ _ rfl _ _ rfl rfl (othI_ok (HR2.all.at (by omega))) hs false hq) ?_
        refine nr ?_; intro U h; simp only [z0, z1] at h; subst h
        refine wpList_nil ?_
        refine then_n ?_
        refine wp_cond_false rfl ?_
        refine wp_skip ?_
        refine blk_n ?_
        refine then_n ?_
        refine wp_region_lit ?_
        refine s_val 60 rfl rfl (.int .i64 ((i2 + 1 : Nat) : Int)) (run_addI 3 _ _ _ rfl ((i2 : Nat) : Int) 1 ((i2 + 1 : Nat) : Int) rfl rfl (by omega) (by omega) (by omega) _) ?_
        refine nr ?_; intro U h; simp only [z0, z1] at h; subst h
        refine s_val 43 rfl rfl (.int .i64 ((i2 + 1 : Nat) : Int)) (rfl) ?_
        refine nr ?_; intro U h; simp only [z0, z1] at h; subst h
        refine wpList_nil ?_
        refine then_n ?_
        exact ⟨(ownL M).length + 1 - (i2 + 1), by omega, i2 + 1, M2, (fun kz => ([.pointer (some ⟨g2, 0, none⟩), .pointer (some ⟨g3, 0, none⟩), .int .i64 (othN ((ownL M).getD i2 zE)), .bool (othB ((ownL M).getD i2 zE)), .bool true, .pointer (pE ao2 i2 0), .agg (enA ((ownL M).getD i2 zE)), .tuple #[.agg (idA (othI ((ownL M).getD i2 zE))), .int .i64 (othN ((ownL M).getD i2 zE)), .bool (othB ((ownL M).getD i2 zE))], .agg (enA ((ownL M).getD i2 zE)), .tuple #[.agg (idA (othI ((ownL M).getD i2 zE))), .int .i64 (othN ((ownL M).getD i2 zE)), .bool (othB ((ownL M).getD i2 zE))], .agg (idA (othI ((ownL M).getD i2 zE))), .int .i64 (othN ((ownL M).getD i2 zE)), .bool (othB ((ownL M).getD i2 zE)), .agg (idA (othI ((ownL M).getD i2 zE))), .agg (idA s), .bool false, us2 16, us2 17, us2 18, us2 19, .int .i64 ((i2 + 1 : Nat) : Int)] : List Value).getD kz undef), rfl, rfl, by omega, hM2, hS2, no_keep hi2l hq hX2, GG, kt, HTt, kg1, HR2⟩
      · refine s_val 55 rfl rfl (.bool true) (run_eqI _ _ _ rfl _ _ rfl rfl (othI_ok (HR2.all.at (by omega))) hs true hq) ?_
        refine nr ?_; intro U h; simp only [z0, z1] at h; subst h
        refine wpList_nil ?_
        refine then_n ?_
        refine wp_cond_true rfl ?_
        refine wp_region_lit ?_
        refine s_val 56 rfl rfl (.pointer (some ⟨t, 0, none⟩)) (rfl) ?_
        refine nr ?_; intro U h; simp only [z0, z1] at h; subst h
        refine s_val 57 rfl rfl (.pointer (some ⟨g2, 0, none⟩)) (run_fld 33 _ 0 rfl g2 0 rfl 0 (by kernel_rfl)) ?_
        refine nr ?_; intro U h; simp only [z0, z1] at h; subst h
        refine s_val 58 rfl rfl (.agg (paA ((ownL M).getD i2 zE).p)) (ldEp _ rfl g2 rfl (kg2)) ?_
        refine nr ?_; intro U h; simp only [z0, z1] at h; subst h
        refine s_callx 59 rfl rfl _ 19 Tryz.call19 rfl rfl _ rfl [.pointer (some ⟨t, 0, none⟩), .agg (paA ((ownL M).getD i2 zE).p)] rfl (end_any _ t b 128 M2 (kt) (HTt) hM2.rgt ((ownL M).getD i2 zE).p (HR2.all.at (by omega)).p) (by rintro _ _ ⟨_, _, _, _, _, he, _⟩; exact ⟨_, he⟩) ?_
        rintro v w11 ⟨ao3, c3, H3, bo3, d3, he, HN3, HT2, G2⟩
        cases he
        replace HN3 := HN3.mono GG.size
        replace kt := G2.has kt (by simpa using HTt.nec kt)
        replace kg1 := G2.has kg1 (by simpa using HTt.nec kg1)
        replace kg2 := G2.has kg2 (by simpa using HTt.nec kg2)
        replace kg3 := G2.has kg3 (by simpa using HTt.nec kg3)
        replace HR2 := HR2.mapw HTt G2
        replace GG := G2.gro GG (by simpa using bb)
        clear HTt G2
        have HTt := HT2
        clear HT2
        refine nr ?_; intro U h; simp only [z0, z1] at h; subst h
        refine wpList_nil ?_
        refine blk_n ?_
        refine then_n ?_
        refine wp_region_lit ?_
        refine s_val 60 rfl rfl (.int .i64 ((i2 + 1 : Nat) : Int)) (run_addI 3 _ _ _ rfl ((i2 : Nat) : Int) 1 ((i2 + 1 : Nat) : Int) rfl rfl (by omega) (by omega) (by omega) _) ?_
        refine nr ?_; intro U h; simp only [z0, z1] at h; subst h
        refine s_val 43 rfl rfl (.int .i64 ((i2 + 1 : Nat) : Int)) (rfl) ?_
        refine nr ?_; intro U h; simp only [z0, z1] at h; subst h
        refine wpList_nil ?_
        refine then_n ?_
        exact ⟨(ownL M).length + 1 - (i2 + 1), by omega, i2 + 1, endL M2 ((ownL M).getD i2 zE).p, (fun kz => ([.pointer (some ⟨g2, 0, none⟩), .pointer (some ⟨g3, 0, none⟩), .int .i64 (othN ((ownL M).getD i2 zE)), .bool (othB ((ownL M).getD i2 zE)), .bool true, .pointer (pE ao2 i2 0), .agg (enA ((ownL M).getD i2 zE)), .tuple #[.agg (idA (othI ((ownL M).getD i2 zE))), .int .i64 (othN ((ownL M).getD i2 zE)), .bool (othB ((ownL M).getD i2 zE))], .agg (enA ((ownL M).getD i2 zE)), .tuple #[.agg (idA (othI ((ownL M).getD i2 zE))), .int .i64 (othN ((ownL M).getD i2 zE)), .bool (othB ((ownL M).getD i2 zE))], .agg (idA (othI ((ownL M).getD i2 zE))), .int .i64 (othN ((ownL M).getD i2 zE)), .bool (othB ((ownL M).getD i2 zE)), .agg (idA (othI ((ownL M).getD i2 zE))), .agg (idA s), .bool true, .pointer (some ⟨t, 0, none⟩), .pointer (some ⟨g2, 0, none⟩), .agg (paA ((ownL M).getD i2 zE).p), .agg (tnA ao3 H3.length c3 bo3 (endT M2 ((ownL M).getD i2 zE).p).lost.length d3), .int .i64 ((i2 + 1 : Nat) : Int)] : List Value).getD kz undef), rfl, rfl, by omega, hM2.endp _, hS2.trans (endL_sub _ _), no_next hMT.ris.kn hM2.ris.kn hS2 hi2l hX2, GG, kt, HTt, kg1, HR2⟩
  · have hil : i < (twnL L).length := by have := of_decide_eq_true hi1; omega
    refine s_val 33 rfl rfl (.bool true) (run_lssT 3 _ _ _ rfl ((i : Nat) : Int) (((twnL L).length : Nat) : Int) rfl rfl true hi1 _) ?_
    refine nr ?_; intro U h; simp only [z0, z1] at h; subst h
    refine wpList_nil ?_
    refine then_n ?_
    refine wp_seq ?_
    refine wp_cond_true rfl ?_
    refine wp_skip ?_
    refine then_n ?_
    refine wp_seq ?_
    refine wp_block ?_
    refine wp_seq ?_
    refine wp_region_lit ?_
    refine s_val 34 rfl rfl (.pointer (pK kP ao1 i 0)) (run_ixK rP (HQ1) _ _ rfl rfl i rfl (by omega)) ?_
    refine nr ?_; intro U h; simp only [z0, z1] at h; subst h
    refine s_val 35 rfl rfl (.agg (paA ((twnL L).getD i zP))) (run_ldPp (HQ1) _ rfl i rfl (by omega)) ?_
    refine nr ?_; intro U h; simp only [z0, z1] at h; subst h
    refine s_alloc 10 rfl rfl 31 rfl _ zvP (paA zP) rfl ?_
    intro w5 g2 G eg2 kg2
    have bg2 := size_base GG eg2
    have dtg2 := lt_new kt eg2
    have dg1g2 := lt_new kg1 eg2
    have dHTtg2 := HTt.ne eg2
    have dHQ1g2 := HQ1.ne eg2
    replace kt := G.has kt
    replace kg1 := G.has kg1
    replace HTt := HTt.gro G
    replace HQ1 := HQ1.gro G
    replace GG := GG.trans G
    clear G
    clear eg2
    refine nr ?_; intro U h; simp only [z0, z1] at h; subst h
    refine s_store rfl rfl 31 _ _ rfl g2 0 rfl (.agg (paA ((twnL L).getD i zP))) rfl 31 _ kg2 (paA ((twnL L).getD i zP)) rfl (si31' _) (paA_fit _ _) (paA_one _) (paA ((twnL L).getD i zP)) (splice_whole _ _ (paA_sz _ _)) ?_
    intro w6 St
    have kS := kg2
    replace kt := St.has (by omega) kt
    replace kg1 := St.has (by omega) kg1
    replace HTt := HTt.st St dHTtg2
    replace HQ1 := HQ1.st St dHQ1g2
    replace GG := GG.store St bg2
    replace kg2 := St.new
    clear St
    refine wpList_nil ?_
    refine then_n ?_
    refine wp_region_lit ?_
    refine s_val 36 rfl rfl (.pointer (some ⟨t, 0, none⟩)) (rfl) ?_
    refine nr ?_; intro U h; simp only [z0, z1] at h; subst h
    refine s_val 37 rfl rfl (.agg (paA ((twnL L).getD i zP))) (ldP0 _ rfl g2 rfl (kg2)) ?_
    refine nr ?_; intro U h; simp only [z0, z1] at h; subst h
    refine s_callx 38 rfl rfl _ 19 Tryz.call19 rfl rfl _ rfl [.pointer (some ⟨t, 0, none⟩), .agg (paA ((twnL L).getD i zP))] rfl (end_any _ t b 128 M (kt) (HTt) hMT.rgt ((twnL L).getD i zP) (HQ1.at hil)) (by rintro _ _ ⟨_, _, _, _, _, he, _⟩; exact ⟨_, he⟩) ?_
    rintro v w7 ⟨ao2, c2, H2, bo2, d2, he, HN2, HT2, G2⟩
    cases he
    replace HN2 := HN2.mono GG.size
    replace kt := G2.has kt (by simpa using HTt.nec kt)
    replace kg1 := G2.has kg1 (by simpa using HTt.nec kg1)
    replace kg2 := G2.has kg2 (by simpa using HTt.nec kg2)
    replace HQ1 := HQ1.mapw HTt G2
    replace GG := G2.gro GG (by simpa using bb)
    clear HTt G2
    have HTt := HT2
    clear HT2
    refine nr ?_; intro U h; simp only [z0, z1] at h; subst h
    refine wpList_nil ?_
    refine blk_n ?_
    refine then_n ?_
    refine wp_region_lit ?_
    refine s_val 39 rfl rfl (.int .i64 ((i + 1 : Nat) : Int)) (run_addI 3 _ _ _ rfl ((i : Nat) : Int) 1 ((i + 1 : Nat) : Int) rfl rfl (by omega) (by omega) (by omega) _) ?_
    refine nr ?_; intro U h; simp only [z0, z1] at h; subst h
    refine s_val 32 rfl rfl (.int .i64 ((i + 1 : Nat) : Int)) (rfl) ?_
    refine nr ?_; intro U h; simp only [z0, z1] at h; subst h
    refine wpList_nil ?_
    refine then_n ?_
    exact ⟨(twnL L).length + 1 - (i + 1), by omega, i + 1, endL M ((twnL L).getD i zP), (fun kz => ([.pointer (some ⟨g2, 0, none⟩), .bool true, .pointer (pK kP ao1 i 0), .agg (paA ((twnL L).getD i zP)), .pointer (some ⟨t, 0, none⟩), .agg (paA ((twnL L).getD i zP)), .agg (tnA ao2 H2.length c2 bo2 (endT M ((twnL L).getD i zP)).lost.length d2), .int .i64 ((i + 1 : Nat) : Int)] : List Value).getD kz undef), rfl, rfl, by omega, hMT.endp _, hMs.trans (endL_sub _ _), tw_next hTI.ris.kn hMT.ris.kn hMs hil hMx, GG, kt, HTt, kg1, HQ1⟩
end Go.Proofs.YtmpnepbmpmkmkaaGreat
