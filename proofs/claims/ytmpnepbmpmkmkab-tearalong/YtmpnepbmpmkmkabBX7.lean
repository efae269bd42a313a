/- The chapter's example; what the program tells is the document's. -/
import Derived.Test.YtmpnepbmpmkmkabBX6
namespace Go.Proofs.Ytmpnepbmpmkmkab
open Go.RowKit Go.Maps
def fp1 : Pa := ⟨0, 1⟩
def fp2 : Pa := ⟨0, 2⟩
def fx1 : En := ⟨fp1, 0, i1 1, 0, 2⟩
def fx2 : En := ⟨fp2, 0, i1 1, -1, 0⟩
theorem fx1_ok : fx1.ok := ⟨⟨by decide, by decide, by decide⟩, by decide, by decide, ⟨by decide, by decide⟩, ⟨by decide, by decide⟩⟩
theorem fx2_ok : fx2.ok := ⟨⟨by decide, by decide, by decide⟩, by decide, by decide, ⟨by decide, by decide⟩, ⟨by decide, by decide⟩⟩
theorem fx_all : AllE [fx1, fx2] := fun x hx => by
  simp only [List.mem_cons, List.not_mem_nil, or_false] at hx
  rcases hx with rfl | rfl
  · exact fx1_ok
  · exact fx2_ok
theorem fx_rg : Rg [fx1, fx2] := fun x hx => by
  simp only [List.mem_cons, List.not_mem_nil, or_false] at hx
  rcases hx with rfl | rfl
  · rfl
  · rfl
theorem fx_lay : layR 128 [fx1, fx2] = [fx1, fx2] := by kernel_rfl
theorem fx_ris : Ris [fx1, fx2] := by rw [← fx_lay]; exact (layR_ti fx_all).ris
theorem bdE4 (p : Pa) (b : Nat) (na nb : Int) (w : World) : (Instr.build 39 #[(0, .agg (paA p)), (2, .agg (idA b)), (3, .int .i64 na), (4, .int .i64 nb)]).run Try.prog w = .ok (.agg (enA ⟨p, 0, b, na, nb⟩)) w := by kernel_rfl
theorem laid_eq (w : World) (ao0 : Option Addr) (cap0 : Nat) (l L2 : List En) (H : RE w ao0 cap0 l) (hl : l.length ≤ maxLen) (h : layR 128 l = L2) : Calls Try.prog 12 #[.slice ao0 l.length cap0] w (LaidQ w L2) := by
  subst h
  exact laid_any w ao0 cap0 l H hl
theorem drop_eq (w : World) (t b room : Nat) (L : List En) (kt : w.heap[t]? = some (.cells (tbA room b) 69 (0, 0))) (HT : TM w b L) (hr : Rg L) (fr : Int) (p : Pa) (hp : p.ok) (T : Tn) (L2 : List En) (hT : drpT L fr p = T) (hL : drpL L fr p = L2) : Calls Try.prog 8 #[.pointer (some ⟨t, 0, none⟩), .int .i64 fr, .agg (paA p)] w (TornT w b T L2) := by
  subst hT hL
  exact drop_any w t b room L kt HT hr fr p hp
theorem dead_eq (w : World) (t b room : Nat) (L : List En) (kt : w.heap[t]? = some (.cells (tbA room b) 69 (0, 0))) (HT : TM w b L) (hr : Rg L) (hris : Ris L) (hlen : L.length ≤ 1000) (n : Int) (T : Tn) (L2 : List En) (hT : deadT L n = T) (hL : deadL L n = L2) : Calls Try.prog 6 #[.pointer (some ⟨t, 0, none⟩), .int .i64 n] w (TornT w b T L2) := by
  subst hT hL
  exact dead_any w t b room L kt HT hr hris hlen n
set_option maxRecDepth 100000 in
set_option maxHeartbeats 4000000 in
theorem fixed_any (w : World) : Calls Try.prog 5 #[] w (fun e w' => e = .returned (.bool true) ∧ Gro w w') := by
  refine s_enter Try.func5 rfl Try.ntmps5 [] [undef, undef, undef, undef, undef, undef, undef, undef, undef, undef, undef, undef, undef, undef, undef, undef, undef, undef, undef, undef, undef, undef, undef, undef, undef, undef, undef, undef, undef, undef, undef, undef, undef, undef, undef, undef, undef, undef, undef, undef, undef, undef, undef, undef, undef, undef, undef, undef, undef, undef, undef, undef, undef, undef, undef, undef, undef, undef, undef, undef, undef, undef, undef, undef, undef, undef, undef, undef, undef, undef, undef, undef, undef, undef] rfl ?_
  have GG := Gro.refl w
  refine wp_seq ?_
  refine wp_region_lit ?_
  refine s_val 0 rfl rfl (.bool false) (rfl) ?_
  refine nr ?_; intro U h; simp only [z0] at h; subst h
  refine wpList_nil ?_
  refine then_n ?_
  refine wp_seq ?_
  refine wp_region_lit ?_
  refine s_val 6 rfl rfl (.agg (paA fp1)) (run_bd 26 _ rfl [(1, .int .i64 1)] rfl _ (bdP1 _ _)) ?_
  refine nr ?_; intro U h; simp only [z0, z1] at h; subst h
  refine s_val 7 rfl rfl (.agg (idA (i1 1))) (run_bd 24 _ rfl [(0, .int .u8 1)] rfl _ (by kernel_rfl)) ?_
  refine nr ?_; intro U h; simp only [z0, z1] at h; subst h
  refine s_val 8 rfl rfl (.agg (enA fx1)) (run_bd 39 _ rfl [(0, .agg (paA fp1)), (2, .agg (idA (i1 1))), (3, .int .i64 0), (4, .int .i64 2)] rfl _ (bdE4 _ _ _ _ _)) ?_
  refine nr ?_; intro U h; simp only [z0, z1] at h; subst h
  refine s_val 9 rfl rfl (.agg (paA fp2)) (run_bd 26 _ rfl [(1, .int .i64 2)] rfl _ (bdP1 _ _)) ?_
  refine nr ?_; intro U h; simp only [z0, z1] at h; subst h
  refine s_val 10 rfl rfl (.agg (idA (i1 1))) (run_bd 24 _ rfl [(0, .int .u8 1)] rfl _ (by kernel_rfl)) ?_
  refine nr ?_; intro U h; simp only [z0, z1] at h; subst h
  refine s_val 11 rfl rfl (.agg (enA fx2)) (run_bd 39 _ rfl [(0, .agg (paA fp2)), (2, .agg (idA (i1 1))), (3, .int .i64 (-1)), (4, .int .i64 0)] rfl _ (bdE4 _ _ _ _ _)) ?_
  refine nr ?_; intro U h; simp only [z0, z1] at h; subst h
  refine s_bsl 12 rfl rfl 63 2 _ rfl [(0, .agg (enA fx1)), (1, .agg (enA fx2))] rfl (flE [fx1, fx2]).toArray 39 (by kernel_rfl) ?_
  intro w1 q1 G eq1 kq1
  replace GG := GG.trans G
  clear G
  have HR1 : RE _ (some ⟨q1, 0, none⟩) ([fx1, fx2] : List En).length [fx1, fx2] := RE.blk kq1 fx_all (Nat.le_refl _)
  clear eq1
  refine nr ?_; intro U h; simp only [z0, z1] at h; subst h
  refine s_callx 13 rfl rfl _ 12 Try.call12 rfl rfl _ rfl [.slice (some ⟨q1, 0, none⟩) 2 2] rfl (laid_eq _ _ 2 [fx1, fx2] [fx1, fx2] HR1 (by rw [maxL]; exact Nat.le_of_ble_eq_true rfl) fx_lay) (by rintro _ _ ⟨_, _, _, _, _, he, _⟩; exact ⟨_, he⟩) ?_
  rintro v w2 ⟨t, b, r, ra, rc, he, G, kt, HTt, kr, HL, h1t, h1b, h1r⟩
  cases he
  have bt := Nat.le_trans GG.size h1t
  have bb := Nat.le_trans GG.size h1b
  have br := Nat.le_trans GG.size h1r
  clear h1t h1b h1r
  replace GG := GG.trans G
  clear G
  refine nr ?_; intro U h; simp only [z0, z1] at h; subst h
  have ntr : t ≠ r := fun e => ne_cells kt kr (by decide) (by simp [e])
  refine s_val 5 rfl rfl (.tuple #[.pointer (some ⟨t, 0, none⟩), .pointer (some ⟨r, 0, none⟩)]) (rfl) ?_
  refine nr ?_; intro U h; simp only [z0, z1] at h; subst h
  refine s_val 14 rfl rfl (.pointer (some ⟨t, 0, none⟩)) (rfl) ?_
  refine nr ?_; intro U h; simp only [z0, z1] at h; subst h
  refine s_val 15 rfl rfl (.pointer (some ⟨r, 0, none⟩)) (rfl) ?_
  refine nr ?_; intro U h; simp only [z0, z1] at h; subst h
  refine s_val 1 rfl rfl (.pointer (some ⟨t, 0, none⟩)) (rfl) ?_
  refine nr ?_; intro U h; simp only [z0, z1] at h; subst h
  refine s_val 2 rfl rfl (.pointer (some ⟨r, 0, none⟩)) (rfl) ?_
  refine nr ?_; intro U h; simp only [z0, z1] at h; subst h
  refine wpList_nil ?_
  refine then_n ?_
  refine wp_seq ?_
  refine wp_seq ?_
  refine wp_region_lit ?_
  refine s_val 16 rfl rfl (.pointer (some ⟨t, 0, none⟩)) (rfl) ?_
  refine nr ?_; intro U h; simp only [z0, z1] at h; subst h
  refine s_val 17 rfl rfl (.bool false) (run_eqnp 37 _ _ _ rfl _ rfl rfl Try.underlying37 _) ?_
  refine nr ?_; intro U h; simp only [z0, z1] at h; subst h
  refine wpList_nil ?_
  refine then_n ?_
  refine wp_cond_false rfl ?_
  refine wp_skip ?_
  refine then_n ?_
  refine wp_seq ?_
  refine wp_region_lit ?_
  refine s_val 18 rfl rfl (.pointer (some ⟨t, 0, none⟩)) (rfl) ?_
  refine nr ?_; intro U h; simp only [z0, z1] at h; subst h
  refine s_val 19 rfl rfl (.agg (paA fp1)) (run_bd 26 _ rfl [(1, .int .i64 1)] rfl _ (bdP1 _ _)) ?_
  refine nr ?_; intro U h; simp only [z0, z1] at h; subst h
  refine s_callx 20 rfl rfl _ 8 Try.call8 rfl rfl _ rfl [.pointer (some ⟨t, 0, none⟩), .int .i64 4, .agg (paA fp1)] rfl (drop_eq _ t b 128 ([fx1, fx2]) (kt) (HTt) fx_rg 4 fp1 fx1_ok.p tn0 [fx1, fx2] (by kernel_rfl) (by kernel_rfl)) (by rintro _ _ ⟨_, _, _, _, _, he, _⟩; exact ⟨_, he⟩) ?_
  rintro v w3 ⟨ao2, c2, H2, bo2, d2, he, HN2, HT2, G2⟩
  cases he
  replace HN2 := HN2.mono GG.size
  replace kt := G2.has kt (by simpa using HTt.nec kt)
  replace kr := G2.has kr (by simpa using HTt.nec kr)
  replace HL := HL.mapw HTt G2
  replace GG := G2.gro GG (by simpa using bb)
  clear HTt G2
  have HTt := HT2
  clear HT2
  refine nr ?_; intro U h; simp only [z0, z1] at h; subst h
  obtain rfl := List.map_eq_nil_iff.1 HN2.eq
  refine s_alloc 3 rfl rfl 35 rfl _ zvT (tnA none 0 0 none 0 0) rfl ?_
  intro w4 g1 G eg1 kg1
  have bg1 := size_base GG eg1
  have dtg1 := lt_new kt eg1
  have drg1 := lt_new kr eg1
  have dHTtg1 := HTt.ne eg1
  have dHLg1 := HL.ne eg1
  replace kt := G.has kt
  replace kr := G.has kr
  replace HTt := HTt.gro G
  replace HL := HL.gro G
  replace HN2 := HN2.gro G
  replace GG := GG.trans G
  clear G
  clear eg1
  refine nr ?_; intro U h; simp only [z0, z1] at h; subst h
  refine s_store rfl rfl 35 _ _ rfl g1 0 rfl (.agg (tnA ao2 0 c2 bo2 0 d2)) rfl 35 _ kg1 (tnA ao2 0 c2 bo2 0 d2) rfl (siT) (Nat.le_refl _) (oneT _ _ _ _ _ _) (tnA ao2 0 c2 bo2 0 d2) (splice_whole _ _ (rfl)) ?_
  intro w5 St
  have kS := kg1
  replace kt := St.has (by omega) kt
  replace kr := St.has (by omega) kr
  replace HTt := HTt.st St dHTtg1
  replace HL := HL.st St dHLg1
  replace HN2 := HN2.st St kS (by decide) (by decide)
  replace GG := GG.store St bg1
  replace kg1 := St.new
  clear St
  refine wpList_nil ?_
  refine then_n ?_
  refine wp_seq ?_
  refine wp_region_lit ?_
  refine s_val 21 rfl rfl (.pointer (some ⟨t, 0, none⟩)) (rfl) ?_
  refine nr ?_; intro U h; simp only [z0, z1] at h; subst h
  refine s_callx 22 rfl rfl _ 6 Try.call6 rfl rfl _ rfl [.pointer (some ⟨t, 0, none⟩), .int .i64 0] rfl (dead_eq _ t b 128 ([fx1, fx2]) (kt) (HTt) fx_rg fx_ris (Nat.le_of_ble_eq_true rfl) 0 ⟨[(2, fp1)], [fp2]⟩ [] (by kernel_rfl) (by kernel_rfl)) (by rintro _ _ ⟨_, _, _, _, _, he, _⟩; exact ⟨_, he⟩) ?_
  rintro v w6 ⟨ao3, c3, H3, bo3, d3, he, HN3, HT2, G2⟩
  cases he
  replace HN3 := HN3.mono GG.size
  replace kt := G2.has kt (by simpa using HTt.nec kt)
  replace kr := G2.has kr (by simpa using HTt.nec kr)
  replace kg1 := G2.has kg1 (by simpa using HTt.nec kg1)
  replace HL := HL.mapw HTt G2
  replace HN2 := HN2.mapw HTt G2
  replace GG := G2.gro GG (by simpa using bb)
  clear HTt G2
  have HTt := HT2
  clear HT2
  refine nr ?_; intro U h; simp only [z0, z1] at h; subst h
  obtain ⟨h9, rfl, hk9⟩ := map_one HN3.eq
  have hk1 : h9.n = 2 := congrArg Prod.fst hk9
  have hk2 : h9.p.n = 1 := congrArg (fun z => z.2.n) hk9
  refine s_alloc 4 rfl rfl 35 rfl _ zvT (tnA none 0 0 none 0 0) rfl ?_
  intro w7 g2 G eg2 kg2
  have bg2 := size_base GG eg2
  have dtg2 := lt_new kt eg2
  have drg2 := lt_new kr eg2
  have dg1g2 := lt_new kg1 eg2
  have dHTtg2 := HTt.ne eg2
  have dHLg2 := HL.ne eg2
  replace kt := G.has kt
  replace kr := G.has kr
  replace kg1 := G.has kg1
  replace HTt := HTt.gro G
  replace HL := HL.gro G
  replace HN2 := HN2.gro G
  replace HN3 := HN3.gro G
  replace GG := GG.trans G
  clear G
  clear eg2
  refine nr ?_; intro U h; simp only [z0, z1] at h; subst h
  refine s_store rfl rfl 35 _ _ rfl g2 0 rfl (.agg (tnA ao3 ([h9]).length c3 bo3 ([fp2]).length d3)) rfl 35 _ kg2 (tnA ao3 ([h9]).length c3 bo3 ([fp2]).length d3) rfl (siT) (Nat.le_refl _) (oneT _ _ _ _ _ _) (tnA ao3 ([h9]).length c3 bo3 ([fp2]).length d3) (splice_whole _ _ (rfl)) ?_
  intro w8 St
  have kS := kg2
  replace kt := St.has (by omega) kt
  replace kr := St.has (by omega) kr
  replace kg1 := St.has (by omega) kg1
  replace HTt := HTt.st St dHTtg2
  replace HL := HL.st St dHLg2
  replace HN2 := HN2.st St kS (by decide) (by decide)
  replace HN3 := HN3.st St kS (by decide) (by decide)
  replace GG := GG.store St bg2
  replace kg2 := St.new
  clear St
  refine wpList_nil ?_
  refine then_n ?_
  refine wp_seq ?_
  refine wp_region_opq ?_
  intro OPS hY
  have y8 := hY 8 31 rfl
  have y14 := hY 14 37 rfl
  have y22 := hY 22 45 rfl
  have y32 := hY 32 55 rfl
  have y38 := hY 38 61 rfl
  have y46 := hY 46 69 rfl
  clear hY
  refine s_val 23 rfl rfl (.pointer (some ⟨g1, 0, none⟩)) (run_fld 35 _ 0 rfl g1 0 rfl 0 (by kernel_rfl)) ?_
  refine nr ?_; intro U h; simp only [z0, z1] at h; subst h
  refine s_val 24 rfl rfl (.slice ao2 0 c2) (ldT_o _ rfl g1 rfl (kg1)) ?_
  refine nr ?_; intro U h; simp only [z0, z1] at h; subst h
  refine s_val 25 rfl rfl (.int .i64 0) (run_len Try.underlying32 _ rfl _ _ _ rfl _) ?_
  refine nr ?_; intro U h; simp only [z0, z1] at h; subst h
  refine s_val 26 rfl rfl (.pointer (some ⟨g1, 1, none⟩)) (run_fld 35 _ 1 rfl g1 0 rfl 1 (by kernel_rfl)) ?_
  refine nr ?_; intro U h; simp only [z0, z1] at h; subst h
  refine s_val 27 rfl rfl (.slice bo2 0 d2) (ldT_l _ rfl g1 rfl (kg1)) ?_
  refine nr ?_; intro U h; simp only [z0, z1] at h; subst h
  refine s_val 28 rfl rfl (.int .i64 0) (run_len Try.underlying33 _ rfl _ _ _ rfl _) ?_
  refine nr ?_; intro U h; simp only [z0, z1] at h; subst h
  refine s_val 29 rfl rfl (.int .i64 0) (run_addI 3 _ _ _ rfl 0 0 0 rfl rfl (by omega) (by omega) (by omega) _) ?_
  refine nr ?_; intro U h; simp only [z0, z1] at h; subst h
  refine s_val 30 rfl rfl (.bool true) (run_eq_k 3 .i64 _ _ _ rfl Try.underlying3 0 0 rfl rfl true (by decide) _) ?_
  refine nr ?_; intro U h; simp only [z0, z1] at h; subst h
  refine s_val 31 rfl rfl (.bool true) (rfl) ?_
  refine nr ?_; intro U h; simp only [z0, z1] at h; subst h
  refine s_gvalY 32 rfl rfl y8 rfl (.pointer (some ⟨g2, 0, none⟩)) (run_fld 35 _ 0 rfl g2 0 rfl 0 (by kernel_rfl)) ?_
  refine nr ?_; intro U h; simp only [z0, z1] at h; subst h
  refine s_gvalY 33 rfl rfl y8 rfl (.slice ao3 ([h9]).length c3) (ldT_o _ rfl g2 rfl (kg2)) ?_
  refine nr ?_; intro U h; simp only [z0, z1] at h; subst h
  refine s_gvalY 34 rfl rfl y8 rfl (.int .i64 ((([h9]).length : Nat) : Int)) (run_len Try.underlying32 _ rfl _ _ _ rfl _) ?_
  refine nr ?_; intro U h; simp only [z0, z1] at h; subst h
  refine s_gvalY 35 rfl rfl y8 rfl (.bool true) (run_eq_k 3 .i64 _ _ _ rfl Try.underlying3 ((([h9] : List Hp).length : Nat) : Int) 1 rfl rfl true (decide_eq_true rfl) _) ?_
  refine nr ?_; intro U h; simp only [z0, z1] at h; subst h
  refine s_val 36 rfl rfl (.bool true) (rfl) ?_
  refine nr ?_; intro U h; simp only [z0, z1] at h; subst h
  refine s_val 37 rfl rfl (.bool true) (rfl) ?_
  refine nr ?_; intro U h; simp only [z0, z1] at h; subst h
  refine s_gvalY 38 rfl rfl y14 rfl (.pointer (some ⟨g2, 0, none⟩)) (run_fld 35 _ 0 rfl g2 0 rfl 0 (by kernel_rfl)) ?_
  refine nr ?_; intro U h; simp only [z0, z1] at h; subst h
  refine s_gvalY 39 rfl rfl y14 rfl (.slice ao3 ([h9]).length c3) (ldT_o _ rfl g2 rfl (kg2)) ?_
  refine nr ?_; intro U h; simp only [z0, z1] at h; subst h
  refine s_gvalY 40 rfl rfl y14 rfl (.pointer (pK kH ao3 0 0)) (run_ixK rH (HN3.out.re) _ _ rfl rfl 0 rfl Nat.zero_lt_one) ?_
  refine nr ?_; intro U h; simp only [z0, z1] at h; subst h
  refine s_gvalY 41 rfl rfl y14 rfl (.pointer (pK kH ao3 0 0)) (run_fdKq (HN3.out.re) 53 _ 0 0 0 (fun ad => fdH_0 ad _) rfl 0 rfl Nat.zero_lt_one) ?_
  refine nr ?_; intro U h; simp only [z0, z1] at h; subst h
  refine s_gvalY 42 rfl rfl y14 rfl (.int .i64 ([h9].getD 0 zHp).n) (run_ldHn (HN3.out.re) _ rfl 0 rfl Nat.zero_lt_one) ?_
  refine nr ?_; intro U h; simp only [z0, z1] at h; subst h
  refine s_gvalY 43 rfl rfl y14 rfl (.bool true) (run_eq_k 3 .i64 _ _ _ rfl Try.underlying3 ([h9].getD 0 zHp).n 2 rfl rfl true (decide_eq_true hk1) _) ?_
  refine nr ?_; intro U h; simp only [z0, z1] at h; subst h
  refine s_val 44 rfl rfl (.bool true) (rfl) ?_
  refine nr ?_; intro U h; simp only [z0, z1] at h; subst h
  refine s_val 45 rfl rfl (.bool true) (rfl) ?_
  refine nr ?_; intro U h; simp only [z0, z1] at h; subst h
  refine s_gvalY 46 rfl rfl y22 rfl (.pointer (some ⟨g2, 0, none⟩)) (run_fld 35 _ 0 rfl g2 0 rfl 0 (by kernel_rfl)) ?_
  refine nr ?_; intro U h; simp only [z0, z1] at h; subst h
  refine s_gvalY 47 rfl rfl y22 rfl (.slice ao3 ([h9]).length c3) (ldT_o _ rfl g2 rfl (kg2)) ?_
  refine nr ?_; intro U h; simp only [z0, z1] at h; subst h
  refine s_gvalY 48 rfl rfl y22 rfl (.pointer (pK kH ao3 0 0)) (run_ixK rH (HN3.out.re) _ _ rfl rfl 0 rfl Nat.zero_lt_one) ?_
  refine nr ?_; intro U h; simp only [z0, z1] at h; subst h
  refine s_gvalY 49 rfl rfl y22 rfl (.pointer (pK kH ao3 0 1)) (run_fdKq (HN3.out.re) 53 _ 1 0 1 (fun ad => fdH_1 ad _) rfl 0 rfl Nat.zero_lt_one) ?_
  refine nr ?_; intro U h; simp only [z0, z1] at h; subst h
  refine s_gvalY 50 rfl rfl y22 rfl (.pointer (pK kH ao3 0 2)) (run_fdKq (HN3.out.re) 51 _ 1 1 1 (fun ad => fdF_1 ad _) rfl 0 rfl Nat.zero_lt_one) ?_
  refine nr ?_; intro U h; simp only [z0, z1] at h; subst h
  refine s_gvalY 51 rfl rfl y22 rfl (.pointer (pK kH ao3 0 18)) (run_fdKq (HN3.out.re) 26 _ 1 2 16 (fun ad => fdP_1 ad _) rfl 0 rfl Nat.zero_lt_one) ?_
  refine nr ?_; intro U h; simp only [z0, z1] at h; subst h
  refine s_gvalY 52 rfl rfl y22 rfl (.int .i64 ([h9].getD 0 zHp).p.n) (run_ldHpn (HN3.out.re) _ rfl 0 rfl Nat.zero_lt_one) ?_
  refine nr ?_; intro U h; simp only [z0, z1] at h; subst h
  refine s_gvalY 53 rfl rfl y22 rfl (.bool true) (run_eq_k 2 .i64 _ _ _ rfl Try.underlying2 ([h9].getD 0 zHp).p.n 1 rfl rfl true (decide_eq_true hk2) _) ?_
  refine nr ?_; intro U h; simp only [z0, z1] at h; subst h
  refine s_val 54 rfl rfl (.bool true) (rfl) ?_
  refine nr ?_; intro U h; simp only [z0, z1] at h; subst h
  refine s_val 55 rfl rfl (.bool true) (rfl) ?_
  refine nr ?_; intro U h; simp only [z0, z1] at h; subst h
  refine s_gvalY 56 rfl rfl y32 rfl (.pointer (some ⟨g2, 1, none⟩)) (run_fld 35 _ 1 rfl g2 0 rfl 1 (by kernel_rfl)) ?_
  refine nr ?_; intro U h; simp only [z0, z1] at h; subst h
  refine s_gvalY 57 rfl rfl y32 rfl (.slice bo3 ([fp2]).length d3) (ldT_l _ rfl g2 rfl (kg2)) ?_
  refine nr ?_; intro U h; simp only [z0, z1] at h; subst h
  refine s_gvalY 58 rfl rfl y32 rfl (.int .i64 ((([fp2]).length : Nat) : Int)) (run_len Try.underlying33 _ rfl _ _ _ rfl _) ?_
  refine nr ?_; intro U h; simp only [z0, z1] at h; subst h
  refine s_gvalY 59 rfl rfl y32 rfl (.bool true) (run_eq_k 3 .i64 _ _ _ rfl Try.underlying3 ((([fp2] : List Pa).length : Nat) : Int) 1 rfl rfl true (decide_eq_true rfl) _) ?_
  refine nr ?_; intro U h; simp only [z0, z1] at h; subst h
  refine s_val 60 rfl rfl (.bool true) (rfl) ?_
  refine nr ?_; intro U h; simp only [z0, z1] at h; subst h
  refine s_val 61 rfl rfl (.bool true) (rfl) ?_
  refine nr ?_; intro U h; simp only [z0, z1] at h; subst h
  refine s_gvalY 62 rfl rfl y38 rfl (.pointer (some ⟨g2, 1, none⟩)) (run_fld 35 _ 1 rfl g2 0 rfl 1 (by kernel_rfl)) ?_
  refine nr ?_; intro U h; simp only [z0, z1] at h; subst h
  refine s_gvalY 63 rfl rfl y38 rfl (.slice bo3 ([fp2]).length d3) (ldT_l _ rfl g2 rfl (kg2)) ?_
  refine nr ?_; intro U h; simp only [z0, z1] at h; subst h
  refine s_gvalY 64 rfl rfl y38 rfl (.pointer (pK kP bo3 0 0)) (run_ixK rP (HN3.lost.re) _ _ rfl rfl 0 rfl Nat.zero_lt_one) ?_
  refine nr ?_; intro U h; simp only [z0, z1] at h; subst h
  refine s_gvalY 65 rfl rfl y38 rfl (.pointer (pK kP bo3 0 16)) (run_fdKq (HN3.lost.re) 26 _ 1 0 16 (fun ad => fdP_1 ad _) rfl 0 rfl Nat.zero_lt_one) ?_
  refine nr ?_; intro U h; simp only [z0, z1] at h; subst h
  refine s_gvalY 66 rfl rfl y38 rfl (.int .i64 ([fp2].getD 0 zP).n) (run_ldPn (HN3.lost.re) _ rfl 0 rfl Nat.zero_lt_one) ?_
  refine nr ?_; intro U h; simp only [z0, z1] at h; subst h
  refine s_gvalY 67 rfl rfl y38 rfl (.bool true) (run_eq_k 2 .i64 _ _ _ rfl Try.underlying2 ([fp2].getD 0 zP).n 2 rfl rfl true (decide_eq_true rfl) _) ?_
  refine nr ?_; intro U h; simp only [z0, z1] at h; subst h
  refine s_val 68 rfl rfl (.bool true) (rfl) ?_
  refine nr ?_; intro U h; simp only [z0, z1] at h; subst h
  refine s_val 69 rfl rfl (.bool true) (rfl) ?_
  refine nr ?_; intro U h; simp only [z0, z1] at h; subst h
  refine s_gvalY 70 rfl rfl y46 rfl (.pointer (some ⟨t, 0, none⟩)) (rfl) ?_
  refine nr ?_; intro U h; simp only [z0, z1] at h; subst h
  refine s_gcallvY 71 rfl rfl y46 rfl _ 9 Try.call9 rfl rfl _ rfl [.pointer (some ⟨t, 0, none⟩)] rfl (len_any _ t b 128 [] kt HTt) ?_
  intro w9 G
  replace kt := G.has kt
  replace kr := G.has kr
  replace kg1 := G.has kg1
  replace kg2 := G.has kg2
  replace HTt := HTt.gro G
  replace HL := HL.gro G
  replace HN2 := HN2.gro G
  replace HN3 := HN3.gro G
  replace GG := GG.trans G
  clear G
  refine nr ?_; intro U h; simp only [z0, z1] at h; subst h
  refine s_gvalY 72 rfl rfl y46 rfl (.bool true) (run_eq_k 3 .i64 _ _ _ rfl Try.underlying3 0 0 rfl rfl true (by decide) _) ?_
  refine nr ?_; intro U h; simp only [z0, z1] at h; subst h
  refine s_val 73 rfl rfl (.bool true) (rfl) ?_
  refine nr ?_; intro U h; simp only [z0, z1] at h; subst h
  refine s_val 0 rfl rfl (.bool true) (rfl) ?_
  refine nr ?_; intro U h; simp only [z0] at h; subst h
  refine wpList_nil ?_
  refine then_n ?_
  refine wp_ret ?_
  refine bodyPost_ret (results_tmp Try.results5 _ _ _) rfl ?_
  exact ⟨rfl, GG⟩
end Go.Proofs.Ytmpnepbmpmkmkab
