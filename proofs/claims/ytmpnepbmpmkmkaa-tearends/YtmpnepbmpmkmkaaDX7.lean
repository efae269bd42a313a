/- The chapter's example; what the program tells is the document's. -/
import Derived.Test.YtmpnepbmpmkmkaaDX6
import Derived.Test.YtmpnepbmpmkmkaaDE1
namespace Go.Proofs.Ytmpnepbmpmkmkaa
open Classical
open Go.RowKit Go.Maps
def fp1 : Pa := ⟨0, 1⟩
def fp2 : Pa := ⟨0, 2⟩
def fx1 : En := ⟨fp1, 0, i1 1, 0, 2⟩
def fx2 : En := ⟨fp2, 0, i1 1, -1, 0⟩
theorem fx1_ok : fx1.ok := ⟨⟨by decide, by decide, by decide⟩, by decide, by decide, ⟨by decide, by decide⟩, ⟨by decide, by decide⟩⟩
theorem fx2_ok : fx2.ok := ⟨⟨by decide, by decide, by decide⟩, by decide, by decide, ⟨by decide, by decide⟩, ⟨by decide, by decide⟩⟩
theorem fx_all : AllE [fx1, fx2] := fun x hx => by
  simp only [List.mem_cons, List.not_mem_nil, or_false] at hx
  rcases hx with rfl | rfl
  · exact fx1_ok
  · exact fx2_ok
theorem fx_rg : Rg [fx1, fx2] := fun x hx => by
  simp only [List.mem_cons, List.not_mem_nil, or_false] at hx
  rcases hx with rfl | rfl
  · rfl
  · rfl
theorem fx_lay : layR 128 [fx1, fx2] = [fx1, fx2] := by kernel_rfl
theorem fx_ris : Ris [fx1, fx2] := by rw [← fx_lay]; exact (layR_ti fx_all).ris
theorem bdE4 (p : Pa) (b : Nat) (na nb : Int) (w : World) : (Instr.build 52 #[(0, .agg (paA p)), (2, .agg (idA b)), (3, .int .i64 na), (4, .int .i64 nb)]).run Try.prog w = .ok (.agg (enA ⟨p, 0, b, na, nb⟩)) w := by kernel_rfl
theorem laid_eq (w : World) (ao0 : Option Addr) (cap0 : Nat) (l L2 : List En) (H : RE w ao0 cap0 l) (hl : l.length ≤ maxLen) (h : layR 128 l = L2) : Calls Try.prog 7 #[.slice ao0 l.length cap0] w (LaidQ w L2) := by
  subst h
  exact laid_any w ao0 cap0 l H hl
theorem drop_eq (w : World) (t b room : Nat) (L : List En) (kt : w.heap[t]? = some (.cells (tbA room b) 83 (0, 0))) (HT : TM w b L) (hr : Rg L) (fr : Int) (p : Pa) (hp : p.ok) (T : Tn) (L2 : List En) (hT : drpT L fr p = T) (hL : drpL L fr p = L2) : Calls Try.prog 8 #[.pointer (some ⟨t, 0, none⟩), .int .i64 fr, .agg (paA p)] w (TornT w b T L2) := by
  subst hT hL
  exact drop_any w t b room L kt HT hr fr p hp
theorem dead_eq (w : World) (t b room : Nat) (L : List En) (kt : w.heap[t]? = some (.cells (tbA room b) 83 (0, 0))) (HT : TM w b L) (hr : Rg L) (hris : Ris L) (hlen : L.length ≤ 1000) (n : Int) (T : Tn) (L2 : List En) (hT : deadT L n = T) (hL : deadL L n = L2) : Calls Try.prog 14 #[.pointer (some ⟨t, 0, none⟩), .int .i64 n] w (TornT w b T L2) := by
  subst hT hL
  exact dead_any w t b room L kt HT hr hris hlen n
set_option maxRecDepth 100000 in
set_option maxHeartbeats 4000000 in
theorem fixed_any (w : World) : Calls Try.prog 9 #[] w (fun e w' => e = .returned (.bool true) ∧ Gro w w') := by
  refine s_enter Try.func9 rfl Try.ntmps9 [] [undef, undef, undef, undef, undef, undef, undef, undef, undef, undef, undef, undef, undef, undef, undef, undef, undef, undef, undef, undef, undef, undef, undef, undef, undef, undef, undef, undef, undef, undef, undef, undef, undef, undef, undef, undef, undef, undef, undef, undef, undef, undef, undef, undef, undef, undef, undef, undef, undef, undef, undef, undef, undef, undef, undef, undef, undef, undef, undef, undef, undef, undef, undef, undef, undef, undef, undef, undef, undef, undef, undef, undef, undef, undef] rfl ?_
  have GG := Gro.refl w
  refine wp_seq ?_
  refine wp_region_lit ?_
  refine s_val 0 rfl rfl (.bool false) (rfl) ?_
  refine nr ?_; intro U h; simp only [z0] at h; subst h
  refine wpList_nil ?_
  refine then_n ?_
  refine wp_seq ?_
  refine wp_region_lit ?_
  refine s_val 6 rfl rfl (.agg (paA fp1)) (run_bd 26 _ rfl [(1, .int .i64 1)] rfl _ (bdP1 _ _)) ?_
  refine nr ?_; intro U h; simp only [z0, z1] at h; subst h
  refine s_val 7 rfl rfl (.agg (idA (i1 1))) (run_bd 24 _ rfl [(0, .int .u8 1)] rfl _ (by kernel_rfl)) ?_
  refine nr ?_; intro U h; simp only [z0, z1] at h; subst h
  refine s_val 8 rfl rfl (.agg (enA fx1)) (run_bd 52 _ rfl [(0, .agg (paA fp1)), (2, .agg (idA (i1 1))), (3, .int .i64 0), (4, .int .i64 2)] rfl _ (bdE4 _ _ _ _ _)) ?_
  refine nr ?_; intro U h; simp only [z0, z1] at h; subst h
  refine s_val 9 rfl rfl (.agg (paA fp2)) (run_bd 26 _ rfl [(1, .int .i64 2)] rfl _ (bdP1 _ _)) ?_
  refine nr ?_; intro U h; simp only [z0, z1] at h; subst h
  refine s_val 10 rfl rfl (.agg (idA (i1 1))) (run_bd 24 _ rfl [(0, .int .u8 1)] rfl _ (by kernel_rfl)) ?_
  refine nr ?_; intro U h; simp only [z0, z1] at h; subst h
  refine s_val 11 rfl rfl (.agg (enA fx2)) (run_bd 52 _ rfl [(0, .agg (paA fp2)), (2, .agg (idA (i1 1))), (3, .int .i64 (-1)), (4, .int .i64 0)] rfl _ (bdE4 _ _ _ _ _)) ?_
  refine nr ?_; intro U h; simp only [z0, z1] at h; subst h
  refine s_bsl 12 rfl rfl 22 2 _ rfl [(0, .agg (enA fx1)), (1, .agg (enA fx2))] rfl (flE [fx1, fx2]).toArray 52 (by kernel_rfl) ?_
  intro w1 q1 G eq1 kq1
  replace GG := GG.trans G
  clear G
  have HR1 : RE _ (some ⟨q1, 0, none⟩) ([fx1, fx2] : List En).length [fx1, fx2] := RE.blk kq1 fx_all (Nat.le_refl _)
  clear eq1
  refine nr ?_; intro U h; simp only [z0, z1] at h; subst h
  refine s_callx 13 rfl rfl _ 7 Try.call7 rfl rfl _ rfl [.slice (some ⟨q1, 0, none⟩) 2 2] rfl (laid_eq _ _ 2 [fx1, fx2] [fx1, fx2] HR1 (by rw [maxL]; exact Nat.le_of_ble_eq_true rfl) fx_lay) (by rintro _ _ ⟨_, _, _, _, _, he, _⟩; exact ⟨_, he⟩) ?_
  rintro v w2 ⟨t, b, r, ra, rc, he, G, kt, HTt, kr, HL, h1t, h1b, h1r⟩
  cases he
  have bt := Nat.le_trans GG.size h1t
  have bb := Nat.le_trans GG.size h1b
  have br := Nat.le_trans GG.size h1r
  clear h1t h1b h1r
  replace GG := GG.trans G
  clear G
  refine nr ?_; intro U h; simp only [z0, z1] at h; subst h
  have ntr : t ≠ r := fun e => ne_cells kt kr (by decide) (by simp [e])
  refine s_val 5 rfl rfl (.tuple #[.pointer (some ⟨t, 0, none⟩), .pointer (some ⟨r, 0, none⟩)]) (rfl) ?_
  refine nr ?_; intro U h; simp only [z0, z1] at h; subst h
  refine s_val 14 rfl rfl (.pointer (some ⟨t, 0, none⟩)) (rfl) ?_
  refine nr ?_; intro U h; simp only [z0, z1] at h; subst h
  refine s_val 15 rfl rfl (.pointer (some ⟨r, 0, none⟩)) (rfl) ?_
  refine nr ?_; intro U h; simp only [z0, z1] at h; subst h
  refine s_val 1 rfl rfl (.pointer (some ⟨t, 0, none⟩)) (rfl) ?_
  refine nr ?_; intro U h; simp only [z0, z1] at h; subst h
  refine s_val 2 rfl rfl (.pointer (some ⟨r, 0, none⟩)) (rfl) ?_
  refine nr ?_; intro U h; simp only [z0, z1] at h; subst h
  refine wpList_nil ?_
  refine then_n ?_
  refine wp_seq ?_
  refine wp_seq ?_
  refine wp_region_lit ?_
  refine s_val 16 rfl rfl (.pointer (some ⟨t, 0, none⟩)) (rfl) ?_
  refine nr ?_; intro U h; simp only [z0, z1] at h; subst h
  refine s_val 17 rfl rfl (.bool false) (run_eqnp 27 _ _ _ rfl _ rfl rfl Try.underlying27 _) ?_
  refine nr ?_; intro U h; simp only [z0, z1] at h; subst h
  refine wpList_nil ?_
  refine then_n ?_
  refine wp_cond_false rfl ?_
  refine wp_skip ?_
  refine then_n ?_
  refine wp_seq ?_
  refine wp_region_lit ?_
  refine s_val 18 rfl rfl (.pointer (some ⟨t, 0, none⟩)) (rfl) ?_
  refine nr ?_; intro U h; simp only [z0, z1] at h; subst h
  refine s_val 19 rfl rfl (.agg (paA fp1)) (run_bd 26 _ rfl [(1, .int .i64 1)] rfl _ (bdP1 _ _)) ?_
  refine nr ?_; intro U h; simp only [z0, z1] at h; subst h
  refine s_callx 20 rfl rfl _ 8 Try.call8 rfl rfl _ rfl [.pointer (some ⟨t, 0, none⟩), .int .i64 4, .agg (paA fp1)] rfl (drop_eq _ t b 128 ([fx1, fx2]) (kt) (HTt) fx_rg 4 fp1 fx1_ok.p tn0 [fx1, fx2] (by kernel_rfl) (by kernel_rfl)) (by rintro _ _ ⟨_, _, _, _, _, he, _⟩; exact ⟨_, he⟩) ?_
  rintro v w3 ⟨ao2, c2, H2, bo2, d2, he, HN2, HT2, G2⟩
  cases he
  replace HN2 := HN2.mono GG.size
  replace kt := G2.has kt (by simpa using HTt.nec kt)
  replace kr := G2.has kr (by simpa using HTt.nec kr)
  replace HL := HL.mapw HTt G2
  replace GG := G2.gro GG (by simpa using bb)
  clear HTt G2
  have HTt := HT2
  clear HT2
  refine nr ?_; intro U h; simp only [z0, z1] at h; subst h
  obtain rfl := List.map_eq_nil_iff.1 HN2.eq
  refine s_alloc 3 rfl rfl 34 rfl _ zvT (tnA none 0 0 none 0 0) rfl ?_
  intro w4 g1 G eg1 kg1
  have bg1 := size_base GG eg1
  have dtg1 := lt_new kt eg1
  have drg1 := lt_new kr eg1
  have dHTtg1 := HTt.ne eg1
  have dHLg1 := HL.ne eg1
  replace kt := G.has kt
  replace kr := G.has kr
  replace HTt := HTt.gro G
  replace HL := HL.gro G
  replace HN2 := HN2.gro G
  replace GG := GG.trans G
  clear G
  clear eg1
  refine nr ?_; intro U h; simp only [z0, z1] at h; subst h
  refine s_store rfl rfl 34 _ _ rfl g1 0 rfl (.agg (tnA ao2 0 c2 bo2 0 d2)) rfl 34 _ kg1 (tnA ao2 0 c2 bo2 0 d2) rfl (siT) (Nat.le_refl _) (oneT _ _ _ _ _ _) (tnA ao2 0 c2 bo2 0 d2) (splice_whole _ _ (rfl)) ?_
  intro w5 St
  have kS := kg1
  replace kt := St.has (by omega) kt
  replace kr := St.has (by omega) kr
  replace HTt := HTt.st St dHTtg1
  replace HL := HL.st St dHLg1
  replace HN2 := HN2.st St kS (by decide) (by decide)
  replace GG := GG.store St bg1
  replace kg1 := St.new
  clear St
  refine wpList_nil ?_
  refine then_n ?_
  refine wp_seq ?_
  refine wp_region_lit ?_
  refine s_val 21 rfl rfl (.pointer (some ⟨t, 0, none⟩)) (rfl) ?_
  refine nr ?_; intro U h; simp only [z0, z1] at h; subst h
  refine s_callx 22 rfl rfl _ 14 Try.call14 rfl rfl _ rfl [.pointer (some ⟨t, 0, none⟩), .int .i64 0] rfl (dead_eq _ t b 128 ([fx1, fx2]) (kt) (HTt) fx_rg fx_ris (Nat.le_of_ble_eq_true rfl) 0 ⟨[(2, fp1)], [fp2]⟩ [] (by kernel_rfl) (by kernel_rfl)) (by rintro _ _ ⟨_, _, _, _, _, he, _⟩; exact ⟨_, he⟩) ?_
  rintro v w6 ⟨ao3, c3, H3, bo3, d3, he, HN3, HT2, G2⟩
  cases he
  replace HN3 := HN3.mono GG.size
  replace kt := G2.has kt (by simpa using HTt.nec kt)
  replace kr := G2.has kr (by simpa using HTt.nec kr)
  replace kg1 := G2.has kg1 (by simpa using HTt.nec kg1)
  replace HL := HL.mapw HTt G2
  replace HN2 := HN2.mapw HTt G2
  replace GG := G2.gro GG (by simpa using bb)
  clear HTt G2
  have HTt := HT2
  clear HT2
  refine nr ?_; intro U h; simp only [z0, z1] at h; subst h
  obtain ⟨h9, rfl, hk9⟩ := map_one HN3.eq
  have hk1 : h9.n = 2 := congrArg Prod.fst hk9
  have hk2 : h9.p.n = 1 := congrArg (fun z => z.2.n) hk9
  refine s_alloc 4 rfl rfl 34 rfl _ zvT (tnA none 0 0 none 0 0) rfl ?_
  intro w7 g2 G eg2 kg2
  have bg2 := size_base GG eg2
  have dtg2 := lt_new kt eg2
  have drg2 := lt_new kr eg2
  have dg1g2 := lt_new kg1 eg2
  have dHTtg2 := HTt.ne eg2
  have dHLg2 := HL.ne eg2
  replace kt := G.has kt
  replace kr := G.has kr
  replace kg1 := G.has kg1
  replace HTt := HTt.gro G
  replace HL := HL.gro G
  replace HN2 := HN2.gro G
  replace HN3 := HN3.gro G
  replace GG := GG.trans G
  clear G
  clear eg2
  refine nr ?_; intro U h; simp only [z0, z1] at h; subst h
  refine s_store rfl rfl 34 _ _ rfl g2 0 rfl (.agg (tnA ao3 ([h9]).length c3 bo3 ([fp2]).length d3)) rfl 34 _ kg2 (tnA ao3 ([h9]).length c3 bo3 ([fp2]).length d3) rfl (siT) (Nat.le_refl _) (oneT _ _ _ _ _ _) (tnA ao3 ([h9]).length c3 bo3 ([fp2]).length d3) (splice_whole _ _ (rfl)) ?_
  intro w8 St
  have kS := kg2
  replace kt := St.has (by omega) kt
  replace kr := St.has (by omega) kr
  replace kg1 := St.has (by omega) kg1
  replace HTt := HTt.st St dHTtg2
  replace HL := HL.st St dHLg2
  replace HN2 := HN2.st St kS (by decide) (by decide)
  replace HN3 := HN3.st St kS (by decide) (by decide)
  replace GG := GG.store St bg2
  replace kg2 := St.new
  clear St
  refine wpList_nil ?_
  refine then_n ?_
  refine wp_seq ?_
  refine wp_region_opq ?_
  intro OPS hY
  have y8 := hY 8 31 rfl
  have y14 := hY 14 37 rfl
  have y22 := hY 22 45 rfl
  have y32 := hY 32 55 rfl
  have y38 := hY 38 61 rfl
  have y46 := hY 46 69 rfl
  clear hY
  refine s_val 23 rfl rfl (.pointer (some ⟨g1, 0, none⟩)) (run_fld 34 _ 0 rfl g1 0 rfl 0 (by kernel_rfl)) ?_
  refine nr ?_; intro U h; simp only [z0, z1] at h; subst h
  refine s_val 24 rfl rfl (.slice ao2 0 c2) (ldT_o _ rfl g1 rfl (kg1)) ?_
  refine nr ?_; intro U h; simp only [z0, z1] at h; subst h
  refine s_val 25 rfl rfl (.int .i64 0) (run_len Try.underlying31 _ rfl _ _ _ rfl _) ?_
  refine nr ?_; intro U h; simp only [z0, z1] at h; subst h
  refine s_val 26 rfl rfl (.pointer (some ⟨g1, 1, none⟩)) (run_fld 34 _ 1 rfl g1 0 rfl 1 (by kernel_rfl)) ?_
  refine nr ?_; intro U h; simp only [z0, z1] at h; subst h
  refine s_val 27 rfl rfl (.slice bo2 0 d2) (ldT_l _ rfl g1 rfl (kg1)) ?_
  refine nr ?_; intro U h; simp only [z0, z1] at h; subst h
  refine s_val 28 rfl rfl (.int .i64 0) (run_len Try.underlying32 _ rfl _ _ _ rfl _) ?_
  refine nr ?_; intro U h; simp only [z0, z1] at h; subst h
  refine s_val 29 rfl rfl (.int .i64 0) (run_addI 3 _ _ _ rfl 0 0 0 rfl rfl (by omega) (by omega) (by omega) _) ?_
  refine nr ?_; intro U h; simp only [z0, z1] at h; subst h
  refine s_val 30 rfl rfl (.bool true) (run_eq_k 3 .i64 _ _ _ rfl Try.underlying3 0 0 rfl rfl true (by decide) _) ?_
  refine nr ?_; intro U h; simp only [z0, z1] at h; subst h
  refine s_val 31 rfl rfl (.bool true) (rfl) ?_
  refine nr ?_; intro U h; simp only [z0, z1] at h; subst h
  refine s_gvalY 32 rfl rfl y8 rfl (.pointer (some ⟨g2, 0, none⟩)) (run_fld 34 _ 0 rfl g2 0 rfl 0 (by kernel_rfl)) ?_
  refine nr ?_; intro U h; simp only [z0, z1] at h; subst h
  refine s_gvalY 33 rfl rfl y8 rfl (.slice ao3 ([h9]).length c3) (ldT_o _ rfl g2 rfl (kg2)) ?_
  refine nr ?_; intro U h; simp only [z0, z1] at h; subst h
  refine s_gvalY 34 rfl rfl y8 rfl (.int .i64 ((([h9]).length : Nat) : Int)) (run_len Try.underlying31 _ rfl _ _ _ rfl _) ?_
  refine nr ?_; intro U h; simp only [z0, z1] at h; subst h
  refine s_gvalY 35 rfl rfl y8 rfl (.bool true) (run_eq_k 3 .i64 _ _ _ rfl Try.underlying3 ((([h9] : List Hp).length : Nat) : Int) 1 rfl rfl true (decide_eq_true rfl) _) ?_
  refine nr ?_; intro U h; simp only [z0, z1] at h; subst h
  refine s_val 36 rfl rfl (.bool true) (rfl) ?_
  refine nr ?_; intro U h; simp only [z0, z1] at h; subst h
  refine s_val 37 rfl rfl (.bool true) (rfl) ?_
  refine nr ?_; intro U h; simp only [z0, z1] at h; subst h
  refine s_gvalY 38 rfl rfl y14 rfl (.pointer (some ⟨g2, 0, none⟩)) (run_fld 34 _ 0 rfl g2 0 rfl 0 (by kernel_rfl)) ?_
  refine nr ?_; intro U h; simp only [z0, z1] at h; subst h
  refine s_gvalY 39 rfl rfl y14 rfl (.slice ao3 ([h9]).length c3) (ldT_o _ rfl g2 rfl (kg2)) ?_
  refine nr ?_; intro U h; simp only [z0, z1] at h; subst h
  refine s_gvalY 40 rfl rfl y14 rfl (.pointer (pK kH ao3 0 0)) (run_ixK rH (HN3.out.re) _ _ rfl rfl 0 rfl Nat.zero_lt_one) ?_
  refine nr ?_; intro U h; simp only [z0, z1] at h; subst h
  refine s_gvalY 41 rfl rfl y14 rfl (.pointer (pK kH ao3 0 0)) (run_fdKq (HN3.out.re) 67 _ 0 0 0 (fun ad => fdH_0 ad _) rfl 0 rfl Nat.zero_lt_one) ?_
  refine nr ?_; intro U h; simp only [z0, z1] at h; subst h
  refine s_gvalY 42 rfl rfl y14 rfl (.int .i64 ([h9].getD 0 zHp).n) (run_ldHn (HN3.out.re) _ rfl 0 rfl Nat.zero_lt_one) ?_
  refine nr ?_; intro U h; simp only [z0, z1] at h; subst h
  refine s_gvalY 43 rfl rfl y14 rfl (.bool true) (run_eq_k 3 .i64 _ _ _ rfl Try.underlying3 ([h9].getD 0 zHp).n 2 rfl rfl true (decide_eq_true hk1) _) ?_
  refine nr ?_; intro U h; simp only [z0, z1] at h; subst h
  refine s_val 44 rfl rfl (.bool true) (rfl) ?_
  refine nr ?_; intro U h; simp only [z0, z1] at h; subst h
  refine s_val 45 rfl rfl (.bool true) (rfl) ?_
  refine nr ?_; intro U h; simp only [z0, z1] at h; subst h
  refine s_gvalY 46 rfl rfl y22 rfl (.pointer (some ⟨g2, 0, none⟩)) (run_fld 34 _ 0 rfl g2 0 rfl 0 (by kernel_rfl)) ?_
  refine nr ?_; intro U h; simp only [z0, z1] at h; subst h
  refine s_gvalY 47 rfl rfl y22 rfl (.slice ao3 ([h9]).length c3) (ldT_o _ rfl g2 rfl (kg2)) ?_
  refine nr ?_; intro U h; simp only [z0, z1] at h; subst h
  refine s_gvalY 48 rfl rfl y22 rfl (.pointer (pK kH ao3 0 0)) (run_ixK rH (HN3.out.re) _ _ rfl rfl 0 rfl Nat.zero_lt_one) ?_
  refine nr ?_; intro U h; simp only [z0, z1] at h; subst h
  refine s_gvalY 49 rfl rfl y22 rfl (.pointer (pK kH ao3 0 1)) (run_fdKq (HN3.out.re) 67 _ 1 0 1 (fun ad => fdH_1 ad _) rfl 0 rfl Nat.zero_lt_one) ?_
  refine nr ?_; intro U h; simp only [z0, z1] at h; subst h
  refine s_gvalY 50 rfl rfl y22 rfl (.pointer (pK kH ao3 0 2)) (run_fdKq (HN3.out.re) 65 _ 1 1 1 (fun ad => fdF_1 ad _) rfl 0 rfl Nat.zero_lt_one) ?_
  refine nr ?_; intro U h; simp only [z0, z1] at h; subst h
  refine s_gvalY 51 rfl rfl y22 rfl (.pointer (pK kH ao3 0 18)) (run_fdKq (HN3.out.re) 26 _ 1 2 16 (fun ad => fdP_1 ad _) rfl 0 rfl Nat.zero_lt_one) ?_
  refine nr ?_; intro U h; simp only [z0, z1] at h; subst h
  refine s_gvalY 52 rfl rfl y22 rfl (.int .i64 ([h9].getD 0 zHp).p.n) (run_ldHpn (HN3.out.re) _ rfl 0 rfl Nat.zero_lt_one) ?_
  refine nr ?_; intro U h; simp only [z0, z1] at h; subst h
  refine s_gvalY 53 rfl rfl y22 rfl (.bool true) (run_eq_k 2 .i64 _ _ _ rfl Try.underlying2 ([h9].getD 0 zHp).p.n 1 rfl rfl true (decide_eq_true hk2) _) ?_
  refine nr ?_; intro U h; simp only [z0, z1] at h; subst h
  refine s_val 54 rfl rfl (.bool true) (rfl) ?_
  refine nr ?_; intro U h; simp only [z0, z1] at h; subst h
  refine s_val 55 rfl rfl (.bool true) (rfl) ?_
  refine nr ?_; intro U h; simp only [z0, z1] at h; subst h
  refine s_gvalY 56 rfl rfl y32 rfl (.pointer (some ⟨g2, 1, none⟩)) (run_fld 34 _ 1 rfl g2 0 rfl 1 (by kernel_rfl)) ?_
  refine nr ?_; intro U h; simp only [z0, z1] at h; subst h
  refine s_gvalY 57 rfl rfl y32 rfl (.slice bo3 ([fp2]).length d3) (ldT_l _ rfl g2 rfl (kg2)) ?_
  refine nr ?_; intro U h; simp only [z0, z1] at h; subst h
  refine s_gvalY 58 rfl rfl y32 rfl (.int .i64 ((([fp2]).length : Nat) : Int)) (run_len Try.underlying32 _ rfl _ _ _ rfl _) ?_
  refine nr ?_; intro U h; simp only [z0, z1] at h; subst h
  refine s_gvalY 59 rfl rfl y32 rfl (.bool true) (run_eq_k 3 .i64 _ _ _ rfl Try.underlying3 ((([fp2] : List Pa).length : Nat) : Int) 1 rfl rfl true (decide_eq_true rfl) _) ?_
  refine nr ?_; intro U h; simp only [z0, z1] at h; subst h
  refine s_val 60 rfl rfl (.bool true) (rfl) ?_
  refine nr ?_; intro U h; simp only [z0, z1] at h; subst h
  refine s_val 61 rfl rfl (.bool true) (rfl) ?_
  refine nr ?_; intro U h; simp only [z0, z1] at h; subst h
  refine s_gvalY 62 rfl rfl y38 rfl (.pointer (some ⟨g2, 1, none⟩)) (run_fld 34 _ 1 rfl g2 0 rfl 1 (by kernel_rfl)) ?_
  refine nr ?_; intro U h; simp only [z0, z1] at h; subst h
  refine s_gvalY 63 rfl rfl y38 rfl (.slice bo3 ([fp2]).length d3) (ldT_l _ rfl g2 rfl (kg2)) ?_
  refine nr ?_; intro U h; simp only [z0, z1] at h; subst h
  refine s_gvalY 64 rfl rfl y38 rfl (.pointer (pK kP bo3 0 0)) (run_ixK rP (HN3.lost.re) _ _ rfl rfl 0 rfl Nat.zero_lt_one) ?_
  refine nr ?_; intro U h; simp only [z0, z1] at h; subst h
  refine s_gvalY 65 rfl rfl y38 rfl (.pointer (pK kP bo3 0 16)) (run_fdKq (HN3.lost.re) 26 _ 1 0 16 (fun ad => fdP_1 ad _) rfl 0 rfl Nat.zero_lt_one) ?_
  refine nr ?_; intro U h; simp only [z0, z1] at h; subst h
  refine s_gvalY 66 rfl rfl y38 rfl (.int .i64 ([fp2].getD 0 zP).n) (run_ldPn (HN3.lost.re) _ rfl 0 rfl Nat.zero_lt_one) ?_
  refine nr ?_; intro U h; simp only [z0, z1] at h; subst h
  refine s_gvalY 67 rfl rfl y38 rfl (.bool true) (run_eq_k 2 .i64 _ _ _ rfl Try.underlying2 ([fp2].getD 0 zP).n 2 rfl rfl true (decide_eq_true rfl) _) ?_
  refine nr ?_; intro U h; simp only [z0, z1] at h; subst h
  refine s_val 68 rfl rfl (.bool true) (rfl) ?_
  refine nr ?_; intro U h; simp only [z0, z1] at h; subst h
  refine s_val 69 rfl rfl (.bool true) (rfl) ?_
  refine nr ?_; intro U h; simp only [z0, z1] at h; subst h
  refine s_gvalY 70 rfl rfl y46 rfl (.pointer (some ⟨t, 0, none⟩)) (rfl) ?_
  refine nr ?_; intro U h; simp only [z0, z1] at h; subst h
  refine s_gcallvY 71 rfl rfl y46 rfl _ 26 Try.call26 rfl rfl _ rfl [.pointer (some ⟨t, 0, none⟩)] rfl (len_any _ t b 128 [] kt HTt) ?_
  intro w9 G
  replace kt := G.has kt
  replace kr := G.has kr
  replace kg1 := G.has kg1
  replace kg2 := G.has kg2
  replace HTt := HTt.gro G
  replace HL := HL.gro G
  replace HN2 := HN2.gro G
  replace HN3 := HN3.gro G
  replace GG := GG.trans G
  clear G
  refine nr ?_; intro U h; simp only [z0, z1] at h; subst h
  refine s_gvalY 72 rfl rfl y46 rfl (.bool true) (run_eq_k 3 .i64 _ _ _ rfl Try.underlying3 0 0 rfl rfl true (by decide) _) ?_
  refine nr ?_; intro U h; simp only [z0, z1] at h; subst h
  refine s_val 73 rfl rfl (.bool true) (rfl) ?_
  refine nr ?_; intro U h; simp only [z0, z1] at h; subst h
  refine s_val 0 rfl rfl (.bool true) (rfl) ?_
  refine nr ?_; intro U h; simp only [z0] at h; subst h
  refine wpList_nil ?_
  refine then_n ?_
  refine wp_ret ?_
  refine bodyPost_ret (results_tmp Try.results9 _ _ _) rfl ?_
  exact ⟨rfl, GG⟩
/-- Behind the document's call: its table is the new one. -/
structure LwR (w0 : World) (r : Nat) (L2 : List En) (x : World) : Prop where
  g : GroS [r] w0 x
  k : ∃ ra rc, x.heap[r]? = some (.cells (rbA ra L2.length rc 128) 43 (0, 0)) ∧ OE x 0 ra rc L2
theorem LwR.gro {w0 x y : World} {r : Nat} {L2 : List En} (h : LwR w0 r L2 x) (G : Gro x y) : LwR w0 r L2 y := by
  obtain ⟨ra, rc, h1, h2⟩ := h.k
  exact ⟨h.g.tg G, ra, rc, G.has h1, h2.gro G⟩
theorem LwR.or {w0 x : World} {r : Nat} {L2 : List En} (h : Gro w0 x ∨ LwR w0 r L2 x) : GroS [r] w0 x := h.elim (fun g => .of g) (fun k => k.g)
def tornE (T : Tn) : PostE := PostE.ex (fun v x => ∃ (ao : Option Addr) (c : Nat) (H : List Hp) (bo : Option Addr) (d : Nat), v = .agg (tnA ao H.length c bo T.lost.length d) ∧ TnP x 0 T ao c H bo d) (fun _ _ _ G ⟨ao, c, H, bo, d, h1, h2⟩ => ⟨ao, c, H, bo, d, h1, h2.gro G⟩)
theorem fill_tornE (T : Tn) (v : Value) : (tornE T).fill v = v := rfl
theorem allVal_hav {posts : List PostE} {n e0 : Nat} {late : Nat → Bool} {R0 : World → Prop} {S : World → World → Prop} (X : List Nat) (hS : ((List.range n).all fun j => j == e0 || (late j || X.contains j)) = true) (hv : allVal posts X) : ∀ j, j < n → j ≠ e0 → late j = false → ∀ v a b, R0 a → S a b → (postE posts j).p v a → (postE posts j).p v b := fun j hj hne hl v a b _ _ hp => by
  have h1 := List.all_eq_true.1 hS j (List.mem_range.2 hj)
  rw [Bool.or_eq_true, Bool.or_eq_true] at h1
  rcases h1 with h1 | h1 | h1
  · exact absurd (by simpa using h1) hne
  · rw [hl] at h1; cases h1
  · obtain ⟨u, hu⟩ := allVal_at hv j (by simpa using h1)
    rw [hu] at hp ⊢
    exact hp
theorem endL_ti {room : Nat} {L : List En} (h : TI room L) (p : Pa) : TI room (endL L p) := by
  unfold endL
  split
  · exact h.del p
  · exact h
theorem endT_len (L : List En) (p : Pa) : (endT L p).out.length ≤ 100000 ∧ (endT L p).lost.length ≤ 100000 := by
  unfold endT
  have h := sideT_len (getV L p).na p
  have h2 := sideT_len (getV L p).nb p
  split
  · simp only [appT, List.length_append]
    omega
  · exact ⟨Nat.zero_le _, Nat.zero_le _⟩
set_option maxRecDepth 100000 in
set_option maxHeartbeats 4000000 in
theorem tearEnds_any (w : World) (ae : Option Addr) (ce : Nat) (E : List En) (HE : RE w ae ce E) (hEl : E.length ≤ maxLen) (p : Pa) (hp : p.ok) : Calls Try.prog 5 #[.slice ae E.length ce, .agg (paA p)] w (fun e w' => e = .returned (.bool true) ∧ Gro w w') := by
  refine s_enter Try.func5 rfl Try.ntmps5 [.slice ae E.length ce, .agg (paA p)] [.slice ae E.length ce, .agg (paA p), undef, undef, undef, undef, undef, undef, undef, undef, undef, undef, undef, undef, undef, undef, undef, undef, undef, undef, undef, undef, undef, undef, undef, undef, undef, undef, undef, undef, undef, undef, undef] rfl ?_
  have GG := Gro.refl w
  have hTI := layR_ti (room := 128) HE.all
  have hRg : Rg (layR 128 E) := hTI.rgt
  have hLb : (layR 128 E).length ≤ 1000 := Nat.le_trans hTI.fit (by decide)
  refine wp_seq ?_
  refine wp_region_lit ?_
  refine s_box 3 rfl rfl 26 _ rfl _ rfl (paA p) rfl ?_
  intro w1 g1 G eg1 kg1
  have bg1 := size_base GG eg1
  have dHEg1 := HE.ne eg1
  replace HE := HE.gro G
  replace GG := GG.trans G
  clear G
  clear eg1
  refine nr ?_; intro U h; simp only [z0, z1] at h; subst h
  refine s_val 4 rfl rfl (.bool false) (rfl) ?_
  refine nr ?_; intro U h; simp only [z0, z1] at h; subst h
  refine wpList_nil ?_
  refine then_n ?_
  refine wp_seq ?_
  refine wp_region_lit ?_
  refine s_val 9 rfl rfl (.slice ae E.length ce) (rfl) ?_
  refine nr ?_; intro U h; simp only [z0, z1] at h; subst h
  refine s_callx 10 rfl rfl _ 7 Try.call7 rfl rfl _ rfl [.slice ae E.length ce] rfl (laid_any _ ae ce E HE hEl) (by rintro _ _ ⟨_, _, _, _, _, he, _⟩; exact ⟨_, he⟩) ?_
  rintro v w2 ⟨t, b, r, ra, rc, he, G, kt, HTt, kr, HL, h1t, h1b, h1r⟩
  cases he
  have dg1t : g1 < t := Nat.lt_of_lt_of_le (lt_of_heap kg1) h1t
  have dg1r : g1 < r := Nat.lt_of_lt_of_le (lt_of_heap kg1) h1r
  have bt := Nat.le_trans GG.size h1t
  have bb := Nat.le_trans GG.size h1b
  have br := Nat.le_trans GG.size h1r
  clear h1t h1b h1r
  replace kg1 := G.has kg1
  replace GG := GG.trans G
  clear G
  refine nr ?_; intro U h; simp only [z0, z1] at h; subst h
  have ntr : t ≠ r := fun e => ne_cells kt kr (by decide) (by simp [e])
  have dHTtg1 := (HTt.nec kg1).symm
  have dHLg1 := HL.own.ne kg1 (by decide)
  refine s_val 8 rfl rfl (.tuple #[.pointer (some ⟨t, 0, none⟩), .pointer (some ⟨r, 0, none⟩)]) (rfl) ?_
  refine nr ?_; intro U h; simp only [z0, z1] at h; subst h
  refine s_val 11 rfl rfl (.pointer (some ⟨t, 0, none⟩)) (rfl) ?_
  refine nr ?_; intro U h; simp only [z0, z1] at h; subst h
  refine s_val 12 rfl rfl (.pointer (some ⟨r, 0, none⟩)) (rfl) ?_
  refine nr ?_; intro U h; simp only [z0, z1] at h; subst h
  refine s_val 5 rfl rfl (.pointer (some ⟨t, 0, none⟩)) (rfl) ?_
  refine nr ?_; intro U h; simp only [z0, z1] at h; subst h
  refine s_val 6 rfl rfl (.pointer (some ⟨r, 0, none⟩)) (rfl) ?_
  refine nr ?_; intro U h; simp only [z0, z1] at h; subst h
  refine wpList_nil ?_
  refine then_n ?_
  refine wp_seq ?_
  refine wp_region_lit ?_
  refine s_val 13 rfl rfl (.pointer (some ⟨t, 0, none⟩)) (rfl) ?_
  refine nr ?_; intro U h; simp only [z0, z1] at h; subst h
  refine s_val 14 rfl rfl (.agg (paA p)) (ldP0 _ rfl g1 rfl (kg1)) ?_
  refine nr ?_; intro U h; simp only [z0, z1] at h; subst h
  refine s_callx 15 rfl rfl _ 16 Try.call16 rfl rfl _ rfl [.pointer (some ⟨t, 0, none⟩), .agg (paA p)] rfl (end_any _ t b 128 (layR 128 E) (kt) (HTt) hRg p hp) (by rintro _ _ ⟨_, _, _, _, _, he, _⟩; exact ⟨_, he⟩) ?_
  rintro v w3 ⟨ao1, c1, H1, bo1, d1, he, HN1, HT2, G2⟩
  cases he
  replace HN1 := HN1.mono GG.size
  replace kg1 := G2.has kg1 (by simpa using HTt.nec kg1)
  replace kt := G2.has kt (by simpa using HTt.nec kt)
  replace kr := G2.has kr (by simpa using HTt.nec kr)
  replace HL := HL.mapw HTt G2
  replace GG := G2.gro GG (by simpa using bb)
  clear HTt G2
  have HTt := HT2
  clear HT2
  refine nr ?_; intro U h; simp only [z0, z1] at h; subst h
  refine s_alloc 7 rfl rfl 34 rfl _ zvT (tnA none 0 0 none 0 0) rfl ?_
  intro w4 g2 G eg2 kg2
  have bg2 := size_base GG eg2
  have dg1g2 := lt_new kg1 eg2
  have dtg2 := lt_new kt eg2
  have drg2 := lt_new kr eg2
  have dHTtg2 := HTt.ne eg2
  have dHLg2 := HL.ne eg2
  replace kg1 := G.has kg1
  replace kt := G.has kt
  replace kr := G.has kr
  replace HTt := HTt.gro G
  replace HL := HL.gro G
  replace HN1 := HN1.gro G
  replace GG := GG.trans G
  clear G
  clear eg2
  refine nr ?_; intro U h; simp only [z0, z1] at h; subst h
  refine s_store rfl rfl 34 _ _ rfl g2 0 rfl (.agg (tnA ao1 H1.length c1 bo1 ((endT (layR 128 E) p)).lost.length d1)) rfl 34 _ kg2 (tnA ao1 H1.length c1 bo1 ((endT (layR 128 E) p)).lost.length d1) rfl (siT) (Nat.le_refl _) (oneT _ _ _ _ _ _) (tnA ao1 H1.length c1 bo1 ((endT (layR 128 E) p)).lost.length d1) (splice_whole _ _ (rfl)) ?_
  intro w5 St
  have kS := kg2
  replace kg1 := St.has (by omega) kg1
  replace kt := St.has (by omega) kt
  replace kr := St.has (by omega) kr
  replace HTt := HTt.st St dHTtg2
  replace HL := HL.st St dHLg2
  replace HN1 := HN1.st St kS (by decide) (by decide)
  replace GG := GG.store St bg2
  replace kg2 := St.new
  clear St
  refine wpList_nil ?_
  refine then_n ?_
  refine wp_seq ?_
  refine wp_region_pl (A := ?Ax5) (R0 := fun x => Gro w5.drew x) (R1 := LwR w5.drew r (endL (layR 128 E) p)) 16 [(0, 16), (1, 17), (2, 18), (3, 19), (4, 20), (5, 21), (6, 22), (7, 23), (8, 24), (9, 25), (10, 26), (11, 27), (12, 28), (13, 29), (14, 30), (15, 31)] [.val (.bool true), .val (.bool true), .val (.agg (tnA ao1 H1.length c1 bo1 ((endT (layR 128 E) p)).lost.length d1)), .val (.pointer (some ⟨r, 0, none⟩)), .val (.agg (paA p)), tornE (endT (layR 128 E) p), .val (.bool true), .val (.bool true), .val (.bool true), .val (.pointer (some ⟨t, 0, none⟩)), rowE (endL (layR 128 E) p), .val (.pointer (some ⟨r, 0, none⟩)), .val (.pointer (some ⟨r, 0, none⟩)), .val (.pointer (some ⟨r, 0, none⟩)), rowE (endL (layR 128 E) p), .val (.bool true)] 5 (fun j => [6, 7, 8, 9, 10, 11, 12, 13, 14, 15].contains j) (fun x y => GroS [r] x y) follows (by kernel_rfl) rfl (by decide) (allVal_hav [0, 1, 2, 3, 4] (by decide) ⟨⟨_, rfl⟩, ⟨_, rfl⟩, ⟨_, rfl⟩, ⟨_, rfl⟩, ⟨_, rfl⟩, trivial⟩) (by kernel_rfl) (Gro.refl _) (fun _ _ h g => h.trans g) (fun _ _ h g => h.gro g) ?hAx5 (opsL_a (by decide) rfl ?o0x5 (opsL_a (by decide) rfl ?o1x5 (opsL_a (by decide) rfl ?o2x5 (opsL_a (by decide) rfl ?o3x5 (opsL_a (by decide) rfl ?o4x5 (opsL_e ?o5x5 (opsL_b (by decide) rfl ?o6x5 (opsL_b (by decide) rfl ?o7x5 (opsL_b (by decide) rfl ?o8x5 (opsL_b (by decide) rfl ?o9x5 (opsL_b (by decide) rfl ?o10x5 (opsL_b (by decide) rfl ?o11x5 (opsL_b (by decide) rfl ?o12x5 (opsL_b (by decide) rfl ?o13x5 (opsL_b (by decide) rfl ?o14x5 (opsL_b (by decide) rfl ?o15x5 opsL_nil)))))))))))))))) ?restx5
  case hAx5 =>
    intro ptrs
    simp only [full, foldSlots, filledE, postE, List.foldl_cons, List.foldl_nil, List.getD_cons_zero, List.getD_cons_succ, fill_val, fill_rowE, fill_tornE, List.set_cons_zero, List.set_cons_succ]
    exact rfl
  case o0x5 => exact fun _ _ _ _ => opE_call (.val (.bool true)) rfl _ 9 Try.call9 rfl rfl _ rfl [] rfl ((fixed_any _).mono fun e w' ⟨he, hg⟩ => ⟨_, he, hg, rfl⟩)
  case o1x5 => exact fun _ _ _ _ => opE_move (v := .bool true) _ rfl rfl rfl
  case o2x5 => exact fun _ _ hw _ => opE_value (v := .agg (tnA ao1 H1.length c1 bo1 ((endT (layR 128 E) p)).lost.length d1)) rfl (ldT_0 _ rfl g2 rfl ((LwR.or hw).has kg2 (ne_cells kg2 kr (by decide))))
  case o3x5 => exact fun _ _ _ _ => opE_move (v := .pointer (some ⟨r, 0, none⟩)) _ rfl rfl rfl
  case o4x5 => exact fun _ _ hw _ => opE_value (v := .agg (paA p)) rfl (ldP0 _ rfl g1 rfl ((LwR.or hw).has kg1 (ne_cells kg1 kr (by decide))))
  case o5x5 =>
    intro ptrs x hw _
    refine opX_call (tornE (endT (layR 128 E) p)) rfl _ 17 Try.call17 rfl rfl _ rfl [.pointer (some ⟨r, 0, none⟩), .agg (paA p)] rfl ((rend_any _ r 128 ra rc (layR 128 E) (hw.has kr) ((HL.gro (Gro.refl _).drew).gro hw) hLb hTI.ris.kn p hp).mono ?_)
    rintro e w' ⟨ao, c, H, bo, d, he, HN9, ra9, rc9, kr9, HL9, G9⟩
    exact ⟨_, he, ⟨⟨(GroS.of hw).trans G9, ra9, rc9, kr9, HL9⟩, G9⟩, ao, c, H, bo, d, rfl, HN9.mono (Nat.zero_le _)⟩
  case o6x5 =>
    intro ptrs x hw hE
    obtain ⟨⟨ao9, c9, H9, bo9, d9, hx9, HN9⟩, _⟩ := hE
    exact opE_call (.val (.bool true)) rfl _ 10 Try.call10 rfl rfl _ rfl [.agg (tnA ao1 H1.length c1 bo1 ((endT (layR 128 E) p)).lost.length d1), .agg (tnA ao9 H9.length c9 bo9 ((endT (layR 128 E) p)).lost.length d9)] (by show [.agg (tnA ao1 H1.length c1 bo1 ((endT (layR 128 E) p)).lost.length d1), ptrs 5] = _; rw [hx9]) ((same_any _ (endT (layR 128 E) p) (endT_len (layR 128 E) p).1 (endT_len (layR 128 E) p).2 _ _ ao1 ao9 bo1 bo9 c1 c9 d1 d9 H1 H9 ((HN1.gro (Gro.refl _).drew).grosT hw.g kr (by decide) (by decide)) HN9).mono fun e w' ⟨he, hg⟩ => ⟨_, he, hg, rfl⟩)
  case o7x5 => exact fun _ _ _ _ => opE_pick (v := .bool true) _ _ _ rfl rfl true rfl rfl
  case o8x5 => exact fun _ _ _ _ => opE_move (v := .bool true) _ rfl rfl rfl
  case o9x5 => exact fun _ _ _ _ => opE_move (v := .pointer (some ⟨t, 0, none⟩)) _ rfl rfl rfl
  case o10x5 => exact fun _ _ hw _ => opE_call (rowE (endL (layR 128 E) p)) rfl _ 13 Try.call13 rfl rfl _ rfl [.pointer (some ⟨t, 0, none⟩)] rfl ((all_any _ t b 128 (endL (layR 128 E) p) (hw.g.has kt (ne_cells kt kr (by decide))) ((HTt.gro (Gro.refl _).drew).gros hw.g (by simpa using (HTt.nec kr).symm)) (endL_ti hTI p).ris (Nat.le_trans (endL_ti hTI p).fit (by decide))).mono fun e w' ⟨ao, cap, he, hg, hr⟩ => ⟨_, he, hg, ao, cap, rfl, hr.mono (Nat.zero_le _)⟩)
  case o11x5 => exact fun _ _ _ _ => opE_move (v := .pointer (some ⟨r, 0, none⟩)) _ rfl rfl rfl
  case o12x5 => exact fun _ _ _ _ => opE_value (v := .pointer (some ⟨r, 0, none⟩)) rfl (run_nc _ rfl _ rfl)
  case o13x5 => exact fun _ _ _ _ => opE_value (v := .pointer (some ⟨r, 0, none⟩)) rfl (run_fld 43 _ 0 rfl r 0 rfl 0 (by kernel_rfl))
  case o14x5 =>
    intro ptrs x hw _
    obtain ⟨ra9, rc9, k9, HL9⟩ := hw.k
    exact opE_new (rowE (endL (layR 128 E) p)) rfl (ldRl _ rfl r rfl k9) (Gro.refl _) ⟨ra9, rc9, rfl, HL9⟩
  case o15x5 =>
    intro ptrs x hw hE
    obtain ⟨⟨ao7, cap7, hx7, HR7⟩, ⟨ao8, cap8, hx8, HR8⟩, _⟩ := hE
    exact opE_call (.val (.bool true)) rfl _ 12 Try.call12 rfl rfl _ rfl [.slice ao7 (endL (layR 128 E) p).length cap7, .slice ao8 (endL (layR 128 E) p).length cap8] (by show [ptrs 10, ptrs 14] = _; rw [hx7, hx8]) ((Calls.bool (sameE_any _ ao7 cap7 (endL (layR 128 E) p) HR7.re (le_maxL (endL_ti hTI p).fit) ao8 cap8 (endL (layR 128 E) p) HR8.re) (decide_eq_true rfl)).mono fun e w' ⟨he, hg⟩ => ⟨_, he, hg, rfl⟩)
  intro ptrs w6 hR hxE
  simp only [List.drop_succ_cons, List.drop_zero]
  clear hxE
  replace GG := hR.g.gro GG.drew (by simpa using br)
  refine s_val 32 rfl rfl (.bool true) (rfl) ?_
  refine nr ?_; intro U h; simp only [z0, z1] at h; subst h
  refine s_val 4 rfl rfl (.bool true) (rfl) ?_
  refine nr ?_; intro U h; simp only [z0, z1] at h; subst h
  refine wpList_nil ?_
  refine then_n ?_
  refine wp_ret ?_
  refine bodyPost_ret (results_tmp Try.results5 _ _ _) rfl ?_
  exact ⟨rfl, GG⟩
end Go.Proofs.Ytmpnepbmpmkmkaa
