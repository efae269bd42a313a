/- The law of taking: the document's answers. -/
import Derived.Test.YtkjnefgenffhcaaDZ7
namespace Go.Proofs.Ytkjnefgenffhcaa
open Classical
open Go.RowKit Go.Maps
theorem FrQ.rtw {w w' : World} {B r : Nat} {f : Fr} {d : FD} {cs : Array Value} (h : FrQ w B f d) (kr : w.heap[r]? = some (.cells cs 53 (0, 0))) (G : GroS [r] w w') : FrQ w' B f d :=
  h.grosT G fun k hm c t' hc => by
    rw [List.mem_singleton] at hm
    subst hm
    rw [kr] at hc
    injection hc with hc
    injection hc with _ hc
    subst hc
    decide
theorem spF_cut {M0 M : Msg} (h : M = { M0 with l := M.l }) (ao ao2 : Option Addr) (cap cap2 : Nat) (g : Fr) : splice (frA (frY M0 ao cap g)) 56 #[.slice ao2 M.l.length cap2] = frA (frY M ao2 cap2 g) := (spF_t M0 ao ao2 cap cap2 g M.l).trans (by rw [← h])
/-- A copy of a frame. -/
def CopP (w : World) (M : Msg) (ao : Option Addr) (cap : Nat) (g : Fr) (d : FD) (e : Ending) (w' : World) : Prop := ∃ a2 c2 g2, e = .returned (.agg (frA (frY M a2 c2 g2))) ∧ Gro w w' ∧ OI w' w.heap.size a2 c2 M.l ∧ FrQ w' w.heap.size (frY M a2 c2 g2) d ∧ FrS (frY M a2 c2 g2) ∧ sameK (frY M ao cap g) (frY M a2 c2 g2) d d = true
theorem copyM (w : World) (M : Msg) (ao : Option Addr) (cap : Nat) (g : Fr) (d : FD) (HW : FrW w (frY M ao cap g) d) (hd : d.tr = M.l) (hi : ∀ x ∈ M.l, I64t x) (HS : FrS (frY M ao cap g)) : Calls Try.prog 15 #[.agg (frA (frY M ao cap g))] w (CopP w M ao cap g d) := by
  refine Calls.mono (copy_d (frY M ao cap g) d w HW HS) ?_
  rintro e w' ⟨⟨a2, n2, c2⟩, ⟨a3, n3, c3⟩, ⟨a4, n4, c4⟩, ⟨a5, n5, c5⟩, he, HO, G⟩
  have hn : n2 = M.l.length := by rw [← hd]; exact xc_len1 HO.tr.xc
  have hn3 : n3 = g.ids.n := (xc_lenI HO.ids.xc HO.oids).trans HW.idn.symm
  have hn4 : n4 = g.val.n := (xc_len1 HO.val.xc).trans (xc_len1 HW.val).symm
  have hn5 : n5 = g.tx.n := (xc_len1 HO.tx.xc).trans (xc_len1 HW.tx).symm
  subst hn hn3 hn4 hn5
  have h1 := HO.tr
  rw [hd] at h1
  refine ⟨a2, c2, { g with ids := ⟨a3, g.ids.n, c3⟩, val := ⟨a4, g.val.n, c4⟩, tx := ⟨a5, g.tx.n, c5⟩ }, he, G, ⟨h1, hi⟩, HO.q, ⟨HS.tr, HS.ids, HS.val, HS.tx⟩, ?_⟩
  simp [sameK, sameB, frY]
set_option maxRecDepth 100000 in
set_option maxHeartbeats 4000000 in
theorem setupTakes_any (w : World) (ae : Option Addr) (ce : Nat) (E : List En) (HE : RE w ae ce E) (hEl : E.length ≤ maxLen) (most N : Int) (i : Nat) (hi : i < top) (ap : Option Addr) (cq : Nat) (o : List Bool) (HB : RK kB w ap cq o) (fr : Int) (hfr : I64 fr) (M0 M : Msg) (hMe : M = { M0 with l := M.l }) (hMl : M.l = M0.l.take (min M0.l.length 200)) (hM : M.ok) (ao : Option Addr) (cap : Nat) (g0 : Fr) (d : FD) (HI0 : RC w ao cap M0.l) (HI : RC w ao cap M.l) (HF : FrW w (frY M ao cap g0) d) (hd : d.tr = M.l) (HS : FrS (frY M ao cap g0)) (hLens : Lens d) : Calls Try.prog 4 #[.agg (csA ae E.length ce most N i ap o.length cq), .int .i64 fr, .agg (frA (frY M0 ao cap g0))] w (fun e w' => e = .returned (.bool true) ∧ Gro w w') := by
  refine s_enter Try.func4 rfl Try.ntmps4 [.agg (csA ae E.length ce most N i ap o.length cq), .int .i64 fr, .agg (frA (frY M0 ao cap g0))] [.agg (csA ae E.length ce most N i ap o.length cq), .int .i64 fr, .agg (frA (frY M0 ao cap g0)), undef, undef, undef, undef, undef, undef, undef, undef, undef, undef, undef, undef, undef, undef, undef, undef, undef, undef, undef, undef, undef, undef, undef, undef, undef, undef, undef, undef, undef, undef, undef, undef, undef, undef, undef, undef, undef, undef, undef, undef, undef, undef, undef, undef, undef, undef, undef, undef, undef, undef, undef, undef, undef, undef, undef, undef, undef, undef, undef, undef, undef, undef, undef, undef, undef, undef, undef, undef, undef, undef, undef, undef, undef, undef, undef, undef, undef, undef, undef, undef, undef, undef, undef, undef, undef, undef, undef, undef] rfl ?_
  have GG := Gro.refl w
  have hLall : AllE (layR (rmF most) E) := layR_ok HE.all
  have hLris : Ris (layR (rmF most) E) := layR_ris HE.all
  have hLle : (layR (rmF most) E).length ≤ 128 := layR_le (rmF_le most) E
  have hLb : (layR (rmF most) E).length ≤ 1000 := by omega
  have HIa := HI.all
  have hl200 : M.l.length ≤ 200 := by rw [hMl, List.length_take]; omega
  have hl : M.l.length ≤ 17592186044416 := by omega
  refine wp_seq ?_
  refine wp_region_lit ?_
  refine s_box 3 rfl rfl 29 _ rfl _ rfl (csA ae E.length ce most N i ap o.length cq) rfl ?_
  intro w1 g1 G eg1 kg1
  have bg1 := size_base GG eg1
  have dHEg1 := HE.ne eg1
  have dHBg1 := HB.ne eg1
  have dHIg1 := HI.ne eg1
  replace HE := HE.gro G
  replace HB := HB.gro G
  replace HI := HI.gro G
  replace GG := GG.trans G
  clear G
  clear eg1
  refine nr ?_; intro U h; simp only [z0, z1] at h; subst h
  refine s_box 5 rfl rfl 64 _ rfl _ rfl (frA (frY M0 ao cap g0)) rfl ?_
  intro w2 g2 G eg2 kg2
  have bg2 := size_base GG eg2
  have dg1g2 := lt_new kg1 eg2
  have dHEg2 := HE.ne eg2
  have dHBg2 := HB.ne eg2
  have dHIg2 := HI.ne eg2
  replace kg1 := G.has kg1
  replace HE := HE.gro G
  replace HB := HB.gro G
  replace HI := HI.gro G
  replace GG := GG.trans G
  clear G
  clear eg2
  refine nr ?_; intro U h; simp only [z0, z1] at h; subst h
  refine s_val 6 rfl rfl (.bool false) (rfl) ?_
  refine nr ?_; intro U h; simp only [z0, z1] at h; subst h
  refine wpList_nil ?_
  refine then_n ?_
  refine wp_seq ?_
  refine wp_region_lit ?_
  refine s_val 15 rfl rfl (.pointer (some ⟨g1, 0, none⟩)) (run_fld 29 _ 0 rfl g1 0 rfl 0 (by kernel_rfl)) ?_
  refine nr ?_; intro U h; simp only [z0, z1] at h; subst h
  refine s_val 16 rfl rfl (.slice ae E.length ce) (ldC_e _ rfl g1 rfl (kg1)) ?_
  refine nr ?_; intro U h; simp only [z0, z1] at h; subst h
  refine s_val 17 rfl rfl (.pointer (some ⟨g1, 1, none⟩)) (run_fld 29 _ 1 rfl g1 0 rfl 1 (by kernel_rfl)) ?_
  refine nr ?_; intro U h; simp only [z0, z1] at h; subst h
  refine s_val 18 rfl rfl (.int .i64 most) (ldC_m _ rfl g1 rfl (kg1)) ?_
  refine nr ?_; intro U h; simp only [z0, z1] at h; subst h
  refine s_callx 19 rfl rfl _ 8 Try.call8 rfl rfl _ rfl [.slice ae E.length ce, .int .i64 most] rfl (laid_any _ ae ce E HE hEl most) (by rintro _ _ ⟨_, _, _, _, _, he, _⟩; exact ⟨_, he⟩) ?_
  rintro v w3 ⟨t, b, r, ra, rc, he, G, kt, HTt, kr, HL, h1t, h1b, h1r⟩
  cases he
  have dg1t : g1 < t := Nat.lt_of_lt_of_le (lt_of_heap kg1) h1t
  have dg1r : g1 < r := Nat.lt_of_lt_of_le (lt_of_heap kg1) h1r
  have dg2t : g2 < t := Nat.lt_of_lt_of_le (lt_of_heap kg2) h1t
  have dg2r : g2 < r := Nat.lt_of_lt_of_le (lt_of_heap kg2) h1r
  have dHBr := HB.neG h1r
  have dHIr := HI.neG h1r
  have bt := Nat.le_trans GG.size h1t
  have bb := Nat.le_trans GG.size h1b
  have br := Nat.le_trans GG.size h1r
  clear h1t h1b h1r
  replace kg1 := G.has kg1
  replace kg2 := G.has kg2
  replace HB := HB.gro G
  replace HI := HI.gro G
  replace GG := GG.trans G
  clear G
  refine nr ?_; intro U h; simp only [z0, z1] at h; subst h
  have ntr : t ≠ r := fun e => ne_cells kt kr (by decide) (by simp [e])
  have dHTtg1 := (HTt.nec kg1).symm
  have dHLg1 := HL.own.ne kg1 (by decide)
  have dHTtg2 := (HTt.nec kg2).symm
  have dHLg2 := HL.own.ne kg2 (by decide)
  refine s_val 14 rfl rfl (.tuple #[.pointer (some ⟨t, 0, none⟩), .pointer (some ⟨r, 0, none⟩)]) (rfl) ?_
  refine nr ?_; intro U h; simp only [z0, z1] at h; subst h
  refine s_val 20 rfl rfl (.pointer (some ⟨t, 0, none⟩)) (rfl) ?_
  refine nr ?_; intro U h; simp only [z0, z1] at h; subst h
  refine s_val 21 rfl rfl (.pointer (some ⟨r, 0, none⟩)) (rfl) ?_
  refine nr ?_; intro U h; simp only [z0, z1] at h; subst h
  refine s_val 7 rfl rfl (.pointer (some ⟨t, 0, none⟩)) (rfl) ?_
  refine nr ?_; intro U h; simp only [z0, z1] at h; subst h
  refine s_val 8 rfl rfl (.pointer (some ⟨r, 0, none⟩)) (rfl) ?_
  refine nr ?_; intro U h; simp only [z0, z1] at h; subst h
  refine wpList_nil ?_
  refine then_n ?_
  refine wp_seq ?_
  refine wp_region_lit ?_
  refine s_val 22 rfl rfl (.pointer (some ⟨g2, 56, none⟩)) (run_fld 64 _ 8 rfl g2 0 rfl 56 (by kernel_rfl)) ?_
  refine nr ?_; intro U h; simp only [z0, z1] at h; subst h
  refine s_val 23 rfl rfl (.slice ao M0.l.length cap) (ldF_t _ rfl g2 rfl (kg2)) ?_
  refine nr ?_; intro U h; simp only [z0, z1] at h; subst h
  refine s_val 24 rfl rfl (.pointer (some ⟨g2, 56, none⟩)) (run_fld 64 _ 8 rfl g2 0 rfl 56 (by kernel_rfl)) ?_
  refine nr ?_; intro U h; simp only [z0, z1] at h; subst h
  refine s_val 25 rfl rfl (.slice ao M0.l.length cap) (ldF_t _ rfl g2 rfl (kg2)) ?_
  refine nr ?_; intro U h; simp only [z0, z1] at h; subst h
  refine s_val 26 rfl rfl (.int .i64 ((M0.l.length : Nat) : Int)) (run_len Try.underlying32 _ rfl _ _ _ rfl _) ?_
  refine nr ?_; intro U h; simp only [z0, z1] at h; subst h
  refine s_val 27 rfl rfl (.int .i64 (((min M0.l.length 200) : Nat) : Int)) (run_minN _ _ _ rfl M0.l.length 200 rfl rfl _) ?_
  refine nr ?_; intro U h; simp only [z0, z1] at h; subst h
  refine s_val 28 rfl rfl (.slice ao M.l.length cap) (by rw [hMl]; exact run_takeI (HI0.gro GG) _ _ rfl (min M0.l.length 200) rfl rfl (by omega)) ?_
  refine nr ?_; intro U h; simp only [z0, z1] at h; subst h
  refine s_val 29 rfl rfl (.pointer (some ⟨g2, 56, none⟩)) (run_fld 64 _ 8 rfl g2 0 rfl 56 (by kernel_rfl)) ?_
  refine nr ?_; intro U h; simp only [z0, z1] at h; subst h
  refine s_store rfl rfl 32 _ _ rfl g2 56 rfl (.slice ao M.l.length cap) rfl 64 _ kg2 #[.slice ao M.l.length cap] rfl (si32) (by show 56 + 1 ≤ 95; omega) (sl_one _ _ _) (frA (frY M ao cap g0)) (spF_cut hMe _ _ _ _ _) ?_
  intro w4 St
  have kS := kg2
  replace kg1 := St.has (by omega) kg1
  replace kt := St.has (by omega) kt
  replace kr := St.has (by omega) kr
  replace HB := HB.st St dHBg2
  replace HI := HI.st St dHIg2
  replace HTt := HTt.st St dHTtg2
  replace HL := HL.st St dHLg2
  replace GG := GG.store St bg2
  replace kg2 := St.new
  clear St
  refine wpList_nil ?_
  refine then_n ?_
  refine wp_seq ?_
  refine wp_region_lit ?_
  refine s_val 30 rfl rfl (.agg (frA (frY M ao cap g0))) (ldF_0 _ rfl g2 rfl (kg2)) ?_
  refine nr ?_; intro U h; simp only [z0, z1] at h; subst h
  refine s_callx 31 rfl rfl _ 15 Try.call15 rfl rfl _ rfl [.agg (frA (frY M ao cap g0))] rfl (copyM _ M ao cap g0 d (HF.gro GG) hd HIa HS) (by rintro _ _ ⟨_, _, _, he, _⟩; exact ⟨_, he⟩) ?_
  rintro v w5 ⟨a5, c5, gg5, he, G, HV, HQ5, HS5, hsm⟩
  cases he
  have dHVg1 := HV.neL (lt_of_heap kg1)
  have dHVg2 := HV.neL (lt_of_heap kg2)
  have dHVt := HV.neL (lt_of_heap kt)
  have dHVr := HV.neL (lt_of_heap kr)
  replace HV := HV.mono GG.size
  replace kg1 := G.has kg1
  replace kg2 := G.has kg2
  replace kt := G.has kt
  replace kr := G.has kr
  replace HB := HB.gro G
  replace HI := HI.gro G
  replace HTt := HTt.gro G
  replace HL := HL.gro G
  replace GG := GG.trans G
  clear G
  refine nr ?_; intro U h; simp only [z0, z1] at h; subst h
  refine s_alloc 9 rfl rfl 64 rfl _ zvF (frA (frY m0 none 0 gN)) rfl ?_
  intro w6 g3 G eg3 kg3
  have bg3 := size_base GG eg3
  have dg1g3 := lt_new kg1 eg3
  have dg2g3 := lt_new kg2 eg3
  have dtg3 := lt_new kt eg3
  have drg3 := lt_new kr eg3
  have dHBg3 := HB.ne eg3
  have dHIg3 := HI.ne eg3
  have dHTtg3 := HTt.ne eg3
  have dHLg3 := HL.ne eg3
  have dHVg3 := HV.ne eg3
  replace kg1 := G.has kg1
  replace kg2 := G.has kg2
  replace kt := G.has kt
  replace kr := G.has kr
  replace HB := HB.gro G
  replace HI := HI.gro G
  replace HTt := HTt.gro G
  replace HL := HL.gro G
  replace HV := HV.gro G
  replace HQ5 := HQ5.gro G
  replace GG := GG.trans G
  clear G
  clear eg3
  refine nr ?_; intro U h; simp only [z0, z1] at h; subst h
  refine s_store rfl rfl 64 _ _ rfl g3 0 rfl (.agg (frA (frY M a5 c5 gg5))) rfl 64 _ kg3 (frA (frY M a5 c5 gg5)) rfl (siF' _ _ _ _) (Nat.le_refl _) (oneF _ _ _ _) (frA (frY M a5 c5 gg5)) (splice_whole _ _ (rfl)) ?_
  intro w7 St
  have kS := kg3
  replace kg1 := St.has (by omega) kg1
  replace kg2 := St.has (by omega) kg2
  replace kt := St.has (by omega) kt
  replace kr := St.has (by omega) kr
  replace HB := HB.st St dHBg3
  replace HI := HI.st St dHIg3
  replace HTt := HTt.st St dHTtg3
  replace HL := HL.st St dHLg3
  replace HV := HV.st St dHVg3
  replace HQ5 := HQ5.st St kS (by decide)
  replace GG := GG.store St bg3
  replace kg3 := St.new
  clear St
  refine wpList_nil ?_
  refine then_n ?_
  refine wp_seq ?_
  refine wp_region_lit ?_
  refine s_val 32 rfl rfl (.pointer (some ⟨t, 0, none⟩)) (rfl) ?_
  refine nr ?_; intro U h; simp only [z0, z1] at h; subst h
  refine s_val 33 rfl rfl (.pointer (some ⟨g1, 2, none⟩)) (run_fld 29 _ 2 rfl g1 0 rfl 2 (by kernel_rfl)) ?_
  refine nr ?_; intro U h; simp only [z0, z1] at h; subst h
  refine s_val 34 rfl rfl (.agg (seA N i)) (ldC_s _ rfl g1 rfl (kg1)) ?_
  refine nr ?_; intro U h; simp only [z0, z1] at h; subst h
  refine s_val 35 rfl rfl (.int .i64 fr) (rfl) ?_
  refine nr ?_; intro U h; simp only [z0, z1] at h; subst h
  refine s_val 36 rfl rfl (.agg (frA (frY M a5 c5 gg5))) (ldF_0 _ rfl g3 rfl (kg3)) ?_
  refine nr ?_; intro U h; simp only [z0, z1] at h; subst h
  refine s_val 37 rfl rfl (.pointer (some ⟨g1, 19, none⟩)) (run_fld 29 _ 3 rfl g1 0 rfl 19 (by kernel_rfl)) ?_
  refine nr ?_; intro U h; simp only [z0, z1] at h; subst h
  refine s_val 38 rfl rfl (.slice ap o.length cq) (ldC_o _ rfl g1 rfl (kg1)) ?_
  refine nr ?_; intro U h; simp only [z0, z1] at h; subst h
  obtain ⟨B1, hB1⟩ : ∃ B, w7.heap.size = B := ⟨_, rfl⟩
  have h91 : ∀ ad, a5 = some ad → ad.block < B1 := fun ad ha => hB1 ▸ (HV.own.ge ad ha).2
  refine s_callx 39 rfl rfl _ 16 Try.call16 rfl rfl _ rfl [.pointer (some ⟨t, 0, none⟩), .agg (seA N i), .int .i64 fr, .agg (frA (frY M a5 c5 gg5)), .slice ap o.length cq] rfl (take_any _ t b (rmF most) (layR (rmF most) E) (kt) (HTt) N i hi fr hfr M hM a5 c5 gg5 d HQ5.w hd HIa hl HS5 ap cq o HB) (by rintro _ _ ⟨_, _, he, _⟩; exact ⟨_, he⟩) ?_
  rintro v w8 ⟨ao1, n1, he, HO1, HT2, G2⟩
  cases he
  rw [hB1] at HO1
  replace kg1 := G2.has kg1 (by simpa using HTt.nec kg1)
  replace kg2 := G2.has kg2 (by simpa using HTt.nec kg2)
  replace kt := G2.has kt (by simpa using HTt.nec kt)
  replace kr := G2.has kr (by simpa using HTt.nec kr)
  replace kg3 := G2.has kg3 (by simpa using HTt.nec kg3)
  replace HB := HB.mapw HTt G2
  replace HI := HI.mapw HTt G2
  replace HL := HL.mapw HTt G2
  replace HV := HV.mapw HTt G2
  replace HQ5 := HQ5.mapw HTt G2
  replace GG := G2.gro GG (by simpa using bb)
  clear HTt G2 hB1
  have HTt := HT2
  clear HT2
  refine nr ?_; intro U h; simp only [z0, z1] at h; subst h
  refine s_alloc 10 rfl rfl 41 rfl _ zvD (edA none 0 false false) rfl ?_
  intro w9 g4 G eg4 kg4
  have bg4 := size_base GG eg4
  have dg1g4 := lt_new kg1 eg4
  have dg2g4 := lt_new kg2 eg4
  have dtg4 := lt_new kt eg4
  have drg4 := lt_new kr eg4
  have dg3g4 := lt_new kg3 eg4
  have dHBg4 := HB.ne eg4
  have dHIg4 := HI.ne eg4
  have dHTtg4 := HTt.ne eg4
  have dHLg4 := HL.ne eg4
  have dHVg4 := HV.ne eg4
  replace kg1 := G.has kg1
  replace kg2 := G.has kg2
  replace kt := G.has kt
  replace kr := G.has kr
  replace kg3 := G.has kg3
  replace HB := HB.gro G
  replace HI := HI.gro G
  replace HTt := HTt.gro G
  replace HL := HL.gro G
  replace HV := HV.gro G
  replace HQ5 := HQ5.gro G
  replace HO1 := HO1.gro G
  replace GG := GG.trans G
  clear G
  clear eg4
  refine nr ?_; intro U h; simp only [z0, z1] at h; subst h
  refine s_store rfl rfl 41 _ _ rfl g4 0 rfl (.agg (edA ao1 n1 (tkE (rmF most) (layR (rmF most) E) N i fr M o).mine (tkE (rmF most) (layR (rmF most) E) N i fr M o).full)) rfl 41 _ kg4 (edA ao1 n1 (tkE (rmF most) (layR (rmF most) E) N i fr M o).mine (tkE (rmF most) (layR (rmF most) E) N i fr M o).full) rfl (siD' _ _ _ _) (Nat.le_refl _) (oneD _ _ _ _) (edA ao1 n1 (tkE (rmF most) (layR (rmF most) E) N i fr M o).mine (tkE (rmF most) (layR (rmF most) E) N i fr M o).full) (splice_whole _ _ (rfl)) ?_
  intro w10 St
  have kS := kg4
  replace kg1 := St.has (by omega) kg1
  replace kg2 := St.has (by omega) kg2
  replace kt := St.has (by omega) kt
  replace kr := St.has (by omega) kr
  replace kg3 := St.has (by omega) kg3
  replace HB := HB.st St dHBg4
  replace HI := HI.st St dHIg4
  replace HTt := HTt.st St dHTtg4
  replace HL := HL.st St dHLg4
  replace HV := HV.st St dHVg4
  replace HQ5 := HQ5.st St kS (by decide)
  replace HO1 := HO1.st St kS (by decide)
  replace GG := GG.store St bg4
  replace kg4 := St.new
  clear St
  refine wpList_nil ?_
  refine then_n ?_
  refine wp_seq ?_
  refine wp_region_lit ?_
  refine s_val 40 rfl rfl (.pointer (some ⟨r, 0, none⟩)) (rfl) ?_
  refine nr ?_; intro U h; simp only [z0, z1] at h; subst h
  refine s_val 41 rfl rfl (.pointer (some ⟨g1, 2, none⟩)) (run_fld 29 _ 2 rfl g1 0 rfl 2 (by kernel_rfl)) ?_
  refine nr ?_; intro U h; simp only [z0, z1] at h; subst h
  refine s_val 42 rfl rfl (.pointer (some ⟨g1, 2, none⟩)) (run_fld 26 _ 0 rfl g1 2 rfl 2 (by kernel_rfl)) ?_
  refine nr ?_; intro U h; simp only [z0, z1] at h; subst h
  refine s_val 43 rfl rfl (.int .i64 N) (ldC_n _ rfl g1 rfl (kg1)) ?_
  refine nr ?_; intro U h; simp only [z0, z1] at h; subst h
  refine s_val 44 rfl rfl (.pointer (some ⟨g1, 2, none⟩)) (run_fld 29 _ 2 rfl g1 0 rfl 2 (by kernel_rfl)) ?_
  refine nr ?_; intro U h; simp only [z0, z1] at h; subst h
  refine s_val 45 rfl rfl (.pointer (some ⟨g1, 3, none⟩)) (run_fld 26 _ 1 rfl g1 2 rfl 3 (by kernel_rfl)) ?_
  refine nr ?_; intro U h; simp only [z0, z1] at h; subst h
  refine s_val 46 rfl rfl (.agg (idA i)) (ldC_i _ rfl g1 rfl (kg1)) ?_
  refine nr ?_; intro U h; simp only [z0, z1] at h; subst h
  refine s_val 47 rfl rfl (.int .i64 fr) (rfl) ?_
  refine nr ?_; intro U h; simp only [z0, z1] at h; subst h
  refine s_val 48 rfl rfl (.agg (frA (frY M ao cap g0))) (ldF_0 _ rfl g2 rfl (kg2)) ?_
  refine nr ?_; intro U h; simp only [z0, z1] at h; subst h
  refine s_val 49 rfl rfl (.pointer (some ⟨g1, 19, none⟩)) (run_fld 29 _ 3 rfl g1 0 rfl 19 (by kernel_rfl)) ?_
  refine nr ?_; intro U h; simp only [z0, z1] at h; subst h
  refine s_val 50 rfl rfl (.slice ap o.length cq) (ldC_o _ rfl g1 rfl (kg1)) ?_
  refine nr ?_; intro U h; simp only [z0, z1] at h; subst h
  obtain ⟨B2, hB2⟩ : ∃ B, w10.heap.size = B := ⟨_, rfl⟩
  have h92 : ∀ ad, a5 = some ad → ad.block < B2 := fun ad ha => hB2 ▸ (HV.own.ge ad ha).2
  refine s_callx 51 rfl rfl _ 17 Try.call17 rfl rfl _ rfl [.pointer (some ⟨r, 0, none⟩), .int .i64 N, .agg (idA i), .int .i64 fr, .agg (frA (frY M ao cap g0)), .slice ap o.length cq] rfl (rtake_any _ r (rmF most) ra rc (layR (rmF most) E) (kr) (HL) hLb hLris.kn N i hi fr hfr M hM ao cap g0 HI dHIr hl ap cq o HB dHBr) (by rintro _ _ ⟨_, _, he, _⟩; exact ⟨_, he⟩) ?_
  rintro v w11 ⟨ao2, n2, he, HO2, ra2, rc2, kr2, HL2, G2⟩
  cases he
  rw [hB2] at HO2
  replace kg1 := G2.has kg1 (ne_cells kg1 kr (by decide))
  replace kg2 := G2.has kg2 (ne_cells kg2 kr (by decide))
  replace kt := G2.has kt (ne_cells kt kr (by decide))
  replace kg3 := G2.has kg3 (ne_cells kg3 kr (by decide))
  replace kg4 := G2.has kg4 (ne_cells kg4 kr (by decide))
  replace HB := HB.rtw G2 dHBr
  replace HI := HI.rtw G2 dHIr
  replace HTt := HTt.rtw kr G2
  replace HV := HV.rtw kr (by decide) G2
  replace HQ5 := HQ5.rtw kr G2
  replace HO1 := HO1.rtw kr G2
  replace GG := G2.gro GG (by simpa using br)
  have dHLg1 := HL2.own.ne kg1 (by decide)
  have dHLg2 := HL2.own.ne kg2 (by decide)
  have dHLt := HL2.own.ne kt (by decide)
  have dHLg3 := HL2.own.ne kg3 (by decide)
  have dHLg4 := HL2.own.ne kg4 (by decide)
  clear kr HL G2 hB2
  have kr := kr2
  have HL := HL2
  clear kr2 HL2
  refine nr ?_; intro U h; simp only [z0, z1] at h; subst h
  refine s_alloc 11 rfl rfl 45 rfl _ zvQ (edA none 0 false false) rfl ?_
  intro w12 g5 G eg5 kg5
  have bg5 := size_base GG eg5
  have dg1g5 := lt_new kg1 eg5
  have dg2g5 := lt_new kg2 eg5
  have dtg5 := lt_new kt eg5
  have drg5 := lt_new kr eg5
  have dg3g5 := lt_new kg3 eg5
  have dg4g5 := lt_new kg4 eg5
  have dHBg5 := HB.ne eg5
  have dHIg5 := HI.ne eg5
  have dHTtg5 := HTt.ne eg5
  have dHLg5 := HL.ne eg5
  have dHVg5 := HV.ne eg5
  replace kg1 := G.has kg1
  replace kg2 := G.has kg2
  replace kt := G.has kt
  replace kr := G.has kr
  replace kg3 := G.has kg3
  replace kg4 := G.has kg4
  replace HB := HB.gro G
  replace HI := HI.gro G
  replace HTt := HTt.gro G
  replace HL := HL.gro G
  replace HV := HV.gro G
  replace HQ5 := HQ5.gro G
  replace HO1 := HO1.gro G
  replace HO2 := HO2.gro G
  replace GG := GG.trans G
  clear G
  clear eg5
  refine nr ?_; intro U h; simp only [z0, z1] at h; subst h
  refine s_store rfl rfl 45 _ _ rfl g5 0 rfl (.agg (edA ao2 n2 (tkE (rmF most) (layR (rmF most) E) N i fr M o).mine (tkE (rmF most) (layR (rmF most) E) N i fr M o).full)) rfl 45 _ kg5 (edA ao2 n2 (tkE (rmF most) (layR (rmF most) E) N i fr M o).mine (tkE (rmF most) (layR (rmF most) E) N i fr M o).full) rfl (siQ' _ _ _ _) (Nat.le_refl _) (oneD _ _ _ _) (edA ao2 n2 (tkE (rmF most) (layR (rmF most) E) N i fr M o).mine (tkE (rmF most) (layR (rmF most) E) N i fr M o).full) (splice_whole _ _ (rfl)) ?_
  intro w13 St
  have kS := kg5
  replace kg1 := St.has (by omega) kg1
  replace kg2 := St.has (by omega) kg2
  replace kt := St.has (by omega) kt
  replace kr := St.has (by omega) kr
  replace kg3 := St.has (by omega) kg3
  replace kg4 := St.has (by omega) kg4
  replace HB := HB.st St dHBg5
  replace HI := HI.st St dHIg5
  replace HTt := HTt.st St dHTtg5
  replace HL := HL.st St dHLg5
  replace HV := HV.st St dHVg5
  replace HQ5 := HQ5.st St kS (by decide)
  replace HO1 := HO1.st St kS (by decide)
  replace HO2 := HO2.st St kS (by decide)
  replace GG := GG.store St bg5
  replace kg5 := St.new
  clear St
  refine wpList_nil ?_
  refine then_n ?_
  refine wp_seq ?_
  refine wp_region_lit ?_
  refine s_val 52 rfl rfl (.agg (frA (frY M ao cap g0))) (ldF_0 _ rfl g2 rfl (kg2)) ?_
  refine nr ?_; intro U h; simp only [z0, z1] at h; subst h
  refine s_val 53 rfl rfl (.agg (frA (frY M a5 c5 gg5))) (ldF_0 _ rfl g3 rfl (kg3)) ?_
  refine nr ?_; intro U h; simp only [z0, z1] at h; subst h
  refine s_callv 54 rfl rfl _ 18 Try.call18 rfl rfl _ rfl [.agg (frA (frY M ao cap g0)), .agg (frA (frY M a5 c5 gg5))] rfl (Calls.bool (same_d (frY M ao cap g0) (frY M a5 c5 gg5) d d _ (HF.gro GG) HQ5.w hLens) hsm) ?_
  intro w14 G
  replace kg1 := G.has kg1
  replace kg2 := G.has kg2
  replace kt := G.has kt
  replace kr := G.has kr
  replace kg3 := G.has kg3
  replace kg4 := G.has kg4
  replace kg5 := G.has kg5
  replace HB := HB.gro G
  replace HI := HI.gro G
  replace HTt := HTt.gro G
  replace HL := HL.gro G
  replace HV := HV.gro G
  replace HQ5 := HQ5.gro G
  replace HO1 := HO1.gro G
  replace HO2 := HO2.gro G
  replace GG := GG.trans G
  clear G
  refine nr ?_; intro U h; simp only [z0, z1] at h; subst h
  refine s_val 12 rfl rfl (.bool true) (rfl) ?_
  refine nr ?_; intro U h; simp only [z0, z1] at h; subst h
  refine wpList_nil ?_
  refine then_n ?_
  refine wp_seq ?_
  refine wp_seq ?_
  refine wp_region_lit ?_
  refine s_val 55 rfl rfl (.pointer (some ⟨g3, 56, none⟩)) (run_fld 64 _ 8 rfl g3 0 rfl 56 (by kernel_rfl)) ?_
  refine nr ?_; intro U h; simp only [z0, z1] at h; subst h
  refine s_val 56 rfl rfl (.slice a5 M.l.length c5) (ldF_t _ rfl g3 rfl (kg3)) ?_
  refine nr ?_; intro U h; simp only [z0, z1] at h; subst h
  refine s_val 57 rfl rfl (.int .i64 ((M.l.length : Nat) : Int)) (run_len Try.underlying32 _ rfl _ _ _ rfl _) ?_
  refine nr ?_; intro U h; simp only [z0, z1] at h; subst h
  refine s_val 58 rfl rfl (.int .i64 0) (rfl) ?_
  refine nr ?_; intro U h; simp only [z0, z1] at h; subst h
  refine wpList_nil ?_
  refine then_n ?_
  refine wp_block ?_
  refine wp_loopN (fun mz az wv => ∃ (j : Nat) (lx : List Int) (us1 : Nat → Value), mz = M.l.length + 1 - j ∧ az = ⟨[.agg (csA ae E.length ce most N i ap o.length cq), .int .i64 fr, .agg (frA (frY M0 ao cap g0)), .pointer (some ⟨g1, 0, none⟩), undef, .pointer (some ⟨g2, 0, none⟩), .bool false, .pointer (some ⟨t, 0, none⟩), .pointer (some ⟨r, 0, none⟩), .pointer (some ⟨g3, 0, none⟩), .pointer (some ⟨g4, 0, none⟩), .pointer (some ⟨g5, 0, none⟩), .bool true, us1 0, .tuple #[.pointer (some ⟨t, 0, none⟩), .pointer (some ⟨r, 0, none⟩)], .pointer (some ⟨g1, 0, none⟩), .slice ae E.length ce, .pointer (some ⟨g1, 1, none⟩), .int .i64 most, .tuple #[.pointer (some ⟨t, 0, none⟩), .pointer (some ⟨r, 0, none⟩)], .pointer (some ⟨t, 0, none⟩), .pointer (some ⟨r, 0, none⟩), .pointer (some ⟨g2, 56, none⟩), .slice ao M0.l.length cap, .pointer (some ⟨g2, 56, none⟩), .slice ao M0.l.length cap, .int .i64 ((M0.l.length : Nat) : Int), .int .i64 (((min M0.l.length 200) : Nat) : Int), .slice ao M.l.length cap, .pointer (some ⟨g2, 56, none⟩), .agg (frA (frY M ao cap g0)), .agg (frA (frY M a5 c5 gg5)), .pointer (some ⟨t, 0, none⟩), .pointer (some ⟨g1, 2, none⟩), .agg (seA N i), .int .i64 fr, .agg (frA (frY M a5 c5 gg5)), .pointer (some ⟨g1, 19, none⟩), .slice ap o.length cq, .agg (edA ao1 n1 (tkE (rmF most) (layR (rmF most) E) N i fr M o).mine (tkE (rmF most) (layR (rmF most) E) N i fr M o).full), .pointer (some ⟨r, 0, none⟩), .pointer (some ⟨g1, 2, none⟩), .pointer (some ⟨g1, 2, none⟩), .int .i64 N, .pointer (some ⟨g1, 2, none⟩), .pointer (some ⟨g1, 3, none⟩), .agg (idA i), .int .i64 fr, .agg (frA (frY M ao cap g0)), .pointer (some ⟨g1, 19, none⟩), .slice ap o.length cq, .agg (edA ao2 n2 (tkE (rmF most) (layR (rmF most) E) N i fr M o).mine (tkE (rmF most) (layR (rmF most) E) N i fr M o).full), .agg (frA (frY M ao cap g0)), .agg (frA (frY M a5 c5 gg5)), .bool true, .pointer (some ⟨g3, 56, none⟩), .slice a5 M.l.length c5, .int .i64 ((M.l.length : Nat) : Int), .int .i64 ((j : Nat) : Int), us1 1, us1 2, us1 3, us1 4, us1 5, us1 6, us1 7, us1 8, us1 9, us1 10, undef, undef, undef, undef, undef, undef, undef, undef, undef, undef, undef, undef, undef, undef, undef, undef, undef, undef, undef, undef, undef, undef].toArray, []⟩ ∧ j ≤ M.l.length ∧ lx.length = M.l.length ∧ Gro w wv ∧ wv.heap[t]? = some (.cells (tbA (rmF most) b) 99 (0, 0)) ∧ TM wv b (tkL (rmF most) (layR (rmF most) E) N i fr M o) ∧ wv.heap[r]? = some (.cells (rbA ra2 (tkL (rmF most) (layR (rmF most) E) N i fr M o).length rc2 (rmF most)) 53 (0, 0)) ∧ OE wv 0 ra2 rc2 (tkL (rmF most) (layR (rmF most) E) N i fr M o) ∧ wv.heap[g3]? = some (.cells (frA (frY M a5 c5 gg5)) 64 (0, 0)) ∧ wv.heap[g4]? = some (.cells (edA ao1 n1 (tkE (rmF most) (layR (rmF most) E) N i fr M o).mine (tkE (rmF most) (layR (rmF most) E) N i fr M o).full) 41 (0, 0)) ∧ wv.heap[g5]? = some (.cells (edA ao2 n2 (tkE (rmF most) (layR (rmF most) E) N i fr M o).mine (tkE (rmF most) (layR (rmF most) E) N i fr M o).full) 45 (0, 0)) ∧ OI wv w.heap.size a5 c5 lx ∧ OutP wv B1 (tkE (rmF most) (layR (rmF most) E) N i fr M o).out ao1 n1 ∧ OutP wv B2 (tkE (rmF most) (layR (rmF most) E) N i fr M o).out ao2 n2) ?_ _ ⟨0, M.l, (fun kz => ([undef, undef, undef, undef, undef, undef, undef, undef, undef, undef, undef] : List Value).getD kz undef), rfl, rfl, Nat.zero_le _, rfl, GG, kt, HTt, kr, HL, kg3, kg4, kg5, HV, HO1, HO2⟩
  clear GG kt kr kg3 kg4 kg5 HTt HL HV HO1 HO2
  rintro mz az wv ⟨j, lx, us1, rfl, rfl, hj, hlx, GG, kt, HTt, kr, HL, kg3, kg4, kg5, HV, HO1, HO2⟩
  refine wp_seq ?_
  refine wp_region_lit ?_
  cases hj1 : decide (((j : Nat) : Int) < ((M.l.length : Nat) : Int))
  · refine s_val 59 rfl rfl (.bool false) (run_lssT 3 _ _ _ rfl ((j : Nat) : Int) ((M.l.length : Nat) : Int) rfl rfl false hj1 _) ?_
    refine nr ?_; intro U h; simp only [z0, z1] at h; subst h
    refine wpList_nil ?_
    refine then_n ?_
    refine wp_seq ?_
    refine wp_cond_false rfl ?_
    refine wp_exit ?_
    refine then_x ?_
    refine then_x ?_
    refine blk_x ?_
    refine then_n ?_
    refine wp_seq ?_
    refine wp_region_exA (A := ?Ax1) 21 [(0, 69), (1, 70), (2, 71), (3, 72), (4, 73), (5, 74), (6, 75), (7, 76), (8, 77), (9, 78), (10, 79), (11, 80), (12, 81), (13, 82), (14, 83), (15, 84), (16, 85), (17, 86), (18, 87), (19, 88), (20, 89)] [.val (.bool true), .val (.bool true), .val (.pointer (some ⟨t, 0, none⟩)), .val (.bool true), .val (.bool true), .val (.bool true), .val (.bool true), .val (.bool true), .val (.bool true), .val (.agg (edA ao1 n1 (tkE (rmF most) (layR (rmF most) E) N i fr M o).mine (tkE (rmF most) (layR (rmF most) E) N i fr M o).full)), .val (.agg (edA ao2 n2 (tkE (rmF most) (layR (rmF most) E) N i fr M o).mine (tkE (rmF most) (layR (rmF most) E) N i fr M o).full)), .val (.bool true), .val (.bool true), .val (.bool true), .val (.pointer (some ⟨t, 0, none⟩)), rowE (tkL (rmF most) (layR (rmF most) E) N i fr M o), .val (.pointer (some ⟨r, 0, none⟩)), .val (.pointer (some ⟨r, 0, none⟩)), .val (.pointer (some ⟨r, 0, none⟩)), .val (.slice ra2 (tkL (rmF most) (layR (rmF most) E) N i fr M o).length rc2), .val (.bool true)] follows (by kernel_rfl) rfl ?hAx1 (opsA_cons ?o0x1 (opsA_cons ?o1x1 (opsA_cons ?o2x1 (opsA_cons ?o3x1 (opsA_cons ?o4x1 (opsA_cons ?o5x1 (opsA_cons ?o6x1 (opsA_cons ?o7x1 (opsA_cons ?o8x1 (opsA_cons ?o9x1 (opsA_cons ?o10x1 (opsA_cons ?o11x1 (opsA_cons ?o12x1 (opsA_cons ?o13x1 (opsA_cons ?o14x1 (opsA_cons ?o15x1 (opsA_cons ?o16x1 (opsA_cons ?o17x1 (opsA_cons ?o18x1 (opsA_cons ?o19x1 (opsA_cons ?o20x1 opsA_nil))))))))))))))))))))) ?restx1
    case hAx1 =>
      intro ptrs
      simp only [full, foldSlots, filledE, postE, List.foldl_cons, List.foldl_nil, List.getD_cons_zero, List.getD_cons_succ, fill_val, fill_rowE, List.set_cons_zero, List.set_cons_succ]
      exact rfl
    case o0x1 =>
      intro ptrs w' hw hE
      exact opE_call (.val (.bool true)) rfl _ 11 Try.call11 rfl rfl _ rfl [] rfl ((fixed_any _).mono fun e w' ⟨he, hg⟩ => ⟨_, he, hg, rfl⟩)
    case o1x1 => exact fun _ _ _ _ => opE_move (v := .bool true) _ rfl rfl rfl
    case o2x1 => exact fun _ _ _ _ => opE_move (v := .pointer (some ⟨t, 0, none⟩)) _ rfl rfl rfl
    case o3x1 => exact fun _ _ _ _ => opE_value (v := .bool true) rfl (run_nenp 35 _ _ _ rfl _ rfl rfl Try.underlying35 _)
    case o4x1 => exact fun _ _ _ _ => opE_pick (v := .bool true) _ _ _ rfl rfl true rfl rfl
    case o5x1 => exact fun _ _ _ _ => opE_move (v := .bool true) _ rfl rfl rfl
    case o6x1 => exact fun _ _ _ _ => opE_move (v := .bool true) _ rfl rfl rfl
    case o7x1 => exact fun _ _ _ _ => opE_pick (v := .bool true) _ _ _ rfl rfl true rfl rfl
    case o8x1 => exact fun _ _ _ _ => opE_move (v := .bool true) _ rfl rfl rfl
    case o9x1 => exact fun _ _ hw _ => opE_value (v := .agg (edA ao1 n1 (tkE (rmF most) (layR (rmF most) E) N i fr M o).mine (tkE (rmF most) (layR (rmF most) E) N i fr M o).full)) rfl (ldD_0 _ rfl g4 rfl (hw.has kg4))
    case o10x1 => exact fun _ _ hw _ => opE_value (v := .agg (edA ao2 n2 (tkE (rmF most) (layR (rmF most) E) N i fr M o).mine (tkE (rmF most) (layR (rmF most) E) N i fr M o).full)) rfl (ldQ_0 _ rfl g5 rfl (hw.has kg5))
    case o11x1 =>
      intro ptrs w' hw hE
      exact opE_call (.val (.bool true)) rfl _ 12 Try.call12 rfl rfl _ rfl [.agg (edA ao1 n1 (tkE (rmF most) (layR (rmF most) E) N i fr M o).mine (tkE (rmF most) (layR (rmF most) E) N i fr M o).full), .agg (edA ao2 n2 (tkE (rmF most) (layR (rmF most) E) N i fr M o).mine (tkE (rmF most) (layR (rmF most) E) N i fr M o).full)] rfl ((same_any _ (tkE (rmF most) (layR (rmF most) E) N i fr M o).mine (tkE (rmF most) (layR (rmF most) E) N i fr M o).full (tkE (rmF most) (layR (rmF most) E) N i fr M o).out (tkE_len hl) B1 B2 ao1 ao2 n1 n2 (HO1.gro ((Gro.refl _).drew.trans hw)) (HO2.gro ((Gro.refl _).drew.trans hw))).mono fun e w' ⟨he, hg⟩ => ⟨_, he, hg, rfl⟩)
    case o12x1 => exact fun _ _ _ _ => opE_pick (v := .bool true) _ _ _ rfl rfl true rfl rfl
    case o13x1 => exact fun _ _ _ _ => opE_move (v := .bool true) _ rfl rfl rfl
    case o14x1 => exact fun _ _ _ _ => opE_move (v := .pointer (some ⟨t, 0, none⟩)) _ rfl rfl rfl
    case o15x1 =>
      intro ptrs w' hw hE
      exact opE_call (rowE (tkL (rmF most) (layR (rmF most) E) N i fr M o)) rfl _ 14 Try.call14 rfl rfl _ rfl [.pointer (some ⟨t, 0, none⟩)] rfl ((all_any _ t b (rmF most) (tkL (rmF most) (layR (rmF most) E) N i fr M o) (hw.has kt) (HTt.gro ((Gro.refl _).drew.trans hw)) (tkL_ris hLall hLris hM hfr HIa) (Nat.le_trans (tkL_le (rmF_le most) hLle) (by decide))).mono fun e w' ⟨ao, cap, he, hg, hr⟩ => ⟨_, he, hg, ao, cap, rfl, hr.mono (Nat.zero_le _)⟩)
    case o16x1 => exact fun _ _ _ _ => opE_move (v := .pointer (some ⟨r, 0, none⟩)) _ rfl rfl rfl
    case o17x1 => exact fun _ _ _ _ => opE_value (v := .pointer (some ⟨r, 0, none⟩)) rfl (run_nc _ rfl _ rfl)
    case o18x1 => exact fun _ _ _ _ => opE_value (v := .pointer (some ⟨r, 0, none⟩)) rfl (run_fld 53 _ 0 rfl r 0 rfl 0 (by kernel_rfl))
    case o19x1 => exact fun _ _ hw _ => opE_value (v := .slice ra2 (tkL (rmF most) (layR (rmF most) E) N i fr M o).length rc2) rfl (ldRl _ rfl r rfl (hw.has kr))
    case o20x1 =>
      intro ptrs w' hw hE
      obtain ⟨⟨ao15, cap15, h15, o15⟩, _, _⟩ := hE
      exact opE_call (.val (.bool true)) rfl _ 13 Try.call13 rfl rfl _ rfl [.slice ao15 (tkL (rmF most) (layR (rmF most) E) N i fr M o).length cap15, .slice ra2 (tkL (rmF most) (layR (rmF most) E) N i fr M o).length rc2] (by show [ptrs 15, .slice ra2 (tkL (rmF most) (layR (rmF most) E) N i fr M o).length rc2] = _; rw [h15]) ((Calls.bool (sameE_any _ ao15 cap15 (tkL (rmF most) (layR (rmF most) E) N i fr M o) (o15.re) (le_maxL (tkL_le (rmF_le most) hLle)) ra2 rc2 (tkL (rmF most) (layR (rmF most) E) N i fr M o) ((HL.gro ((Gro.refl _).drew.trans hw)).re)) (decide_eq_true rfl)).mono fun e w' ⟨he, hg⟩ => ⟨_, he, hg, rfl⟩)
    intro ptrs w15 GD hxE
    simp only [List.drop_succ_cons, List.drop_zero]
    replace kt := GD.has kt
    replace kr := GD.has kr
    replace kg3 := GD.has kg3
    replace kg4 := GD.has kg4
    replace kg5 := GD.has kg5
    replace HTt := HTt.gro ((Gro.refl _).drew.trans GD)
    replace HL := HL.gro ((Gro.refl _).drew.trans GD)
    replace HV := HV.gro ((Gro.refl _).drew.trans GD)
    replace HO1 := HO1.gro ((Gro.refl _).drew.trans GD)
    replace HO2 := HO2.gro ((Gro.refl _).drew.trans GD)
    replace GG := GG.drew.trans GD
    obtain ⟨_, _⟩ := hxE
    clear GD
    refine s_val 90 rfl rfl (.bool true) (rfl) ?_
    refine nr ?_; intro U h; simp only [z0, z1] at h; subst h
    refine s_val 6 rfl rfl (.bool true) (rfl) ?_
    refine nr ?_; intro U h; simp only [z0, z1] at h; subst h
    refine wpList_nil ?_
    refine then_n ?_
    refine wp_ret ?_
    refine bodyPost_ret (results_tmp Try.results4 _ _ _) rfl ?_
    exact ⟨rfl, GG⟩
  · have hjl : j < M.l.length := by have := of_decide_eq_true hj1; omega
    refine s_val 59 rfl rfl (.bool true) (run_lssT 3 _ _ _ rfl ((j : Nat) : Int) ((M.l.length : Nat) : Int) rfl rfl true hj1 _) ?_
    refine nr ?_; intro U h; simp only [z0, z1] at h; subst h
    refine wpList_nil ?_
    refine then_n ?_
    refine wp_seq ?_
    refine wp_cond_true rfl ?_
    refine wp_skip ?_
    refine then_n ?_
    refine wp_seq ?_
    refine wp_block ?_
    refine wp_seq ?_
    refine wp_region_lit ?_
    refine s_val 60 rfl rfl (.int .i64 ((j : Nat) : Int)) (rfl) ?_
    refine nr ?_; intro U h; simp only [z0, z1] at h; subst h
    refine s_val 13 rfl rfl (.int .i64 ((j : Nat) : Int)) (rfl) ?_
    refine nr ?_; intro U h; simp only [z0, z1] at h; subst h
    refine wpList_nil ?_
    refine then_n ?_
    refine wp_region_lit ?_
    refine s_val 61 rfl rfl (.pointer (some ⟨g3, 56, none⟩)) (run_fld 64 _ 8 rfl g3 0 rfl 56 (by kernel_rfl)) ?_
    refine nr ?_; intro U h; simp only [z0, z1] at h; subst h
    refine s_val 62 rfl rfl (.slice a5 M.l.length c5) (ldF_t _ rfl g3 rfl (kg3)) ?_
    refine nr ?_; intro U h; simp only [z0, z1] at h; subst h
    refine s_val 63 rfl rfl (.int .i64 ((j : Nat) : Int)) (rfl) ?_
    refine nr ?_; intro U h; simp only [z0, z1] at h; subst h
    obtain ⟨gv, cur, hao, hBv, hcur, hcn, hcm, hcs, _⟩ := HV.blk (by omega)
    refine s_val 64 rfl rfl (.pointer (some ⟨gv, j, none⟩)) (run_ixG _ _ rfl hao M.l.length c5 j rfl rfl hjl) ?_
    refine nr ?_; intro U h; simp only [z0, z1] at h; subst h
    refine s_val 65 rfl rfl (.int .i64 (lx.getD j 0)) (run_ldG _ rfl gv j _ rfl (HV.cellv hao (by omega))) ?_
    refine nr ?_; intro U h; simp only [z0, z1] at h; subst h
    refine s_val 66 rfl rfl (.int .i64 (inc64 (lx.getD j 0))) (run_inc _ _ _ rfl _ rfl rfl) ?_
    refine nr ?_; intro U h; simp only [z0, z1] at h; subst h
    refine s_val 67 rfl rfl (.pointer (some ⟨gv, j, none⟩)) (run_ixG _ _ rfl hao M.l.length c5 j rfl rfl hjl) ?_
    refine nr ?_; intro U h; simp only [z0, z1] at h; subst h
    refine s_store rfl rfl 3 _ _ rfl gv j rfl (.int .i64 (inc64 (lx.getD j 0))) rfl 3 _ hcur #[.int .i64 (inc64 (lx.getD j 0))] rfl si3 (by show j + 1 ≤ cur.size; omega) (i_one _) (splice cur j #[.int .i64 (inc64 (lx.getD j 0))]) rfl ?_
    intro w15 St
    replace kt := St.has (fun e => ne_cells kt hcur (by decide) (by simp [e])) kt
    replace kr := St.has (fun e => ne_cells kr hcur (by decide) (by simp [e])) kr
    replace kg3 := St.has (fun e => ne_cells kg3 hcur (by decide) (by simp [e])) kg3
    replace kg4 := St.has (fun e => ne_cells kg4 hcur (by decide) (by simp [e])) kg4
    replace kg5 := St.has (fun e => ne_cells kg5 hcur (by decide) (by simp [e])) kg5
    replace HTt := HTt.st St (HTt.nec hcur).symm
    replace HL := HL.st St (HL.own.ne hcur (by decide))
    replace HO1 := HO1.gros St.gros (fun k hk => by rw [List.mem_singleton] at hk; subst hk; exact h91 _ hao)
    replace HO2 := HO2.gros St.gros (fun k hk => by rw [List.mem_singleton] at hk; subst hk; exact h92 _ hao)
    replace GG := GG.store St (Nat.le_trans (Nat.le_refl _) hBv)
    replace HV := HV.put hao hcur (by omega) _ (inc64_ok _) St
    clear St
    refine wpList_nil ?_
    refine blk_n ?_
    refine then_n ?_
    refine wp_region_lit ?_
    refine s_val 68 rfl rfl (.int .i64 ((j + 1 : Nat) : Int)) (run_addI 3 _ _ _ rfl ((j : Nat) : Int) 1 ((j + 1 : Nat) : Int) rfl rfl (by omega) (by omega) (by omega) _) ?_
    refine nr ?_; intro U h; simp only [z0, z1] at h; subst h
    refine s_val 58 rfl rfl (.int .i64 ((j + 1 : Nat) : Int)) (rfl) ?_
    refine nr ?_; intro U h; simp only [z0, z1] at h; subst h
    refine wpList_nil ?_
    refine then_n ?_
    exact ⟨M.l.length + 1 - (j + 1), by omega, j + 1, lx.set j (inc64 (lx.getD j 0)), (fun kz => ([.int .i64 ((j : Nat) : Int), .bool true, .int .i64 ((j : Nat) : Int), .pointer (some ⟨g3, 56, none⟩), .slice a5 M.l.length c5, .int .i64 ((j : Nat) : Int), .pointer (some ⟨gv, j, none⟩), .int .i64 (lx.getD j 0), .int .i64 (inc64 (lx.getD j 0)), .pointer (some ⟨gv, j, none⟩), .int .i64 ((j + 1 : Nat) : Int)] : List Value).getD kz undef), rfl, rfl, by omega, by rw [List.length_set]; exact hlx, GG, kt, HTt, kr, HL, kg3, kg4, kg5, HV, HO1, HO2⟩
end Go.Proofs.Ytkjnefgenffhcaa
