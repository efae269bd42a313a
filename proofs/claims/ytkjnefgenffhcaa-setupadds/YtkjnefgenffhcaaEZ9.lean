/- The law of what is added. -/
import Derived.Test.YtkjnefgenffhcaaEZ8
namespace Go.Proofs.Ytkjnefgenffhcaa
open Classical
open Go.RowKit Go.Maps
section
variable {room : Nat} {L : List En} {x : En}
theorem add_get (ha : AllE L) (hr : Ris L) (hx : x.ok) (hc : addC room L x = 0) : getL (addL room L x) x.p = some x := by
  have hk := (addL_ris (room := room) ha hr hx).kn
  refine getL_mem hk ?_
  unfold addL
  rw [if_pos hc]
  exact insL_mem.2 (.inl rfl)
theorem add_getV (ha : AllE L) (hr : Ris L) (hx : x.ok) (hc : addC room L x = 0) : getV (addL room L x) x.p = x := by unfold getV; rw [add_get ha hr hx hc]; rfl
theorem add_has (ha : AllE L) (hr : Ris L) (hx : x.ok) (hc : addC room L x = 0) : hasL (addL room L x) x.p = true := by unfold hasL; rw [add_get ha hr hx hc]; rfl
theorem add_len (hc : addC room L x = 0) : (addL room L x).length = L.length + 1 := by unfold addL; rw [if_pos hc, insL_len]
end
theorem tk_cases (room : Nat) (L : List En) (N : Int) (ID : Nat) (fr : Int) (M : Msg) (o : List Bool) :
    (tkE room L N ID fr M o = ed0 ∧ tkL room L N ID fr M o = L) ∨ (∃ f, tkE room L N ID fr M o = edNo M.p fr f ∧ tkL room L N ID fr M o = L) ∨
    (∃ nx, nx = nxt N M ∧ addC room L (xT fr M nx) = 0 ∧ tkE room L N ID fr M o = ⟨some (nx, mSet M.p M.a M.b M.l), false, false⟩ ∧ tkL room L N ID fr M o = addL room L (xT fr M nx)) ∨
    (M.b = ID ∧ addC room L (xT fr M (-1)) = 0 ∧ tkE room L N ID fr M o = ⟨none, true, false⟩ ∧ tkL room L N ID fr M o = addL room L (xT fr M (-1))) := by
  unfold tkE tkL
  split
  · split
    · unfold psE psL
      split
      · split
        · rename_i hc
          exact .inr (.inr (.inl ⟨_, rfl, hc, rfl, rfl⟩))
        · rename_i hc
          exact .inr (.inl ⟨_, rfl, addL_no rfl hc⟩)
      · exact .inr (.inl ⟨_, rfl, rfl⟩)
    · unfold enE enL'
      split
      · rename_i hb
        split
        · rename_i hc
          exact .inr (.inr (.inr ⟨hb, hc, rfl, rfl⟩))
        · rename_i hc
          exact .inr (.inl ⟨_, rfl, addL_no rfl hc⟩)
      · exact .inr (.inl ⟨_, rfl, rfl⟩)
  · exact .inl ⟨rfl, rfl⟩
set_option maxRecDepth 100000 in
set_option maxHeartbeats 4000000 in
theorem adds_A (w : World) (ae : Option Addr) (ce : Nat) (E : List En) (HE : RE w ae ce E) (hEl : E.length ≤ maxLen) (most N : Int) (i : Nat) (hi : i < top) (ap : Option Addr) (cq : Nat) (o : List Bool) (HB : RK kB w ap cq o) (fr : Int) (hfr : I64 fr) (M0 M : Msg) (hMe : M = { M0 with l := M.l }) (hMl : M.l = M0.l.take (min M0.l.length 200)) (hM : M.ok) (ao : Option Addr) (cap : Nat) (g0 : Fr) (d : FD) (HI0 : RC w ao cap M0.l) (HI : RC w ao cap M.l) (HF : FrW w (frY M ao cap g0) d) (hd : d.tr = M.l) (HS : FrS (frY M ao cap g0)) (hE : tkE (rmF most) (layR (rmF most) E) N i fr M o = ed0) (hL2 : tkL (rmF most) (layR (rmF most) E) N i fr M o = (layR (rmF most) E)) : Calls Try.prog 5 #[.agg (csA ae E.length ce most N i ap o.length cq), .int .i64 fr, .agg (frA (frY M0 ao cap g0))] w (fun e w' => e = .returned (.bool true) ∧ Gro w w') := by
  refine s_enter Try.func5 rfl Try.ntmps5 [.agg (csA ae E.length ce most N i ap o.length cq), .int .i64 fr, .agg (frA (frY M0 ao cap g0))] [.agg (csA ae E.length ce most N i ap o.length cq), .int .i64 fr, .agg (frA (frY M0 ao cap g0)), undef, undef, undef, undef, undef, undef, undef, undef, undef, undef, undef, undef, undef, undef, undef, undef, undef, undef, undef, undef, undef, undef, undef, undef, undef, undef, undef, undef, undef, undef, undef, undef, undef, undef, undef, undef, undef, undef, undef, undef, undef, undef, undef, undef, undef, undef, undef, undef, undef, undef, undef, undef, undef, undef, undef, undef, undef, undef, undef, undef, undef, undef, undef, undef, undef, undef, undef, undef, undef, undef, undef, undef, undef, undef, undef, undef, undef, undef, undef, undef, undef, undef, undef, undef, undef, undef, undef, undef, undef, undef, undef, undef, undef, undef, undef, undef, undef, undef, undef, undef, undef, undef, undef, undef, undef, undef, undef, undef, undef, undef, undef, undef, undef, undef, undef, undef, undef, undef, undef, undef, undef, undef, undef, undef, undef, undef, undef, undef, undef, undef, undef, undef, undef, undef, undef, undef, undef, undef, undef, undef, undef, undef, undef, undef, undef, undef, undef] rfl ?_
  have GG := Gro.refl w
  have hLall : AllE (layR (rmF most) E) := layR_ok HE.all
  have hLris : Ris (layR (rmF most) E) := layR_ris HE.all
  have hLle : (layR (rmF most) E).length ≤ 128 := layR_le (rmF_le most) E
  have hLb : (layR (rmF most) E).length ≤ 1000 := by omega
  have HIa := HI.all
  have hl200 : M.l.length ≤ 200 := by rw [hMl, List.length_take]; omega
  have hl : M.l.length ≤ 17592186044416 := by omega
  refine wp_seq ?_
  refine wp_region_lit ?_
  refine s_box 3 rfl rfl 29 _ rfl _ rfl (csA ae E.length ce most N i ap o.length cq) rfl ?_
  intro w1 g1 G eg1 kg1
  have bg1 := size_base GG eg1
  have dHEg1 := HE.ne eg1
  have dHBg1 := HB.ne eg1
  replace HE := HE.gro G
  replace HB := HB.gro G
  replace GG := GG.trans G
  clear G
  clear eg1
  refine nr ?_; intro U h; simp only [z0, z1] at h; subst h
  refine s_box 5 rfl rfl 64 _ rfl _ rfl (frA (frY M0 ao cap g0)) rfl ?_
  intro w2 g2 G eg2 kg2
  have bg2 := size_base GG eg2
  have dg1g2 := lt_new kg1 eg2
  have dHEg2 := HE.ne eg2
  have dHBg2 := HB.ne eg2
  replace kg1 := G.has kg1
  replace HE := HE.gro G
  replace HB := HB.gro G
  replace GG := GG.trans G
  clear G
  clear eg2
  refine nr ?_; intro U h; simp only [z0, z1] at h; subst h
  refine s_val 6 rfl rfl (.bool false) (rfl) ?_
  refine nr ?_; intro U h; simp only [z0, z1] at h; subst h
  refine wpList_nil ?_
  refine then_n ?_
  refine wp_seq ?_
  refine wp_region_lit ?_
  refine s_val 14 rfl rfl (.pointer (some ⟨g1, 0, none⟩)) (run_fld 29 _ 0 rfl g1 0 rfl 0 (by kernel_rfl)) ?_
  refine nr ?_; intro U h; simp only [z0, z1] at h; subst h
  refine s_val 15 rfl rfl (.slice ae E.length ce) (ldC_e _ rfl g1 rfl (kg1)) ?_
  refine nr ?_; intro U h; simp only [z0, z1] at h; subst h
  refine s_val 16 rfl rfl (.pointer (some ⟨g1, 1, none⟩)) (run_fld 29 _ 1 rfl g1 0 rfl 1 (by kernel_rfl)) ?_
  refine nr ?_; intro U h; simp only [z0, z1] at h; subst h
  refine s_val 17 rfl rfl (.int .i64 most) (ldC_m _ rfl g1 rfl (kg1)) ?_
  refine nr ?_; intro U h; simp only [z0, z1] at h; subst h
  refine s_callx 18 rfl rfl _ 8 Try.call8 rfl rfl _ rfl [.slice ae E.length ce, .int .i64 most] rfl (laid_any _ ae ce E HE hEl most) (by rintro _ _ ⟨_, _, _, _, _, he, _⟩; exact ⟨_, he⟩) ?_
  rintro v w3 ⟨t, b, r, ra, rc, he, G, kt, HTt, kr, HL, h1t, h1b, h1r⟩
  cases he
  have dg1t : g1 < t := Nat.lt_of_lt_of_le (lt_of_heap kg1) h1t
  have dg1r : g1 < r := Nat.lt_of_lt_of_le (lt_of_heap kg1) h1r
  have dg2t : g2 < t := Nat.lt_of_lt_of_le (lt_of_heap kg2) h1t
  have dg2r : g2 < r := Nat.lt_of_lt_of_le (lt_of_heap kg2) h1r
  have dHBr := HB.neG h1r
  have bt := Nat.le_trans GG.size h1t
  have bb := Nat.le_trans GG.size h1b
  have br := Nat.le_trans GG.size h1r
  clear h1t h1b h1r
  replace kg1 := G.has kg1
  replace kg2 := G.has kg2
  replace HB := HB.gro G
  replace GG := GG.trans G
  clear G
  refine nr ?_; intro U h; simp only [z0, z1] at h; subst h
  have ntr : t ≠ r := fun e => ne_cells kt kr (by decide) (by simp [e])
  have dHTtg1 := (HTt.nec kg1).symm
  have dHLg1 := HL.own.ne kg1 (by decide)
  have dHTtg2 := (HTt.nec kg2).symm
  have dHLg2 := HL.own.ne kg2 (by decide)
  refine s_val 13 rfl rfl (.tuple #[.pointer (some ⟨t, 0, none⟩), .pointer (some ⟨r, 0, none⟩)]) (rfl) ?_
  refine nr ?_; intro U h; simp only [z0, z1] at h; subst h
  refine s_val 19 rfl rfl (.pointer (some ⟨t, 0, none⟩)) (rfl) ?_
  refine nr ?_; intro U h; simp only [z0, z1] at h; subst h
  refine s_val 20 rfl rfl (.pointer (some ⟨r, 0, none⟩)) (rfl) ?_
  refine nr ?_; intro U h; simp only [z0, z1] at h; subst h
  refine s_val 7 rfl rfl (.pointer (some ⟨t, 0, none⟩)) (rfl) ?_
  refine nr ?_; intro U h; simp only [z0, z1] at h; subst h
  refine s_val 8 rfl rfl (.pointer (some ⟨r, 0, none⟩)) (rfl) ?_
  refine nr ?_; intro U h; simp only [z0, z1] at h; subst h
  refine wpList_nil ?_
  refine then_n ?_
  refine wp_seq ?_
  refine wp_seq ?_
  refine wp_region_opq ?_
  intro OPS hY
  have y2 := hY 2 23 rfl
  clear hY
  refine s_val 21 rfl rfl (.pointer (some ⟨t, 0, none⟩)) (rfl) ?_
  refine nr ?_; intro U h; simp only [z0, z1] at h; subst h
  refine s_val 22 rfl rfl (.bool false) (run_eqnp 35 _ _ _ rfl _ rfl rfl Try.underlying35 _) ?_
  refine nr ?_; intro U h; simp only [z0, z1] at h; subst h
  refine s_val 23 rfl rfl (.bool false) (rfl) ?_
  refine nr ?_; intro U h; simp only [z0, z1] at h; subst h
  refine s_gcallvY 24 rfl rfl y2 rfl _ 11 Try.call11 rfl rfl _ rfl [] rfl (fixed_any _) ?_
  intro w4 G
  replace kg1 := G.has kg1
  replace kg2 := G.has kg2
  replace kt := G.has kt
  replace kr := G.has kr
  replace HB := HB.gro G
  replace HTt := HTt.gro G
  replace HL := HL.gro G
  replace GG := GG.trans G
  clear G
  refine nr ?_; intro U h; simp only [z0, z1] at h; subst h
  refine s_gvalY 25 rfl rfl y2 rfl (.bool false) (run_nt _ _ rfl true rfl) ?_
  refine nr ?_; intro U h; simp only [z0, z1] at h; subst h
  refine s_val 26 rfl rfl (.bool false) (rfl) ?_
  refine nr ?_; intro U h; simp only [z0, z1] at h; subst h
  refine wpList_nil ?_
  refine then_n ?_
  refine wp_cond_false rfl ?_
  refine wp_skip ?_
  refine then_n ?_
  refine wp_seq ?_
  refine wp_region_lit ?_
  refine s_val 27 rfl rfl (.pointer (some ⟨g2, 56, none⟩)) (run_fld 64 _ 8 rfl g2 0 rfl 56 (by kernel_rfl)) ?_
  refine nr ?_; intro U h; simp only [z0, z1] at h; subst h
  refine s_val 28 rfl rfl (.slice ao M0.l.length cap) (ldF_t _ rfl g2 rfl (kg2)) ?_
  refine nr ?_; intro U h; simp only [z0, z1] at h; subst h
  refine s_val 29 rfl rfl (.pointer (some ⟨g2, 56, none⟩)) (run_fld 64 _ 8 rfl g2 0 rfl 56 (by kernel_rfl)) ?_
  refine nr ?_; intro U h; simp only [z0, z1] at h; subst h
  refine s_val 30 rfl rfl (.slice ao M0.l.length cap) (ldF_t _ rfl g2 rfl (kg2)) ?_
  refine nr ?_; intro U h; simp only [z0, z1] at h; subst h
  refine s_val 31 rfl rfl (.int .i64 ((M0.l.length : Nat) : Int)) (run_len Try.underlying32 _ rfl _ _ _ rfl _) ?_
  refine nr ?_; intro U h; simp only [z0, z1] at h; subst h
  refine s_val 32 rfl rfl (.int .i64 (((min M0.l.length 200) : Nat) : Int)) (run_minN _ _ _ rfl M0.l.length 200 rfl rfl _) ?_
  refine nr ?_; intro U h; simp only [z0, z1] at h; subst h
  refine s_val 33 rfl rfl (.slice ao M.l.length cap) (by rw [hMl]; exact run_takeI (HI0.gro GG) _ _ rfl (min M0.l.length 200) rfl rfl (by omega)) ?_
  refine nr ?_; intro U h; simp only [z0, z1] at h; subst h
  refine s_val 34 rfl rfl (.pointer (some ⟨g2, 56, none⟩)) (run_fld 64 _ 8 rfl g2 0 rfl 56 (by kernel_rfl)) ?_
  refine nr ?_; intro U h; simp only [z0, z1] at h; subst h
  refine s_store rfl rfl 32 _ _ rfl g2 56 rfl (.slice ao M.l.length cap) rfl 64 _ kg2 #[.slice ao M.l.length cap] rfl (si32) (by show 56 + 1 ≤ 95; omega) (sl_one _ _ _) (frA (frY M ao cap g0)) (spF_cut hMe _ _ _ _ _) ?_
  intro w5 St
  have kS := kg2
  replace kg1 := St.has (by omega) kg1
  replace kt := St.has (by omega) kt
  replace kr := St.has (by omega) kr
  replace HB := HB.st St dHBg2
  replace HTt := HTt.st St dHTtg2
  replace HL := HL.st St dHLg2
  replace GG := GG.store St bg2
  replace kg2 := St.new
  clear St
  refine wpList_nil ?_
  refine then_n ?_
  refine wp_seq ?_
  refine wp_region_lit ?_
  refine s_val 35 rfl rfl (.pointer (some ⟨t, 0, none⟩)) (rfl) ?_
  refine nr ?_; intro U h; simp only [z0, z1] at h; subst h
  refine s_val 36 rfl rfl (.pointer (some ⟨g1, 2, none⟩)) (run_fld 29 _ 2 rfl g1 0 rfl 2 (by kernel_rfl)) ?_
  refine nr ?_; intro U h; simp only [z0, z1] at h; subst h
  refine s_val 37 rfl rfl (.agg (seA N i)) (ldC_s _ rfl g1 rfl (kg1)) ?_
  refine nr ?_; intro U h; simp only [z0, z1] at h; subst h
  refine s_val 38 rfl rfl (.int .i64 fr) (rfl) ?_
  refine nr ?_; intro U h; simp only [z0, z1] at h; subst h
  refine s_val 39 rfl rfl (.agg (frA (frY M ao cap g0))) (ldF_0 _ rfl g2 rfl (kg2)) ?_
  refine nr ?_; intro U h; simp only [z0, z1] at h; subst h
  refine s_val 40 rfl rfl (.pointer (some ⟨g1, 19, none⟩)) (run_fld 29 _ 3 rfl g1 0 rfl 19 (by kernel_rfl)) ?_
  refine nr ?_; intro U h; simp only [z0, z1] at h; subst h
  refine s_val 41 rfl rfl (.slice ap o.length cq) (ldC_o _ rfl g1 rfl (kg1)) ?_
  refine nr ?_; intro U h; simp only [z0, z1] at h; subst h
  refine s_callx 42 rfl rfl _ 16 Try.call16 rfl rfl _ rfl [.pointer (some ⟨t, 0, none⟩), .agg (seA N i), .int .i64 fr, .agg (frA (frY M ao cap g0)), .slice ap o.length cq] rfl (take_eq _ t b (rmF most) (layR (rmF most) E) (kt) (HTt) N i hi fr hfr M hM ao cap g0 d (HF.gro GG) hd HIa hl HS ap cq o HB ed0 (layR (rmF most) E) hE hL2) (by rintro _ _ ⟨_, _, he, _⟩; exact ⟨_, he⟩) ?_
  rintro v w6 ⟨ao1, n1, he, HO1, HT2, G2⟩
  cases he
  obtain ⟨rfl, rfl⟩ := HO1
  replace kg1 := G2.has kg1 (by simpa using HTt.nec kg1)
  replace kg2 := G2.has kg2 (by simpa using HTt.nec kg2)
  replace kt := G2.has kt (by simpa using HTt.nec kt)
  replace kr := G2.has kr (by simpa using HTt.nec kr)
  replace HB := HB.mapw HTt G2
  replace HL := HL.mapw HTt G2
  replace GG := G2.gro GG (by simpa using bb)
  clear HTt G2
  have HTt := HT2
  clear HT2
  refine nr ?_; intro U h; simp only [z0, z1] at h; subst h
  refine s_alloc 9 rfl rfl 41 rfl _ zvD (edA none 0 false false) rfl ?_
  intro w7 g3 G eg3 kg3
  have bg3 := size_base GG eg3
  have dg1g3 := lt_new kg1 eg3
  have dg2g3 := lt_new kg2 eg3
  have dtg3 := lt_new kt eg3
  have drg3 := lt_new kr eg3
  have dHBg3 := HB.ne eg3
  have dHTtg3 := HTt.ne eg3
  have dHLg3 := HL.ne eg3
  replace kg1 := G.has kg1
  replace kg2 := G.has kg2
  replace kt := G.has kt
  replace kr := G.has kr
  replace HB := HB.gro G
  replace HTt := HTt.gro G
  replace HL := HL.gro G
  replace GG := GG.trans G
  clear G
  clear eg3
  refine nr ?_; intro U h; simp only [z0, z1] at h; subst h
  refine s_store rfl rfl 41 _ _ rfl g3 0 rfl (.agg (edA none 0 false false)) rfl 41 _ kg3 (edA none 0 false false) rfl (siD' _ _ _ _) (Nat.le_refl _) (oneD _ _ _ _) (edA none 0 false false) (splice_whole _ _ (rfl)) ?_
  intro w8 St
  have kS := kg3
  replace kg1 := St.has (by omega) kg1
  replace kg2 := St.has (by omega) kg2
  replace kt := St.has (by omega) kt
  replace kr := St.has (by omega) kr
  replace HB := HB.st St dHBg3
  replace HTt := HTt.st St dHTtg3
  replace HL := HL.st St dHLg3
  replace GG := GG.store St bg3
  replace kg3 := St.new
  clear St
  refine wpList_nil ?_
  refine then_n ?_
  refine wp_seq ?_
  refine wp_region_opq ?_
  intro OPS hY
  have y4 := hY 4 47 rfl
  clear hY
  refine s_val 43 rfl rfl (.pointer (some ⟨g3, 0, none⟩)) (run_fld 41 _ 0 rfl g3 0 rfl 0 (by kernel_rfl)) ?_
  refine nr ?_; intro U h; simp only [z0, z1] at h; subst h
  refine s_val 44 rfl rfl (.slice none 0 0) (ldD_o _ rfl g3 rfl (kg3)) ?_
  refine nr ?_; intro U h; simp only [z0, z1] at h; subst h
  refine s_val 45 rfl rfl (.int .i64 0) (run_len Try.underlying39 _ rfl _ _ _ rfl _) ?_
  refine nr ?_; intro U h; simp only [z0, z1] at h; subst h
  refine s_val 46 rfl rfl (.bool false) (run_eq_k 3 .i64 _ _ _ rfl Try.underlying3 0 1 rfl rfl false (by decide) _) ?_
  refine nr ?_; intro U h; simp only [z0, z1] at h; subst h
  refine s_val 47 rfl rfl (.bool false) (rfl) ?_
  refine nr ?_; intro U h; simp only [z0, z1] at h; subst h
  refine s_skipY 48 rfl rfl y4 rfl ?_
  refine nr ?_; intro U h; simp only [z0, z1] at h; subst h
  refine s_skipY 49 rfl rfl y4 rfl ?_
  refine nr ?_; intro U h; simp only [z0, z1] at h; subst h
  refine s_skipY 50 rfl rfl y4 rfl ?_
  refine nr ?_; intro U h; simp only [z0, z1] at h; subst h
  refine s_skipY 51 rfl rfl y4 rfl ?_
  refine nr ?_; intro U h; simp only [z0, z1] at h; subst h
  refine s_skipY 52 rfl rfl y4 rfl ?_
  refine nr ?_; intro U h; simp only [z0, z1] at h; subst h
  refine s_skipY 53 rfl rfl y4 rfl ?_
  refine nr ?_; intro U h; simp only [z0, z1] at h; subst h
  refine s_skipY 54 rfl rfl y4 rfl ?_
  refine nr ?_; intro U h; simp only [z0, z1] at h; subst h
  refine s_val 55 rfl rfl (.bool false) (rfl) ?_
  refine nr ?_; intro U h; simp only [z0, z1] at h; subst h
  refine s_val 10 rfl rfl (.bool false) (rfl) ?_
  refine nr ?_; intro U h; simp only [z0, z1] at h; subst h
  refine wpList_nil ?_
  refine then_n ?_
  refine wp_seq ?_
  refine wp_seq ?_
  refine wp_region_opq ?_
  intro OPS hY
  have y2 := hY 2 58 rfl
  clear hY
  refine s_val 56 rfl rfl (.bool false) (rfl) ?_
  refine nr ?_; intro U h; simp only [z0, z1] at h; subst h
  refine s_val 57 rfl rfl (.bool true) (run_nt _ _ rfl false rfl) ?_
  refine nr ?_; intro U h; simp only [z0, z1] at h; subst h
  refine s_val 58 rfl rfl (.bool true) (rfl) ?_
  refine nr ?_; intro U h; simp only [z0, z1] at h; subst h
  refine s_gvalY 59 rfl rfl y2 rfl (.pointer (some ⟨g3, 1, none⟩)) (run_fld 41 _ 1 rfl g3 0 rfl 1 (by kernel_rfl)) ?_
  refine nr ?_; intro U h; simp only [z0, z1] at h; subst h
  refine s_gvalY 60 rfl rfl y2 rfl (.bool false) (ldD_m _ rfl g3 rfl (kg3)) ?_
  refine nr ?_; intro U h; simp only [z0, z1] at h; subst h
  refine s_gvalY 61 rfl rfl y2 rfl (.bool true) (run_nt _ _ rfl false rfl) ?_
  refine nr ?_; intro U h; simp only [z0, z1] at h; subst h
  refine s_val 62 rfl rfl (.bool true) (rfl) ?_
  refine nr ?_; intro U h; simp only [z0, z1] at h; subst h
  refine wpList_nil ?_
  refine then_n ?_
  refine wp_cond_true rfl ?_
  refine wp_seq ?_
  refine wp_region_exA (A := ?Ax1) 12 [(0, 63), (1, 64), (2, 65), (3, 66), (4, 67), (5, 68), (6, 69), (7, 70), (8, 71), (9, 72), (10, 73), (11, 74)] [.val (.pointer (some ⟨t, 0, none⟩)), rowE (layR (rmF most) E), .val (.pointer (some ⟨r, 0, none⟩)), .val (.pointer (some ⟨r, 0, none⟩)), .val (.pointer (some ⟨r, 0, none⟩)), .val (.slice ra (layR (rmF most) E).length rc), .val (.bool true), .val (.bool true), .val (.pointer (some ⟨g3, 0, none⟩)), .val (.slice none 0 0), .val (.int .i64 0), .val (.bool true)] follows (by kernel_rfl) rfl ?hAx1 (opsA_cons ?o0x1 (opsA_cons ?o1x1 (opsA_cons ?o2x1 (opsA_cons ?o3x1 (opsA_cons ?o4x1 (opsA_cons ?o5x1 (opsA_cons ?o6x1 (opsA_cons ?o7x1 (opsA_cons ?o8x1 (opsA_cons ?o9x1 (opsA_cons ?o10x1 (opsA_cons ?o11x1 opsA_nil)))))))))))) ?restx1
  case hAx1 =>
    intro ptrs
    simp only [full, foldSlots, filledE, postE, List.foldl_cons, List.foldl_nil, List.getD_cons_zero, List.getD_cons_succ, fill_val, fill_rowE, List.set_cons_zero, List.set_cons_succ]
    exact rfl
  case o0x1 => exact fun _ _ _ _ => opE_move (v := .pointer (some ⟨t, 0, none⟩)) _ rfl rfl rfl
  case o1x1 =>
    intro ptrs w' hw hE
    exact opE_call (rowE (layR (rmF most) E)) rfl _ 14 Try.call14 rfl rfl _ rfl [.pointer (some ⟨t, 0, none⟩)] rfl ((all_any _ t b (rmF most) (layR (rmF most) E) (hw.has kt) (HTt.gro ((Gro.refl _).drew.trans hw)) hLris hLb).mono fun e w' ⟨ao, cap, he, hg, hr⟩ => ⟨_, he, hg, ao, cap, rfl, hr.mono (Nat.zero_le _)⟩)
  case o2x1 => exact fun _ _ _ _ => opE_move (v := .pointer (some ⟨r, 0, none⟩)) _ rfl rfl rfl
  case o3x1 => exact fun _ _ _ _ => opE_value (v := .pointer (some ⟨r, 0, none⟩)) rfl (run_nc _ rfl _ rfl)
  case o4x1 => exact fun _ _ _ _ => opE_value (v := .pointer (some ⟨r, 0, none⟩)) rfl (run_fld 53 _ 0 rfl r 0 rfl 0 (by kernel_rfl))
  case o5x1 => exact fun _ _ hw _ => opE_value (v := .slice ra (layR (rmF most) E).length rc) rfl (ldRl _ rfl r rfl (hw.has kr))
  case o6x1 =>
    intro ptrs w' hw hE
    obtain ⟨⟨ao1, cap1, h1, o1⟩, _, _⟩ := hE
    exact opE_call (.val (.bool true)) rfl _ 13 Try.call13 rfl rfl _ rfl [.slice ao1 (layR (rmF most) E).length cap1, .slice ra (layR (rmF most) E).length rc] (by show [ptrs 1, .slice ra (layR (rmF most) E).length rc] = _; rw [h1]) ((Calls.bool (sameE_any _ ao1 cap1 (layR (rmF most) E) (o1.re) (le_maxL hLle) ra rc (layR (rmF most) E) ((HL.gro ((Gro.refl _).drew.trans hw)).re)) (decide_eq_true rfl)).mono fun e w' ⟨he, hg⟩ => ⟨_, he, hg, rfl⟩)
  case o7x1 => exact fun _ _ _ _ => opE_move (v := .bool true) _ rfl rfl rfl
  case o8x1 => exact fun _ _ _ _ => opE_value (v := .pointer (some ⟨g3, 0, none⟩)) rfl (run_fld 41 _ 0 rfl g3 0 rfl 0 (by kernel_rfl))
  case o9x1 => exact fun _ _ hw _ => opE_value (v := .slice none 0 0) rfl (ldD_o _ rfl g3 rfl (hw.has kg3))
  case o10x1 => exact fun _ _ _ _ => opE_value (v := .int .i64 0) rfl (run_len Try.underlying39 _ rfl _ _ _ rfl _)
  case o11x1 => exact fun _ _ _ _ => opE_value (v := .bool true) rfl (run_leqT 3 _ _ _ rfl 0 1 rfl rfl true (by decide) _)
  intro ptrs w9 GD hxE
  simp only [List.drop_succ_cons, List.drop_zero]
  replace kg1 := GD.has kg1
  replace kg2 := GD.has kg2
  replace kt := GD.has kt
  replace kr := GD.has kr
  replace kg3 := GD.has kg3
  replace HB := HB.gro ((Gro.refl _).drew.trans GD)
  replace HTt := HTt.gro ((Gro.refl _).drew.trans GD)
  replace HL := HL.gro ((Gro.refl _).drew.trans GD)
  replace GG := GG.drew.trans GD
  obtain ⟨_, _⟩ := hxE
  clear GD
  refine s_val 75 rfl rfl (.bool true) (rfl) ?_
  refine nr ?_; intro U h; simp only [z0, z1] at h; subst h
  refine s_val 6 rfl rfl (.bool true) (rfl) ?_
  refine nr ?_; intro U h; simp only [z0, z1] at h; subst h
  refine wpList_nil ?_
  refine then_n ?_
  refine wp_ret ?_
  refine then_r ?_
  refine bodyPost_ret (results_tmp Try.results5 _ _ _) rfl ?_
  exact ⟨rfl, GG⟩
set_option maxRecDepth 100000 in
set_option maxHeartbeats 4000000 in
theorem adds_B (w : World) (ae : Option Addr) (ce : Nat) (E : List En) (HE : RE w ae ce E) (hEl : E.length ≤ maxLen) (most N : Int) (i : Nat) (hi : i < top) (ap : Option Addr) (cq : Nat) (o : List Bool) (HB : RK kB w ap cq o) (fr : Int) (hfr : I64 fr) (M0 M : Msg) (hMe : M = { M0 with l := M.l }) (hMl : M.l = M0.l.take (min M0.l.length 200)) (hM : M.ok) (ao : Option Addr) (cap : Nat) (g0 : Fr) (d : FD) (HI0 : RC w ao cap M0.l) (HI : RC w ao cap M.l) (HF : FrW w (frY M ao cap g0) d) (hd : d.tr = M.l) (HS : FrS (frY M ao cap g0)) (ff : Bool) (hE : tkE (rmF most) (layR (rmF most) E) N i fr M o = (edNo M.p fr ff)) (hL2 : tkL (rmF most) (layR (rmF most) E) N i fr M o = (layR (rmF most) E)) : Calls Try.prog 5 #[.agg (csA ae E.length ce most N i ap o.length cq), .int .i64 fr, .agg (frA (frY M0 ao cap g0))] w (fun e w' => e = .returned (.bool true) ∧ Gro w w') := by
  refine s_enter Try.func5 rfl Try.ntmps5 [.agg (csA ae E.length ce most N i ap o.length cq), .int .i64 fr, .agg (frA (frY M0 ao cap g0))] [.agg (csA ae E.length ce most N i ap o.length cq), .int .i64 fr, .agg (frA (frY M0 ao cap g0)), undef, undef, undef, undef, undef, undef, undef, undef, undef, undef, undef, undef, undef, undef, undef, undef, undef, undef, undef, undef, undef, undef, undef, undef, undef, undef, undef, undef, undef, undef, undef, undef, undef, undef, undef, undef, undef, undef, undef, undef, undef, undef, undef, undef, undef, undef, undef, undef, undef, undef, undef, undef, undef, undef, undef, undef, undef, undef, undef, undef, undef, undef, undef, undef, undef, undef, undef, undef, undef, undef, undef, undef, undef, undef, undef, undef, undef, undef, undef, undef, undef, undef, undef, undef, undef, undef, undef, undef, undef, undef, undef, undef, undef, undef, undef, undef, undef, undef, undef, undef, undef, undef, undef, undef, undef, undef, undef, undef, undef, undef, undef, undef, undef, undef, undef, undef, undef, undef, undef, undef, undef, undef, undef, undef, undef, undef, undef, undef, undef, undef, undef, undef, undef, undef, undef, undef, undef, undef, undef, undef, undef, undef, undef, undef, undef, undef, undef] rfl ?_
  have GG := Gro.refl w
  have hLall : AllE (layR (rmF most) E) := layR_ok HE.all
  have hLris : Ris (layR (rmF most) E) := layR_ris HE.all
  have hLle : (layR (rmF most) E).length ≤ 128 := layR_le (rmF_le most) E
  have hLb : (layR (rmF most) E).length ≤ 1000 := by omega
  have HIa := HI.all
  have hl200 : M.l.length ≤ 200 := by rw [hMl, List.length_take]; omega
  have hl : M.l.length ≤ 17592186044416 := by omega
  refine wp_seq ?_
  refine wp_region_lit ?_
  refine s_box 3 rfl rfl 29 _ rfl _ rfl (csA ae E.length ce most N i ap o.length cq) rfl ?_
  intro w1 g1 G eg1 kg1
  have bg1 := size_base GG eg1
  have dHEg1 := HE.ne eg1
  have dHBg1 := HB.ne eg1
  replace HE := HE.gro G
  replace HB := HB.gro G
  replace GG := GG.trans G
  clear G
  clear eg1
  refine nr ?_; intro U h; simp only [z0, z1] at h; subst h
  refine s_box 5 rfl rfl 64 _ rfl _ rfl (frA (frY M0 ao cap g0)) rfl ?_
  intro w2 g2 G eg2 kg2
  have bg2 := size_base GG eg2
  have dg1g2 := lt_new kg1 eg2
  have dHEg2 := HE.ne eg2
  have dHBg2 := HB.ne eg2
  replace kg1 := G.has kg1
  replace HE := HE.gro G
  replace HB := HB.gro G
  replace GG := GG.trans G
  clear G
  clear eg2
  refine nr ?_; intro U h; simp only [z0, z1] at h; subst h
  refine s_val 6 rfl rfl (.bool false) (rfl) ?_
  refine nr ?_; intro U h; simp only [z0, z1] at h; subst h
  refine wpList_nil ?_
  refine then_n ?_
  refine wp_seq ?_
  refine wp_region_lit ?_
  refine s_val 14 rfl rfl (.pointer (some ⟨g1, 0, none⟩)) (run_fld 29 _ 0 rfl g1 0 rfl 0 (by kernel_rfl)) ?_
  refine nr ?_; intro U h; simp only [z0, z1] at h; subst h
  refine s_val 15 rfl rfl (.slice ae E.length ce) (ldC_e _ rfl g1 rfl (kg1)) ?_
  refine nr ?_; intro U h; simp only [z0, z1] at h; subst h
  refine s_val 16 rfl rfl (.pointer (some ⟨g1, 1, none⟩)) (run_fld 29 _ 1 rfl g1 0 rfl 1 (by kernel_rfl)) ?_
  refine nr ?_; intro U h; simp only [z0, z1] at h; subst h
  refine s_val 17 rfl rfl (.int .i64 most) (ldC_m _ rfl g1 rfl (kg1)) ?_
  refine nr ?_; intro U h; simp only [z0, z1] at h; subst h
  refine s_callx 18 rfl rfl _ 8 Try.call8 rfl rfl _ rfl [.slice ae E.length ce, .int .i64 most] rfl (laid_any _ ae ce E HE hEl most) (by rintro _ _ ⟨_, _, _, _, _, he, _⟩; exact ⟨_, he⟩) ?_
  rintro v w3 ⟨t, b, r, ra, rc, he, G, kt, HTt, kr, HL, h1t, h1b, h1r⟩
  cases he
  have dg1t : g1 < t := Nat.lt_of_lt_of_le (lt_of_heap kg1) h1t
  have dg1r : g1 < r := Nat.lt_of_lt_of_le (lt_of_heap kg1) h1r
  have dg2t : g2 < t := Nat.lt_of_lt_of_le (lt_of_heap kg2) h1t
  have dg2r : g2 < r := Nat.lt_of_lt_of_le (lt_of_heap kg2) h1r
  have dHBr := HB.neG h1r
  have bt := Nat.le_trans GG.size h1t
  have bb := Nat.le_trans GG.size h1b
  have br := Nat.le_trans GG.size h1r
  clear h1t h1b h1r
  replace kg1 := G.has kg1
  replace kg2 := G.has kg2
  replace HB := HB.gro G
  replace GG := GG.trans G
  clear G
  refine nr ?_; intro U h; simp only [z0, z1] at h; subst h
  have ntr : t ≠ r := fun e => ne_cells kt kr (by decide) (by simp [e])
  have dHTtg1 := (HTt.nec kg1).symm
  have dHLg1 := HL.own.ne kg1 (by decide)
  have dHTtg2 := (HTt.nec kg2).symm
  have dHLg2 := HL.own.ne kg2 (by decide)
  refine s_val 13 rfl rfl (.tuple #[.pointer (some ⟨t, 0, none⟩), .pointer (some ⟨r, 0, none⟩)]) (rfl) ?_
  refine nr ?_; intro U h; simp only [z0, z1] at h; subst h
  refine s_val 19 rfl rfl (.pointer (some ⟨t, 0, none⟩)) (rfl) ?_
  refine nr ?_; intro U h; simp only [z0, z1] at h; subst h
  refine s_val 20 rfl rfl (.pointer (some ⟨r, 0, none⟩)) (rfl) ?_
  refine nr ?_; intro U h; simp only [z0, z1] at h; subst h
  refine s_val 7 rfl rfl (.pointer (some ⟨t, 0, none⟩)) (rfl) ?_
  refine nr ?_; intro U h; simp only [z0, z1] at h; subst h
  refine s_val 8 rfl rfl (.pointer (some ⟨r, 0, none⟩)) (rfl) ?_
  refine nr ?_; intro U h; simp only [z0, z1] at h; subst h
  refine wpList_nil ?_
  refine then_n ?_
  refine wp_seq ?_
  refine wp_seq ?_
  refine wp_region_opq ?_
  intro OPS hY
  have y2 := hY 2 23 rfl
  clear hY
  refine s_val 21 rfl rfl (.pointer (some ⟨t, 0, none⟩)) (rfl) ?_
  refine nr ?_; intro U h; simp only [z0, z1] at h; subst h
  refine s_val 22 rfl rfl (.bool false) (run_eqnp 35 _ _ _ rfl _ rfl rfl Try.underlying35 _) ?_
  refine nr ?_; intro U h; simp only [z0, z1] at h; subst h
  refine s_val 23 rfl rfl (.bool false) (rfl) ?_
  refine nr ?_; intro U h; simp only [z0, z1] at h; subst h
  refine s_gcallvY 24 rfl rfl y2 rfl _ 11 Try.call11 rfl rfl _ rfl [] rfl (fixed_any _) ?_
  intro w4 G
  replace kg1 := G.has kg1
  replace kg2 := G.has kg2
  replace kt := G.has kt
  replace kr := G.has kr
  replace HB := HB.gro G
  replace HTt := HTt.gro G
  replace HL := HL.gro G
  replace GG := GG.trans G
  clear G
  refine nr ?_; intro U h; simp only [z0, z1] at h; subst h
  refine s_gvalY 25 rfl rfl y2 rfl (.bool false) (run_nt _ _ rfl true rfl) ?_
  refine nr ?_; intro U h; simp only [z0, z1] at h; subst h
  refine s_val 26 rfl rfl (.bool false) (rfl) ?_
  refine nr ?_; intro U h; simp only [z0, z1] at h; subst h
  refine wpList_nil ?_
  refine then_n ?_
  refine wp_cond_false rfl ?_
  refine wp_skip ?_
  refine then_n ?_
  refine wp_seq ?_
  refine wp_region_lit ?_
  refine s_val 27 rfl rfl (.pointer (some ⟨g2, 56, none⟩)) (run_fld 64 _ 8 rfl g2 0 rfl 56 (by kernel_rfl)) ?_
  refine nr ?_; intro U h; simp only [z0, z1] at h; subst h
  refine s_val 28 rfl rfl (.slice ao M0.l.length cap) (ldF_t _ rfl g2 rfl (kg2)) ?_
  refine nr ?_; intro U h; simp only [z0, z1] at h; subst h
  refine s_val 29 rfl rfl (.pointer (some ⟨g2, 56, none⟩)) (run_fld 64 _ 8 rfl g2 0 rfl 56 (by kernel_rfl)) ?_
  refine nr ?_; intro U h; simp only [z0, z1] at h; subst h
  refine s_val 30 rfl rfl (.slice ao M0.l.length cap) (ldF_t _ rfl g2 rfl (kg2)) ?_
  refine nr ?_; intro U h; simp only [z0, z1] at h; subst h
  refine s_val 31 rfl rfl (.int .i64 ((M0.l.length : Nat) : Int)) (run_len Try.underlying32 _ rfl _ _ _ rfl _) ?_
  refine nr ?_; intro U h; simp only [z0, z1] at h; subst h
  refine s_val 32 rfl rfl (.int .i64 (((min M0.l.length 200) : Nat) : Int)) (run_minN _ _ _ rfl M0.l.length 200 rfl rfl _) ?_
  refine nr ?_; intro U h; simp only [z0, z1] at h; subst h
  refine s_val 33 rfl rfl (.slice ao M.l.length cap) (by rw [hMl]; exact run_takeI (HI0.gro GG) _ _ rfl (min M0.l.length 200) rfl rfl (by omega)) ?_
  refine nr ?_; intro U h; simp only [z0, z1] at h; subst h
  refine s_val 34 rfl rfl (.pointer (some ⟨g2, 56, none⟩)) (run_fld 64 _ 8 rfl g2 0 rfl 56 (by kernel_rfl)) ?_
  refine nr ?_; intro U h; simp only [z0, z1] at h; subst h
  refine s_store rfl rfl 32 _ _ rfl g2 56 rfl (.slice ao M.l.length cap) rfl 64 _ kg2 #[.slice ao M.l.length cap] rfl (si32) (by show 56 + 1 ≤ 95; omega) (sl_one _ _ _) (frA (frY M ao cap g0)) (spF_cut hMe _ _ _ _ _) ?_
  intro w5 St
  have kS := kg2
  replace kg1 := St.has (by omega) kg1
  replace kt := St.has (by omega) kt
  replace kr := St.has (by omega) kr
  replace HB := HB.st St dHBg2
  replace HTt := HTt.st St dHTtg2
  replace HL := HL.st St dHLg2
  replace GG := GG.store St bg2
  replace kg2 := St.new
  clear St
  refine wpList_nil ?_
  refine then_n ?_
  refine wp_seq ?_
  refine wp_region_lit ?_
  refine s_val 35 rfl rfl (.pointer (some ⟨t, 0, none⟩)) (rfl) ?_
  refine nr ?_; intro U h; simp only [z0, z1] at h; subst h
  refine s_val 36 rfl rfl (.pointer (some ⟨g1, 2, none⟩)) (run_fld 29 _ 2 rfl g1 0 rfl 2 (by kernel_rfl)) ?_
  refine nr ?_; intro U h; simp only [z0, z1] at h; subst h
  refine s_val 37 rfl rfl (.agg (seA N i)) (ldC_s _ rfl g1 rfl (kg1)) ?_
  refine nr ?_; intro U h; simp only [z0, z1] at h; subst h
  refine s_val 38 rfl rfl (.int .i64 fr) (rfl) ?_
  refine nr ?_; intro U h; simp only [z0, z1] at h; subst h
  refine s_val 39 rfl rfl (.agg (frA (frY M ao cap g0))) (ldF_0 _ rfl g2 rfl (kg2)) ?_
  refine nr ?_; intro U h; simp only [z0, z1] at h; subst h
  refine s_val 40 rfl rfl (.pointer (some ⟨g1, 19, none⟩)) (run_fld 29 _ 3 rfl g1 0 rfl 19 (by kernel_rfl)) ?_
  refine nr ?_; intro U h; simp only [z0, z1] at h; subst h
  refine s_val 41 rfl rfl (.slice ap o.length cq) (ldC_o _ rfl g1 rfl (kg1)) ?_
  refine nr ?_; intro U h; simp only [z0, z1] at h; subst h
  refine s_callx 42 rfl rfl _ 16 Try.call16 rfl rfl _ rfl [.pointer (some ⟨t, 0, none⟩), .agg (seA N i), .int .i64 fr, .agg (frA (frY M ao cap g0)), .slice ap o.length cq] rfl (take_eq _ t b (rmF most) (layR (rmF most) E) (kt) (HTt) N i hi fr hfr M hM ao cap g0 d (HF.gro GG) hd HIa hl HS ap cq o HB (edNo M.p fr ff) (layR (rmF most) E) hE hL2) (by rintro _ _ ⟨_, _, he, _⟩; exact ⟨_, he⟩) ?_
  rintro v w6 ⟨ao1, n1, he, HO1, HT2, G2⟩
  cases he
  obtain ⟨q1, qa1, qc1, qs1, qt1, qu1, rfl, rfl, kq1, bq1, HQ1⟩ := HO1
  have dg1q1 : g1 < q1 := Nat.lt_of_lt_of_le (lt_of_heap kg1) bq1
  have dg2q1 : g2 < q1 := Nat.lt_of_lt_of_le (lt_of_heap kg2) bq1
  have dtq1 : t < q1 := Nat.lt_of_lt_of_le (lt_of_heap kt) bq1
  have drq1 : r < q1 := Nat.lt_of_lt_of_le (lt_of_heap kr) bq1
  replace bq1 := Nat.le_trans GG.size bq1
  replace HQ1 := HQ1.mono GG.size
  replace kg1 := G2.has kg1 (by simpa using HTt.nec kg1)
  replace kg2 := G2.has kg2 (by simpa using HTt.nec kg2)
  replace kt := G2.has kt (by simpa using HTt.nec kt)
  replace kr := G2.has kr (by simpa using HTt.nec kr)
  replace HB := HB.mapw HTt G2
  replace HL := HL.mapw HTt G2
  replace GG := G2.gro GG (by simpa using bb)
  clear HTt G2
  have HTt := HT2
  clear HT2
  refine nr ?_; intro U h; simp only [z0, z1] at h; subst h
  refine s_alloc 9 rfl rfl 41 rfl _ zvD (edA none 0 false false) rfl ?_
  intro w7 g3 G eg3 kg3
  have bg3 := size_base GG eg3
  have dg1g3 := lt_new kg1 eg3
  have dg2g3 := lt_new kg2 eg3
  have dtg3 := lt_new kt eg3
  have drg3 := lt_new kr eg3
  have dq1g3 := lt_new kq1 eg3
  have dHBg3 := HB.ne eg3
  have dHTtg3 := HTt.ne eg3
  have dHLg3 := HL.ne eg3
  replace kg1 := G.has kg1
  replace kg2 := G.has kg2
  replace kt := G.has kt
  replace kr := G.has kr
  replace kq1 := G.has kq1
  replace HB := HB.gro G
  replace HTt := HTt.gro G
  replace HL := HL.gro G
  replace HQ1 := HQ1.gro G
  replace GG := GG.trans G
  clear G
  clear eg3
  refine nr ?_; intro U h; simp only [z0, z1] at h; subst h
  refine s_store rfl rfl 41 _ _ rfl g3 0 rfl (.agg (edA (some ⟨q1, 0, none⟩) 1 false ff)) rfl 41 _ kg3 (edA (some ⟨q1, 0, none⟩) 1 false ff) rfl (siD' _ _ _ _) (Nat.le_refl _) (oneD _ _ _ _) (edA (some ⟨q1, 0, none⟩) 1 false ff) (splice_whole _ _ (rfl)) ?_
  intro w8 St
  have kS := kg3
  replace kg1 := St.has (by omega) kg1
  replace kg2 := St.has (by omega) kg2
  replace kt := St.has (by omega) kt
  replace kr := St.has (by omega) kr
  replace kq1 := St.has (by omega) kq1
  replace HB := HB.st St dHBg3
  replace HTt := HTt.st St dHTtg3
  replace HL := HL.st St dHLg3
  replace HQ1 := HQ1.st St kS (by decide)
  replace GG := GG.store St bg3
  replace kg3 := St.new
  clear St
  refine wpList_nil ?_
  refine then_n ?_
  refine wp_seq ?_
  refine wp_region_opq ?_
  intro OPS hY
  have y4 := hY 4 47 rfl
  clear hY
  refine s_val 43 rfl rfl (.pointer (some ⟨g3, 0, none⟩)) (run_fld 41 _ 0 rfl g3 0 rfl 0 (by kernel_rfl)) ?_
  refine nr ?_; intro U h; simp only [z0, z1] at h; subst h
  refine s_val 44 rfl rfl (.slice (some ⟨q1, 0, none⟩) 1 1) (ldD_o _ rfl g3 rfl (kg3)) ?_
  refine nr ?_; intro U h; simp only [z0, z1] at h; subst h
  refine s_val 45 rfl rfl (.int .i64 1) (run_len Try.underlying39 _ rfl _ _ _ rfl _) ?_
  refine nr ?_; intro U h; simp only [z0, z1] at h; subst h
  refine s_val 46 rfl rfl (.bool true) (run_eq_k 3 .i64 _ _ _ rfl Try.underlying3 1 1 rfl rfl true (by decide) _) ?_
  refine nr ?_; intro U h; simp only [z0, z1] at h; subst h
  refine s_val 47 rfl rfl (.bool true) (rfl) ?_
  refine nr ?_; intro U h; simp only [z0, z1] at h; subst h
  refine s_gvalY 48 rfl rfl y4 rfl (.pointer (some ⟨g3, 0, none⟩)) (run_fld 41 _ 0 rfl g3 0 rfl 0 (by kernel_rfl)) ?_
  refine nr ?_; intro U h; simp only [z0, z1] at h; subst h
  refine s_gvalY 49 rfl rfl y4 rfl (.slice (some ⟨q1, 0, none⟩) 1 1) (ldD_o _ rfl g3 rfl (kg3)) ?_
  refine nr ?_; intro U h; simp only [z0, z1] at h; subst h
  refine s_gvalY 50 rfl rfl y4 rfl (.pointer (some ⟨q1, 0, none⟩)) (run_ixH q1 _ _ rfl rfl rfl) ?_
  refine nr ?_; intro U h; simp only [z0, z1] at h; subst h
  refine s_gvalY 51 rfl rfl y4 rfl (.pointer (some ⟨q1, 1, none⟩)) (run_fld 71 _ 1 rfl q1 0 rfl 1 (by kernel_rfl)) ?_
  refine nr ?_; intro U h; simp only [z0, z1] at h; subst h
  refine s_gvalY 52 rfl rfl y4 rfl (.pointer (some ⟨q1, 1, none⟩)) (run_fld 64 _ 0 rfl q1 1 rfl 1 (by kernel_rfl)) ?_
  refine nr ?_; intro U h; simp only [z0, z1] at h; subst h
  refine s_gvalY 53 rfl rfl y4 rfl (.int .i64 5) (ldH_k _ rfl q1 rfl (kq1)) ?_
  refine nr ?_; intro U h; simp only [z0, z1] at h; subst h
  refine s_gvalY 54 rfl rfl y4 rfl (.bool false) (run_eq_k 3 .i64 _ _ _ rfl Try.underlying3 5 4 rfl rfl false (by decide) _) ?_
  refine nr ?_; intro U h; simp only [z0, z1] at h; subst h
  refine s_val 55 rfl rfl (.bool false) (rfl) ?_
  refine nr ?_; intro U h; simp only [z0, z1] at h; subst h
  refine s_val 10 rfl rfl (.bool false) (rfl) ?_
  refine nr ?_; intro U h; simp only [z0, z1] at h; subst h
  refine wpList_nil ?_
  refine then_n ?_
  refine wp_seq ?_
  refine wp_seq ?_
  refine wp_region_opq ?_
  intro OPS hY
  have y2 := hY 2 58 rfl
  clear hY
  refine s_val 56 rfl rfl (.bool false) (rfl) ?_
  refine nr ?_; intro U h; simp only [z0, z1] at h; subst h
  refine s_val 57 rfl rfl (.bool true) (run_nt _ _ rfl false rfl) ?_
  refine nr ?_; intro U h; simp only [z0, z1] at h; subst h
  refine s_val 58 rfl rfl (.bool true) (rfl) ?_
  refine nr ?_; intro U h; simp only [z0, z1] at h; subst h
  refine s_gvalY 59 rfl rfl y2 rfl (.pointer (some ⟨g3, 1, none⟩)) (run_fld 41 _ 1 rfl g3 0 rfl 1 (by kernel_rfl)) ?_
  refine nr ?_; intro U h; simp only [z0, z1] at h; subst h
  refine s_gvalY 60 rfl rfl y2 rfl (.bool false) (ldD_m _ rfl g3 rfl (kg3)) ?_
  refine nr ?_; intro U h; simp only [z0, z1] at h; subst h
  refine s_gvalY 61 rfl rfl y2 rfl (.bool true) (run_nt _ _ rfl false rfl) ?_
  refine nr ?_; intro U h; simp only [z0, z1] at h; subst h
  refine s_val 62 rfl rfl (.bool true) (rfl) ?_
  refine nr ?_; intro U h; simp only [z0, z1] at h; subst h
  refine wpList_nil ?_
  refine then_n ?_
  refine wp_cond_true rfl ?_
  refine wp_seq ?_
  refine wp_region_exA (A := ?Ax2) 12 [(0, 63), (1, 64), (2, 65), (3, 66), (4, 67), (5, 68), (6, 69), (7, 70), (8, 71), (9, 72), (10, 73), (11, 74)] [.val (.pointer (some ⟨t, 0, none⟩)), rowE (layR (rmF most) E), .val (.pointer (some ⟨r, 0, none⟩)), .val (.pointer (some ⟨r, 0, none⟩)), .val (.pointer (some ⟨r, 0, none⟩)), .val (.slice ra (layR (rmF most) E).length rc), .val (.bool true), .val (.bool true), .val (.pointer (some ⟨g3, 0, none⟩)), .val (.slice (some ⟨q1, 0, none⟩) 1 1), .val (.int .i64 1), .val (.bool true)] follows (by kernel_rfl) rfl ?hAx2 (opsA_cons ?o0x2 (opsA_cons ?o1x2 (opsA_cons ?o2x2 (opsA_cons ?o3x2 (opsA_cons ?o4x2 (opsA_cons ?o5x2 (opsA_cons ?o6x2 (opsA_cons ?o7x2 (opsA_cons ?o8x2 (opsA_cons ?o9x2 (opsA_cons ?o10x2 (opsA_cons ?o11x2 opsA_nil)))))))))))) ?restx2
  case hAx2 =>
    intro ptrs
    simp only [full, foldSlots, filledE, postE, List.foldl_cons, List.foldl_nil, List.getD_cons_zero, List.getD_cons_succ, fill_val, fill_rowE, List.set_cons_zero, List.set_cons_succ]
    exact rfl
  case o0x2 => exact fun _ _ _ _ => opE_move (v := .pointer (some ⟨t, 0, none⟩)) _ rfl rfl rfl
  case o1x2 =>
    intro ptrs w' hw hE
    exact opE_call (rowE (layR (rmF most) E)) rfl _ 14 Try.call14 rfl rfl _ rfl [.pointer (some ⟨t, 0, none⟩)] rfl ((all_any _ t b (rmF most) (layR (rmF most) E) (hw.has kt) (HTt.gro ((Gro.refl _).drew.trans hw)) hLris hLb).mono fun e w' ⟨ao, cap, he, hg, hr⟩ => ⟨_, he, hg, ao, cap, rfl, hr.mono (Nat.zero_le _)⟩)
  case o2x2 => exact fun _ _ _ _ => opE_move (v := .pointer (some ⟨r, 0, none⟩)) _ rfl rfl rfl
  case o3x2 => exact fun _ _ _ _ => opE_value (v := .pointer (some ⟨r, 0, none⟩)) rfl (run_nc _ rfl _ rfl)
  case o4x2 => exact fun _ _ _ _ => opE_value (v := .pointer (some ⟨r, 0, none⟩)) rfl (run_fld 53 _ 0 rfl r 0 rfl 0 (by kernel_rfl))
  case o5x2 => exact fun _ _ hw _ => opE_value (v := .slice ra (layR (rmF most) E).length rc) rfl (ldRl _ rfl r rfl (hw.has kr))
  case o6x2 =>
    intro ptrs w' hw hE
    obtain ⟨⟨ao1, cap1, h1, o1⟩, _, _⟩ := hE
    exact opE_call (.val (.bool true)) rfl _ 13 Try.call13 rfl rfl _ rfl [.slice ao1 (layR (rmF most) E).length cap1, .slice ra (layR (rmF most) E).length rc] (by show [ptrs 1, .slice ra (layR (rmF most) E).length rc] = _; rw [h1]) ((Calls.bool (sameE_any _ ao1 cap1 (layR (rmF most) E) (o1.re) (le_maxL hLle) ra rc (layR (rmF most) E) ((HL.gro ((Gro.refl _).drew.trans hw)).re)) (decide_eq_true rfl)).mono fun e w' ⟨he, hg⟩ => ⟨_, he, hg, rfl⟩)
  case o7x2 => exact fun _ _ _ _ => opE_move (v := .bool true) _ rfl rfl rfl
  case o8x2 => exact fun _ _ _ _ => opE_value (v := .pointer (some ⟨g3, 0, none⟩)) rfl (run_fld 41 _ 0 rfl g3 0 rfl 0 (by kernel_rfl))
  case o9x2 => exact fun _ _ hw _ => opE_value (v := .slice (some ⟨q1, 0, none⟩) 1 1) rfl (ldD_o _ rfl g3 rfl (hw.has kg3))
  case o10x2 => exact fun _ _ _ _ => opE_value (v := .int .i64 1) rfl (run_len Try.underlying39 _ rfl _ _ _ rfl _)
  case o11x2 => exact fun _ _ _ _ => opE_value (v := .bool true) rfl (run_leqT 3 _ _ _ rfl 1 1 rfl rfl true (by decide) _)
  intro ptrs w9 GD hxE
  simp only [List.drop_succ_cons, List.drop_zero]
  replace kg1 := GD.has kg1
  replace kg2 := GD.has kg2
  replace kt := GD.has kt
  replace kr := GD.has kr
  replace kq1 := GD.has kq1
  replace kg3 := GD.has kg3
  replace HB := HB.gro ((Gro.refl _).drew.trans GD)
  replace HTt := HTt.gro ((Gro.refl _).drew.trans GD)
  replace HL := HL.gro ((Gro.refl _).drew.trans GD)
  replace HQ1 := HQ1.gro ((Gro.refl _).drew.trans GD)
  replace GG := GG.drew.trans GD
  obtain ⟨_, _⟩ := hxE
  clear GD
  refine s_val 75 rfl rfl (.bool true) (rfl) ?_
  refine nr ?_; intro U h; simp only [z0, z1] at h; subst h
  refine s_val 6 rfl rfl (.bool true) (rfl) ?_
  refine nr ?_; intro U h; simp only [z0, z1] at h; subst h
  refine wpList_nil ?_
  refine then_n ?_
  refine wp_ret ?_
  refine then_r ?_
  refine bodyPost_ret (results_tmp Try.results5 _ _ _) rfl ?_
  exact ⟨rfl, GG⟩
set_option maxRecDepth 100000 in
set_option maxHeartbeats 4000000 in
theorem adds_C (w : World) (ae : Option Addr) (ce : Nat) (E : List En) (HE : RE w ae ce E) (hEl : E.length ≤ maxLen) (most N : Int) (i : Nat) (hi : i < top) (ap : Option Addr) (cq : Nat) (o : List Bool) (HB : RK kB w ap cq o) (fr : Int) (hfr : I64 fr) (M0 M : Msg) (hMe : M = { M0 with l := M.l }) (hMl : M.l = M0.l.take (min M0.l.length 200)) (hM : M.ok) (ao : Option Addr) (cap : Nat) (g0 : Fr) (d : FD) (HI0 : RC w ao cap M0.l) (HI : RC w ao cap M.l) (HF : FrW w (frY M ao cap g0) d) (hd : d.tr = M.l) (HS : FrS (frY M ao cap g0)) (nx : Int) (hnx : I64 nx) (hc : addC (rmF most) (layR (rmF most) E) (xT fr M nx) = 0) (hE : tkE (rmF most) (layR (rmF most) E) N i fr M o = ⟨some (nx, mSet M.p M.a M.b M.l), false, false⟩) (hL2 : tkL (rmF most) (layR (rmF most) E) N i fr M o = (addL (rmF most) (layR (rmF most) E) (xT fr M nx))) : Calls Try.prog 5 #[.agg (csA ae E.length ce most N i ap o.length cq), .int .i64 fr, .agg (frA (frY M0 ao cap g0))] w (fun e w' => e = .returned (.bool true) ∧ Gro w w') := by
  refine s_enter Try.func5 rfl Try.ntmps5 [.agg (csA ae E.length ce most N i ap o.length cq), .int .i64 fr, .agg (frA (frY M0 ao cap g0))] [.agg (csA ae E.length ce most N i ap o.length cq), .int .i64 fr, .agg (frA (frY M0 ao cap g0)), undef, undef, undef, undef, undef, undef, undef, undef, undef, undef, undef, undef, undef, undef, undef, undef, undef, undef, undef, undef, undef, undef, undef, undef, undef, undef, undef, undef, undef, undef, undef, undef, undef, undef, undef, undef, undef, undef, undef, undef, undef, undef, undef, undef, undef, undef, undef, undef, undef, undef, undef, undef, undef, undef, undef, undef, undef, undef, undef, undef, undef, undef, undef, undef, undef, undef, undef, undef, undef, undef, undef, undef, undef, undef, undef, undef, undef, undef, undef, undef, undef, undef, undef, undef, undef, undef, undef, undef, undef, undef, undef, undef, undef, undef, undef, undef, undef, undef, undef, undef, undef, undef, undef, undef, undef, undef, undef, undef, undef, undef, undef, undef, undef, undef, undef, undef, undef, undef, undef, undef, undef, undef, undef, undef, undef, undef, undef, undef, undef, undef, undef, undef, undef, undef, undef, undef, undef, undef, undef, undef, undef, undef, undef, undef, undef, undef, undef] rfl ?_
  have GG := Gro.refl w
  have hLall : AllE (layR (rmF most) E) := layR_ok HE.all
  have hLris : Ris (layR (rmF most) E) := layR_ris HE.all
  have hLle : (layR (rmF most) E).length ≤ 128 := layR_le (rmF_le most) E
  have hLb : (layR (rmF most) E).length ≤ 1000 := by omega
  have HIa := HI.all
  have hl200 : M.l.length ≤ 200 := by rw [hMl, List.length_take]; omega
  have hl : M.l.length ≤ 17592186044416 := by omega
  have xok : (xT fr M nx).ok := xT_ok hM hfr hnx
  refine wp_seq ?_
  refine wp_region_lit ?_
  refine s_box 3 rfl rfl 29 _ rfl _ rfl (csA ae E.length ce most N i ap o.length cq) rfl ?_
  intro w1 g1 G eg1 kg1
  have bg1 := size_base GG eg1
  have dHEg1 := HE.ne eg1
  have dHBg1 := HB.ne eg1
  replace HE := HE.gro G
  replace HB := HB.gro G
  replace GG := GG.trans G
  clear G
  clear eg1
  refine nr ?_; intro U h; simp only [z0, z1] at h; subst h
  refine s_box 5 rfl rfl 64 _ rfl _ rfl (frA (frY M0 ao cap g0)) rfl ?_
  intro w2 g2 G eg2 kg2
  have bg2 := size_base GG eg2
  have dg1g2 := lt_new kg1 eg2
  have dHEg2 := HE.ne eg2
  have dHBg2 := HB.ne eg2
  replace kg1 := G.has kg1
  replace HE := HE.gro G
  replace HB := HB.gro G
  replace GG := GG.trans G
  clear G
  clear eg2
  refine nr ?_; intro U h; simp only [z0, z1] at h; subst h
  refine s_val 6 rfl rfl (.bool false) (rfl) ?_
  refine nr ?_; intro U h; simp only [z0, z1] at h; subst h
  refine wpList_nil ?_
  refine then_n ?_
  refine wp_seq ?_
  refine wp_region_lit ?_
  refine s_val 14 rfl rfl (.pointer (some ⟨g1, 0, none⟩)) (run_fld 29 _ 0 rfl g1 0 rfl 0 (by kernel_rfl)) ?_
  refine nr ?_; intro U h; simp only [z0, z1] at h; subst h
  refine s_val 15 rfl rfl (.slice ae E.length ce) (ldC_e _ rfl g1 rfl (kg1)) ?_
  refine nr ?_; intro U h; simp only [z0, z1] at h; subst h
  refine s_val 16 rfl rfl (.pointer (some ⟨g1, 1, none⟩)) (run_fld 29 _ 1 rfl g1 0 rfl 1 (by kernel_rfl)) ?_
  refine nr ?_; intro U h; simp only [z0, z1] at h; subst h
  refine s_val 17 rfl rfl (.int .i64 most) (ldC_m _ rfl g1 rfl (kg1)) ?_
  refine nr ?_; intro U h; simp only [z0, z1] at h; subst h
  refine s_callx 18 rfl rfl _ 8 Try.call8 rfl rfl _ rfl [.slice ae E.length ce, .int .i64 most] rfl (laid_any _ ae ce E HE hEl most) (by rintro _ _ ⟨_, _, _, _, _, he, _⟩; exact ⟨_, he⟩) ?_
  rintro v w3 ⟨t, b, r, ra, rc, he, G, kt, HTt, kr, HL, h1t, h1b, h1r⟩
  cases he
  have dg1t : g1 < t := Nat.lt_of_lt_of_le (lt_of_heap kg1) h1t
  have dg1r : g1 < r := Nat.lt_of_lt_of_le (lt_of_heap kg1) h1r
  have dg2t : g2 < t := Nat.lt_of_lt_of_le (lt_of_heap kg2) h1t
  have dg2r : g2 < r := Nat.lt_of_lt_of_le (lt_of_heap kg2) h1r
  have dHBr := HB.neG h1r
  have bt := Nat.le_trans GG.size h1t
  have bb := Nat.le_trans GG.size h1b
  have br := Nat.le_trans GG.size h1r
  clear h1t h1b h1r
  replace kg1 := G.has kg1
  replace kg2 := G.has kg2
  replace HB := HB.gro G
  replace GG := GG.trans G
  clear G
  refine nr ?_; intro U h; simp only [z0, z1] at h; subst h
  have ntr : t ≠ r := fun e => ne_cells kt kr (by decide) (by simp [e])
  have dHTtg1 := (HTt.nec kg1).symm
  have dHLg1 := HL.own.ne kg1 (by decide)
  have dHTtg2 := (HTt.nec kg2).symm
  have dHLg2 := HL.own.ne kg2 (by decide)
  refine s_val 13 rfl rfl (.tuple #[.pointer (some ⟨t, 0, none⟩), .pointer (some ⟨r, 0, none⟩)]) (rfl) ?_
  refine nr ?_; intro U h; simp only [z0, z1] at h; subst h
  refine s_val 19 rfl rfl (.pointer (some ⟨t, 0, none⟩)) (rfl) ?_
  refine nr ?_; intro U h; simp only [z0, z1] at h; subst h
  refine s_val 20 rfl rfl (.pointer (some ⟨r, 0, none⟩)) (rfl) ?_
  refine nr ?_; intro U h; simp only [z0, z1] at h; subst h
  refine s_val 7 rfl rfl (.pointer (some ⟨t, 0, none⟩)) (rfl) ?_
  refine nr ?_; intro U h; simp only [z0, z1] at h; subst h
  refine s_val 8 rfl rfl (.pointer (some ⟨r, 0, none⟩)) (rfl) ?_
  refine nr ?_; intro U h; simp only [z0, z1] at h; subst h
  refine wpList_nil ?_
  refine then_n ?_
  refine wp_seq ?_
  refine wp_seq ?_
  refine wp_region_opq ?_
  intro OPS hY
  have y2 := hY 2 23 rfl
  clear hY
  refine s_val 21 rfl rfl (.pointer (some ⟨t, 0, none⟩)) (rfl) ?_
  refine nr ?_; intro U h; simp only [z0, z1] at h; subst h
  refine s_val 22 rfl rfl (.bool false) (run_eqnp 35 _ _ _ rfl _ rfl rfl Try.underlying35 _) ?_
  refine nr ?_; intro U h; simp only [z0, z1] at h; subst h
  refine s_val 23 rfl rfl (.bool false) (rfl) ?_
  refine nr ?_; intro U h; simp only [z0, z1] at h; subst h
  refine s_gcallvY 24 rfl rfl y2 rfl _ 11 Try.call11 rfl rfl _ rfl [] rfl (fixed_any _) ?_
  intro w4 G
  replace kg1 := G.has kg1
  replace kg2 := G.has kg2
  replace kt := G.has kt
  replace kr := G.has kr
  replace HB := HB.gro G
  replace HTt := HTt.gro G
  replace HL := HL.gro G
  replace GG := GG.trans G
  clear G
  refine nr ?_; intro U h; simp only [z0, z1] at h; subst h
  refine s_gvalY 25 rfl rfl y2 rfl (.bool false) (run_nt _ _ rfl true rfl) ?_
  refine nr ?_; intro U h; simp only [z0, z1] at h; subst h
  refine s_val 26 rfl rfl (.bool false) (rfl) ?_
  refine nr ?_; intro U h; simp only [z0, z1] at h; subst h
  refine wpList_nil ?_
  refine then_n ?_
  refine wp_cond_false rfl ?_
  refine wp_skip ?_
  refine then_n ?_
  refine wp_seq ?_
  refine wp_region_lit ?_
  refine s_val 27 rfl rfl (.pointer (some ⟨g2, 56, none⟩)) (run_fld 64 _ 8 rfl g2 0 rfl 56 (by kernel_rfl)) ?_
  refine nr ?_; intro U h; simp only [z0, z1] at h; subst h
  refine s_val 28 rfl rfl (.slice ao M0.l.length cap) (ldF_t _ rfl g2 rfl (kg2)) ?_
  refine nr ?_; intro U h; simp only [z0, z1] at h; subst h
  refine s_val 29 rfl rfl (.pointer (some ⟨g2, 56, none⟩)) (run_fld 64 _ 8 rfl g2 0 rfl 56 (by kernel_rfl)) ?_
  refine nr ?_; intro U h; simp only [z0, z1] at h; subst h
  refine s_val 30 rfl rfl (.slice ao M0.l.length cap) (ldF_t _ rfl g2 rfl (kg2)) ?_
  refine nr ?_; intro U h; simp only [z0, z1] at h; subst h
  refine s_val 31 rfl rfl (.int .i64 ((M0.l.length : Nat) : Int)) (run_len Try.underlying32 _ rfl _ _ _ rfl _) ?_
  refine nr ?_; intro U h; simp only [z0, z1] at h; subst h
  refine s_val 32 rfl rfl (.int .i64 (((min M0.l.length 200) : Nat) : Int)) (run_minN _ _ _ rfl M0.l.length 200 rfl rfl _) ?_
  refine nr ?_; intro U h; simp only [z0, z1] at h; subst h
  refine s_val 33 rfl rfl (.slice ao M.l.length cap) (by rw [hMl]; exact run_takeI (HI0.gro GG) _ _ rfl (min M0.l.length 200) rfl rfl (by omega)) ?_
  refine nr ?_; intro U h; simp only [z0, z1] at h; subst h
  refine s_val 34 rfl rfl (.pointer (some ⟨g2, 56, none⟩)) (run_fld 64 _ 8 rfl g2 0 rfl 56 (by kernel_rfl)) ?_
  refine nr ?_; intro U h; simp only [z0, z1] at h; subst h
  refine s_store rfl rfl 32 _ _ rfl g2 56 rfl (.slice ao M.l.length cap) rfl 64 _ kg2 #[.slice ao M.l.length cap] rfl (si32) (by show 56 + 1 ≤ 95; omega) (sl_one _ _ _) (frA (frY M ao cap g0)) (spF_cut hMe _ _ _ _ _) ?_
  intro w5 St
  have kS := kg2
  replace kg1 := St.has (by omega) kg1
  replace kt := St.has (by omega) kt
  replace kr := St.has (by omega) kr
  replace HB := HB.st St dHBg2
  replace HTt := HTt.st St dHTtg2
  replace HL := HL.st St dHLg2
  replace GG := GG.store St bg2
  replace kg2 := St.new
  clear St
  refine wpList_nil ?_
  refine then_n ?_
  refine wp_seq ?_
  refine wp_region_lit ?_
  refine s_val 35 rfl rfl (.pointer (some ⟨t, 0, none⟩)) (rfl) ?_
  refine nr ?_; intro U h; simp only [z0, z1] at h; subst h
  refine s_val 36 rfl rfl (.pointer (some ⟨g1, 2, none⟩)) (run_fld 29 _ 2 rfl g1 0 rfl 2 (by kernel_rfl)) ?_
  refine nr ?_; intro U h; simp only [z0, z1] at h; subst h
  refine s_val 37 rfl rfl (.agg (seA N i)) (ldC_s _ rfl g1 rfl (kg1)) ?_
  refine nr ?_; intro U h; simp only [z0, z1] at h; subst h
  refine s_val 38 rfl rfl (.int .i64 fr) (rfl) ?_
  refine nr ?_; intro U h; simp only [z0, z1] at h; subst h
  refine s_val 39 rfl rfl (.agg (frA (frY M ao cap g0))) (ldF_0 _ rfl g2 rfl (kg2)) ?_
  refine nr ?_; intro U h; simp only [z0, z1] at h; subst h
  refine s_val 40 rfl rfl (.pointer (some ⟨g1, 19, none⟩)) (run_fld 29 _ 3 rfl g1 0 rfl 19 (by kernel_rfl)) ?_
  refine nr ?_; intro U h; simp only [z0, z1] at h; subst h
  refine s_val 41 rfl rfl (.slice ap o.length cq) (ldC_o _ rfl g1 rfl (kg1)) ?_
  refine nr ?_; intro U h; simp only [z0, z1] at h; subst h
  refine s_callx 42 rfl rfl _ 16 Try.call16 rfl rfl _ rfl [.pointer (some ⟨t, 0, none⟩), .agg (seA N i), .int .i64 fr, .agg (frA (frY M ao cap g0)), .slice ap o.length cq] rfl (take_eq _ t b (rmF most) (layR (rmF most) E) (kt) (HTt) N i hi fr hfr M hM ao cap g0 d (HF.gro GG) hd HIa hl HS ap cq o HB ⟨some (nx, mSet M.p M.a M.b M.l), false, false⟩ (addL (rmF most) (layR (rmF most) E) (xT fr M nx)) hE hL2) (by rintro _ _ ⟨_, _, he, _⟩; exact ⟨_, he⟩) ?_
  rintro v w6 ⟨ao1, n1, he, HO1, HT2, G2⟩
  cases he
  obtain ⟨q1, qa1, qc1, qs1, qt1, qu1, rfl, rfl, kq1, bq1, HQ1⟩ := HO1
  have dg1q1 : g1 < q1 := Nat.lt_of_lt_of_le (lt_of_heap kg1) bq1
  have dg2q1 : g2 < q1 := Nat.lt_of_lt_of_le (lt_of_heap kg2) bq1
  have dtq1 : t < q1 := Nat.lt_of_lt_of_le (lt_of_heap kt) bq1
  have drq1 : r < q1 := Nat.lt_of_lt_of_le (lt_of_heap kr) bq1
  replace bq1 := Nat.le_trans GG.size bq1
  replace HQ1 := HQ1.mono GG.size
  replace kg1 := G2.has kg1 (by simpa using HTt.nec kg1)
  replace kg2 := G2.has kg2 (by simpa using HTt.nec kg2)
  replace kt := G2.has kt (by simpa using HTt.nec kt)
  replace kr := G2.has kr (by simpa using HTt.nec kr)
  replace HB := HB.mapw HTt G2
  replace HL := HL.mapw HTt G2
  replace GG := G2.gro GG (by simpa using bb)
  clear HTt G2
  have HTt := HT2
  clear HT2
  refine nr ?_; intro U h; simp only [z0, z1] at h; subst h
  refine s_alloc 9 rfl rfl 41 rfl _ zvD (edA none 0 false false) rfl ?_
  intro w7 g3 G eg3 kg3
  have bg3 := size_base GG eg3
  have dg1g3 := lt_new kg1 eg3
  have dg2g3 := lt_new kg2 eg3
  have dtg3 := lt_new kt eg3
  have drg3 := lt_new kr eg3
  have dq1g3 := lt_new kq1 eg3
  have dHBg3 := HB.ne eg3
  have dHTtg3 := HTt.ne eg3
  have dHLg3 := HL.ne eg3
  replace kg1 := G.has kg1
  replace kg2 := G.has kg2
  replace kt := G.has kt
  replace kr := G.has kr
  replace kq1 := G.has kq1
  replace HB := HB.gro G
  replace HTt := HTt.gro G
  replace HL := HL.gro G
  replace HQ1 := HQ1.gro G
  replace GG := GG.trans G
  clear G
  clear eg3
  refine nr ?_; intro U h; simp only [z0, z1] at h; subst h
  refine s_store rfl rfl 41 _ _ rfl g3 0 rfl (.agg (edA (some ⟨q1, 0, none⟩) 1 false false)) rfl 41 _ kg3 (edA (some ⟨q1, 0, none⟩) 1 false false) rfl (siD' _ _ _ _) (Nat.le_refl _) (oneD _ _ _ _) (edA (some ⟨q1, 0, none⟩) 1 false false) (splice_whole _ _ (rfl)) ?_
  intro w8 St
  have kS := kg3
  replace kg1 := St.has (by omega) kg1
  replace kg2 := St.has (by omega) kg2
  replace kt := St.has (by omega) kt
  replace kr := St.has (by omega) kr
  replace kq1 := St.has (by omega) kq1
  replace HB := HB.st St dHBg3
  replace HTt := HTt.st St dHTtg3
  replace HL := HL.st St dHLg3
  replace HQ1 := HQ1.st St kS (by decide)
  replace GG := GG.store St bg3
  replace kg3 := St.new
  clear St
  refine wpList_nil ?_
  refine then_n ?_
  refine wp_seq ?_
  refine wp_region_opq ?_
  intro OPS hY
  have y4 := hY 4 47 rfl
  clear hY
  refine s_val 43 rfl rfl (.pointer (some ⟨g3, 0, none⟩)) (run_fld 41 _ 0 rfl g3 0 rfl 0 (by kernel_rfl)) ?_
  refine nr ?_; intro U h; simp only [z0, z1] at h; subst h
  refine s_val 44 rfl rfl (.slice (some ⟨q1, 0, none⟩) 1 1) (ldD_o _ rfl g3 rfl (kg3)) ?_
  refine nr ?_; intro U h; simp only [z0, z1] at h; subst h
  refine s_val 45 rfl rfl (.int .i64 1) (run_len Try.underlying39 _ rfl _ _ _ rfl _) ?_
  refine nr ?_; intro U h; simp only [z0, z1] at h; subst h
  refine s_val 46 rfl rfl (.bool true) (run_eq_k 3 .i64 _ _ _ rfl Try.underlying3 1 1 rfl rfl true (by decide) _) ?_
  refine nr ?_; intro U h; simp only [z0, z1] at h; subst h
  refine s_val 47 rfl rfl (.bool true) (rfl) ?_
  refine nr ?_; intro U h; simp only [z0, z1] at h; subst h
  refine s_gvalY 48 rfl rfl y4 rfl (.pointer (some ⟨g3, 0, none⟩)) (run_fld 41 _ 0 rfl g3 0 rfl 0 (by kernel_rfl)) ?_
  refine nr ?_; intro U h; simp only [z0, z1] at h; subst h
  refine s_gvalY 49 rfl rfl y4 rfl (.slice (some ⟨q1, 0, none⟩) 1 1) (ldD_o _ rfl g3 rfl (kg3)) ?_
  refine nr ?_; intro U h; simp only [z0, z1] at h; subst h
  refine s_gvalY 50 rfl rfl y4 rfl (.pointer (some ⟨q1, 0, none⟩)) (run_ixH q1 _ _ rfl rfl rfl) ?_
  refine nr ?_; intro U h; simp only [z0, z1] at h; subst h
  refine s_gvalY 51 rfl rfl y4 rfl (.pointer (some ⟨q1, 1, none⟩)) (run_fld 71 _ 1 rfl q1 0 rfl 1 (by kernel_rfl)) ?_
  refine nr ?_; intro U h; simp only [z0, z1] at h; subst h
  refine s_gvalY 52 rfl rfl y4 rfl (.pointer (some ⟨q1, 1, none⟩)) (run_fld 64 _ 0 rfl q1 1 rfl 1 (by kernel_rfl)) ?_
  refine nr ?_; intro U h; simp only [z0, z1] at h; subst h
  refine s_gvalY 53 rfl rfl y4 rfl (.int .i64 4) (ldH_k _ rfl q1 rfl (kq1)) ?_
  refine nr ?_; intro U h; simp only [z0, z1] at h; subst h
  refine s_gvalY 54 rfl rfl y4 rfl (.bool true) (run_eq_k 3 .i64 _ _ _ rfl Try.underlying3 4 4 rfl rfl true (by decide) _) ?_
  refine nr ?_; intro U h; simp only [z0, z1] at h; subst h
  refine s_val 55 rfl rfl (.bool true) (rfl) ?_
  refine nr ?_; intro U h; simp only [z0, z1] at h; subst h
  refine s_val 10 rfl rfl (.bool true) (rfl) ?_
  refine nr ?_; intro U h; simp only [z0, z1] at h; subst h
  refine wpList_nil ?_
  refine then_n ?_
  refine wp_seq ?_
  refine wp_seq ?_
  refine wp_region_opq ?_
  intro OPS hY
  have y2 := hY 2 58 rfl
  clear hY
  refine s_val 56 rfl rfl (.bool true) (rfl) ?_
  refine nr ?_; intro U h; simp only [z0, z1] at h; subst h
  refine s_val 57 rfl rfl (.bool false) (run_nt _ _ rfl true rfl) ?_
  refine nr ?_; intro U h; simp only [z0, z1] at h; subst h
  refine s_val 58 rfl rfl (.bool false) (rfl) ?_
  refine nr ?_; intro U h; simp only [z0, z1] at h; subst h
  refine s_skipY 59 rfl rfl y2 rfl ?_
  refine nr ?_; intro U h; simp only [z0, z1] at h; subst h
  refine s_skipY 60 rfl rfl y2 rfl ?_
  refine nr ?_; intro U h; simp only [z0, z1] at h; subst h
  refine s_skipY 61 rfl rfl y2 rfl ?_
  refine nr ?_; intro U h; simp only [z0, z1] at h; subst h
  refine s_val 62 rfl rfl (.bool false) (rfl) ?_
  refine nr ?_; intro U h; simp only [z0, z1] at h; subst h
  refine wpList_nil ?_
  refine then_n ?_
  refine wp_cond_false rfl ?_
  refine wp_skip ?_
  refine then_n ?_
  refine wp_seq ?_
  refine wp_region_lit ?_
  refine s_val 77 rfl rfl (.pointer (some ⟨t, 0, none⟩)) (rfl) ?_
  refine nr ?_; intro U h; simp only [z0, z1] at h; subst h
  refine s_val 78 rfl rfl (.pointer (some ⟨g2, 1, none⟩)) (run_fld 64 _ 1 rfl g2 0 rfl 1 (by kernel_rfl)) ?_
  refine nr ?_; intro U h; simp only [z0, z1] at h; subst h
  refine s_val 79 rfl rfl (.agg (paA M.p)) (ldF_p _ rfl g2 rfl (kg2)) ?_
  refine nr ?_; intro U h; simp only [z0, z1] at h; subst h
  refine s_callv 80 rfl rfl _ 19 Try.call19 rfl rfl _ rfl [.pointer (some ⟨t, 0, none⟩), .agg (paA M.p)] rfl (Calls.valV (get_any _ t b (rmF most) (addL (rmF most) (layR (rmF most) E) (xT fr M nx)) (kt) (HTt) M.p hM.p) (by rw [show M.p = (xT fr M nx).p from rfl, add_getV hLall hLris xok hc, add_has hLall hLris xok hc])) ?_
  intro w9 G
  replace kg1 := G.has kg1
  replace kg2 := G.has kg2
  replace kt := G.has kt
  replace kr := G.has kr
  replace kq1 := G.has kq1
  replace kg3 := G.has kg3
  replace HB := HB.gro G
  replace HTt := HTt.gro G
  replace HL := HL.gro G
  replace HQ1 := HQ1.gro G
  replace GG := GG.trans G
  clear G
  refine nr ?_; intro U h; simp only [z0, z1] at h; subst h
  refine s_val 76 rfl rfl (.tuple #[.agg (enA (xT fr M nx)), .bool true]) (rfl) ?_
  refine nr ?_; intro U h; simp only [z0, z1] at h; subst h
  refine s_val 81 rfl rfl (.agg (enA (xT fr M nx))) (rfl) ?_
  refine nr ?_; intro U h; simp only [z0, z1] at h; subst h
  refine s_val 82 rfl rfl (.bool true) (rfl) ?_
  refine nr ?_; intro U h; simp only [z0, z1] at h; subst h
  refine s_alloc 11 rfl rfl 73 rfl _ zero33 (enA zE) rfl ?_
  intro w10 g4 G eg4 kg4
  have bg4 := size_base GG eg4
  have dg1g4 := lt_new kg1 eg4
  have dg2g4 := lt_new kg2 eg4
  have dtg4 := lt_new kt eg4
  have drg4 := lt_new kr eg4
  have dq1g4 := lt_new kq1 eg4
  have dg3g4 := lt_new kg3 eg4
  have dHBg4 := HB.ne eg4
  have dHTtg4 := HTt.ne eg4
  have dHLg4 := HL.ne eg4
  replace kg1 := G.has kg1
  replace kg2 := G.has kg2
  replace kt := G.has kt
  replace kr := G.has kr
  replace kq1 := G.has kq1
  replace kg3 := G.has kg3
  replace HB := HB.gro G
  replace HTt := HTt.gro G
  replace HL := HL.gro G
  replace HQ1 := HQ1.gro G
  replace GG := GG.trans G
  clear G
  clear eg4
  refine nr ?_; intro U h; simp only [z0, z1] at h; subst h
  refine s_store rfl rfl 73 _ _ rfl g4 0 rfl (.agg (enA (xT fr M nx))) rfl 73 _ kg4 (enA (xT fr M nx)) rfl (si33' _) (enA_fit _ _) (enA_one _) (enA (xT fr M nx)) (splice_whole _ _ (enA_sz _ _)) ?_
  intro w11 St
  have kS := kg4
  replace kg1 := St.has (by omega) kg1
  replace kg2 := St.has (by omega) kg2
  replace kt := St.has (by omega) kt
  replace kr := St.has (by omega) kr
  replace kq1 := St.has (by omega) kq1
  replace kg3 := St.has (by omega) kg3
  replace HB := HB.st St dHBg4
  replace HTt := HTt.st St dHTtg4
  replace HL := HL.st St dHLg4
  replace HQ1 := HQ1.st St kS (by decide)
  replace GG := GG.store St bg4
  replace kg4 := St.new
  clear St
  refine s_val 12 rfl rfl (.bool true) (rfl) ?_
  refine nr ?_; intro U h; simp only [z0, z1] at h; subst h
  refine wpList_nil ?_
  refine then_n ?_
  refine wp_seq ?_
  refine wp_seq ?_
  refine wp_region_exA (A := ?Ax3) 38 [(0, 83), (1, 84), (2, 85), (3, 86), (4, 87), (5, 88), (6, 89), (7, 90), (8, 91), (9, 92), (10, 93), (11, 94), (12, 95), (13, 96), (14, 97), (15, 98), (16, 99), (17, 100), (18, 101), (19, 102), (20, 103), (21, 104), (22, 105), (23, 106), (24, 107), (25, 108), (26, 109), (27, 110), (28, 111), (29, 112), (30, 113), (31, 114), (32, 115), (33, 116), (34, 117), (35, 118), (36, 119), (37, 120)] [.val (.bool true), .val (.bool false), .val (.bool false), .val (.pointer (some ⟨t, 0, none⟩)), .val (.int .i64 (((layR (rmF most) E).length + 1 : Nat) : Int)), .val (.pointer (some ⟨r, 0, none⟩)), .val (.pointer (some ⟨r, 0, none⟩)), .val (.pointer (some ⟨r, 0, none⟩)), .val (.slice ra (layR (rmF most) E).length rc), .val (.int .i64 (((layR (rmF most) E).length : Nat) : Int)), .val (.int .i64 (((layR (rmF most) E).length + 1 : Nat) : Int)), .val (.bool false), .val (.bool false), .val (.bool false), .val (.pointer (some ⟨g4, 49, none⟩)), .val (.int .i64 fr), .val (.int .i64 fr), .val (.bool false), .val (.bool false), .val (.bool false), .val (.pointer (some ⟨g4, 17, none⟩)), .val (.agg (idA M.a)), .val (.pointer (some ⟨g2, 19, none⟩)), .val (.agg (idA M.a)), .val (.bool false), .val (.bool false), .val (.bool false), .val (.pointer (some ⟨g4, 33, none⟩)), .val (.agg (idA M.b)), .val (.pointer (some ⟨g2, 35, none⟩)), .val (.agg (idA M.b)), .val (.bool false), .val (.bool false), .val (.bool false), .val (.bool true), .val (.pointer (some ⟨g3, 1, none⟩)), .val (.bool false), .val (.bool false)] follows (by kernel_rfl) rfl ?hAx3 (opsA_cons ?o0x3 (opsA_cons ?o1x3 (opsA_cons ?o2x3 (opsA_cons ?o3x3 (opsA_cons ?o4x3 (opsA_cons ?o5x3 (opsA_cons ?o6x3 (opsA_cons ?o7x3 (opsA_cons ?o8x3 (opsA_cons ?o9x3 (opsA_cons ?o10x3 (opsA_cons ?o11x3 (opsA_cons ?o12x3 (opsA_cons ?o13x3 (opsA_cons ?o14x3 (opsA_cons ?o15x3 (opsA_cons ?o16x3 (opsA_cons ?o17x3 (opsA_cons ?o18x3 (opsA_cons ?o19x3 (opsA_cons ?o20x3 (opsA_cons ?o21x3 (opsA_cons ?o22x3 (opsA_cons ?o23x3 (opsA_cons ?o24x3 (opsA_cons ?o25x3 (opsA_cons ?o26x3 (opsA_cons ?o27x3 (opsA_cons ?o28x3 (opsA_cons ?o29x3 (opsA_cons ?o30x3 (opsA_cons ?o31x3 (opsA_cons ?o32x3 (opsA_cons ?o33x3 (opsA_cons ?o34x3 (opsA_cons ?o35x3 (opsA_cons ?o36x3 (opsA_cons ?o37x3 opsA_nil)))))))))))))))))))))))))))))))))))))) ?restx3
  case hAx3 =>
    intro ptrs
    simp only [full, foldSlots, filledE, postE, List.foldl_cons, List.foldl_nil, List.getD_cons_zero, List.getD_cons_succ, fill_val, List.set_cons_zero, List.set_cons_succ]
    exact rfl
  case o0x3 => exact fun _ _ _ _ => opE_move (v := .bool true) _ rfl rfl rfl
  case o1x3 => exact fun _ _ _ _ => opE_value (v := .bool false) rfl (run_nt _ _ rfl true rfl)
  case o2x3 => exact fun _ _ _ _ => opE_move (v := .bool false) _ rfl rfl rfl
  case o3x3 => exact fun _ _ _ _ => opE_move (v := .pointer (some ⟨t, 0, none⟩)) _ rfl rfl rfl
  case o4x3 =>
    intro ptrs w' hw hE
    exact opE_call (.val (.int .i64 (((layR (rmF most) E).length + 1 : Nat) : Int))) rfl _ 20 Try.call20 rfl rfl _ rfl [.pointer (some ⟨t, 0, none⟩)] rfl ((Calls.valV (len_any _ t b (rmF most) (addL (rmF most) (layR (rmF most) E) (xT fr M nx)) (hw.has kt) (HTt.gro ((Gro.refl _).drew.trans hw))) (by rw [add_len hc])).mono fun e w' ⟨he, hg⟩ => ⟨_, he, hg, rfl⟩)
  case o5x3 => exact fun _ _ _ _ => opE_move (v := .pointer (some ⟨r, 0, none⟩)) _ rfl rfl rfl
  case o6x3 => exact fun _ _ _ _ => opE_value (v := .pointer (some ⟨r, 0, none⟩)) rfl (run_nc _ rfl _ rfl)
  case o7x3 => exact fun _ _ _ _ => opE_value (v := .pointer (some ⟨r, 0, none⟩)) rfl (run_fld 53 _ 0 rfl r 0 rfl 0 (by kernel_rfl))
  case o8x3 => exact fun _ _ hw _ => opE_value (v := .slice ra (layR (rmF most) E).length rc) rfl (ldRl _ rfl r rfl (hw.has kr))
  case o9x3 => exact fun _ _ _ _ => opE_value (v := .int .i64 (((layR (rmF most) E).length : Nat) : Int)) rfl (run_len Try.underlying22 _ rfl _ _ _ rfl _)
  case o10x3 => exact fun _ _ _ _ => opE_value (v := .int .i64 (((layR (rmF most) E).length + 1 : Nat) : Int)) rfl (run_addI 3 _ _ _ rfl (((layR (rmF most) E).length : Nat) : Int) 1 (((layR (rmF most) E).length + 1 : Nat) : Int) rfl rfl (by omega) (by omega) (by omega) _)
  case o11x3 => exact fun _ _ _ _ => opE_value (v := .bool false) rfl (run_neq_k 3 .i64 _ _ _ rfl Try.underlying3 (((layR (rmF most) E).length + 1 : Nat) : Int) (((layR (rmF most) E).length + 1 : Nat) : Int) rfl rfl false (decide_eq_true rfl) _)
  case o12x3 => exact fun _ _ _ _ => opE_pick (v := .bool false) _ _ _ rfl rfl false rfl rfl
  case o13x3 => exact fun _ _ _ _ => opE_move (v := .bool false) _ rfl rfl rfl
  case o14x3 => exact fun _ _ _ _ => opE_value (v := .pointer (some ⟨g4, 49, none⟩)) rfl (run_fld 73 _ 3 rfl g4 0 rfl 49 (by kernel_rfl))
  case o15x3 => exact fun _ _ hw _ => opE_value (v := .int .i64 fr) rfl (ldEna (x := (xT fr M nx)) _ rfl g4 rfl (hw.has kg4))
  case o16x3 => exact fun _ _ _ _ => opE_move (v := .int .i64 fr) _ rfl rfl rfl
  case o17x3 => exact fun _ _ _ _ => opE_value (v := .bool false) rfl (run_neq_k 3 .i64 _ _ _ rfl Try.underlying3 fr fr rfl rfl false (decide_eq_true rfl) _)
  case o18x3 => exact fun _ _ _ _ => opE_pick (v := .bool false) _ _ _ rfl rfl false rfl rfl
  case o19x3 => exact fun _ _ _ _ => opE_move (v := .bool false) _ rfl rfl rfl
  case o20x3 => exact fun _ _ _ _ => opE_value (v := .pointer (some ⟨g4, 17, none⟩)) rfl (run_fld 73 _ 1 rfl g4 0 rfl 17 (by kernel_rfl))
  case o21x3 => exact fun _ _ hw _ => opE_value (v := .agg (idA M.a)) rfl (ldEa (x := (xT fr M nx)) _ rfl g4 rfl (hw.has kg4))
  case o22x3 => exact fun _ _ _ _ => opE_value (v := .pointer (some ⟨g2, 19, none⟩)) rfl (run_fld 64 _ 3 rfl g2 0 rfl 19 (by kernel_rfl))
  case o23x3 => exact fun _ _ hw _ => opE_value (v := .agg (idA M.a)) rfl (ldF_a _ rfl g2 rfl (hw.has kg2))
  case o24x3 => exact fun _ _ _ _ => opE_value (v := .bool false) rfl (run_neI _ _ _ rfl _ _ rfl rfl hM.a hM.a false (decide_eq_true rfl))
  case o25x3 => exact fun _ _ _ _ => opE_pick (v := .bool false) _ _ _ rfl rfl false rfl rfl
  case o26x3 => exact fun _ _ _ _ => opE_move (v := .bool false) _ rfl rfl rfl
  case o27x3 => exact fun _ _ _ _ => opE_value (v := .pointer (some ⟨g4, 33, none⟩)) rfl (run_fld 73 _ 2 rfl g4 0 rfl 33 (by kernel_rfl))
  case o28x3 => exact fun _ _ hw _ => opE_value (v := .agg (idA M.b)) rfl (ldEb (x := (xT fr M nx)) _ rfl g4 rfl (hw.has kg4))
  case o29x3 => exact fun _ _ _ _ => opE_value (v := .pointer (some ⟨g2, 35, none⟩)) rfl (run_fld 64 _ 4 rfl g2 0 rfl 35 (by kernel_rfl))
  case o30x3 => exact fun _ _ hw _ => opE_value (v := .agg (idA M.b)) rfl (ldF_b _ rfl g2 rfl (hw.has kg2))
  case o31x3 => exact fun _ _ _ _ => opE_value (v := .bool false) rfl (run_neI _ _ _ rfl _ _ rfl rfl hM.b hM.b false (decide_eq_true rfl))
  case o32x3 => exact fun _ _ _ _ => opE_pick (v := .bool false) _ _ _ rfl rfl false rfl rfl
  case o33x3 => exact fun _ _ _ _ => opE_move (v := .bool false) _ rfl rfl rfl
  case o34x3 => exact fun _ _ _ _ => opE_move (v := .bool true) _ rfl rfl rfl
  case o35x3 => exact fun _ _ _ _ => opE_value (v := .pointer (some ⟨g3, 1, none⟩)) rfl (run_fld 41 _ 1 rfl g3 0 rfl 1 (by kernel_rfl))
  case o36x3 => exact fun _ _ hw _ => opE_value (v := .bool false) rfl (ldD_m _ rfl g3 rfl (hw.has kg3))
  case o37x3 => exact fun _ _ _ _ => opE_value (v := .bool false) rfl (run_eqB 4 _ _ _ rfl true false rfl rfl Try.underlying4 false (by decide) _)
  intro ptrs w12 GD hxE
  simp only [List.drop_succ_cons, List.drop_zero]
  replace kg1 := GD.has kg1
  replace kg2 := GD.has kg2
  replace kt := GD.has kt
  replace kr := GD.has kr
  replace kq1 := GD.has kq1
  replace kg3 := GD.has kg3
  replace kg4 := GD.has kg4
  replace HB := HB.gro ((Gro.refl _).drew.trans GD)
  replace HTt := HTt.gro ((Gro.refl _).drew.trans GD)
  replace HL := HL.gro ((Gro.refl _).drew.trans GD)
  replace HQ1 := HQ1.gro ((Gro.refl _).drew.trans GD)
  replace GG := GG.drew.trans GD
  clear GD
  refine s_val 121 rfl rfl (.bool false) (rfl) ?_
  refine nr ?_; intro U h; simp only [z0, z1] at h; subst h
  refine wpList_nil ?_
  refine then_n ?_
  refine wp_cond_false rfl ?_
  refine wp_skip ?_
  refine then_n ?_
  refine wp_seq ?_
  refine wp_region_exA (A := ?Ax4) 27 [(0, 122), (1, 123), (2, 124), (3, 125), (4, 126), (5, 127), (6, 128), (7, 129), (8, 130), (9, 131), (10, 132), (11, 133), (12, 134), (13, 135), (14, 136), (15, 137), (16, 138), (17, 139), (18, 140), (19, 141), (20, 142), (21, 143), (22, 144), (23, 145), (24, 146), (25, 147), (26, 148)] [.val (.bool true), .val (.bool true), .val (.pointer (some ⟨g4, 50, none⟩)), .val (.int .i64 nx), .val (.pointer (some ⟨g3, 0, none⟩)), .val (.slice (some ⟨q1, 0, none⟩) 1 1), .val (.pointer (some ⟨q1, 0, none⟩)), .val (.pointer (some ⟨q1, 0, none⟩)), .val (.int .i64 nx), .val (.bool true), .val (.bool true), .val (.bool true), .val undef, .val undef, .val undef, .val undef, .val undef, .val undef, .val undef, .val undef, .val undef, .val undef, .val undef, .val undef, .val undef, .val undef, .val undef] follows (by kernel_rfl) rfl ?hAx4 (opsA_cons ?o0x4 (opsA_cons ?o1x4 (opsA_cons ?o2x4 (opsA_cons ?o3x4 (opsA_cons ?o4x4 (opsA_cons ?o5x4 (opsA_cons ?o6x4 (opsA_cons ?o7x4 (opsA_cons ?o8x4 (opsA_cons ?o9x4 (opsA_cons ?o10x4 (opsA_cons ?o11x4 (opsA_cons ?o12x4 (opsA_cons ?o13x4 (opsA_cons ?o14x4 (opsA_cons ?o15x4 (opsA_cons ?o16x4 (opsA_cons ?o17x4 (opsA_cons ?o18x4 (opsA_cons ?o19x4 (opsA_cons ?o20x4 (opsA_cons ?o21x4 (opsA_cons ?o22x4 (opsA_cons ?o23x4 (opsA_cons ?o24x4 (opsA_cons ?o25x4 (opsA_cons ?o26x4 opsA_nil))))))))))))))))))))))))))) ?restx4
  case hAx4 =>
    intro ptrs
    simp only [full, foldSlots, filledE, postE, List.foldl_cons, List.foldl_nil, List.getD_cons_zero, List.getD_cons_succ, fill_val, List.set_cons_zero, List.set_cons_succ]
    exact rfl
  case o0x4 => exact fun _ _ _ _ => opE_move (v := .bool true) _ rfl rfl rfl
  case o1x4 => exact fun _ _ _ _ => opE_move (v := .bool true) _ rfl rfl rfl
  case o2x4 => exact fun _ _ _ _ => opE_value (v := .pointer (some ⟨g4, 50, none⟩)) rfl (run_fld 73 _ 4 rfl g4 0 rfl 50 (by kernel_rfl))
  case o3x4 => exact fun _ _ hw _ => opE_value (v := .int .i64 nx) rfl (ldEnb (x := (xT fr M nx)) _ rfl g4 rfl (hw.has kg4))
  case o4x4 => exact fun _ _ _ _ => opE_value (v := .pointer (some ⟨g3, 0, none⟩)) rfl (run_fld 41 _ 0 rfl g3 0 rfl 0 (by kernel_rfl))
  case o5x4 => exact fun _ _ hw _ => opE_value (v := .slice (some ⟨q1, 0, none⟩) 1 1) rfl (ldD_o _ rfl g3 rfl (hw.has kg3))
  case o6x4 => exact fun _ _ _ _ => opE_value (v := .pointer (some ⟨q1, 0, none⟩)) rfl (run_ixH q1 _ _ rfl rfl rfl)
  case o7x4 => exact fun _ _ _ _ => opE_value (v := .pointer (some ⟨q1, 0, none⟩)) rfl (run_fld 71 _ 0 rfl q1 0 rfl 0 (by kernel_rfl))
  case o8x4 => exact fun _ _ hw _ => opE_value (v := .int .i64 nx) rfl (ldH_n _ rfl q1 rfl (hw.has kq1))
  case o9x4 => exact fun _ _ _ _ => opE_value (v := .bool true) rfl (run_eq_k 3 .i64 _ _ _ rfl Try.underlying3 nx nx rfl rfl true (decide_eq_true rfl) _)
  case o10x4 => exact fun _ _ _ _ => opE_pick (v := .bool true) _ _ _ rfl rfl true rfl rfl
  case o11x4 => exact fun _ _ _ _ => opE_move (v := .bool true) _ rfl rfl rfl
  case o12x4 => exact fun _ _ _ _ => opE_skip rfl
  case o13x4 => exact fun _ _ _ _ => opE_skip rfl
  case o14x4 => exact fun _ _ _ _ => opE_skip rfl
  case o15x4 => exact fun _ _ _ _ => opE_skip rfl
  case o16x4 => exact fun _ _ _ _ => opE_skip rfl
  case o17x4 => exact fun _ _ _ _ => opE_skip rfl
  case o18x4 => exact fun _ _ _ _ => opE_skip rfl
  case o19x4 => exact fun _ _ _ _ => opE_skip rfl
  case o20x4 => exact fun _ _ _ _ => opE_skip rfl
  case o21x4 => exact fun _ _ _ _ => opE_skip rfl
  case o22x4 => exact fun _ _ _ _ => opE_skip rfl
  case o23x4 => exact fun _ _ _ _ => opE_skip rfl
  case o24x4 => exact fun _ _ _ _ => opE_skip rfl
  case o25x4 => exact fun _ _ _ _ => opE_skip rfl
  case o26x4 => exact fun _ _ _ _ => opE_skip rfl
  intro ptrs w13 GD hxE
  simp only [List.drop_succ_cons, List.drop_zero]
  replace kg1 := GD.has kg1
  replace kg2 := GD.has kg2
  replace kt := GD.has kt
  replace kr := GD.has kr
  replace kq1 := GD.has kq1
  replace kg3 := GD.has kg3
  replace kg4 := GD.has kg4
  replace HB := HB.gro ((Gro.refl _).drew.trans GD)
  replace HTt := HTt.gro ((Gro.refl _).drew.trans GD)
  replace HL := HL.gro ((Gro.refl _).drew.trans GD)
  replace HQ1 := HQ1.gro ((Gro.refl _).drew.trans GD)
  replace GG := GG.drew.trans GD
  clear GD
  refine s_val 149 rfl rfl (.bool true) (rfl) ?_
  refine nr ?_; intro U h; simp only [z0, z1] at h; subst h
  refine s_val 6 rfl rfl (.bool true) (rfl) ?_
  refine nr ?_; intro U h; simp only [z0, z1] at h; subst h
  refine wpList_nil ?_
  refine then_n ?_
  refine wp_ret ?_
  refine bodyPost_ret (results_tmp Try.results5 _ _ _) rfl ?_
  exact ⟨rfl, GG⟩
set_option maxRecDepth 100000 in
set_option maxHeartbeats 4000000 in
theorem adds_D (w : World) (ae : Option Addr) (ce : Nat) (E : List En) (HE : RE w ae ce E) (hEl : E.length ≤ maxLen) (most N : Int) (ap : Option Addr) (cq : Nat) (o : List Bool) (HB : RK kB w ap cq o) (fr : Int) (hfr : I64 fr) (M0 M : Msg) (hMe : M = { M0 with l := M.l }) (hMl : M.l = M0.l.take (min M0.l.length 200)) (hM : M.ok) (ao : Option Addr) (cap : Nat) (g0 : Fr) (d : FD) (HI0 : RC w ao cap M0.l) (HI : RC w ao cap M.l) (HF : FrW w (frY M ao cap g0) d) (hd : d.tr = M.l) (HS : FrS (frY M ao cap g0)) (hnx : I64 (-1)) (hc : addC (rmF most) (layR (rmF most) E) (xT fr M (-1)) = 0) (hE : tkE (rmF most) (layR (rmF most) E) N M.b fr M o = ⟨none, true, false⟩) (hL2 : tkL (rmF most) (layR (rmF most) E) N M.b fr M o = (addL (rmF most) (layR (rmF most) E) (xT fr M (-1)))) : Calls Try.prog 5 #[.agg (csA ae E.length ce most N M.b ap o.length cq), .int .i64 fr, .agg (frA (frY M0 ao cap g0))] w (fun e w' => e = .returned (.bool true) ∧ Gro w w') := by
  refine s_enter Try.func5 rfl Try.ntmps5 [.agg (csA ae E.length ce most N M.b ap o.length cq), .int .i64 fr, .agg (frA (frY M0 ao cap g0))] [.agg (csA ae E.length ce most N M.b ap o.length cq), .int .i64 fr, .agg (frA (frY M0 ao cap g0)), undef, undef, undef, undef, undef, undef, undef, undef, undef, undef, undef, undef, undef, undef, undef, undef, undef, undef, undef, undef, undef, undef, undef, undef, undef, undef, undef, undef, undef, undef, undef, undef, undef, undef, undef, undef, undef, undef, undef, undef, undef, undef, undef, undef, undef, undef, undef, undef, undef, undef, undef, undef, undef, undef, undef, undef, undef, undef, undef, undef, undef, undef, undef, undef, undef, undef, undef, undef, undef, undef, undef, undef, undef, undef, undef, undef, undef, undef, undef, undef, undef, undef, undef, undef, undef, undef, undef, undef, undef, undef, undef, undef, undef, undef, undef, undef, undef, undef, undef, undef, undef, undef, undef, undef, undef, undef, undef, undef, undef, undef, undef, undef, undef, undef, undef, undef, undef, undef, undef, undef, undef, undef, undef, undef, undef, undef, undef, undef, undef, undef, undef, undef, undef, undef, undef, undef, undef, undef, undef, undef, undef, undef, undef, undef, undef, undef, undef] rfl ?_
  have GG := Gro.refl w
  have hLall : AllE (layR (rmF most) E) := layR_ok HE.all
  have hLris : Ris (layR (rmF most) E) := layR_ris HE.all
  have hLle : (layR (rmF most) E).length ≤ 128 := layR_le (rmF_le most) E
  have hLb : (layR (rmF most) E).length ≤ 1000 := by omega
  have HIa := HI.all
  have hl200 : M.l.length ≤ 200 := by rw [hMl, List.length_take]; omega
  have hl : M.l.length ≤ 17592186044416 := by omega
  have xok : (xT fr M (-1)).ok := xT_ok hM hfr hnx
  refine wp_seq ?_
  refine wp_region_lit ?_
  refine s_box 3 rfl rfl 29 _ rfl _ rfl (csA ae E.length ce most N M.b ap o.length cq) rfl ?_
  intro w1 g1 G eg1 kg1
  have bg1 := size_base GG eg1
  have dHEg1 := HE.ne eg1
  have dHBg1 := HB.ne eg1
  replace HE := HE.gro G
  replace HB := HB.gro G
  replace GG := GG.trans G
  clear G
  clear eg1
  refine nr ?_; intro U h; simp only [z0, z1] at h; subst h
  refine s_box 5 rfl rfl 64 _ rfl _ rfl (frA (frY M0 ao cap g0)) rfl ?_
  intro w2 g2 G eg2 kg2
  have bg2 := size_base GG eg2
  have dg1g2 := lt_new kg1 eg2
  have dHEg2 := HE.ne eg2
  have dHBg2 := HB.ne eg2
  replace kg1 := G.has kg1
  replace HE := HE.gro G
  replace HB := HB.gro G
  replace GG := GG.trans G
  clear G
  clear eg2
  refine nr ?_; intro U h; simp only [z0, z1] at h; subst h
  refine s_val 6 rfl rfl (.bool false) (rfl) ?_
  refine nr ?_; intro U h; simp only [z0, z1] at h; subst h
  refine wpList_nil ?_
  refine then_n ?_
  refine wp_seq ?_
  refine wp_region_lit ?_
  refine s_val 14 rfl rfl (.pointer (some ⟨g1, 0, none⟩)) (run_fld 29 _ 0 rfl g1 0 rfl 0 (by kernel_rfl)) ?_
  refine nr ?_; intro U h; simp only [z0, z1] at h; subst h
  refine s_val 15 rfl rfl (.slice ae E.length ce) (ldC_e _ rfl g1 rfl (kg1)) ?_
  refine nr ?_; intro U h; simp only [z0, z1] at h; subst h
  refine s_val 16 rfl rfl (.pointer (some ⟨g1, 1, none⟩)) (run_fld 29 _ 1 rfl g1 0 rfl 1 (by kernel_rfl)) ?_
  refine nr ?_; intro U h; simp only [z0, z1] at h; subst h
  refine s_val 17 rfl rfl (.int .i64 most) (ldC_m _ rfl g1 rfl (kg1)) ?_
  refine nr ?_; intro U h; simp only [z0, z1] at h; subst h
  refine s_callx 18 rfl rfl _ 8 Try.call8 rfl rfl _ rfl [.slice ae E.length ce, .int .i64 most] rfl (laid_any _ ae ce E HE hEl most) (by rintro _ _ ⟨_, _, _, _, _, he, _⟩; exact ⟨_, he⟩) ?_
  rintro v w3 ⟨t, b, r, ra, rc, he, G, kt, HTt, kr, HL, h1t, h1b, h1r⟩
  cases he
  have dg1t : g1 < t := Nat.lt_of_lt_of_le (lt_of_heap kg1) h1t
  have dg1r : g1 < r := Nat.lt_of_lt_of_le (lt_of_heap kg1) h1r
  have dg2t : g2 < t := Nat.lt_of_lt_of_le (lt_of_heap kg2) h1t
  have dg2r : g2 < r := Nat.lt_of_lt_of_le (lt_of_heap kg2) h1r
  have dHBr := HB.neG h1r
  have bt := Nat.le_trans GG.size h1t
  have bb := Nat.le_trans GG.size h1b
  have br := Nat.le_trans GG.size h1r
  clear h1t h1b h1r
  replace kg1 := G.has kg1
  replace kg2 := G.has kg2
  replace HB := HB.gro G
  replace GG := GG.trans G
  clear G
  refine nr ?_; intro U h; simp only [z0, z1] at h; subst h
  have ntr : t ≠ r := fun e => ne_cells kt kr (by decide) (by simp [e])
  have dHTtg1 := (HTt.nec kg1).symm
  have dHLg1 := HL.own.ne kg1 (by decide)
  have dHTtg2 := (HTt.nec kg2).symm
  have dHLg2 := HL.own.ne kg2 (by decide)
  refine s_val 13 rfl rfl (.tuple #[.pointer (some ⟨t, 0, none⟩), .pointer (some ⟨r, 0, none⟩)]) (rfl) ?_
  refine nr ?_; intro U h; simp only [z0, z1] at h; subst h
  refine s_val 19 rfl rfl (.pointer (some ⟨t, 0, none⟩)) (rfl) ?_
  refine nr ?_; intro U h; simp only [z0, z1] at h; subst h
  refine s_val 20 rfl rfl (.pointer (some ⟨r, 0, none⟩)) (rfl) ?_
  refine nr ?_; intro U h; simp only [z0, z1] at h; subst h
  refine s_val 7 rfl rfl (.pointer (some ⟨t, 0, none⟩)) (rfl) ?_
  refine nr ?_; intro U h; simp only [z0, z1] at h; subst h
  refine s_val 8 rfl rfl (.pointer (some ⟨r, 0, none⟩)) (rfl) ?_
  refine nr ?_; intro U h; simp only [z0, z1] at h; subst h
  refine wpList_nil ?_
  refine then_n ?_
  refine wp_seq ?_
  refine wp_seq ?_
  refine wp_region_opq ?_
  intro OPS hY
  have y2 := hY 2 23 rfl
  clear hY
  refine s_val 21 rfl rfl (.pointer (some ⟨t, 0, none⟩)) (rfl) ?_
  refine nr ?_; intro U h; simp only [z0, z1] at h; subst h
  refine s_val 22 rfl rfl (.bool false) (run_eqnp 35 _ _ _ rfl _ rfl rfl Try.underlying35 _) ?_
  refine nr ?_; intro U h; simp only [z0, z1] at h; subst h
  refine s_val 23 rfl rfl (.bool false) (rfl) ?_
  refine nr ?_; intro U h; simp only [z0, z1] at h; subst h
  refine s_gcallvY 24 rfl rfl y2 rfl _ 11 Try.call11 rfl rfl _ rfl [] rfl (fixed_any _) ?_
  intro w4 G
  replace kg1 := G.has kg1
  replace kg2 := G.has kg2
  replace kt := G.has kt
  replace kr := G.has kr
  replace HB := HB.gro G
  replace HTt := HTt.gro G
  replace HL := HL.gro G
  replace GG := GG.trans G
  clear G
  refine nr ?_; intro U h; simp only [z0, z1] at h; subst h
  refine s_gvalY 25 rfl rfl y2 rfl (.bool false) (run_nt _ _ rfl true rfl) ?_
  refine nr ?_; intro U h; simp only [z0, z1] at h; subst h
  refine s_val 26 rfl rfl (.bool false) (rfl) ?_
  refine nr ?_; intro U h; simp only [z0, z1] at h; subst h
  refine wpList_nil ?_
  refine then_n ?_
  refine wp_cond_false rfl ?_
  refine wp_skip ?_
  refine then_n ?_
  refine wp_seq ?_
  refine wp_region_lit ?_
  refine s_val 27 rfl rfl (.pointer (some ⟨g2, 56, none⟩)) (run_fld 64 _ 8 rfl g2 0 rfl 56 (by kernel_rfl)) ?_
  refine nr ?_; intro U h; simp only [z0, z1] at h; subst h
  refine s_val 28 rfl rfl (.slice ao M0.l.length cap) (ldF_t _ rfl g2 rfl (kg2)) ?_
  refine nr ?_; intro U h; simp only [z0, z1] at h; subst h
  refine s_val 29 rfl rfl (.pointer (some ⟨g2, 56, none⟩)) (run_fld 64 _ 8 rfl g2 0 rfl 56 (by kernel_rfl)) ?_
  refine nr ?_; intro U h; simp only [z0, z1] at h; subst h
  refine s_val 30 rfl rfl (.slice ao M0.l.length cap) (ldF_t _ rfl g2 rfl (kg2)) ?_
  refine nr ?_; intro U h; simp only [z0, z1] at h; subst h
  refine s_val 31 rfl rfl (.int .i64 ((M0.l.length : Nat) : Int)) (run_len Try.underlying32 _ rfl _ _ _ rfl _) ?_
  refine nr ?_; intro U h; simp only [z0, z1] at h; subst h
  refine s_val 32 rfl rfl (.int .i64 (((min M0.l.length 200) : Nat) : Int)) (run_minN _ _ _ rfl M0.l.length 200 rfl rfl _) ?_
  refine nr ?_; intro U h; simp only [z0, z1] at h; subst h
  refine s_val 33 rfl rfl (.slice ao M.l.length cap) (by rw [hMl]; exact run_takeI (HI0.gro GG) _ _ rfl (min M0.l.length 200) rfl rfl (by omega)) ?_
  refine nr ?_; intro U h; simp only [z0, z1] at h; subst h
  refine s_val 34 rfl rfl (.pointer (some ⟨g2, 56, none⟩)) (run_fld 64 _ 8 rfl g2 0 rfl 56 (by kernel_rfl)) ?_
  refine nr ?_; intro U h; simp only [z0, z1] at h; subst h
  refine s_store rfl rfl 32 _ _ rfl g2 56 rfl (.slice ao M.l.length cap) rfl 64 _ kg2 #[.slice ao M.l.length cap] rfl (si32) (by show 56 + 1 ≤ 95; omega) (sl_one _ _ _) (frA (frY M ao cap g0)) (spF_cut hMe _ _ _ _ _) ?_
  intro w5 St
  have kS := kg2
  replace kg1 := St.has (by omega) kg1
  replace kt := St.has (by omega) kt
  replace kr := St.has (by omega) kr
  replace HB := HB.st St dHBg2
  replace HTt := HTt.st St dHTtg2
  replace HL := HL.st St dHLg2
  replace GG := GG.store St bg2
  replace kg2 := St.new
  clear St
  refine wpList_nil ?_
  refine then_n ?_
  refine wp_seq ?_
  refine wp_region_lit ?_
  refine s_val 35 rfl rfl (.pointer (some ⟨t, 0, none⟩)) (rfl) ?_
  refine nr ?_; intro U h; simp only [z0, z1] at h; subst h
  refine s_val 36 rfl rfl (.pointer (some ⟨g1, 2, none⟩)) (run_fld 29 _ 2 rfl g1 0 rfl 2 (by kernel_rfl)) ?_
  refine nr ?_; intro U h; simp only [z0, z1] at h; subst h
  refine s_val 37 rfl rfl (.agg (seA N M.b)) (ldC_s _ rfl g1 rfl (kg1)) ?_
  refine nr ?_; intro U h; simp only [z0, z1] at h; subst h
  refine s_val 38 rfl rfl (.int .i64 fr) (rfl) ?_
  refine nr ?_; intro U h; simp only [z0, z1] at h; subst h
  refine s_val 39 rfl rfl (.agg (frA (frY M ao cap g0))) (ldF_0 _ rfl g2 rfl (kg2)) ?_
  refine nr ?_; intro U h; simp only [z0, z1] at h; subst h
  refine s_val 40 rfl rfl (.pointer (some ⟨g1, 19, none⟩)) (run_fld 29 _ 3 rfl g1 0 rfl 19 (by kernel_rfl)) ?_
  refine nr ?_; intro U h; simp only [z0, z1] at h; subst h
  refine s_val 41 rfl rfl (.slice ap o.length cq) (ldC_o _ rfl g1 rfl (kg1)) ?_
  refine nr ?_; intro U h; simp only [z0, z1] at h; subst h
  refine s_callx 42 rfl rfl _ 16 Try.call16 rfl rfl _ rfl [.pointer (some ⟨t, 0, none⟩), .agg (seA N M.b), .int .i64 fr, .agg (frA (frY M ao cap g0)), .slice ap o.length cq] rfl (take_eq _ t b (rmF most) (layR (rmF most) E) (kt) (HTt) N M.b hM.b fr hfr M hM ao cap g0 d (HF.gro GG) hd HIa hl HS ap cq o HB ⟨none, true, false⟩ (addL (rmF most) (layR (rmF most) E) (xT fr M (-1))) hE hL2) (by rintro _ _ ⟨_, _, he, _⟩; exact ⟨_, he⟩) ?_
  rintro v w6 ⟨ao1, n1, he, HO1, HT2, G2⟩
  cases he
  obtain ⟨rfl, rfl⟩ := HO1
  replace kg1 := G2.has kg1 (by simpa using HTt.nec kg1)
  replace kg2 := G2.has kg2 (by simpa using HTt.nec kg2)
  replace kt := G2.has kt (by simpa using HTt.nec kt)
  replace kr := G2.has kr (by simpa using HTt.nec kr)
  replace HB := HB.mapw HTt G2
  replace HL := HL.mapw HTt G2
  replace GG := G2.gro GG (by simpa using bb)
  clear HTt G2
  have HTt := HT2
  clear HT2
  refine nr ?_; intro U h; simp only [z0, z1] at h; subst h
  refine s_alloc 9 rfl rfl 41 rfl _ zvD (edA none 0 false false) rfl ?_
  intro w7 g3 G eg3 kg3
  have bg3 := size_base GG eg3
  have dg1g3 := lt_new kg1 eg3
  have dg2g3 := lt_new kg2 eg3
  have dtg3 := lt_new kt eg3
  have drg3 := lt_new kr eg3
  have dHBg3 := HB.ne eg3
  have dHTtg3 := HTt.ne eg3
  have dHLg3 := HL.ne eg3
  replace kg1 := G.has kg1
  replace kg2 := G.has kg2
  replace kt := G.has kt
  replace kr := G.has kr
  replace HB := HB.gro G
  replace HTt := HTt.gro G
  replace HL := HL.gro G
  replace GG := GG.trans G
  clear G
  clear eg3
  refine nr ?_; intro U h; simp only [z0, z1] at h; subst h
  refine s_store rfl rfl 41 _ _ rfl g3 0 rfl (.agg (edA none 0 true false)) rfl 41 _ kg3 (edA none 0 true false) rfl (siD' _ _ _ _) (Nat.le_refl _) (oneD _ _ _ _) (edA none 0 true false) (splice_whole _ _ (rfl)) ?_
  intro w8 St
  have kS := kg3
  replace kg1 := St.has (by omega) kg1
  replace kg2 := St.has (by omega) kg2
  replace kt := St.has (by omega) kt
  replace kr := St.has (by omega) kr
  replace HB := HB.st St dHBg3
  replace HTt := HTt.st St dHTtg3
  replace HL := HL.st St dHLg3
  replace GG := GG.store St bg3
  replace kg3 := St.new
  clear St
  refine wpList_nil ?_
  refine then_n ?_
  refine wp_seq ?_
  refine wp_region_opq ?_
  intro OPS hY
  have y4 := hY 4 47 rfl
  clear hY
  refine s_val 43 rfl rfl (.pointer (some ⟨g3, 0, none⟩)) (run_fld 41 _ 0 rfl g3 0 rfl 0 (by kernel_rfl)) ?_
  refine nr ?_; intro U h; simp only [z0, z1] at h; subst h
  refine s_val 44 rfl rfl (.slice none 0 0) (ldD_o _ rfl g3 rfl (kg3)) ?_
  refine nr ?_; intro U h; simp only [z0, z1] at h; subst h
  refine s_val 45 rfl rfl (.int .i64 0) (run_len Try.underlying39 _ rfl _ _ _ rfl _) ?_
  refine nr ?_; intro U h; simp only [z0, z1] at h; subst h
  refine s_val 46 rfl rfl (.bool false) (run_eq_k 3 .i64 _ _ _ rfl Try.underlying3 0 1 rfl rfl false (by decide) _) ?_
  refine nr ?_; intro U h; simp only [z0, z1] at h; subst h
  refine s_val 47 rfl rfl (.bool false) (rfl) ?_
  refine nr ?_; intro U h; simp only [z0, z1] at h; subst h
  refine s_skipY 48 rfl rfl y4 rfl ?_
  refine nr ?_; intro U h; simp only [z0, z1] at h; subst h
  refine s_skipY 49 rfl rfl y4 rfl ?_
  refine nr ?_; intro U h; simp only [z0, z1] at h; subst h
  refine s_skipY 50 rfl rfl y4 rfl ?_
  refine nr ?_; intro U h; simp only [z0, z1] at h; subst h
  refine s_skipY 51 rfl rfl y4 rfl ?_
  refine nr ?_; intro U h; simp only [z0, z1] at h; subst h
  refine s_skipY 52 rfl rfl y4 rfl ?_
  refine nr ?_; intro U h; simp only [z0, z1] at h; subst h
  refine s_skipY 53 rfl rfl y4 rfl ?_
  refine nr ?_; intro U h; simp only [z0, z1] at h; subst h
  refine s_skipY 54 rfl rfl y4 rfl ?_
  refine nr ?_; intro U h; simp only [z0, z1] at h; subst h
  refine s_val 55 rfl rfl (.bool false) (rfl) ?_
  refine nr ?_; intro U h; simp only [z0, z1] at h; subst h
  refine s_val 10 rfl rfl (.bool false) (rfl) ?_
  refine nr ?_; intro U h; simp only [z0, z1] at h; subst h
  refine wpList_nil ?_
  refine then_n ?_
  refine wp_seq ?_
  refine wp_seq ?_
  refine wp_region_opq ?_
  intro OPS hY
  have y2 := hY 2 58 rfl
  clear hY
  refine s_val 56 rfl rfl (.bool false) (rfl) ?_
  refine nr ?_; intro U h; simp only [z0, z1] at h; subst h
  refine s_val 57 rfl rfl (.bool true) (run_nt _ _ rfl false rfl) ?_
  refine nr ?_; intro U h; simp only [z0, z1] at h; subst h
  refine s_val 58 rfl rfl (.bool true) (rfl) ?_
  refine nr ?_; intro U h; simp only [z0, z1] at h; subst h
  refine s_gvalY 59 rfl rfl y2 rfl (.pointer (some ⟨g3, 1, none⟩)) (run_fld 41 _ 1 rfl g3 0 rfl 1 (by kernel_rfl)) ?_
  refine nr ?_; intro U h; simp only [z0, z1] at h; subst h
  refine s_gvalY 60 rfl rfl y2 rfl (.bool true) (ldD_m _ rfl g3 rfl (kg3)) ?_
  refine nr ?_; intro U h; simp only [z0, z1] at h; subst h
  refine s_gvalY 61 rfl rfl y2 rfl (.bool false) (run_nt _ _ rfl true rfl) ?_
  refine nr ?_; intro U h; simp only [z0, z1] at h; subst h
  refine s_val 62 rfl rfl (.bool false) (rfl) ?_
  refine nr ?_; intro U h; simp only [z0, z1] at h; subst h
  refine wpList_nil ?_
  refine then_n ?_
  refine wp_cond_false rfl ?_
  refine wp_skip ?_
  refine then_n ?_
  refine wp_seq ?_
  refine wp_region_lit ?_
  refine s_val 77 rfl rfl (.pointer (some ⟨t, 0, none⟩)) (rfl) ?_
  refine nr ?_; intro U h; simp only [z0, z1] at h; subst h
  refine s_val 78 rfl rfl (.pointer (some ⟨g2, 1, none⟩)) (run_fld 64 _ 1 rfl g2 0 rfl 1 (by kernel_rfl)) ?_
  refine nr ?_; intro U h; simp only [z0, z1] at h; subst h
  refine s_val 79 rfl rfl (.agg (paA M.p)) (ldF_p _ rfl g2 rfl (kg2)) ?_
  refine nr ?_; intro U h; simp only [z0, z1] at h; subst h
  refine s_callv 80 rfl rfl _ 19 Try.call19 rfl rfl _ rfl [.pointer (some ⟨t, 0, none⟩), .agg (paA M.p)] rfl (Calls.valV (get_any _ t b (rmF most) (addL (rmF most) (layR (rmF most) E) (xT fr M (-1))) (kt) (HTt) M.p hM.p) (by rw [show M.p = (xT fr M (-1)).p from rfl, add_getV hLall hLris xok hc, add_has hLall hLris xok hc])) ?_
  intro w9 G
  replace kg1 := G.has kg1
  replace kg2 := G.has kg2
  replace kt := G.has kt
  replace kr := G.has kr
  replace kg3 := G.has kg3
  replace HB := HB.gro G
  replace HTt := HTt.gro G
  replace HL := HL.gro G
  replace GG := GG.trans G
  clear G
  refine nr ?_; intro U h; simp only [z0, z1] at h; subst h
  refine s_val 76 rfl rfl (.tuple #[.agg (enA (xT fr M (-1))), .bool true]) (rfl) ?_
  refine nr ?_; intro U h; simp only [z0, z1] at h; subst h
  refine s_val 81 rfl rfl (.agg (enA (xT fr M (-1)))) (rfl) ?_
  refine nr ?_; intro U h; simp only [z0, z1] at h; subst h
  refine s_val 82 rfl rfl (.bool true) (rfl) ?_
  refine nr ?_; intro U h; simp only [z0, z1] at h; subst h
  refine s_alloc 11 rfl rfl 73 rfl _ zero33 (enA zE) rfl ?_
  intro w10 g4 G eg4 kg4
  have bg4 := size_base GG eg4
  have dg1g4 := lt_new kg1 eg4
  have dg2g4 := lt_new kg2 eg4
  have dtg4 := lt_new kt eg4
  have drg4 := lt_new kr eg4
  have dg3g4 := lt_new kg3 eg4
  have dHBg4 := HB.ne eg4
  have dHTtg4 := HTt.ne eg4
  have dHLg4 := HL.ne eg4
  replace kg1 := G.has kg1
  replace kg2 := G.has kg2
  replace kt := G.has kt
  replace kr := G.has kr
  replace kg3 := G.has kg3
  replace HB := HB.gro G
  replace HTt := HTt.gro G
  replace HL := HL.gro G
  replace GG := GG.trans G
  clear G
  clear eg4
  refine nr ?_; intro U h; simp only [z0, z1] at h; subst h
  refine s_store rfl rfl 73 _ _ rfl g4 0 rfl (.agg (enA (xT fr M (-1)))) rfl 73 _ kg4 (enA (xT fr M (-1))) rfl (si33' _) (enA_fit _ _) (enA_one _) (enA (xT fr M (-1))) (splice_whole _ _ (enA_sz _ _)) ?_
  intro w11 St
  have kS := kg4
  replace kg1 := St.has (by omega) kg1
  replace kg2 := St.has (by omega) kg2
  replace kt := St.has (by omega) kt
  replace kr := St.has (by omega) kr
  replace kg3 := St.has (by omega) kg3
  replace HB := HB.st St dHBg4
  replace HTt := HTt.st St dHTtg4
  replace HL := HL.st St dHLg4
  replace GG := GG.store St bg4
  replace kg4 := St.new
  clear St
  refine s_val 12 rfl rfl (.bool true) (rfl) ?_
  refine nr ?_; intro U h; simp only [z0, z1] at h; subst h
  refine wpList_nil ?_
  refine then_n ?_
  refine wp_seq ?_
  refine wp_seq ?_
  refine wp_region_exA (A := ?Ax5) 38 [(0, 83), (1, 84), (2, 85), (3, 86), (4, 87), (5, 88), (6, 89), (7, 90), (8, 91), (9, 92), (10, 93), (11, 94), (12, 95), (13, 96), (14, 97), (15, 98), (16, 99), (17, 100), (18, 101), (19, 102), (20, 103), (21, 104), (22, 105), (23, 106), (24, 107), (25, 108), (26, 109), (27, 110), (28, 111), (29, 112), (30, 113), (31, 114), (32, 115), (33, 116), (34, 117), (35, 118), (36, 119), (37, 120)] [.val (.bool true), .val (.bool false), .val (.bool false), .val (.pointer (some ⟨t, 0, none⟩)), .val (.int .i64 (((layR (rmF most) E).length + 1 : Nat) : Int)), .val (.pointer (some ⟨r, 0, none⟩)), .val (.pointer (some ⟨r, 0, none⟩)), .val (.pointer (some ⟨r, 0, none⟩)), .val (.slice ra (layR (rmF most) E).length rc), .val (.int .i64 (((layR (rmF most) E).length : Nat) : Int)), .val (.int .i64 (((layR (rmF most) E).length + 1 : Nat) : Int)), .val (.bool false), .val (.bool false), .val (.bool false), .val (.pointer (some ⟨g4, 49, none⟩)), .val (.int .i64 fr), .val (.int .i64 fr), .val (.bool false), .val (.bool false), .val (.bool false), .val (.pointer (some ⟨g4, 17, none⟩)), .val (.agg (idA M.a)), .val (.pointer (some ⟨g2, 19, none⟩)), .val (.agg (idA M.a)), .val (.bool false), .val (.bool false), .val (.bool false), .val (.pointer (some ⟨g4, 33, none⟩)), .val (.agg (idA M.b)), .val (.pointer (some ⟨g2, 35, none⟩)), .val (.agg (idA M.b)), .val (.bool false), .val (.bool false), .val (.bool false), .val (.bool false), .val (.pointer (some ⟨g3, 1, none⟩)), .val (.bool true), .val (.bool false)] follows (by kernel_rfl) rfl ?hAx5 (opsA_cons ?o0x5 (opsA_cons ?o1x5 (opsA_cons ?o2x5 (opsA_cons ?o3x5 (opsA_cons ?o4x5 (opsA_cons ?o5x5 (opsA_cons ?o6x5 (opsA_cons ?o7x5 (opsA_cons ?o8x5 (opsA_cons ?o9x5 (opsA_cons ?o10x5 (opsA_cons ?o11x5 (opsA_cons ?o12x5 (opsA_cons ?o13x5 (opsA_cons ?o14x5 (opsA_cons ?o15x5 (opsA_cons ?o16x5 (opsA_cons ?o17x5 (opsA_cons ?o18x5 (opsA_cons ?o19x5 (opsA_cons ?o20x5 (opsA_cons ?o21x5 (opsA_cons ?o22x5 (opsA_cons ?o23x5 (opsA_cons ?o24x5 (opsA_cons ?o25x5 (opsA_cons ?o26x5 (opsA_cons ?o27x5 (opsA_cons ?o28x5 (opsA_cons ?o29x5 (opsA_cons ?o30x5 (opsA_cons ?o31x5 (opsA_cons ?o32x5 (opsA_cons ?o33x5 (opsA_cons ?o34x5 (opsA_cons ?o35x5 (opsA_cons ?o36x5 (opsA_cons ?o37x5 opsA_nil)))))))))))))))))))))))))))))))))))))) ?restx5
  case hAx5 =>
    intro ptrs
    simp only [full, foldSlots, filledE, postE, List.foldl_cons, List.foldl_nil, List.getD_cons_zero, List.getD_cons_succ, fill_val, List.set_cons_zero, List.set_cons_succ]
    exact rfl
  case o0x5 => exact fun _ _ _ _ => opE_move (v := .bool true) _ rfl rfl rfl
  case o1x5 => exact fun _ _ _ _ => opE_value (v := .bool false) rfl (run_nt _ _ rfl true rfl)
  case o2x5 => exact fun _ _ _ _ => opE_move (v := .bool false) _ rfl rfl rfl
  case o3x5 => exact fun _ _ _ _ => opE_move (v := .pointer (some ⟨t, 0, none⟩)) _ rfl rfl rfl
  case o4x5 =>
    intro ptrs w' hw hE
    exact opE_call (.val (.int .i64 (((layR (rmF most) E).length + 1 : Nat) : Int))) rfl _ 20 Try.call20 rfl rfl _ rfl [.pointer (some ⟨t, 0, none⟩)] rfl ((Calls.valV (len_any _ t b (rmF most) (addL (rmF most) (layR (rmF most) E) (xT fr M (-1))) (hw.has kt) (HTt.gro ((Gro.refl _).drew.trans hw))) (by rw [add_len hc])).mono fun e w' ⟨he, hg⟩ => ⟨_, he, hg, rfl⟩)
  case o5x5 => exact fun _ _ _ _ => opE_move (v := .pointer (some ⟨r, 0, none⟩)) _ rfl rfl rfl
  case o6x5 => exact fun _ _ _ _ => opE_value (v := .pointer (some ⟨r, 0, none⟩)) rfl (run_nc _ rfl _ rfl)
  case o7x5 => exact fun _ _ _ _ => opE_value (v := .pointer (some ⟨r, 0, none⟩)) rfl (run_fld 53 _ 0 rfl r 0 rfl 0 (by kernel_rfl))
  case o8x5 => exact fun _ _ hw _ => opE_value (v := .slice ra (layR (rmF most) E).length rc) rfl (ldRl _ rfl r rfl (hw.has kr))
  case o9x5 => exact fun _ _ _ _ => opE_value (v := .int .i64 (((layR (rmF most) E).length : Nat) : Int)) rfl (run_len Try.underlying22 _ rfl _ _ _ rfl _)
  case o10x5 => exact fun _ _ _ _ => opE_value (v := .int .i64 (((layR (rmF most) E).length + 1 : Nat) : Int)) rfl (run_addI 3 _ _ _ rfl (((layR (rmF most) E).length : Nat) : Int) 1 (((layR (rmF most) E).length + 1 : Nat) : Int) rfl rfl (by omega) (by omega) (by omega) _)
  case o11x5 => exact fun _ _ _ _ => opE_value (v := .bool false) rfl (run_neq_k 3 .i64 _ _ _ rfl Try.underlying3 (((layR (rmF most) E).length + 1 : Nat) : Int) (((layR (rmF most) E).length + 1 : Nat) : Int) rfl rfl false (decide_eq_true rfl) _)
  case o12x5 => exact fun _ _ _ _ => opE_pick (v := .bool false) _ _ _ rfl rfl false rfl rfl
  case o13x5 => exact fun _ _ _ _ => opE_move (v := .bool false) _ rfl rfl rfl
  case o14x5 => exact fun _ _ _ _ => opE_value (v := .pointer (some ⟨g4, 49, none⟩)) rfl (run_fld 73 _ 3 rfl g4 0 rfl 49 (by kernel_rfl))
  case o15x5 => exact fun _ _ hw _ => opE_value (v := .int .i64 fr) rfl (ldEna (x := (xT fr M (-1))) _ rfl g4 rfl (hw.has kg4))
  case o16x5 => exact fun _ _ _ _ => opE_move (v := .int .i64 fr) _ rfl rfl rfl
  case o17x5 => exact fun _ _ _ _ => opE_value (v := .bool false) rfl (run_neq_k 3 .i64 _ _ _ rfl Try.underlying3 fr fr rfl rfl false (decide_eq_true rfl) _)
  case o18x5 => exact fun _ _ _ _ => opE_pick (v := .bool false) _ _ _ rfl rfl false rfl rfl
  case o19x5 => exact fun _ _ _ _ => opE_move (v := .bool false) _ rfl rfl rfl
  case o20x5 => exact fun _ _ _ _ => opE_value (v := .pointer (some ⟨g4, 17, none⟩)) rfl (run_fld 73 _ 1 rfl g4 0 rfl 17 (by kernel_rfl))
  case o21x5 => exact fun _ _ hw _ => opE_value (v := .agg (idA M.a)) rfl (ldEa (x := (xT fr M (-1))) _ rfl g4 rfl (hw.has kg4))
  case o22x5 => exact fun _ _ _ _ => opE_value (v := .pointer (some ⟨g2, 19, none⟩)) rfl (run_fld 64 _ 3 rfl g2 0 rfl 19 (by kernel_rfl))
  case o23x5 => exact fun _ _ hw _ => opE_value (v := .agg (idA M.a)) rfl (ldF_a _ rfl g2 rfl (hw.has kg2))
  case o24x5 => exact fun _ _ _ _ => opE_value (v := .bool false) rfl (run_neI _ _ _ rfl _ _ rfl rfl hM.a hM.a false (decide_eq_true rfl))
  case o25x5 => exact fun _ _ _ _ => opE_pick (v := .bool false) _ _ _ rfl rfl false rfl rfl
  case o26x5 => exact fun _ _ _ _ => opE_move (v := .bool false) _ rfl rfl rfl
  case o27x5 => exact fun _ _ _ _ => opE_value (v := .pointer (some ⟨g4, 33, none⟩)) rfl (run_fld 73 _ 2 rfl g4 0 rfl 33 (by kernel_rfl))
  case o28x5 => exact fun _ _ hw _ => opE_value (v := .agg (idA M.b)) rfl (ldEb (x := (xT fr M (-1))) _ rfl g4 rfl (hw.has kg4))
  case o29x5 => exact fun _ _ _ _ => opE_value (v := .pointer (some ⟨g2, 35, none⟩)) rfl (run_fld 64 _ 4 rfl g2 0 rfl 35 (by kernel_rfl))
  case o30x5 => exact fun _ _ hw _ => opE_value (v := .agg (idA M.b)) rfl (ldF_b _ rfl g2 rfl (hw.has kg2))
  case o31x5 => exact fun _ _ _ _ => opE_value (v := .bool false) rfl (run_neI _ _ _ rfl _ _ rfl rfl hM.b hM.b false (decide_eq_true rfl))
  case o32x5 => exact fun _ _ _ _ => opE_pick (v := .bool false) _ _ _ rfl rfl false rfl rfl
  case o33x5 => exact fun _ _ _ _ => opE_move (v := .bool false) _ rfl rfl rfl
  case o34x5 => exact fun _ _ _ _ => opE_move (v := .bool false) _ rfl rfl rfl
  case o35x5 => exact fun _ _ _ _ => opE_value (v := .pointer (some ⟨g3, 1, none⟩)) rfl (run_fld 41 _ 1 rfl g3 0 rfl 1 (by kernel_rfl))
  case o36x5 => exact fun _ _ hw _ => opE_value (v := .bool true) rfl (ldD_m _ rfl g3 rfl (hw.has kg3))
  case o37x5 => exact fun _ _ _ _ => opE_value (v := .bool false) rfl (run_eqB 4 _ _ _ rfl false true rfl rfl Try.underlying4 false (by decide) _)
  intro ptrs w12 GD hxE
  simp only [List.drop_succ_cons, List.drop_zero]
  replace kg1 := GD.has kg1
  replace kg2 := GD.has kg2
  replace kt := GD.has kt
  replace kr := GD.has kr
  replace kg3 := GD.has kg3
  replace kg4 := GD.has kg4
  replace HB := HB.gro ((Gro.refl _).drew.trans GD)
  replace HTt := HTt.gro ((Gro.refl _).drew.trans GD)
  replace HL := HL.gro ((Gro.refl _).drew.trans GD)
  replace GG := GG.drew.trans GD
  clear GD
  refine s_val 121 rfl rfl (.bool false) (rfl) ?_
  refine nr ?_; intro U h; simp only [z0, z1] at h; subst h
  refine wpList_nil ?_
  refine then_n ?_
  refine wp_cond_false rfl ?_
  refine wp_skip ?_
  refine then_n ?_
  refine wp_seq ?_
  refine wp_region_exA (A := ?Ax6) 27 [(0, 122), (1, 123), (2, 124), (3, 125), (4, 126), (5, 127), (6, 128), (7, 129), (8, 130), (9, 131), (10, 132), (11, 133), (12, 134), (13, 135), (14, 136), (15, 137), (16, 138), (17, 139), (18, 140), (19, 141), (20, 142), (21, 143), (22, 144), (23, 145), (24, 146), (25, 147), (26, 148)] [.val (.bool false), .val (.bool false), .val undef, .val undef, .val undef, .val undef, .val undef, .val undef, .val undef, .val undef, .val (.bool false), .val (.bool false), .val (.pointer (some ⟨g3, 1, none⟩)), .val (.bool true), .val (.bool true), .val (.pointer (some ⟨g4, 50, none⟩)), .val (.int .i64 (-1)), .val (.bool true), .val (.bool true), .val (.bool true), .val (.pointer (some ⟨g2, 35, none⟩)), .val (.agg (idA M.b)), .val (.pointer (some ⟨g1, 2, none⟩)), .val (.pointer (some ⟨g1, 3, none⟩)), .val (.agg (idA M.b)), .val (.bool true), .val (.bool true)] follows (by kernel_rfl) rfl ?hAx6 (opsA_cons ?o0x6 (opsA_cons ?o1x6 (opsA_cons ?o2x6 (opsA_cons ?o3x6 (opsA_cons ?o4x6 (opsA_cons ?o5x6 (opsA_cons ?o6x6 (opsA_cons ?o7x6 (opsA_cons ?o8x6 (opsA_cons ?o9x6 (opsA_cons ?o10x6 (opsA_cons ?o11x6 (opsA_cons ?o12x6 (opsA_cons ?o13x6 (opsA_cons ?o14x6 (opsA_cons ?o15x6 (opsA_cons ?o16x6 (opsA_cons ?o17x6 (opsA_cons ?o18x6 (opsA_cons ?o19x6 (opsA_cons ?o20x6 (opsA_cons ?o21x6 (opsA_cons ?o22x6 (opsA_cons ?o23x6 (opsA_cons ?o24x6 (opsA_cons ?o25x6 (opsA_cons ?o26x6 opsA_nil))))))))))))))))))))))))))) ?restx6
  case hAx6 =>
    intro ptrs
    simp only [full, foldSlots, filledE, postE, List.foldl_cons, List.foldl_nil, List.getD_cons_zero, List.getD_cons_succ, fill_val, List.set_cons_zero, List.set_cons_succ]
    exact rfl
  case o0x6 => exact fun _ _ _ _ => opE_move (v := .bool false) _ rfl rfl rfl
  case o1x6 => exact fun _ _ _ _ => opE_move (v := .bool false) _ rfl rfl rfl
  case o2x6 => exact fun _ _ _ _ => opE_skip rfl
  case o3x6 => exact fun _ _ _ _ => opE_skip rfl
  case o4x6 => exact fun _ _ _ _ => opE_skip rfl
  case o5x6 => exact fun _ _ _ _ => opE_skip rfl
  case o6x6 => exact fun _ _ _ _ => opE_skip rfl
  case o7x6 => exact fun _ _ _ _ => opE_skip rfl
  case o8x6 => exact fun _ _ _ _ => opE_skip rfl
  case o9x6 => exact fun _ _ _ _ => opE_skip rfl
  case o10x6 => exact fun _ _ _ _ => opE_pick (v := .bool false) _ _ _ rfl rfl false rfl rfl
  case o11x6 => exact fun _ _ _ _ => opE_move (v := .bool false) _ rfl rfl rfl
  case o12x6 => exact fun _ _ _ _ => opE_value (v := .pointer (some ⟨g3, 1, none⟩)) rfl (run_fld 41 _ 1 rfl g3 0 rfl 1 (by kernel_rfl))
  case o13x6 => exact fun _ _ hw _ => opE_value (v := .bool true) rfl (ldD_m _ rfl g3 rfl (hw.has kg3))
  case o14x6 => exact fun _ _ _ _ => opE_move (v := .bool true) _ rfl rfl rfl
  case o15x6 => exact fun _ _ _ _ => opE_value (v := .pointer (some ⟨g4, 50, none⟩)) rfl (run_fld 73 _ 4 rfl g4 0 rfl 50 (by kernel_rfl))
  case o16x6 => exact fun _ _ hw _ => opE_value (v := .int .i64 (-1)) rfl (ldEnb (x := (xT fr M (-1))) _ rfl g4 rfl (hw.has kg4))
  case o17x6 => exact fun _ _ _ _ => opE_value (v := .bool true) rfl (run_eq_k 3 .i64 _ _ _ rfl Try.underlying3 (-1) (-1) rfl rfl true (by decide) _)
  case o18x6 => exact fun _ _ _ _ => opE_pick (v := .bool true) _ _ _ rfl rfl true rfl rfl
  case o19x6 => exact fun _ _ _ _ => opE_move (v := .bool true) _ rfl rfl rfl
  case o20x6 => exact fun _ _ _ _ => opE_value (v := .pointer (some ⟨g2, 35, none⟩)) rfl (run_fld 64 _ 4 rfl g2 0 rfl 35 (by kernel_rfl))
  case o21x6 => exact fun _ _ hw _ => opE_value (v := .agg (idA M.b)) rfl (ldF_b _ rfl g2 rfl (hw.has kg2))
  case o22x6 => exact fun _ _ _ _ => opE_value (v := .pointer (some ⟨g1, 2, none⟩)) rfl (run_fld 29 _ 2 rfl g1 0 rfl 2 (by kernel_rfl))
  case o23x6 => exact fun _ _ _ _ => opE_value (v := .pointer (some ⟨g1, 3, none⟩)) rfl (run_fld 26 _ 1 rfl g1 2 rfl 3 (by kernel_rfl))
  case o24x6 => exact fun _ _ hw _ => opE_value (v := .agg (idA M.b)) rfl (ldC_i _ rfl g1 rfl (hw.has kg1))
  case o25x6 => exact fun _ _ _ _ => opE_value (v := .bool true) rfl (run_eqI _ _ _ rfl _ _ rfl rfl hM.b hM.b true (decide_eq_true rfl))
  case o26x6 => exact fun _ _ _ _ => opE_pick (v := .bool true) _ _ _ rfl rfl true rfl rfl
  intro ptrs w13 GD hxE
  simp only [List.drop_succ_cons, List.drop_zero]
  replace kg1 := GD.has kg1
  replace kg2 := GD.has kg2
  replace kt := GD.has kt
  replace kr := GD.has kr
  replace kg3 := GD.has kg3
  replace kg4 := GD.has kg4
  replace HB := HB.gro ((Gro.refl _).drew.trans GD)
  replace HTt := HTt.gro ((Gro.refl _).drew.trans GD)
  replace HL := HL.gro ((Gro.refl _).drew.trans GD)
  replace GG := GG.drew.trans GD
  clear GD
  refine s_val 149 rfl rfl (.bool true) (rfl) ?_
  refine nr ?_; intro U h; simp only [z0, z1] at h; subst h
  refine s_val 6 rfl rfl (.bool true) (rfl) ?_
  refine nr ?_; intro U h; simp only [z0, z1] at h; subst h
  refine wpList_nil ?_
  refine then_n ?_
  refine wp_ret ?_
  refine bodyPost_ret (results_tmp Try.results5 _ _ _) rfl ?_
  exact ⟨rfl, GG⟩
theorem setupAdds_any (w : World) (ae : Option Addr) (ce : Nat) (E : List En) (HE : RE w ae ce E) (hEl : E.length ≤ maxLen) (most N : Int) (i : Nat) (hi : i < top) (ap : Option Addr) (cq : Nat) (o : List Bool) (HB : RK kB w ap cq o) (fr : Int) (hfr : I64 fr) (M0 M : Msg) (hMe : M = { M0 with l := M.l }) (hMl : M.l = M0.l.take (min M0.l.length 200)) (hM : M.ok) (ao : Option Addr) (cap : Nat) (g0 : Fr) (d : FD) (HI0 : RC w ao cap M0.l) (HI : RC w ao cap M.l) (HF : FrW w (frY M ao cap g0) d) (hd : d.tr = M.l) (HS : FrS (frY M ao cap g0)) : Calls Try.prog 5 #[.agg (csA ae E.length ce most N i ap o.length cq), .int .i64 fr, .agg (frA (frY M0 ao cap g0))] w (fun e w' => e = .returned (.bool true) ∧ Gro w w') := by
  rcases tk_cases (rmF most) (layR (rmF most) E) N i fr M o with ⟨h1, h2⟩ | ⟨ff, h1, h2⟩ | ⟨nx, hn, hc, h1, h2⟩ | ⟨hb, hc, h1, h2⟩
  · exact adds_A w ae ce E HE hEl most N i hi ap cq o HB fr hfr M0 M hMe hMl hM ao cap g0 d HI0 HI HF hd HS h1 h2
  · exact adds_B w ae ce E HE hEl most N i hi ap cq o HB fr hfr M0 M hMe hMl hM ao cap g0 d HI0 HI HF hd HS ff h1 h2
  · exact adds_C w ae ce E HE hEl most N i hi ap cq o HB fr hfr M0 M hMe hMl hM ao cap g0 d HI0 HI HF hd HS nx (hn ▸ nxt_i64 HI.all) hc h1 h2
  · subst hb
    exact adds_D w ae ce E HE hEl most N ap cq o HB fr hfr M0 M hMe hMl hM ao cap g0 d HI0 HI HF hd HS m1i hc h1 h2
end Go.Proofs.Ytkjnefgenffhcaa
